/-
  topo: which configurations are valid.
-/
import Derived.Test.YtegjhmhhbmnljaaDoorP2
namespace Go.Proofs.YtegjhmhhbmnljaaDoor
open Go.Lift

/-- Lists of which nobody asks for more room than there is. -/
def Lens (C : GConfig) : Prop := C.Zones.length ≤ 1000 ∧ C.Cells.length ≤ 1000 ∧ C.Tenants.length ≤ 1000 ∧ C.Versions.length ≤ 1000 ∧ C.Replicas.length ≤ 1000 ∧ C.Observers.length ≤ 1000
theorem TopoOk.lens {C : GConfig} (h : TopoOk C) : Lens C := by
  have := h.Z; have := h.N; have := h.V; have := h.P; have := h.O; have := h.T
  unfold Lens; omega

/-- A configuration, or the zero value as it is written. -/
def zeroV : V := .agg [.int .i64 0, .sl 0 1 [], .sl 0 1 [], .sl 0 1 [], .sl 0 1 [], .sl 0 1 [], .sl 0 1 [], .int .i64 0, .int .i64 0, .int .i64 0]
def cfgZ : Option GConfig → V
  | some C => vConfig C
  | none => zeroV
def limitsZ : Option GConfig → Bool
  | some C => limitsB C
  | none => false
theorem cfgZ_inj {i j : Option GConfig} (h : [cfgZ i] = [cfgZ j]) : i = j := by
  cases i with
  | none => cases j with
    | none => rfl
    | some D => simp [cfgZ, zeroV, vConfig, GConfig.cells, -vConfig_fold] at h
  | some C => cases j with
    | none => simp [cfgZ, zeroV, vConfig, GConfig.cells, -vConfig_fold] at h
    | some D => simp [cfgZ] at h; rw [h]
noncomputable def limitsSp := fam (fun i : Option GConfig => [cfgZ i]) (fun _ : Option GConfig => []) (fun _ : Option GConfig => True) (fun i : Option GConfig => ⟨.bool (limitsZ i), []⟩)
@[simp] theorem limitsSp_eq {o : Option GConfig}  : limitsSp ([cfgZ o]) ([]) = some (⟨.bool (limitsZ o), []⟩) :=
  fam_eq (A := fun i : Option GConfig => [cfgZ i]) (O := fun _ : Option GConfig => []) (res := fun i : Option GConfig => ⟨.bool (limitsZ i), []⟩) (by intro i j h _; rw [cfgZ_inj h]) o trivial

@[simp] theorem limitsSp_some {C : GConfig} : limitsSp [vConfig C] [] = some ⟨.bool (limitsB C), []⟩ := limitsSp_eq (o := some C)
@[simp] theorem limitsSp_none : limitsSp [.agg [.int .i64 0, .sl 0 1 [], .sl 0 1 [], .sl 0 1 [], .sl 0 1 [], .sl 0 1 [], .sl 0 1 [], .int .i64 0, .int .i64 0, .int .i64 0]] [] = some ⟨.bool false, []⟩ := limitsSp_eq (o := none)
theorem in_zero : inB 0 1 4 = false := rfl
noncomputable def zonesFitSp := fam (fun i : GConfig => [vConfig i]) (fun _ : GConfig => []) (fun i : GConfig => (Lens i)) (fun i : GConfig => ⟨.bool (zonesFitB i), []⟩)
@[simp] theorem zonesFitSp_eq {C : GConfig} (h1 : Lens C) : zonesFitSp ([vConfig C]) ([]) = some (⟨.bool (zonesFitB C), []⟩) :=
  fam_eq (A := fun i : GConfig => [vConfig i]) (O := fun _ : GConfig => []) (res := fun i : GConfig => ⟨.bool (zonesFitB i), []⟩) (by intro a b h h' <;> simp at h h' <;> simp_all) C h1

def zfSt (C : GConfig) (i : Nat) : St := mkSt [(1, .ptr 0 0 0), (6, .sl 2 1 (GZone.row C.Zones)), (7, .int .i64 C.Zones.length), (8, .int .i64 i)] [(0, cfgO C)] 1
noncomputable def cellsFitSp := fam (fun i : GConfig => [vConfig i]) (fun _ : GConfig => []) (fun i : GConfig => (Lens i)) (fun i : GConfig => ⟨.bool (cellsFitB i), []⟩)
@[simp] theorem cellsFitSp_eq {C : GConfig} (h1 : Lens C) : cellsFitSp ([vConfig C]) ([]) = some (⟨.bool (cellsFitB C), []⟩) :=
  fam_eq (A := fun i : GConfig => [vConfig i]) (O := fun _ : GConfig => []) (res := fun i : GConfig => ⟨.bool (cellsFitB i), []⟩) (by intro a b h h' <;> simp at h h' <;> simp_all) C h1

def cfSt4 (C : GConfig) (i : Nat) : St := mkSt [(1, .ptr 0 0 0), (6, .sl 2 2 (GCell.row C.Cells)), (7, .int .i64 C.Cells.length), (8, .int .i64 i)] [(0, cfgO C)] 1
noncomputable def standSp := fam (fun i : GConfig × (List Int) => [vConfig i.1, .sl 2 1 (intRow i.2)]) (fun _ : GConfig × (List Int) => []) (fun i : GConfig × (List Int) => (Lens i.1) ∧ (i.2.length ≤ 1000)) (fun i : GConfig × (List Int) => ⟨.bool (standB i.1 i.2), []⟩)
@[simp] theorem standSp_eq {C : GConfig} {l : List Int} (h1 : Lens C) (h2 : l.length ≤ 1000) : standSp ([vConfig C, .sl 2 1 (intRow l)]) ([]) = some (⟨.bool (standB C l), []⟩) :=
  fam_eq (A := fun i : GConfig × (List Int) => [vConfig i.1, .sl 2 1 (intRow i.2)]) (O := fun _ : GConfig × (List Int) => []) (res := fun i : GConfig × (List Int) => ⟨.bool (standB i.1 i.2), []⟩) (by rintro ⟨a0, a1⟩ ⟨b0, b1⟩ h h' <;> simp at h h' <;> simp_all) (C, l) ⟨h1, h2⟩

def siZSt (C : GConfig) (l : List Int) (i : Nat) : St := mkSt [(2, .ptr 0 0 0), (7, .sl 2 1 (intRow l)), (8, .int .i64 l.length), (9, .int .i64 i)] [(0, cfgO C)] 1
theorem inB_sub {n m : Int} : inB n 0 (m - 1) = exB n m := by unfold inB exB; congr 1; apply propext; omega
def zrSt4 (C : GConfig) (l : List Int) (i : Nat) : St := mkSt [(1, .sl 2 1 (intRow l)), (2, .ptr 0 0 0), (5, .int .i64 i)] [(0, cfgO C)] 1
noncomputable def versionsSp := fam (fun i : List GVersion => [V.sl 2 2 (GVersion.row i)]) (fun _ : List GVersion => []) (fun i : List GVersion => (i.length ≤ 1000)) (fun i : List GVersion => ⟨.bool (versionsFitB i), []⟩)
@[simp] theorem versionsSp_eq {l : List GVersion} (h1 : l.length ≤ 1000) : versionsSp ([V.sl 2 2 (GVersion.row l)]) ([]) = some (⟨.bool (versionsFitB l), []⟩) :=
  fam_eq (A := fun i : List GVersion => [V.sl 2 2 (GVersion.row i)]) (O := fun _ : List GVersion => []) (res := fun i : List GVersion => ⟨.bool (versionsFitB i), []⟩) (by intro a b h h' <;> simp at h h' <;> simp_all) l h1

def vfSt (l : List GVersion) (i : Nat) : St := mkSt [(5, .sl 2 2 (GVersion.row l)), (6, .int .i64 l.length), (7, .int .i64 i)] [] 0
noncomputable def boundsSp := fam (fun i : GConfig => [vConfig i]) (fun _ : GConfig => []) (fun _ : GConfig => True) (fun i : GConfig => ⟨.bool (boundsB i), []⟩)
@[simp] theorem boundsSp_eq {C : GConfig}  : boundsSp ([vConfig C]) ([]) = some (⟨.bool (boundsB C), []⟩) :=
  fam_eq (A := fun i : GConfig => [vConfig i]) (O := fun _ : GConfig => []) (res := fun i : GConfig => ⟨.bool (boundsB i), []⟩) (by intro a b h h' <;> simp at h h' <;> simp_all) C trivial

noncomputable def CP5 := mkC []
theorem CP5_ok : SpecsOk Tryd.prog CP5 := mkC_ok all_nil

noncomputable def validZ : Option GConfig → Int
  | some C => validT C
  | none => 2
def lensZ : Option GConfig → Prop
  | some C => Lens C
  | none => True
noncomputable def validTSp := fam (fun i : Option GConfig => [cfgZ i]) (fun _ : Option GConfig => []) (fun i : Option GConfig => (lensZ i)) (fun i : Option GConfig => ⟨.int .i64 (validZ i), []⟩)
@[simp] theorem validTSp_eq {o : Option GConfig} (h1 : lensZ o) : validTSp ([cfgZ o]) ([]) = some (⟨.int .i64 (validZ o), []⟩) :=
  fam_eq (A := fun i : Option GConfig => [cfgZ i]) (O := fun _ : Option GConfig => []) (res := fun i : Option GConfig => ⟨.int .i64 (validZ i), []⟩) (by intro i j h _; rw [cfgZ_inj h]) o h1

@[simp] theorem validTSp_some {C : GConfig} (h : Lens C) : validTSp [vConfig C] [] = some ⟨.int .i64 (validT C), []⟩ := validTSp_eq (o := some C) h
@[simp] theorem validTSp_none : validTSp [.agg [.int .i64 0, .sl 0 1 [], .sl 0 1 [], .sl 0 1 [], .sl 0 1 [], .sl 0 1 [], .sl 0 1 [], .int .i64 0, .int .i64 0, .int .i64 0]] [] = some ⟨.int .i64 2, []⟩ := validTSp_eq (o := none) trivial
theorem validT_lim {C : GConfig} (h : limitsB C = false) : validT C = 2 := by rw [validT_eq]; simp [h]
theorem validT_odd {C : GConfig} (h : limitsB C = true) (h1 : C.Replicas.length % 2 = 0) : validT C = 1 := by rw [validT_eq]; simp [h, h1]

end Go.Proofs.YtegjhmhhbmnljaaDoor
