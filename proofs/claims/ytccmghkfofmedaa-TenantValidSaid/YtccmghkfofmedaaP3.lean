/-
  topo: which configurations are valid.
-/
import Derived.Test.YtccmghkfofmedaaP2
namespace Go.Proofs.Ytccmghkfofmedaa
open Go.Lift

/-- Lists of which nobody asks for more room than there is. -/
def Lens (C : GConfig) : Prop := C.Zones.length ≤ 1000 ∧ C.Cells.length ≤ 1000 ∧ C.Tenants.length ≤ 1000 ∧ C.Versions.length ≤ 1000 ∧ C.Replicas.length ≤ 1000 ∧ C.Observers.length ≤ 1000
theorem TopoOk.lens {C : GConfig} (h : TopoOk C) : Lens C := by
  have := h.Z; have := h.N; have := h.V; have := h.P; have := h.O; have := h.T
  unfold Lens; omega

/-- A configuration, or the zero value as it is written. -/
def zeroV : V := .agg [.int .i64 0, .sl 0 1 [], .sl 0 1 [], .sl 0 1 [], .sl 0 1 [], .sl 0 1 [], .sl 0 1 [], .int .i64 0, .int .i64 0, .int .i64 0]
def cfgZ : Option GConfig → V
  | some C => vConfig C
  | none => zeroV
def limitsZ : Option GConfig → Bool
  | some C => limitsB C
  | none => false
theorem cfgZ_inj {i j : Option GConfig} (h : [cfgZ i] = [cfgZ j]) : i = j := by
  cases i with
  | none => cases j with
    | none => rfl
    | some D => simp [cfgZ, zeroV, vConfig, GConfig.cells, -vConfig_fold] at h
  | some C => cases j with
    | none => simp [cfgZ, zeroV, vConfig, GConfig.cells, -vConfig_fold] at h
    | some D => simp [cfgZ] at h; rw [h]
noncomputable def limitsSp := fam (fun i : Option GConfig => [cfgZ i]) (fun _ : Option GConfig => []) (fun _ : Option GConfig => True) (fun i : Option GConfig => ⟨.bool (limitsZ i), []⟩)
@[simp] theorem limitsSp_eq {o : Option GConfig}  : limitsSp ([cfgZ o]) ([]) = some (⟨.bool (limitsZ o), []⟩) :=
  fam_eq (A := fun i : Option GConfig => [cfgZ i]) (O := fun _ : Option GConfig => []) (res := fun i : Option GConfig => ⟨.bool (limitsZ i), []⟩) (by intro i j h _; rw [cfgZ_inj h]) o trivial

@[simp] theorem limitsSp_some {C : GConfig} : limitsSp [vConfig C] [] = some ⟨.bool (limitsB C), []⟩ := limitsSp_eq (o := some C)
@[simp] theorem limitsSp_none : limitsSp [.agg [.int .i64 0, .sl 0 1 [], .sl 0 1 [], .sl 0 1 [], .sl 0 1 [], .sl 0 1 [], .sl 0 1 [], .int .i64 0, .int .i64 0, .int .i64 0]] [] = some ⟨.bool false, []⟩ := limitsSp_eq (o := none)
theorem in_zero : inB 0 1 4 = false := rfl
theorem withinLimits_spec : Lift.Spec Try.prog 53 limitsSp := by
  refine spec_fam (C := CP1) types_ok CP1_ok follows Try.func53 (by kernel_rfl) rfl (by kernel_rfl) rfl ?_
  rintro o _
  refine ⟨by simp, ?_⟩
  intro r hr
  rcases o with _ | C
  · simp [cfgZ, zeroV, in_zero]
    rw [hr]; refine ret_closed rfl ?_ rfl
    simp [limitsZ]
  have hr : r = ⟨.bool (limitsB C), []⟩ := hr
  show axwp _ _ _ _ _ (initSt [vConfig C] [])
  cases h1 : inB C.Regions 1 4
  · simp [GConfig.cells, h1]
    rw [hr]; refine ret_closed rfl ?_ rfl
    simp [limitsB, h1]
  cases h2 : inB C.Zones.length 1 8
  · simp [GConfig.cells, h1, h2]
    rw [hr]; refine ret_closed rfl ?_ rfl
    simp [limitsB, h1, h2]
  cases h3 : inB C.Cells.length 1 16
  · simp [GConfig.cells, h1, h2, h3]
    rw [hr]; refine ret_closed rfl ?_ rfl
    simp [limitsB, h1, h2, h3]
  cases h4 : inB C.Versions.length 1 30
  · simp [GConfig.cells, h1, h2, h3, h4]
    rw [hr]; refine ret_closed rfl ?_ rfl
    simp [limitsB, h1, h2, h3, h4]
  cases h5 : inB C.Replicas.length 1 5
  · simp [GConfig.cells, h1, h2, h3, h4, h5]
    rw [hr]; refine ret_closed rfl ?_ rfl
    simp [limitsB, h1, h2, h3, h4, h5]
  cases h6 : inB C.Observers.length 1 9
  · simp [GConfig.cells, h1, h2, h3, h4, h5, h6]
    rw [hr]; refine ret_closed rfl ?_ rfl
    simp [limitsB, h1, h2, h3, h4, h5, h6]
  simp [GConfig.cells, h1, h2, h3, h4, h5, h6]
  rw [hr]; refine ret_closed rfl ?_ rfl
  simp [limitsB, h1, h2, h3, h4, h5, h6]
theorem limits_spec : Lift.Spec Try.prog 60 limitsSp := by
  refine spec_fam (C := CP1) types_ok CP1_ok follows Try.func60 (by kernel_rfl) rfl (by kernel_rfl) rfl ?_
  rintro o _
  refine ⟨by simp, ?_⟩
  intro r hr
  rcases o with _ | C
  · simp [cfgZ, zeroV, in_zero]
    rw [hr]; refine ret_closed rfl ?_ rfl
    simp [limitsZ]
  have hr : r = ⟨.bool (limitsB C), []⟩ := hr
  show axwp _ _ _ _ _ (initSt [vConfig C] [])
  cases h1 : inB C.Regions 1 4
  · simp [GConfig.cells, h1]
    rw [hr]; refine ret_closed rfl ?_ rfl
    simp [limitsB, h1]
  cases h2 : inB C.Zones.length 1 8
  · simp [GConfig.cells, h1, h2]
    rw [hr]; refine ret_closed rfl ?_ rfl
    simp [limitsB, h1, h2]
  cases h3 : inB C.Cells.length 1 16
  · simp [GConfig.cells, h1, h2, h3]
    rw [hr]; refine ret_closed rfl ?_ rfl
    simp [limitsB, h1, h2, h3]
  cases h4 : inB C.Versions.length 1 30
  · simp [GConfig.cells, h1, h2, h3, h4]
    rw [hr]; refine ret_closed rfl ?_ rfl
    simp [limitsB, h1, h2, h3, h4]
  cases h5 : inB C.Replicas.length 1 5
  · simp [GConfig.cells, h1, h2, h3, h4, h5]
    rw [hr]; refine ret_closed rfl ?_ rfl
    simp [limitsB, h1, h2, h3, h4, h5]
  cases h6 : inB C.Observers.length 1 9
  · simp [GConfig.cells, h1, h2, h3, h4, h5, h6]
    rw [hr]; refine ret_closed rfl ?_ rfl
    simp [limitsB, h1, h2, h3, h4, h5, h6]
  simp [GConfig.cells, h1, h2, h3, h4, h5, h6]
  rw [hr]; refine ret_closed rfl ?_ rfl
  simp [limitsB, h1, h2, h3, h4, h5, h6]

noncomputable def zonesFitSp := fam (fun i : GConfig => [vConfig i]) (fun _ : GConfig => []) (fun i : GConfig => (Lens i)) (fun i : GConfig => ⟨.bool (zonesFitB i), []⟩)
@[simp] theorem zonesFitSp_eq {C : GConfig} (h1 : Lens C) : zonesFitSp ([vConfig C]) ([]) = some (⟨.bool (zonesFitB C), []⟩) :=
  fam_eq (A := fun i : GConfig => [vConfig i]) (O := fun _ : GConfig => []) (res := fun i : GConfig => ⟨.bool (zonesFitB i), []⟩) (by intro a b h h' <;> simp at h h' <;> simp_all) C h1

def zfSt (C : GConfig) (i : Nat) : St := mkSt [(1, .ptr 0 0 0), (6, .sl 2 1 (GZone.row C.Zones)), (7, .int .i64 C.Zones.length), (8, .int .i64 i)] [(0, cfgO C)] 1
theorem zonesFit_spec : Lift.Spec Try.prog 54 zonesFitSp := by
  refine spec_fam (C := CP1) types_ok CP1_ok follows Try.func54 (by kernel_rfl) rfl (by kernel_rfl) rfl ?_
  rintro C h
  try simp only at h
  refine ⟨by simp, ?_⟩
  intro r hr
  have hL : C.Zones.length ≤ 1000 := h.1
  simp [GConfig.cells]
  refine axwp_loop (zfSt C) (fun i => i ≤ C.Zones.length ∧ AllTo (fun z => exB z.Region C.Regions) C.Zones i) (fun i => C.Zones.length - i) 0 ?_ ⟨Nat.zero_le _, AllTo.zero _ _⟩ ?_
  · refine weak_mk id ?_ ?_ ?_ ?_ <;> simp [cfgO, GConfig.cells]
  · rintro i ⟨hi, ha⟩
    by_cases hik : i < C.Zones.length
    · obtain ⟨x, hx, hx', _⟩ := get_of_lt hik
      have w4 : IntKind.i64.wrap ((i : Int) + 1) = (i : Int) + 1 := wrap_i64_in (by omega) (by omega)
      cases hz : exB x.Region C.Regions with
      | true =>
        simp [zfSt, cfgO, GConfig.cells, hik, hx', GZone.cells, hz]
        refine Again.mk (i + 1) ⟨hik, ha.succ hx hz⟩ (by omega) ?_
        refine weak_mk id ?_ ?_ ?_ ?_ <;> simp [cfgO, GConfig.cells, w4]
      | false =>
        simp [zfSt, cfgO, GConfig.cells, hik, hx', GZone.cells, hz]
        rw [hr]; refine ret_closed rfl ?_ rfl
        have : zonesFitB C = false := all_at_false hx hz
        simp [this]
    · have e : i = C.Zones.length := by omega
      subst e
      simp [zfSt, cfgO, GConfig.cells]
      rw [hr]; refine ret_closed rfl ?_ rfl
      replace ha := ha.whole
      have : zonesFitB C = true := ha
      simp [this]

noncomputable def cellsFitSp := fam (fun i : GConfig => [vConfig i]) (fun _ : GConfig => []) (fun i : GConfig => (Lens i)) (fun i : GConfig => ⟨.bool (cellsFitB i), []⟩)
@[simp] theorem cellsFitSp_eq {C : GConfig} (h1 : Lens C) : cellsFitSp ([vConfig C]) ([]) = some (⟨.bool (cellsFitB C), []⟩) :=
  fam_eq (A := fun i : GConfig => [vConfig i]) (O := fun _ : GConfig => []) (res := fun i : GConfig => ⟨.bool (cellsFitB i), []⟩) (by intro a b h h' <;> simp at h h' <;> simp_all) C h1

def cfSt4 (C : GConfig) (i : Nat) : St := mkSt [(1, .ptr 0 0 0), (6, .sl 2 2 (GCell.row C.Cells)), (7, .int .i64 C.Cells.length), (8, .int .i64 i)] [(0, cfgO C)] 1
theorem cellsFit_spec : Lift.Spec Try.prog 55 cellsFitSp := by
  refine spec_fam (C := CP1) types_ok CP1_ok follows Try.func55 (by kernel_rfl) rfl (by kernel_rfl) rfl ?_
  rintro C h
  try simp only at h
  refine ⟨by simp, ?_⟩
  intro r hr
  have hL : C.Cells.length ≤ 1000 := h.2.1
  simp [GConfig.cells]
  refine axwp_loop (cfSt4 C) (fun i => i ≤ C.Cells.length ∧ AllTo (fun c => exB c.Zone C.Zones.length && inB c.Capacity 1 4194304) C.Cells i) (fun i => C.Cells.length - i) 0 ?_ ⟨Nat.zero_le _, AllTo.zero _ _⟩ ?_
  · refine weak_mk id ?_ ?_ ?_ ?_ <;> simp [cfgO, GConfig.cells]
  · rintro i ⟨hi, ha⟩
    by_cases hik : i < C.Cells.length
    · obtain ⟨x, hx, hx', _⟩ := get_of_lt hik
      have w4 : IntKind.i64.wrap ((i : Int) + 1) = (i : Int) + 1 := wrap_i64_in (by omega) (by omega)
      cases hz : exB x.Zone C.Zones.length with
      | true =>
        cases hc : inB x.Capacity 1 4194304 with
        | true =>
          simp [cfSt4, cfgO, GConfig.cells, hik, hx', GCell.cells, hz, hc]
          refine Again.mk (i + 1) ⟨hik, ha.succ hx (by simp [hz, hc])⟩ (by omega) ?_
          refine weak_mk id ?_ ?_ ?_ ?_ <;> simp [cfgO, GConfig.cells, w4]
        | false =>
          simp [cfSt4, cfgO, GConfig.cells, hik, hx', GCell.cells, hz, hc]
          rw [hr]; refine ret_closed rfl ?_ rfl
          have : cellsFitB C = false := all_at_false hx (by simp [hc])
          simp [this]
      | false =>
        simp [cfSt4, cfgO, GConfig.cells, hik, hx', GCell.cells, hz]
        rw [hr]; refine ret_closed rfl ?_ rfl
        have : cellsFitB C = false := all_at_false hx (by simp [hz])
        simp [this]
    · have e : i = C.Cells.length := by omega
      subst e
      simp [cfSt4, cfgO, GConfig.cells]
      rw [hr]; refine ret_closed rfl ?_ rfl
      replace ha := ha.whole
      have : cellsFitB C = true := ha
      simp [this]

noncomputable def standSp := fam (fun i : GConfig × (List Int) => [vConfig i.1, .sl 2 1 (intRow i.2)]) (fun _ : GConfig × (List Int) => []) (fun i : GConfig × (List Int) => (Lens i.1) ∧ (i.2.length ≤ 1000)) (fun i : GConfig × (List Int) => ⟨.bool (standB i.1 i.2), []⟩)
@[simp] theorem standSp_eq {C : GConfig} {l : List Int} (h1 : Lens C) (h2 : l.length ≤ 1000) : standSp ([vConfig C, .sl 2 1 (intRow l)]) ([]) = some (⟨.bool (standB C l), []⟩) :=
  fam_eq (A := fun i : GConfig × (List Int) => [vConfig i.1, .sl 2 1 (intRow i.2)]) (O := fun _ : GConfig × (List Int) => []) (res := fun i : GConfig × (List Int) => ⟨.bool (standB i.1 i.2), []⟩) (by rintro ⟨a0, a1⟩ ⟨b0, b1⟩ h h' <;> simp at h h' <;> simp_all) (C, l) ⟨h1, h2⟩

def siZSt (C : GConfig) (l : List Int) (i : Nat) : St := mkSt [(2, .ptr 0 0 0), (7, .sl 2 1 (intRow l)), (8, .int .i64 l.length), (9, .int .i64 i)] [(0, cfgO C)] 1
theorem stand_spec : Lift.Spec Try.prog 56 standSp := by
  refine spec_fam (C := CP1) types_ok CP1_ok follows Try.func56 (by kernel_rfl) rfl (by kernel_rfl) rfl ?_
  rintro ⟨C, l⟩ ⟨h, hL⟩
  try simp only at h hL
  refine ⟨by simp, ?_⟩
  intro r hr
  simp [GConfig.cells]
  refine axwp_loop (siZSt C l) (fun i => i ≤ l.length ∧ AllTo (fun z => exB z C.Zones.length) l i) (fun i => l.length - i) 0 ?_ ⟨Nat.zero_le _, AllTo.zero _ _⟩ ?_
  · refine weak_mk id ?_ ?_ ?_ ?_ <;> simp [cfgO, GConfig.cells]
  · rintro i ⟨hi, ha⟩
    by_cases hik : i < l.length
    · obtain ⟨x, hx, hx', _⟩ := get_of_lt hik
      have w4 : IntKind.i64.wrap ((i : Int) + 1) = (i : Int) + 1 := wrap_i64_in (by omega) (by omega)
      cases hz : exB x C.Zones.length with
      | true =>
        simp [siZSt, cfgO, GConfig.cells, hik, hx', hz]
        refine Again.mk (i + 1) ⟨hik, ha.succ hx hz⟩ (by omega) ?_
        refine weak_mk id ?_ ?_ ?_ ?_ <;> simp [cfgO, GConfig.cells, w4]
      | false =>
        simp [siZSt, cfgO, GConfig.cells, hik, hx', hz]
        rw [hr]; refine ret_closed rfl ?_ rfl
        have : standB C l = false := all_at_false hx hz
        simp [this]
    · have e : i = l.length := by omega
      subst e
      simp [siZSt, cfgO, GConfig.cells]
      rw [hr]; refine ret_closed rfl ?_ rfl
      replace ha := ha.whole
      have : standB C l = true := ha
      simp [this]
theorem inB_sub {n m : Int} : inB n 0 (m - 1) = exB n m := by unfold inB exB; congr 1; apply propext; omega
def zrSt4 (C : GConfig) (l : List Int) (i : Nat) : St := mkSt [(1, .sl 2 1 (intRow l)), (2, .ptr 0 0 0), (5, .int .i64 i)] [(0, cfgO C)] 1
theorem refzones_spec : Lift.Spec Try.prog 61 standSp := by
  refine spec_fam (C := CP1) types_ok CP1_ok follows Try.func61 (by kernel_rfl) rfl (by kernel_rfl) rfl ?_
  rintro ⟨C, l⟩ ⟨h, hL⟩
  try simp only at h hL
  refine ⟨by simp, ?_⟩
  intro r hr
  have hZ : C.Zones.length ≤ 1000 := h.1
  simp [GConfig.cells]
  refine axwp_loop (zrSt4 C l) (fun i => i ≤ l.length ∧ AllTo (fun z => exB z C.Zones.length) l i) (fun i => l.length - i) 0 ?_ ⟨Nat.zero_le _, AllTo.zero _ _⟩ ?_
  · refine weak_mk id ?_ ?_ ?_ ?_ <;> simp [cfgO, GConfig.cells]
  · rintro i ⟨hi, ha⟩
    by_cases hik : i < l.length
    · obtain ⟨x, hx, hx', _⟩ := get_of_lt hik
      have w4 : IntKind.i64.wrap ((i : Int) + 1) = (i : Int) + 1 := wrap_i64_in (by omega) (by omega)
      have w5 : IntKind.i64.wrap ((C.Zones.length : Int) - 1) = (C.Zones.length : Int) - 1 := wrap_i64_in (by omega) (by omega)
      cases hz : exB x C.Zones.length with
      | true =>
        simp [zrSt4, cfgO, GConfig.cells, hik, hx', w5, inB_sub, hz]
        refine ⟨⟨by kernel_rfl, by kernel_rfl⟩, ?_⟩
        refine Again.mk (i + 1) ⟨hik, ha.succ hx hz⟩ (by omega) ?_
        refine weak_mk id ?_ ?_ ?_ ?_ <;> simp [cfgO, GConfig.cells, w4]
      | false =>
        simp [zrSt4, cfgO, GConfig.cells, hik, hx', w5, inB_sub, hz]
        refine ⟨⟨by kernel_rfl, by kernel_rfl⟩, ?_⟩
        rw [hr]; refine ret_closed rfl ?_ rfl
        have : standB C l = false := all_at_false hx hz
        simp [this]
    · have e : i = l.length := by omega
      subst e
      simp [zrSt4, cfgO, GConfig.cells]
      rw [hr]; refine ret_closed rfl ?_ rfl
      replace ha := ha.whole
      have : standB C l = true := ha
      simp [this]

noncomputable def versionsSp := fam (fun i : List GVersion => [V.sl 2 2 (GVersion.row i)]) (fun _ : List GVersion => []) (fun i : List GVersion => (i.length ≤ 1000)) (fun i : List GVersion => ⟨.bool (versionsFitB i), []⟩)
@[simp] theorem versionsSp_eq {l : List GVersion} (h1 : l.length ≤ 1000) : versionsSp ([V.sl 2 2 (GVersion.row l)]) ([]) = some (⟨.bool (versionsFitB l), []⟩) :=
  fam_eq (A := fun i : List GVersion => [V.sl 2 2 (GVersion.row i)]) (O := fun _ : List GVersion => []) (res := fun i : List GVersion => ⟨.bool (versionsFitB i), []⟩) (by intro a b h h' <;> simp at h h' <;> simp_all) l h1

def vfSt (l : List GVersion) (i : Nat) : St := mkSt [(5, .sl 2 2 (GVersion.row l)), (6, .int .i64 l.length), (7, .int .i64 i)] [] 0
theorem versionsFit_spec : Lift.Spec Try.prog 57 versionsSp := by
  refine spec_fam (C := CP1) types_ok CP1_ok follows Try.func57 (by kernel_rfl) rfl (by kernel_rfl) rfl ?_
  rintro l hL
  try simp only at hL
  refine ⟨by simp, ?_⟩
  intro r hr
  simp
  refine axwp_loop (vfSt l) (fun i => i ≤ l.length ∧ AllTo versionB l i ∧ (i = 0 ∨ low0 l = 0)) (fun i => l.length - i) 0 ?_ ⟨Nat.zero_le _, AllTo.zero _ _, .inl rfl⟩ ?_
  · refine weak_mk id ?_ ?_ ?_ ?_ <;> simp
  · rintro i ⟨hi, ha, h0⟩
    by_cases hik : i < l.length
    · obtain ⟨x, hx, hx', _⟩ := get_of_lt hik
      have w4 : IntKind.i64.wrap ((i : Int) + 1) = (i : Int) + 1 := wrap_i64_in (by omega) (by omega)
      cases hz : inB x.Low 0 x.High with
      | false =>
        simp [vfSt, hik, hx', GVersion.cells, hz]
        rw [hr]; refine ret_closed rfl ?_ rfl
        have : l.all versionB = false := all_at_false hx (by simp [versionB, hz])
        simp [versionsFitB, this]
      | true =>
        by_cases hh : x.High ≤ 30
        · have hh' : ¬ 30 < x.High := by omega
          have hv : versionB x = true := by simp [versionB, hz, hh]
          by_cases hi0 : i = 0
          · subst hi0
            have hd := low0_at hx
            by_cases hl : x.Low = 0
            · have hz' := hz
              rw [hl] at hz'
              simp [vfSt, hik, hx', GVersion.cells, hz', hh', hl]
              refine Again.mk 1 ⟨hik, ha.succ hx hv, .inr (by rw [hd]; exact hl)⟩ (by omega) ?_
              refine weak_mk id ?_ ?_ ?_ ?_ <;> simp
            · simp [vfSt, hik, hx', GVersion.cells, hz, hh', hl]
              rw [hr]; refine ret_closed rfl ?_ rfl
              simp [versionsFitB, hd, hl]
          · have hh0 := h0.resolve_left hi0
            simp [vfSt, hik, hx', GVersion.cells, hz, hh', hi0]
            refine Again.mk (i + 1) ⟨hik, ha.succ hx hv, .inr hh0⟩ (by omega) ?_
            refine weak_mk id ?_ ?_ ?_ ?_ <;> simp [w4]
        · have hh' : 30 < x.High := by omega
          simp [vfSt, hik, hx', GVersion.cells, hz, hh']
          rw [hr]; refine ret_closed rfl ?_ rfl
          have : l.all versionB = false := all_at_false hx (by simp [versionB, hh])
          simp [versionsFitB, this]
    · have e : i = l.length := by omega
      subst e
      simp [vfSt]
      rw [hr]; refine ret_closed rfl ?_ rfl
      replace ha := ha.whole
      have h0' : low0 l = 0 := by
        rcases h0 with h0 | h0
        · rw [List.length_eq_zero_iff.1 h0]; rfl
        · exact h0
      simp [versionsFitB, ha, h0']

noncomputable def boundsSp := fam (fun i : GConfig => [vConfig i]) (fun _ : GConfig => []) (fun _ : GConfig => True) (fun i : GConfig => ⟨.bool (boundsB i), []⟩)
@[simp] theorem boundsSp_eq {C : GConfig}  : boundsSp ([vConfig C]) ([]) = some (⟨.bool (boundsB C), []⟩) :=
  fam_eq (A := fun i : GConfig => [vConfig i]) (O := fun _ : GConfig => []) (res := fun i : GConfig => ⟨.bool (boundsB i), []⟩) (by intro a b h h' <;> simp at h h' <;> simp_all) C trivial

theorem bounds_spec : Lift.Spec Try.prog 58 boundsSp := by
  refine spec_fam (C := CP1) types_ok CP1_ok follows Try.func58 (by kernel_rfl) rfl (by kernel_rfl) rfl ?_
  rintro C _
  refine ⟨by simp, ?_⟩
  intro r hr
  cases h1 : inB C.Blast 1 16
  · simp [GConfig.cells, h1]
    rw [hr]; refine ret_closed rfl ?_ rfl
    simp [boundsB, h1]
  cases h2 : inB C.Lease 1 1000
  · simp [GConfig.cells, h1, h2]
    rw [hr]; refine ret_closed rfl ?_ rfl
    simp [boundsB, h1, h2]
  simp [GConfig.cells, h1, h2]
  rw [hr]; refine ret_closed rfl ?_ rfl
  simp [boundsB, h1, h2]

noncomputable def CP5 := mkC [(53, limitsSp), (60, limitsSp), (54, zonesFitSp), (55, cellsFitSp), (56, standSp), (61, standSp), (57, versionsSp), (58, boundsSp), (62, betweenPSp)]
theorem CP5_ok : SpecsOk Try.prog CP5 := mkC_ok (all_cons withinLimits_spec (all_cons limits_spec (all_cons zonesFit_spec (all_cons cellsFit_spec (all_cons stand_spec (all_cons refzones_spec (all_cons versionsFit_spec (all_cons bounds_spec (all_cons in_spec all_nil)))))))))
@[simp] theorem CP5_1 : CP5 53 = limitsSp := rfl
@[simp] theorem CP5_2 : CP5 60 = limitsSp := rfl
@[simp] theorem CP5_3 : CP5 54 = zonesFitSp := rfl
@[simp] theorem CP5_4 : CP5 55 = cellsFitSp := rfl
@[simp] theorem CP5_5 : CP5 56 = standSp := rfl
@[simp] theorem CP5_6 : CP5 61 = standSp := rfl
@[simp] theorem CP5_7 : CP5 57 = versionsSp := rfl
@[simp] theorem CP5_8 : CP5 58 = boundsSp := rfl
@[simp] theorem CP5_9 : CP5 62 = betweenPSp := rfl

noncomputable def validZ : Option GConfig → Int
  | some C => validT C
  | none => 2
def lensZ : Option GConfig → Prop
  | some C => Lens C
  | none => True
noncomputable def validTSp := fam (fun i : Option GConfig => [cfgZ i]) (fun _ : Option GConfig => []) (fun i : Option GConfig => (lensZ i)) (fun i : Option GConfig => ⟨.int .i64 (validZ i), []⟩)
@[simp] theorem validTSp_eq {o : Option GConfig} (h1 : lensZ o) : validTSp ([cfgZ o]) ([]) = some (⟨.int .i64 (validZ o), []⟩) :=
  fam_eq (A := fun i : Option GConfig => [cfgZ i]) (O := fun _ : Option GConfig => []) (res := fun i : Option GConfig => ⟨.int .i64 (validZ i), []⟩) (by intro i j h _; rw [cfgZ_inj h]) o h1

@[simp] theorem validTSp_some {C : GConfig} (h : Lens C) : validTSp [vConfig C] [] = some ⟨.int .i64 (validT C), []⟩ := validTSp_eq (o := some C) h
@[simp] theorem validTSp_none : validTSp [.agg [.int .i64 0, .sl 0 1 [], .sl 0 1 [], .sl 0 1 [], .sl 0 1 [], .sl 0 1 [], .sl 0 1 [], .int .i64 0, .int .i64 0, .int .i64 0]] [] = some ⟨.int .i64 2, []⟩ := validTSp_eq (o := none) trivial
theorem validT_lim {C : GConfig} (h : limitsB C = false) : validT C = 2 := by rw [validT_eq]; simp [h]
theorem validT_odd {C : GConfig} (h : limitsB C = true) (h1 : C.Replicas.length % 2 = 0) : validT C = 1 := by rw [validT_eq]; simp [h, h1]

theorem valid_spec : Lift.Spec Try.prog 40 validTSp := by
  refine spec_fam (C := CP5) types_ok CP5_ok follows Try.func40 (by kernel_rfl) rfl (by kernel_rfl) rfl ?_
  rintro o h
  try simp only at h
  refine ⟨by simp, ?_⟩
  intro r hr
  rcases o with _ | C
  · simp [cfgZ, zeroV]
    rw [hr]; refine ret_closed rfl ?_ rfl
    simp [validZ]
  have hr : r = ⟨.int .i64 (validT C), []⟩ := hr
  replace h : Lens C := h
  show axwp _ _ _ _ _ (initSt [vConfig C] [])
  have hP : C.Replicas.length ≤ 1000 := h.2.2.2.2.1
  have hO : C.Observers.length ≤ 1000 := h.2.2.2.2.2
  have hV : C.Versions.length ≤ 1000 := h.2.2.2.1
  cases h1 : limitsB C with
  | false =>
    simp [GConfig.cells, h1]
    rw [hr]; refine ret_closed rfl ?_ rfl
    simp [validT_lim h1]
  | true =>
    obtain ⟨m, hm⟩ : ∃ m, m = C.Replicas.length % 2 := ⟨_, rfl⟩
    have e1 : ((C.Replicas.length : Int)).tmod 2 = (m : Int) := by rw [hm]; rfl
    by_cases hm0 : m = 0
    · simp [GConfig.cells, h1, e1, hm0]
      rw [hr]; refine ret_closed rfl ?_ rfl
      simp [validT_odd h1 (hm.symm.trans hm0)]
    · have hm1 : C.Replicas.length % 2 = 1 := by omega
      cases h2 : zonesFitB C
      · simp [GConfig.cells, h1, e1, hm0, h, h2]
        rw [hr]; refine ret_closed rfl ?_ rfl
        simp [validT_eq, h1, h2]
      cases h3 : cellsFitB C
      · simp [GConfig.cells, h1, e1, hm0, h, h2, h3]
        rw [hr]; refine ret_closed rfl ?_ rfl
        simp [validT_eq, h1, h3]
      cases h4 : standB C C.Replicas
      · simp [GConfig.cells, h1, e1, hm0, h, h2, h3, h4, hP]
        rw [hr]; refine ret_closed rfl ?_ rfl
        simp [validT_eq, h1, h4]
      cases h5 : standB C C.Observers
      · simp [GConfig.cells, h1, e1, hm0, h, h2, h3, h4, h5, hP, hO]
        rw [hr]; refine ret_closed rfl ?_ rfl
        simp [validT_eq, h1, h5]
      cases h6 : versionsFitB C.Versions
      · simp [GConfig.cells, h1, e1, hm0, h, h2, h3, h4, h5, h6, hP, hO, hV]
        rw [hr]; refine ret_closed rfl ?_ rfl
        simp [validT_eq, h1, h6]
      cases h7 : boundsB C
      · simp [GConfig.cells, h1, e1, hm0, h, h2, h3, h4, h5, h6, h7, hP, hO, hV]
        rw [hr]; refine ret_closed rfl ?_ rfl
        simp [validT_eq, h1, h7]
      simp [GConfig.cells, h1, e1, hm0, h, h2, h3, h4, h5, h6, h7, hP, hO, hV]
      rw [hr]; refine ret_closed rfl ?_ rfl
      simp [validT_eq, h1, h2, h3, h4, h5, h6, h7, hm1]
end Go.Proofs.Ytccmghkfofmedaa
