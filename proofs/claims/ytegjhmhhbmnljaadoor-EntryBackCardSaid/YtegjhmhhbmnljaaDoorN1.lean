/-
  tenant: which configurations are valid, which cells a tenant may use.
-/
import Derived.Test.YtegjhmhhbmnljaaDoorP4
import Derived.Test.YtegjhmhhbmnljaaDoorM3
namespace Go.Proofs.YtegjhmhhbmnljaaDoor
open Go.Lift

def tenB (R : Int) (t : GTenant) : Bool := inB t.Load 1 65536 && (inB t.Shadow 0 t.Load && (inB t.Priority 0 9 && (inB t.Lag (-1) 1000 && (inB t.Allowed 1 (2 ^ R.toNat - 1) && inB t.Group 0 32))))
theorem pow_R {R : Int} (h1 : 1 ≤ R) (h4 : R ≤ 4) : ∃ ρ : Int, ρ = 2 ^ R.toNat ∧ 2 ≤ ρ ∧ ρ ≤ 16 := by
  have : R = 1 ∨ R = 2 ∨ R = 3 ∨ R = 4 := by omega
  rcases this with rfl | rfl | rfl | rfl <;> exact ⟨_, rfl, by decide, by decide⟩

noncomputable def CN1 := mkC []
theorem CN1_ok : SpecsOk Tryd.prog CN1 := mkC_ok all_nil

noncomputable def fitsSp := fam (fun i : GTenant × Int => [vTenant i.1, .int .i64 i.2]) (fun _ : GTenant × Int => []) (fun i : GTenant × Int => (1 ≤ i.2) ∧ (i.2 ≤ 4)) (fun i : GTenant × Int => ⟨.bool (tenB i.2 i.1), []⟩)
@[simp] theorem fitsSp_eq {t : GTenant} {R : Int} (h1 : 1 ≤ R) (h2 : R ≤ 4) : fitsSp ([vTenant t, .int .i64 R]) ([]) = some (⟨.bool (tenB R t), []⟩) :=
  fam_eq (A := fun i : GTenant × Int => [vTenant i.1, .int .i64 i.2]) (O := fun _ : GTenant × Int => []) (res := fun i : GTenant × Int => ⟨.bool (tenB i.2 i.1), []⟩) (by rintro ⟨a0, a1⟩ ⟨b0, b1⟩ h h' <;> simp at h h' <;> simp_all) (t, R) ⟨h1, h2⟩

theorem vTenant_fold (x : GTenant) : V.agg [.int .i64 x.Load, .int .i64 x.Shadow, .int .i64 x.Priority, .int .i64 x.Lag, .int .i64 x.Allowed, .int .i64 x.Group, .bool x.Noisy] = vTenant x := rfl
attribute [simp] vTenant_fold
attribute [simp high] vTenant_cells
noncomputable def declaredSp := fam (fun i : GConfig × GTenant => [vConfig i.1, vTenant i.2]) (fun _ : GConfig × GTenant => []) (fun i : GConfig × GTenant => (1 ≤ i.1.Regions) ∧ (i.1.Regions ≤ 4)) (fun i : GConfig × GTenant => ⟨.bool (tenB i.1.Regions i.2), []⟩)
@[simp] theorem declaredSp_eq {C : GConfig} {t : GTenant} (h1 : 1 ≤ C.Regions) (h2 : C.Regions ≤ 4) : declaredSp ([vConfig C, vTenant t]) ([]) = some (⟨.bool (tenB C.Regions t), []⟩) :=
  fam_eq (A := fun i : GConfig × GTenant => [vConfig i.1, vTenant i.2]) (O := fun _ : GConfig × GTenant => []) (res := fun i : GConfig × GTenant => ⟨.bool (tenB i.1.Regions i.2), []⟩) (by rintro ⟨a0, a1⟩ ⟨b0, b1⟩ h h' <;> simp at h h' <;> simp_all) (C, t) ⟨h1, h2⟩

noncomputable def CN2 := mkC []
theorem CN2_ok : SpecsOk Tryd.prog CN2 := mkC_ok all_nil

noncomputable def validN : GConfig → Int := hush fun C => if validT C = 0 then (if C.Tenants.all (tenB C.Regions) = true then 0 else 1) else validT C
theorem validN_eq (C : GConfig) : validN C = if validT C = 0 then (if C.Tenants.all (tenB C.Regions) = true then 0 else 1) else validT C := by unfold validN; rw [hush_eq]
theorem validN_bad {C : GConfig} (h : ¬ validT C = 0) : validN C = validT C := by rw [validN_eq, if_neg h]
theorem validN_ok {C : GConfig} (h : validT C = 0) {b : Bool} (hb : C.Tenants.all (tenB C.Regions) = b) : validN C = if b = true then 0 else 1 := by rw [validN_eq, if_pos h, hb]

noncomputable def validNSp := fam (fun i : GConfig => [vConfig i]) (fun _ : GConfig => []) (fun i : GConfig => (Lens i)) (fun i : GConfig => ⟨.int .i64 (validN i), []⟩)
@[simp] theorem validNSp_eq {C : GConfig} (h1 : Lens C) : validNSp ([vConfig C]) ([]) = some (⟨.int .i64 (validN C), []⟩) :=
  fam_eq (A := fun i : GConfig => [vConfig i]) (O := fun _ : GConfig => []) (res := fun i : GConfig => ⟨.int .i64 (validN i), []⟩) (by intro a b h h' <;> simp at h h' <;> simp_all) C h1

def vnSt (C : GConfig) (i : Nat) : St := mkSt [(1, .ptr 0 0 0), (12, .sl 2 7 (GTenant.row C.Tenants)), (13, .int .i64 C.Tenants.length), (14, .int .i64 i)] [(0, cfgO C)] 1
def vrSt5 (C : GConfig) (i : Nat) : St := mkSt [(1, .ptr 0 0 0), (4, .int .i64 i)] [(0, cfgO C)] 1
/-! ### Cells of a tenant -/
def zeroT : GTenant := ⟨0, 0, 0, 0, 0, 0, false⟩
def tnA (C : GConfig) (k : Nat) : Int := (C.Tenants.getD k zeroT).Allowed
def mayB (C : GConfig) (t c : Int) : Bool := exB t C.Tenants.length && hasB (tnA C t.toNat) (regionAt C c)
def apartB (C : GConfig) (a b : Int) : Bool := decide (0 ≤ regionAt C a ∧ 0 ≤ regionAt C b ∧ regionAt C a ≠ regionAt C b)
theorem mayB_out {C : GConfig} {t : Int} (h : exB t C.Tenants.length = false) (c : Int) : mayB C t c = false := by unfold mayB; rw [h]; rfl
theorem mayB_at {C : GConfig} {k : Nat} {x : GTenant} (hx : C.Tenants[k]? = some x) (c : Int) : mayB C k c = hasB x.Allowed (regionAt C c) := by
  have hk := (List.getElem?_eq_some_iff.1 hx).1
  unfold mayB
  rw [exB_iff.2 ⟨by omega, by omega⟩, show tnA C ((k : Int)).toNat = x.Allowed by simp [tnA, List.getD, hx]]; rfl
theorem reg_cases {C : GConfig} (h : TopoOk C) (c : Int) : regionAt C c = -1 ∨ 0 ≤ regionAt C c ∧ regionAt C c < C.Regions := by
  rcases h.reg (zoneAt C c) with ⟨e, _⟩ | ⟨e0, e1, _⟩
  · exact .inl e
  · exact .inr ⟨e0, e1⟩

noncomputable def belongsSp := fam (fun i : Int × Int => [V.int .i64 i.1, .int .i64 i.2]) (fun _ : Int × Int => []) (fun i : Int × Int => (i.1 < 62)) (fun i : Int × Int => ⟨.bool (hasB i.2 i.1), []⟩)
@[simp] theorem belongsSp_eq {i : Int} {s : Int} (h1 : i < 62) : belongsSp ([V.int .i64 i, .int .i64 s]) ([]) = some (⟨.bool (hasB s i), []⟩) :=
  fam_eq (A := fun i : Int × Int => [V.int .i64 i.1, .int .i64 i.2]) (O := fun _ : Int × Int => []) (res := fun i : Int × Int => ⟨.bool (hasB i.2 i.1), []⟩) (by rintro ⟨a0, a1⟩ ⟨b0, b1⟩ h h' <;> simp at h h' <;> simp_all) (i, s) h1

noncomputable def CN3 := mkC [(73, regionOfSp), (62, hasSp)]
theorem CN3_ok : SpecsOk Tryd.prog CN3 := mkC_ok (all_cons refregionOf_spec (all_cons has_spec all_nil))
@[simp] theorem CN3_1 : CN3 73 = regionOfSp := rfl
@[simp] theorem CN3_2 : CN3 62 = hasSp := rfl

noncomputable def maySp := fam (fun i : GConfig × Int × Int => [vConfig i.1, .int .i64 i.2.1, .int .i64 i.2.2]) (fun _ : GConfig × Int × Int => []) (fun i : GConfig × Int × Int => (TopoOk i.1)) (fun i : GConfig × Int × Int => ⟨.bool (mayB i.1 i.2.1 i.2.2), []⟩)
@[simp] theorem maySp_eq {C : GConfig} {t : Int} {c : Int} (h1 : TopoOk C) : maySp ([vConfig C, .int .i64 t, .int .i64 c]) ([]) = some (⟨.bool (mayB C t c), []⟩) :=
  fam_eq (A := fun i : GConfig × Int × Int => [vConfig i.1, .int .i64 i.2.1, .int .i64 i.2.2]) (O := fun _ : GConfig × Int × Int => []) (res := fun i : GConfig × Int × Int => ⟨.bool (mayB i.1 i.2.1 i.2.2), []⟩) (by rintro ⟨a0, a1, a2⟩ ⟨b0, b1, b2⟩ h h' <;> simp at h h' <;> simp_all) (C, t, c) h1

theorem refmay_spec : Lift.Spec Tryd.prog 63 maySp := by
  refine spec_fam (C := CN3) types_ok CN3_ok follows Tryd.func63 (by kernel_rfl) rfl (by kernel_rfl) rfl ?_
  rintro ⟨C, t, c⟩ h
  try simp only at h
  refine ⟨by simp, ?_⟩
  intro r hr
  rcases ex_cases t C.Tenants.length with ⟨k, rfl, hk, he⟩ | he
  · obtain ⟨x, hx, hx', _⟩ := get_of_lt hk
    simp [GConfig.cells, h, hk, hx', GTenant.cells]
    refine ⟨⟨by kernel_rfl, by kernel_rfl⟩, ?_⟩
    rw [hr]; refine ret_closed rfl ?_ rfl
    simp [mayB_at hx]
  · have := mayB_out he c
    by_cases h0 : 0 ≤ t
    · have h1 : ¬ t < (C.Tenants.length : Int) := by unfold exB at he; simp at he; omega
      simp [GConfig.cells, h0, h1]
      refine ⟨⟨by kernel_rfl, by kernel_rfl⟩, ?_⟩
      rw [hr]; refine ret_closed rfl ?_ rfl
      simp [this]
    · simp [GConfig.cells, h0]
      refine ⟨⟨by kernel_rfl, by kernel_rfl⟩, ?_⟩
      rw [hr]; refine ret_closed rfl ?_ rfl
      simp [this]

noncomputable def apartSp := fam (fun i : GConfig × Int × Int => [vConfig i.1, .int .i64 i.2.1, .int .i64 i.2.2]) (fun _ : GConfig × Int × Int => []) (fun i : GConfig × Int × Int => (TopoOk i.1)) (fun i : GConfig × Int × Int => ⟨.bool (apartB i.1 i.2.1 i.2.2), []⟩)
@[simp] theorem apartSp_eq {C : GConfig} {a : Int} {b : Int} (h1 : TopoOk C) : apartSp ([vConfig C, .int .i64 a, .int .i64 b]) ([]) = some (⟨.bool (apartB C a b), []⟩) :=
  fam_eq (A := fun i : GConfig × Int × Int => [vConfig i.1, .int .i64 i.2.1, .int .i64 i.2.2]) (O := fun _ : GConfig × Int × Int => []) (res := fun i : GConfig × Int × Int => ⟨.bool (apartB i.1 i.2.1 i.2.2), []⟩) (by rintro ⟨a0, a1, a2⟩ ⟨b0, b1, b2⟩ h h' <;> simp at h h' <;> simp_all) (C, a, b) h1

theorem refapart_spec : Lift.Spec Tryd.prog 64 apartSp := by
  refine spec_fam (C := CN3) types_ok CN3_ok follows Tryd.func64 (by kernel_rfl) rfl (by kernel_rfl) rfl ?_
  rintro ⟨C, a, b⟩ h
  try simp only at h
  refine ⟨by simp, ?_⟩
  intro r hr
  by_cases ha : ¬ 0 ≤ regionAt C a
  · simp [GConfig.cells, h, ha]
    refine ⟨⟨by kernel_rfl, by kernel_rfl⟩, ?_⟩
    rw [hr]; refine ret_closed rfl ?_ rfl
    simp [apartB, ha]
  replace ha := Classical.byContradiction ha
  by_cases hb : ¬ 0 ≤ regionAt C b
  · simp [GConfig.cells, h, ha, hb]
    refine ⟨⟨by kernel_rfl, by kernel_rfl⟩, ?_⟩
    rw [hr]; refine ret_closed rfl ?_ rfl
    simp [apartB, hb]
  replace hb := Classical.byContradiction hb
  simp [GConfig.cells, h, ha, hb]
  refine ⟨⟨by kernel_rfl, by kernel_rfl⟩, ?_⟩
  rw [hr]; refine ret_closed rfl ?_ rfl
  simp [apartB, ha, hb]
end Go.Proofs.YtegjhmhhbmnljaaDoor
