/-
  tenant: which configurations are valid, which cells a tenant may use.
-/
import Derived.Test.YtccmghkfofmedaaP4
import Derived.Test.YtccmghkfofmedaaM3
namespace Go.Proofs.Ytccmghkfofmedaa
open Go.Lift

def tenB (R : Int) (t : GTenant) : Bool := inB t.Load 1 65536 && (inB t.Shadow 0 t.Load && (inB t.Priority 0 9 && (inB t.Lag (-1) 1000 && (inB t.Allowed 1 (2 ^ R.toNat - 1) && inB t.Group 0 32))))
theorem pow_R {R : Int} (h1 : 1 ≤ R) (h4 : R ≤ 4) : ∃ ρ : Int, ρ = 2 ^ R.toNat ∧ 2 ≤ ρ ∧ ρ ≤ 16 := by
  have : R = 1 ∨ R = 2 ∨ R = 3 ∨ R = 4 := by omega
  rcases this with rfl | rfl | rfl | rfl <;> exact ⟨_, rfl, by decide, by decide⟩

theorem tenBetween_spec : Lift.Spec Try.prog 59 betweenPSp := by
  refine spec_fam (C := C0) types_ok C0_ok follows Try.func59 (by kernel_rfl) rfl (by kernel_rfl) rfl ?_
  rintro ⟨n, low, high⟩ _
  refine ⟨by simp, ?_⟩
  intro r hr
  by_cases h : low ≤ n
  · simp [h]
    rw [hr]; refine ret_closed rfl ?_ rfl
    simp [inB, h]
  · simp [h]
    rw [hr]; refine ret_closed rfl ?_ rfl
    simp [inB, h]

noncomputable def CN1 := mkC [(59, betweenPSp)]
theorem CN1_ok : SpecsOk Try.prog CN1 := mkC_ok (all_cons tenBetween_spec all_nil)
@[simp] theorem CN1_1 : CN1 59 = betweenPSp := rfl

noncomputable def fitsSp := fam (fun i : GTenant × Int => [vTenant i.1, .int .i64 i.2]) (fun _ : GTenant × Int => []) (fun i : GTenant × Int => (1 ≤ i.2) ∧ (i.2 ≤ 4)) (fun i : GTenant × Int => ⟨.bool (tenB i.2 i.1), []⟩)
@[simp] theorem fitsSp_eq {t : GTenant} {R : Int} (h1 : 1 ≤ R) (h2 : R ≤ 4) : fitsSp ([vTenant t, .int .i64 R]) ([]) = some (⟨.bool (tenB R t), []⟩) :=
  fam_eq (A := fun i : GTenant × Int => [vTenant i.1, .int .i64 i.2]) (O := fun _ : GTenant × Int => []) (res := fun i : GTenant × Int => ⟨.bool (tenB i.2 i.1), []⟩) (by rintro ⟨a0, a1⟩ ⟨b0, b1⟩ h h' <;> simp at h h' <;> simp_all) (t, R) ⟨h1, h2⟩

theorem vTenant_fold (x : GTenant) : V.agg [.int .i64 x.Load, .int .i64 x.Shadow, .int .i64 x.Priority, .int .i64 x.Lag, .int .i64 x.Allowed, .int .i64 x.Group, .bool x.Noisy] = vTenant x := rfl
attribute [simp] vTenant_fold
attribute [simp high] vTenant_cells
theorem fits_spec : Lift.Spec Try.prog 41 fitsSp := by
  refine spec_fam (C := CN1) types_ok CN1_ok follows Try.func41 (by kernel_rfl) rfl (by kernel_rfl) rfl ?_
  rintro ⟨t, R⟩ ⟨h1, h4⟩
  try simp only at h1 h4
  refine ⟨by simp, ?_⟩
  intro r hr
  obtain ⟨ρ, hρ, r2, r16⟩ := pow_R h1 h4
  have hmin : min R.toNat 64 = R.toNat := by omega
  have hRn : ¬ R < 0 := by omega
  have wρ : IntKind.i64.wrap ρ = ρ := wrap_i64_in (by omega) (by omega)
  have wρ1 : IntKind.i64.wrap (ρ - 1) = ρ - 1 := wrap_i64_in (by omega) (by omega)
  cases a1 : inB t.Load 1 65536
  · simp [GTenant.cells, a1]
    refine ⟨⟨by kernel_rfl, by kernel_rfl⟩, ?_⟩
    rw [hr]; refine ret_closed rfl ?_ rfl
    simp [tenB, a1]
  cases a2 : inB t.Shadow 0 t.Load
  · simp [GTenant.cells, a1, a2]
    refine ⟨⟨by kernel_rfl, by kernel_rfl⟩, ?_⟩
    rw [hr]; refine ret_closed rfl ?_ rfl
    simp [tenB, a1, a2]
  cases a3 : inB t.Priority 0 9
  · simp [GTenant.cells, a1, a2, a3]
    refine ⟨⟨by kernel_rfl, by kernel_rfl⟩, ?_⟩
    rw [hr]; refine ret_closed rfl ?_ rfl
    simp [tenB, a1, a2, a3]
  cases a4 : inB t.Lag (-1) 1000
  · simp [GTenant.cells, a1, a2, a3, a4]
    refine ⟨⟨by kernel_rfl, by kernel_rfl⟩, ?_⟩
    rw [hr]; refine ret_closed rfl ?_ rfl
    simp [tenB, a1, a2, a3, a4]
  cases a5 : inB t.Allowed 1 (ρ - 1)
  · simp [GTenant.cells, a1, a2, a3, a4, hRn, hmin, ← hρ, wρ, wρ1, a5]
    refine ⟨⟨by kernel_rfl, by kernel_rfl⟩, ?_⟩
    rw [hr]; refine ret_closed rfl ?_ rfl
    simp [tenB, a1, a2, a3, a4, ← hρ, a5]
  simp [GTenant.cells, a1, a2, a3, a4, hRn, hmin, ← hρ, wρ, wρ1, a5]
  refine ⟨⟨by kernel_rfl, by kernel_rfl⟩, ?_⟩
  rw [hr]; refine ret_closed rfl ?_ rfl
  simp [tenB, a1, a2, a3, a4, ← hρ, a5]

noncomputable def declaredSp := fam (fun i : GConfig × GTenant => [vConfig i.1, vTenant i.2]) (fun _ : GConfig × GTenant => []) (fun i : GConfig × GTenant => (1 ≤ i.1.Regions) ∧ (i.1.Regions ≤ 4)) (fun i : GConfig × GTenant => ⟨.bool (tenB i.1.Regions i.2), []⟩)
@[simp] theorem declaredSp_eq {C : GConfig} {t : GTenant} (h1 : 1 ≤ C.Regions) (h2 : C.Regions ≤ 4) : declaredSp ([vConfig C, vTenant t]) ([]) = some (⟨.bool (tenB C.Regions t), []⟩) :=
  fam_eq (A := fun i : GConfig × GTenant => [vConfig i.1, vTenant i.2]) (O := fun _ : GConfig × GTenant => []) (res := fun i : GConfig × GTenant => ⟨.bool (tenB i.1.Regions i.2), []⟩) (by rintro ⟨a0, a1⟩ ⟨b0, b1⟩ h h' <;> simp at h h' <;> simp_all) (C, t) ⟨h1, h2⟩

set_option maxHeartbeats 40000000 in
theorem declared_spec : Lift.Spec Try.prog 43 declaredSp := by
  refine spec_fam (C := C0) types_ok C0_ok follows Try.func43 (by kernel_rfl) rfl (by kernel_rfl) rfl ?_
  rintro ⟨C, t⟩ ⟨h1, h4⟩
  try simp only at h1 h4
  refine ⟨by simp, ?_⟩
  intro r hr
  obtain ⟨ρ, hρ, r2, r16⟩ := pow_R h1 h4
  have hmin : min C.Regions.toNat 64 = C.Regions.toNat := by omega
  have hRn : ¬ C.Regions < 0 := by omega
  have wR : IntKind.u64.wrap C.Regions = C.Regions := wrap_u64_in (by omega) (by omega)
  have wρ : IntKind.i64.wrap ρ = ρ := wrap_i64_in (by omega) (by omega)
  by_cases b0 : ¬ 1 ≤ t.Load
  · simp [GTenant.cells, GConfig.cells, b0]
    rw [hr]; refine ret_closed rfl ?_ rfl
    have : tenB C.Regions t = false := by simp only [tenB, inB, ← hρ, Bool.and_eq_false_iff, decide_eq_false_iff_not]; omega
    simp [this]
  replace b0 : 1 ≤ t.Load := Classical.byContradiction b0
  by_cases b1 : ¬ t.Load ≤ 65536
  · simp [GTenant.cells, GConfig.cells, b0, b1]
    rw [hr]; refine ret_closed rfl ?_ rfl
    have : tenB C.Regions t = false := by simp only [tenB, inB, ← hρ, Bool.and_eq_false_iff, decide_eq_false_iff_not]; omega
    simp [this]
  replace b1 : t.Load ≤ 65536 := Classical.byContradiction b1
  by_cases b2 : ¬ 0 ≤ t.Shadow
  · simp [GTenant.cells, GConfig.cells, b0, b1, b2]
    rw [hr]; refine ret_closed rfl ?_ rfl
    have : tenB C.Regions t = false := by simp only [tenB, inB, ← hρ, Bool.and_eq_false_iff, decide_eq_false_iff_not]; omega
    simp [this]
  replace b2 : 0 ≤ t.Shadow := Classical.byContradiction b2
  by_cases b3 : ¬ t.Shadow ≤ t.Load
  · simp [GTenant.cells, GConfig.cells, b0, b1, b2, b3]
    rw [hr]; refine ret_closed rfl ?_ rfl
    have : tenB C.Regions t = false := by simp only [tenB, inB, ← hρ, Bool.and_eq_false_iff, decide_eq_false_iff_not]; omega
    simp [this]
  replace b3 : t.Shadow ≤ t.Load := Classical.byContradiction b3
  by_cases b4 : ¬ 0 ≤ t.Priority
  · simp [GTenant.cells, GConfig.cells, b0, b1, b2, b3, b4]
    rw [hr]; refine ret_closed rfl ?_ rfl
    have : tenB C.Regions t = false := by simp only [tenB, inB, ← hρ, Bool.and_eq_false_iff, decide_eq_false_iff_not]; omega
    simp [this]
  replace b4 : 0 ≤ t.Priority := Classical.byContradiction b4
  by_cases b5 : ¬ t.Priority ≤ 9
  · simp [GTenant.cells, GConfig.cells, b0, b1, b2, b3, b4, b5]
    rw [hr]; refine ret_closed rfl ?_ rfl
    have : tenB C.Regions t = false := by simp only [tenB, inB, ← hρ, Bool.and_eq_false_iff, decide_eq_false_iff_not]; omega
    simp [this]
  replace b5 : t.Priority ≤ 9 := Classical.byContradiction b5
  by_cases b6 : ¬ -1 ≤ t.Lag
  · simp [GTenant.cells, GConfig.cells, b0, b1, b2, b3, b4, b5, b6]
    rw [hr]; refine ret_closed rfl ?_ rfl
    have : tenB C.Regions t = false := by simp only [tenB, inB, ← hρ, Bool.and_eq_false_iff, decide_eq_false_iff_not]; omega
    simp [this]
  replace b6 : -1 ≤ t.Lag := Classical.byContradiction b6
  by_cases b7 : ¬ t.Lag ≤ 1000
  · simp [GTenant.cells, GConfig.cells, b0, b1, b2, b3, b4, b5, b6, b7]
    rw [hr]; refine ret_closed rfl ?_ rfl
    have : tenB C.Regions t = false := by simp only [tenB, inB, ← hρ, Bool.and_eq_false_iff, decide_eq_false_iff_not]; omega
    simp [this]
  replace b7 : t.Lag ≤ 1000 := Classical.byContradiction b7
  by_cases b8 : ¬ 1 ≤ t.Allowed
  · simp [GTenant.cells, GConfig.cells, b0, b1, b2, b3, b4, b5, b6, b7, b8]
    rw [hr]; refine ret_closed rfl ?_ rfl
    have : tenB C.Regions t = false := by simp only [tenB, inB, ← hρ, Bool.and_eq_false_iff, decide_eq_false_iff_not]; omega
    simp [this]
  replace b8 : 1 ≤ t.Allowed := Classical.byContradiction b8
  by_cases b9 : ¬ t.Allowed < ρ
  · simp [GTenant.cells, GConfig.cells, hRn, hmin, ← hρ, wρ, wR, b0, b1, b2, b3, b4, b5, b6, b7, b8, b9]
    rw [hr]; refine ret_closed rfl ?_ rfl
    have : tenB C.Regions t = false := by simp only [tenB, inB, ← hρ, Bool.and_eq_false_iff, decide_eq_false_iff_not]; omega
    simp [this]
  replace b9 : t.Allowed < ρ := Classical.byContradiction b9
  by_cases b10 : ¬ 0 ≤ t.Group
  · simp [GTenant.cells, GConfig.cells, hRn, hmin, ← hρ, wρ, wR, b0, b1, b2, b3, b4, b5, b6, b7, b8, b9, b10]
    rw [hr]; refine ret_closed rfl ?_ rfl
    have : tenB C.Regions t = false := by simp only [tenB, inB, ← hρ, Bool.and_eq_false_iff, decide_eq_false_iff_not]; omega
    simp [this]
  replace b10 : 0 ≤ t.Group := Classical.byContradiction b10
  by_cases b11 : ¬ t.Group ≤ 32
  · simp [GTenant.cells, GConfig.cells, hRn, hmin, ← hρ, wρ, wR, b0, b1, b2, b3, b4, b5, b6, b7, b8, b9, b10, b11]
    rw [hr]; refine ret_closed rfl ?_ rfl
    have : tenB C.Regions t = false := by simp only [tenB, inB, ← hρ, Bool.and_eq_false_iff, decide_eq_false_iff_not]; omega
    simp [this]
  replace b11 : t.Group ≤ 32 := Classical.byContradiction b11
  simp [GTenant.cells, GConfig.cells, hRn, hmin, ← hρ, wρ, wR, b0, b1, b2, b3, b4, b5, b6, b7, b8, b9, b10, b11]
  rw [hr]; refine ret_closed rfl ?_ rfl
  have : tenB C.Regions t = true := by simp only [tenB, inB, ← hρ, Bool.and_eq_true, decide_eq_true_eq]; omega
  simp [this]

noncomputable def CN2 := mkC [(59, betweenPSp), (41, fitsSp), (43, declaredSp), (40, validTSp), (42, validTSp)]
theorem CN2_ok : SpecsOk Try.prog CN2 := mkC_ok (all_cons tenBetween_spec (all_cons fits_spec (all_cons declared_spec (all_cons valid_spec (all_cons refvalid_spec all_nil)))))
@[simp] theorem CN2_1 : CN2 59 = betweenPSp := rfl
@[simp] theorem CN2_2 : CN2 41 = fitsSp := rfl
@[simp] theorem CN2_3 : CN2 43 = declaredSp := rfl
@[simp] theorem CN2_4 : CN2 40 = validTSp := rfl
@[simp] theorem CN2_5 : CN2 42 = validTSp := rfl

noncomputable def validN : GConfig → Int := hush fun C => if validT C = 0 then (if C.Tenants.all (tenB C.Regions) = true then 0 else 1) else validT C
theorem validN_eq (C : GConfig) : validN C = if validT C = 0 then (if C.Tenants.all (tenB C.Regions) = true then 0 else 1) else validT C := by unfold validN; rw [hush_eq]
theorem validN_bad {C : GConfig} (h : ¬ validT C = 0) : validN C = validT C := by rw [validN_eq, if_neg h]
theorem validN_ok {C : GConfig} (h : validT C = 0) {b : Bool} (hb : C.Tenants.all (tenB C.Regions) = b) : validN C = if b = true then 0 else 1 := by rw [validN_eq, if_pos h, hb]

noncomputable def validNSp := fam (fun i : GConfig => [vConfig i]) (fun _ : GConfig => []) (fun i : GConfig => (Lens i)) (fun i : GConfig => ⟨.int .i64 (validN i), []⟩)
@[simp] theorem validNSp_eq {C : GConfig} (h1 : Lens C) : validNSp ([vConfig C]) ([]) = some (⟨.int .i64 (validN C), []⟩) :=
  fam_eq (A := fun i : GConfig => [vConfig i]) (O := fun _ : GConfig => []) (res := fun i : GConfig => ⟨.int .i64 (validN i), []⟩) (by intro a b h h' <;> simp at h h' <;> simp_all) C h1

def vnSt (C : GConfig) (i : Nat) : St := mkSt [(1, .ptr 0 0 0), (12, .sl 2 7 (GTenant.row C.Tenants)), (13, .int .i64 C.Tenants.length), (14, .int .i64 i)] [(0, cfgO C)] 1
theorem validN_spec : Lift.Spec Try.prog 15 validNSp := by
  refine spec_fam (C := CN2) types_ok CN2_ok follows Try.func15 (by kernel_rfl) rfl (by kernel_rfl) rfl ?_
  rintro C h
  try simp only at h
  refine ⟨by simp, ?_⟩
  intro r hr
  by_cases h0 : validT C = 0
  · have hT := h.2.2.1
    have hR := (validT_ok.1 h0).R
    obtain ⟨hR1, hR4⟩ := hR
    simp [GConfig.cells, h, h0]
    refine axwp_loop (vnSt C) (fun i => i ≤ C.Tenants.length ∧ AllTo (tenB C.Regions) C.Tenants i) (fun i => C.Tenants.length - i) 0 ?_ ⟨Nat.zero_le _, AllTo.zero _ _⟩ ?_
    · refine weak_mk id ?_ ?_ ?_ ?_ <;> simp [cfgO, GConfig.cells]
    · rintro i ⟨hi, ha⟩
      by_cases hik : i < C.Tenants.length
      · obtain ⟨x, hx, hx', _⟩ := get_of_lt hik
        have w4 : IntKind.i64.wrap ((i : Int) + 1) = (i : Int) + 1 := wrap_i64_in (by omega) (by omega)
        cases hz : tenB C.Regions x with
        | true =>
          simp [vnSt, cfgO, GConfig.cells, hik, hx', GTenant.cells, hR1, hR4, hz]
          refine Again.mk (i + 1) ⟨hik, ha.succ hx hz⟩ (by omega) ?_
          refine weak_mk id ?_ ?_ ?_ ?_ <;> simp [cfgO, GConfig.cells, w4]
        | false =>
          simp [vnSt, cfgO, GConfig.cells, hik, hx', GTenant.cells, hR1, hR4, hz]
          rw [hr]; refine ret_closed rfl ?_ rfl
          have := validN_ok h0 (all_at_false hx hz)
          simp [this]
      · have e : i = C.Tenants.length := by omega
        subst e
        simp [vnSt, cfgO, GConfig.cells]
        rw [hr]; refine ret_closed rfl ?_ rfl
        replace ha := ha.whole
        have := validN_ok h0 ha
        simp [this]
  · simp [GConfig.cells, h, h0]
    rw [hr]; refine ret_closed rfl ?_ rfl
    simp [validN_bad h0]
def vrSt5 (C : GConfig) (i : Nat) : St := mkSt [(1, .ptr 0 0 0), (4, .int .i64 i)] [(0, cfgO C)] 1
theorem refvalidN_spec : Lift.Spec Try.prog 16 validNSp := by
  refine spec_fam (C := CN2) types_ok CN2_ok follows Try.func16 (by kernel_rfl) rfl (by kernel_rfl) rfl ?_
  rintro C h
  try simp only at h
  refine ⟨by simp, ?_⟩
  intro r hr
  by_cases h0 : validT C = 0
  · have hT := h.2.2.1
    have hR := (validT_ok.1 h0).R
    obtain ⟨hR1, hR4⟩ := hR
    simp [GConfig.cells, h, h0]
    refine axwp_loop (vrSt5 C) (fun i => i ≤ C.Tenants.length ∧ AllTo (tenB C.Regions) C.Tenants i) (fun i => C.Tenants.length - i) 0 ?_ ⟨Nat.zero_le _, AllTo.zero _ _⟩ ?_
    · refine weak_mk id ?_ ?_ ?_ ?_ <;> simp [cfgO, GConfig.cells]
    · rintro i ⟨hi, ha⟩
      by_cases hik : i < C.Tenants.length
      · obtain ⟨x, hx, hx', _⟩ := get_of_lt hik
        have w4 : IntKind.i64.wrap ((i : Int) + 1) = (i : Int) + 1 := wrap_i64_in (by omega) (by omega)
        cases hz : tenB C.Regions x with
        | true =>
          simp [vrSt5, cfgO, GConfig.cells, hik, hx', GTenant.cells, hR1, hR4, hz]
          refine ⟨⟨by kernel_rfl, by kernel_rfl⟩, ?_⟩
          refine Again.mk (i + 1) ⟨hik, ha.succ hx hz⟩ (by omega) ?_
          refine weak_mk id ?_ ?_ ?_ ?_ <;> simp [cfgO, GConfig.cells, w4]
        | false =>
          simp [vrSt5, cfgO, GConfig.cells, hik, hx', GTenant.cells, hR1, hR4, hz]
          refine ⟨⟨by kernel_rfl, by kernel_rfl⟩, ?_⟩
          rw [hr]; refine ret_closed rfl ?_ rfl
          have := validN_ok h0 (all_at_false hx hz)
          simp [this]
      · have e : i = C.Tenants.length := by omega
        subst e
        simp [vrSt5, cfgO, GConfig.cells]
        rw [hr]; refine ret_closed rfl ?_ rfl
        replace ha := ha.whole
        have := validN_ok h0 ha
        simp [this]
  · simp [GConfig.cells, h, h0]
    rw [hr]; refine ret_closed rfl ?_ rfl
    simp [validN_bad h0]

/-! ### Cells of a tenant -/
def zeroT : GTenant := ⟨0, 0, 0, 0, 0, 0, false⟩
def tnA (C : GConfig) (k : Nat) : Int := (C.Tenants.getD k zeroT).Allowed
def mayB (C : GConfig) (t c : Int) : Bool := exB t C.Tenants.length && hasB (tnA C t.toNat) (regionAt C c)
def apartB (C : GConfig) (a b : Int) : Bool := decide (0 ≤ regionAt C a ∧ 0 ≤ regionAt C b ∧ regionAt C a ≠ regionAt C b)
theorem mayB_out {C : GConfig} {t : Int} (h : exB t C.Tenants.length = false) (c : Int) : mayB C t c = false := by unfold mayB; rw [h]; rfl
theorem mayB_at {C : GConfig} {k : Nat} {x : GTenant} (hx : C.Tenants[k]? = some x) (c : Int) : mayB C k c = hasB x.Allowed (regionAt C c) := by
  have hk := (List.getElem?_eq_some_iff.1 hx).1
  unfold mayB
  rw [exB_iff.2 ⟨by omega, by omega⟩, show tnA C ((k : Int)).toNat = x.Allowed by simp [tnA, List.getD, hx]]; rfl
theorem reg_cases {C : GConfig} (h : TopoOk C) (c : Int) : regionAt C c = -1 ∨ 0 ≤ regionAt C c ∧ regionAt C c < C.Regions := by
  rcases h.reg (zoneAt C c) with ⟨e, _⟩ | ⟨e0, e1, _⟩
  · exact .inl e
  · exact .inr ⟨e0, e1⟩

noncomputable def belongsSp := fam (fun i : Int × Int => [V.int .i64 i.1, .int .i64 i.2]) (fun _ : Int × Int => []) (fun i : Int × Int => (i.1 < 62)) (fun i : Int × Int => ⟨.bool (hasB i.2 i.1), []⟩)
@[simp] theorem belongsSp_eq {i : Int} {s : Int} (h1 : i < 62) : belongsSp ([V.int .i64 i, .int .i64 s]) ([]) = some (⟨.bool (hasB s i), []⟩) :=
  fam_eq (A := fun i : Int × Int => [V.int .i64 i.1, .int .i64 i.2]) (O := fun _ : Int × Int => []) (res := fun i : Int × Int => ⟨.bool (hasB i.2 i.1), []⟩) (by rintro ⟨a0, a1⟩ ⟨b0, b1⟩ h h' <;> simp at h h' <;> simp_all) (i, s) h1

theorem belongs_spec : Lift.Spec Try.prog 44 belongsSp := by
  refine spec_fam (C := C0) types_ok C0_ok follows Try.func44 (by kernel_rfl) rfl (by kernel_rfl) rfl ?_
  rintro ⟨i, s⟩ h
  try simp only at h
  refine ⟨by simp, ?_⟩
  intro r hr
  by_cases h0 : 0 ≤ i
  · have h2 : ¬ i < 0 := by omega
    have h3 : min i.toNat 64 = i.toNat := by omega
    simp [h0, h2, h3, iAnd_one]
    rw [hr]; refine ret_closed rfl ?_ rfl
    simp [hasB, h0, h]
  · simp [h0]
    rw [hr]; refine ret_closed rfl ?_ rfl
    simp [hasB, h0]

noncomputable def CN3 := mkC [(44, belongsSp), (31, regionOfSp), (45, regionOfSp), (32, hasSp)]
theorem CN3_ok : SpecsOk Try.prog CN3 := mkC_ok (all_cons belongs_spec (all_cons regionOf_spec (all_cons refregionOf_spec (all_cons has_spec all_nil))))
@[simp] theorem CN3_1 : CN3 44 = belongsSp := rfl
@[simp] theorem CN3_2 : CN3 31 = regionOfSp := rfl
@[simp] theorem CN3_3 : CN3 45 = regionOfSp := rfl
@[simp] theorem CN3_4 : CN3 32 = hasSp := rfl

noncomputable def maySp := fam (fun i : GConfig × Int × Int => [vConfig i.1, .int .i64 i.2.1, .int .i64 i.2.2]) (fun _ : GConfig × Int × Int => []) (fun i : GConfig × Int × Int => (TopoOk i.1)) (fun i : GConfig × Int × Int => ⟨.bool (mayB i.1 i.2.1 i.2.2), []⟩)
@[simp] theorem maySp_eq {C : GConfig} {t : Int} {c : Int} (h1 : TopoOk C) : maySp ([vConfig C, .int .i64 t, .int .i64 c]) ([]) = some (⟨.bool (mayB C t c), []⟩) :=
  fam_eq (A := fun i : GConfig × Int × Int => [vConfig i.1, .int .i64 i.2.1, .int .i64 i.2.2]) (O := fun _ : GConfig × Int × Int => []) (res := fun i : GConfig × Int × Int => ⟨.bool (mayB i.1 i.2.1 i.2.2), []⟩) (by rintro ⟨a0, a1, a2⟩ ⟨b0, b1, b2⟩ h h' <;> simp at h h' <;> simp_all) (C, t, c) h1

theorem may_spec : Lift.Spec Try.prog 18 maySp := by
  refine spec_fam (C := CN3) types_ok CN3_ok follows Try.func18 (by kernel_rfl) rfl (by kernel_rfl) rfl ?_
  rintro ⟨C, t, c⟩ h
  try simp only at h
  refine ⟨by simp, ?_⟩
  intro r hr
  have hl : regionAt C c < 62 := by have := h.R; rcases reg_cases h c with e | e <;> omega
  rcases ex_cases t C.Tenants.length with ⟨k, rfl, hk, he⟩ | he
  · obtain ⟨x, hx, hx', _⟩ := get_of_lt hk
    have hk' : ¬ C.Tenants.length ≤ k := by omega
    simp [GConfig.cells, h, hk, hk', hx', GTenant.cells, hl]
    refine ⟨⟨by kernel_rfl, by kernel_rfl⟩, ?_⟩
    rw [hr]; refine ret_closed rfl ?_ rfl
    simp [mayB_at hx]
  · have := mayB_out he c
    by_cases h0 : t < 0
    · simp [GConfig.cells, h0]
      rw [hr]; refine ret_closed rfl ?_ rfl
      simp [this]
    · have h1 : (C.Tenants.length : Int) ≤ t := by unfold exB at he; simp at he; omega
      simp [GConfig.cells, h0, h1]
      rw [hr]; refine ret_closed rfl ?_ rfl
      simp [this]
theorem refmay_spec : Lift.Spec Try.prog 19 maySp := by
  refine spec_fam (C := CN3) types_ok CN3_ok follows Try.func19 (by kernel_rfl) rfl (by kernel_rfl) rfl ?_
  rintro ⟨C, t, c⟩ h
  try simp only at h
  refine ⟨by simp, ?_⟩
  intro r hr
  rcases ex_cases t C.Tenants.length with ⟨k, rfl, hk, he⟩ | he
  · obtain ⟨x, hx, hx', _⟩ := get_of_lt hk
    simp [GConfig.cells, h, hk, hx', GTenant.cells]
    refine ⟨⟨by kernel_rfl, by kernel_rfl⟩, ?_⟩
    rw [hr]; refine ret_closed rfl ?_ rfl
    simp [mayB_at hx]
  · have := mayB_out he c
    by_cases h0 : 0 ≤ t
    · have h1 : ¬ t < (C.Tenants.length : Int) := by unfold exB at he; simp at he; omega
      simp [GConfig.cells, h0, h1]
      refine ⟨⟨by kernel_rfl, by kernel_rfl⟩, ?_⟩
      rw [hr]; refine ret_closed rfl ?_ rfl
      simp [this]
    · simp [GConfig.cells, h0]
      refine ⟨⟨by kernel_rfl, by kernel_rfl⟩, ?_⟩
      rw [hr]; refine ret_closed rfl ?_ rfl
      simp [this]

noncomputable def apartSp := fam (fun i : GConfig × Int × Int => [vConfig i.1, .int .i64 i.2.1, .int .i64 i.2.2]) (fun _ : GConfig × Int × Int => []) (fun i : GConfig × Int × Int => (TopoOk i.1)) (fun i : GConfig × Int × Int => ⟨.bool (apartB i.1 i.2.1 i.2.2), []⟩)
@[simp] theorem apartSp_eq {C : GConfig} {a : Int} {b : Int} (h1 : TopoOk C) : apartSp ([vConfig C, .int .i64 a, .int .i64 b]) ([]) = some (⟨.bool (apartB C a b), []⟩) :=
  fam_eq (A := fun i : GConfig × Int × Int => [vConfig i.1, .int .i64 i.2.1, .int .i64 i.2.2]) (O := fun _ : GConfig × Int × Int => []) (res := fun i : GConfig × Int × Int => ⟨.bool (apartB i.1 i.2.1 i.2.2), []⟩) (by rintro ⟨a0, a1, a2⟩ ⟨b0, b1, b2⟩ h h' <;> simp at h h' <;> simp_all) (C, a, b) h1

theorem apart_spec : Lift.Spec Try.prog 20 apartSp := by
  refine spec_fam (C := CN3) types_ok CN3_ok follows Try.func20 (by kernel_rfl) rfl (by kernel_rfl) rfl ?_
  rintro ⟨C, a, b⟩ h
  try simp only at h
  refine ⟨by simp, ?_⟩
  intro r hr
  by_cases ha : ¬ 0 ≤ regionAt C a
  · simp [GConfig.cells, h, ha]
    refine ⟨⟨by kernel_rfl, by kernel_rfl⟩, ?_⟩
    rw [hr]; refine ret_closed rfl ?_ rfl
    simp [apartB, ha]
  replace ha := Classical.byContradiction ha
  by_cases hb : ¬ 0 ≤ regionAt C b
  · simp [GConfig.cells, h, ha, hb]
    refine ⟨⟨by kernel_rfl, by kernel_rfl⟩, ?_⟩
    rw [hr]; refine ret_closed rfl ?_ rfl
    simp [apartB, hb]
  replace hb := Classical.byContradiction hb
  simp [GConfig.cells, h, ha, hb]
  refine ⟨⟨by kernel_rfl, by kernel_rfl⟩, ?_⟩
  rw [hr]; refine ret_closed rfl ?_ rfl
  simp [apartB, ha, hb]
theorem refapart_spec : Lift.Spec Try.prog 21 apartSp := by
  refine spec_fam (C := CN3) types_ok CN3_ok follows Try.func21 (by kernel_rfl) rfl (by kernel_rfl) rfl ?_
  rintro ⟨C, a, b⟩ h
  try simp only at h
  refine ⟨by simp, ?_⟩
  intro r hr
  by_cases ha : ¬ 0 ≤ regionAt C a
  · simp [GConfig.cells, h, ha]
    refine ⟨⟨by kernel_rfl, by kernel_rfl⟩, ?_⟩
    rw [hr]; refine ret_closed rfl ?_ rfl
    simp [apartB, ha]
  replace ha := Classical.byContradiction ha
  by_cases hb : ¬ 0 ≤ regionAt C b
  · simp [GConfig.cells, h, ha, hb]
    refine ⟨⟨by kernel_rfl, by kernel_rfl⟩, ?_⟩
    rw [hr]; refine ret_closed rfl ?_ rfl
    simp [apartB, hb]
  replace hb := Classical.byContradiction hb
  simp [GConfig.cells, h, ha, hb]
  refine ⟨⟨by kernel_rfl, by kernel_rfl⟩, ?_⟩
  rw [hr]; refine ret_closed rfl ?_ rfl
  simp [apartB, ha, hb]
end Go.Proofs.Ytccmghkfofmedaa
