/-
  topo: laws.
-/
import Derived.Test.YtgmmhhackiimcaaP7
import Derived.Test.YtgmmhhackiimcaaPW2
namespace Go.Proofs.Ytgmmhhackiimcaa
open Go.Lift

noncomputable def CP7 := mkC [(33, twoSp), (29, aliveSp), (14, validTSp), (18, regionOfSp), (31, majoritySp)]
theorem CP7_ok : SpecsOk Try.prog CP7 := mkC_ok (all_cons two_spec (all_cons alive_spec (all_cons valid_spec (all_cons regionOf_spec (all_cons majority_spec all_nil)))))
@[simp] theorem CP7_1 : CP7 33 = twoSp := rfl
@[simp] theorem CP7_2 : CP7 29 = aliveSp := rfl
@[simp] theorem CP7_3 : CP7 14 = validTSp := rfl
@[simp] theorem CP7_4 : CP7 18 = regionOfSp := rfl
@[simp] theorem CP7_5 : CP7 31 = majoritySp := rfl

noncomputable def trueP4 := fam (fun _ : Unit => []) (fun _ : Unit => []) (fun _ : Unit => True) (fun _ : Unit => ⟨.bool true, []⟩)
@[simp] theorem trueP4_eq {u : Unit}  : trueP4 ([]) ([]) = some (⟨.bool true, []⟩) :=
  fam_eq (A := fun _ : Unit => []) (O := fun _ : Unit => []) (res := fun _ : Unit => ⟨.bool true, []⟩) (by intro a b h h' <;> simp at h h' <;> simp_all) u trivial

@[simp] theorem trueP4_at : trueP4 [] [] = some ⟨.bool true, []⟩ := trueP4_eq (u := ())
@[simp] theorem twoSp_at : twoSp [] [] = some ⟨vConfig twoC, []⟩ := twoSp_eq (u := ())
theorem awakeT_spec : Lift.Spec Try.prog 11 trueP4 := by
  refine spec_fam (C := CP7) types_ok CP7_ok follows Try.func11 (by kernel_rfl) rfl (by kernel_rfl) rfl ?_
  rintro u _
  refine ⟨by simp, ?_⟩
  intro r hr
  have hl := two_topo.lens
  have ht := two_topo
  simp [GConfig.cells, ht, hl, two_valid, two_region1, two_region2, two_alive, two_maj1, two_maj2]
  rw [hr]; refine ret_closed rfl ?_ rfl
  simp

noncomputable def CP8 := mkC [(11, trueP4), (10, lightSp), (12, configSp), (9, smallSp), (13, bentSp), (28, modSp), (27, betweenSp), (14, validTSp), (15, validTSp), (16, zoneOfSp), (17, zoneOfSp), (18, regionOfSp), (19, regionOfSp), (21, inZoneSp), (22, inZoneSp), (23, inRegionSp), (24, inRegionSp), (29, aliveSp), (30, aliveSp), (25, capacitySp), (26, capacitySp), (31, majoritySp), (32, majoritySp), (20, sameISp)]
theorem CP8_ok : SpecsOk Try.prog CP8 := mkC_ok (all_cons awakeT_spec (all_cons light_spec (all_cons config_spec (all_cons small_spec (all_cons bent_spec (all_cons mod_spec (all_cons between_spec (all_cons valid_spec (all_cons refvalid_spec (all_cons zoneOf_spec (all_cons refzoneOf_spec (all_cons regionOf_spec (all_cons refregionOf_spec (all_cons inZone_spec (all_cons refinZone_spec (all_cons inRegion_spec (all_cons refinRegion_spec (all_cons alive_spec (all_cons refalive_spec (all_cons capacity_spec (all_cons refcapacity_spec (all_cons majority_spec (all_cons refmajority_spec (all_cons sameI_spec all_nil))))))))))))))))))))))))
@[simp] theorem CP8_1 : CP8 11 = trueP4 := rfl
@[simp] theorem CP8_2 : CP8 10 = lightSp := rfl
@[simp] theorem CP8_3 : CP8 12 = configSp := rfl
@[simp] theorem CP8_4 : CP8 9 = smallSp := rfl
@[simp] theorem CP8_5 : CP8 13 = bentSp := rfl
@[simp] theorem CP8_6 : CP8 28 = modSp := rfl
@[simp] theorem CP8_7 : CP8 27 = betweenSp := rfl
@[simp] theorem CP8_8 : CP8 14 = validTSp := rfl
@[simp] theorem CP8_9 : CP8 15 = validTSp := rfl
@[simp] theorem CP8_10 : CP8 16 = zoneOfSp := rfl
@[simp] theorem CP8_11 : CP8 17 = zoneOfSp := rfl
@[simp] theorem CP8_12 : CP8 18 = regionOfSp := rfl
@[simp] theorem CP8_13 : CP8 19 = regionOfSp := rfl
@[simp] theorem CP8_14 : CP8 21 = inZoneSp := rfl
@[simp] theorem CP8_15 : CP8 22 = inZoneSp := rfl
@[simp] theorem CP8_16 : CP8 23 = inRegionSp := rfl
@[simp] theorem CP8_17 : CP8 24 = inRegionSp := rfl
@[simp] theorem CP8_18 : CP8 29 = aliveSp := rfl
@[simp] theorem CP8_19 : CP8 30 = aliveSp := rfl
@[simp] theorem CP8_20 : CP8 25 = capacitySp := rfl
@[simp] theorem CP8_21 : CP8 26 = capacitySp := rfl
@[simp] theorem CP8_22 : CP8 31 = majoritySp := rfl
@[simp] theorem CP8_23 : CP8 32 = majoritySp := rfl
@[simp] theorem CP8_24 : CP8 20 = sameISp := rfl

theorem made_zones {C : GConfig} (h : TopoOk C) : ¬ C.Zones = [] := fun e => by have := h.Z; rw [e] at this; simp at this
theorem alive_len {C : GConfig} (h : TopoOk C) (s : Int) : (aliveL C s).length ≤ 9223372036854775807 := Nat.le_trans (idxTo_len _ _) (by have := h.N; omega)
theorem inZone_len {C : GConfig} (h : TopoOk C) (s : Int) : (inZoneL C s).length ≤ 9223372036854775807 := Nat.le_trans (idxTo_len _ _) (by have := h.N; omega)
theorem inRegion_len {C : GConfig} (h : TopoOk C) (s : Int) : (inRegionL C s).length ≤ 9223372036854775807 := Nat.le_trans (idxTo_len _ _) (by have := h.N; omega)

theorem law_TopoValid : Lift.Spec Try.prog 3 (fam (fun i : GConfig × (List Int) × Int × Int => [vConfig i.1, .sl 2 1 (intRow i.2.1), .int .i64 i.2.2.1, .int .i64 i.2.2.2]) (fun _ => []) (fun _ : GConfig × (List Int) × Int × Int => True) (fun _ => ⟨.bool true, []⟩)) := by
  refine spec_fam (C := CP8) types_ok CP8_ok follows Try.func3 (by kernel_rfl) rfl (by kernel_rfl) rfl ?_
  rintro ⟨raw, l, w, b⟩ _
  refine ⟨by simp, ?_⟩
  intro r hr
  by_cases hs : ¬ ((raw.Zones.length : Int) ≤ 20 ∧ (raw.Cells.length : Int) ≤ 20 ∧ (raw.Tenants.length : Int) ≤ 40 ∧ (raw.Versions.length : Int) ≤ 40 ∧ (raw.Replicas.length : Int) ≤ 12 ∧ (raw.Observers.length : Int) ≤ 12)
  · have hs' := decide_eq_false hs
    simp [GConfig.cells, hs']
    rw [hr]; refine ret_closed rfl ?_ rfl
    simp
  · have hs1 : (raw.Zones.length : Int) ≤ 20 ∧ (raw.Cells.length : Int) ≤ 20 ∧ (raw.Tenants.length : Int) ≤ 40 ∧ (raw.Versions.length : Int) ≤ 40 ∧ (raw.Replicas.length : Int) ≤ 12 ∧ (raw.Observers.length : Int) ≤ 12 := Classical.byContradiction hs
    have hs' := decide_eq_true hs1
    by_cases hl : l.length ≤ 200
    · have h := (cfgOf_ok l).topo
      have hz0 := made_zones h
      have k1 : Lens raw := by unfold Lens; omega
      have k2 := h.lens
      have k3 := bent_lens h w b
      have k4 := validT_ok.2 h
      simp [GConfig.cells, hs', hl, h, hz0, k1, k2, k3, k4]
      refine ⟨⟨by kernel_rfl, by kernel_rfl⟩, ?_⟩
      rw [hr]; refine ret_closed rfl ?_ rfl
      simp
    · simp [GConfig.cells, hs', hl]
      rw [hr]; refine ret_closed rfl ?_ rfl
      simp

theorem law_TopoSurvives : Lift.Spec Try.prog 5 (fam (fun i : (List Int) × Int => [V.sl 2 1 (intRow i.1), .int .i64 i.2]) (fun _ => []) (fun _ : (List Int) × Int => True) (fun _ => ⟨.bool true, []⟩)) := by
  refine spec_fam (C := CP8) types_ok CP8_ok follows Try.func5 (by kernel_rfl) rfl (by kernel_rfl) rfl ?_
  rintro ⟨l, lost⟩ _
  refine ⟨by simp, ?_⟩
  intro r hr
  by_cases hl : l.length ≤ 200
  · have h := (cfgOf_ok l).topo
    have hz0 := made_zones h
    have q := alive_len h
    simp [GConfig.cells, hl, h, hz0, q]
    refine ⟨⟨by kernel_rfl, by kernel_rfl⟩, ?_⟩
    rw [hr]; refine ret_closed rfl ?_ rfl
    simp
  · simp [hl]
    rw [hr]; refine ret_closed rfl ?_ rfl
    simp

def tcSt (C : GConfig) (i : Nat × Int × Int × Int) : St := mkSt [(1, .int .i64 i.2.1), (2, .int .i64 i.2.2.1), (3, .int .i64 i.2.2.2), (9, .ptr 0 0 0), (10, .int .i64 i.1)] [(0, cfgO C)] 1
theorem law_TopoCells : Lift.Spec Try.prog 4 (fam (fun i : (List Int) × Int × Int × Int => [V.sl 2 1 (intRow i.1), .int .i64 i.2.1, .int .i64 i.2.2.1, .int .i64 i.2.2.2]) (fun _ => []) (fun _ : (List Int) × Int × Int × Int => True) (fun _ => ⟨.bool true, []⟩)) := by
  refine spec_fam (C := CP8) types_ok CP8_ok follows Try.func4 (by kernel_rfl) rfl (by kernel_rfl) rfl ?_
  rintro ⟨l, x, y, z⟩ _
  refine ⟨by simp, ?_⟩
  intro r hr
  by_cases hl : l.length ≤ 200
  · have h := (cfgOf_ok l).topo
    have hz0 := made_zones h
    have q1 := inZone_len h
    have q2 := inRegion_len h
    simp [GConfig.cells, hl, hz0]
    refine axwp_loop (tcSt (cfgOf l)) (fun i => i.1 ≤ 2) (fun i => 2 - i.1) (0, x, y, z) ?_ (Nat.zero_le _) ?_
    · refine weak_at [.inr 9] ?_ ?_ ?_ ?_ <;> simp [cfgO, GConfig.cells, hz0]
    · rintro ⟨i, x, y, z⟩ hi
      simp only at hi
      by_cases hi2 : i < 2
      · have hi2' : (i : Int) < 2 := by omega
        have w4 : IntKind.i64.wrap ((i : Int) + 1) = (i : Int) + 1 := wrap_i64_in (by omega) (by omega)
        simp [tcSt, cfgO, GConfig.cells, hz0, hi2', h, q1, q2]
        refine ⟨⟨by kernel_rfl, by kernel_rfl⟩, ?_⟩
        refine Again.mk (i + 1, -1 + x % 10, -1 + y % 10, -1 + z % 6) hi2 (by show 2 - (i + 1) < 2 - i; omega) ?_
        refine weak_mk id ?_ ?_ ?_ ?_ <;> simp [cfgO, GConfig.cells, hz0, w4]
      · have hi2' : ¬ (i : Int) < 2 := by omega
        simp [tcSt, hi2']
        rw [hr]; refine ret_closed rfl ?_ rfl
        simp
  · simp [hl]
    rw [hr]; refine ret_closed rfl ?_ rfl
    simp

theorem MadeOk.rho {C : GConfig} (h : MadeOk C) : ∃ ρ : Int, ρ = 2 ^ C.Regions.toNat ∧ 2 ≤ ρ ∧ ρ ≤ 8 := ⟨_, rfl, two_pow_in h.topo.R.1 h.R⟩
theorem has_all {R r : Int} (h3 : R ≤ 3) (hr : 0 ≤ r ∧ r < R) : hasB (2 ^ R.toNat - 1) r = true := by
  obtain ⟨n, rfl⟩ := Int.eq_ofNat_of_zero_le (show 0 ≤ R by omega)
  obtain ⟨k, rfl⟩ := Int.eq_ofNat_of_zero_le hr.1
  exact bits_all ⟨n, by omega⟩ ⟨k, by omega⟩ (show k < n by omega)
theorem has_sub {R a r : Int} (h3 : R ≤ 3) (hr : 0 ≤ r ∧ r < R) (ha : 0 ≤ a ∧ a < 2 ^ R.toNat) : hasB (2 ^ R.toNat - 1 - a) r = !hasB a r := by
  have hp := two_pow_in (show 1 ≤ R by omega) h3
  obtain ⟨n, rfl⟩ := Int.eq_ofNat_of_zero_le (show 0 ≤ R by omega)
  obtain ⟨k, rfl⟩ := Int.eq_ofNat_of_zero_le hr.1
  obtain ⟨b, rfl⟩ := Int.eq_ofNat_of_zero_le ha.1
  refine bits_sub ⟨n, by omega⟩ ⟨b, by omega⟩ ⟨k, by omega⟩ ?_ (show k < n by omega)
  have h2 : (b : Int) < ((2 ^ n : Nat) : Int) := by rw [Int.natCast_pow]; exact ha.2
  exact Int.ofNat_lt.1 h2
theorem has_or {R a b r : Int} (h3 : R ≤ 3) (hr : 0 ≤ r ∧ r < R) (ha : 0 ≤ a ∧ a < 8) (hb : 0 ≤ b ∧ b < 8) (h : hasB a r = true) : hasB (iOr .i64 a b) r = true := by
  obtain ⟨k, rfl⟩ := Int.eq_ofNat_of_zero_le hr.1
  obtain ⟨a, rfl⟩ := Int.eq_ofNat_of_zero_le ha.1
  obtain ⟨b, rfl⟩ := Int.eq_ofNat_of_zero_le hb.1
  exact bits_or ⟨a, by omega⟩ ⟨b, by omega⟩ ⟨k, by omega⟩ h

theorem law_TopoMajority : Lift.Spec Try.prog 8 (fam (fun i : (List Int) × Int × Int => [V.sl 2 1 (intRow i.1), .int .i64 i.2.1, .int .i64 i.2.2]) (fun _ => []) (fun _ : (List Int) × Int × Int => True) (fun _ => ⟨.bool true, []⟩)) := by
  refine spec_fam (C := CP8) types_ok CP8_ok follows Try.func8 (by kernel_rfl) rfl (by kernel_rfl) rfl ?_
  rintro ⟨l, lost, more⟩ _
  refine ⟨by simp, ?_⟩
  intro r hr
  by_cases hl : l.length ≤ 200
  · have hM := cfgOf_ok l
    have h := hM.topo
    have hz0 := made_zones h
    have hR1 := h.R.1
    have hR3 := hM.R
    have wR : IntKind.u64.wrap (cfgOf l).Regions = (cfgOf l).Regions := wrap_u64_in (by omega) (by omega)
    have hmin : min (cfgOf l).Regions.toNat 64 = (cfgOf l).Regions.toNat := by omega
    have hRn : ¬ (cfgOf l).Regions < 0 := by omega
    obtain ⟨ρ, hρ, r2, r8⟩ := hM.rho
    have wρ : IntKind.i64.wrap ρ = ρ := wrap_i64_in (by omega) (by omega)
    have wρ1 : IntKind.i64.wrap (ρ - 1) = ρ - 1 := wrap_i64_in (by omega) (by omega)
    have lρ : 0 < ρ := by omega
    have lρ2 : ρ ≤ 4611686018427387904 := by omega
    have a0 := Int.emod_nonneg lost (show ρ ≠ 0 by omega)
    have a1 := Int.emod_lt_of_pos lost lρ
    have b0 := Int.emod_nonneg more (show ρ ≠ 0 by omega)
    have b1 := Int.emod_lt_of_pos more lρ
    have wa : IntKind.i64.wrap (ρ - 1 - lost % ρ) = ρ - 1 - lost % ρ := wrap_i64_in (by omega) (by omega)
    have m0 : majB (cfgOf l) 0 = true := by
      have : standTo (cfgOf l) 0 (cfgOf l).Replicas.length = (cfgOf l).Replicas.length := by
        unfold standTo lostZ
        rw [List.take_length, List.filter_eq_self.2 (fun z _ => by simp [has_zero])]
      have hp := h.P
      simp only [majB, decide_eq_true_eq]; omega
    have m1 : majB (cfgOf l) (ρ - 1) = false := by
      rw [maj_not h (a := 0) (b := ρ - 1), m0]; rfl
      intro z hz
      unfold lostZ
      rw [has_zero, hρ, has_all hR3 (h.regR hz)]; rfl
    have m2 : majB (cfgOf l) (iOr .i64 (lost % ρ) (more % ρ)) = true → majB (cfgOf l) (lost % ρ) = true := by
      refine maj_mono fun z hz => ?_
      unfold lostZ
      exact has_or hR3 (h.regR hz) ⟨a0, by omega⟩ ⟨b0, by omega⟩
    have m3 : majB (cfgOf l) (ρ - 1 - lost % ρ) = !majB (cfgOf l) (lost % ρ) := by
      refine maj_not h fun z hz => ?_
      unfold lostZ
      conv => lhs; rw [hρ]
      rw [← hρ, show ρ - 1 - lost % ρ = 2 ^ (cfgOf l).Regions.toNat - 1 - lost % ρ by rw [← hρ], has_sub hR3 (h.regR hz) ⟨a0, by rw [← hρ]; exact a1⟩]
    generalize hB : majB (cfgOf l) (iOr .i64 (lost % ρ) (more % ρ)) = B at m2
    generalize hA : majB (cfgOf l) (lost % ρ) = A at m2 m3
    have key : B = false ∧ A = false ∨ B = false ∧ A = true ∨ B = true ∧ A = true := by cases A <;> cases B <;> simp at m2 ⊢
    rcases key with ⟨rfl, rfl⟩ | ⟨rfl, rfl⟩ | ⟨rfl, rfl⟩
    · simp [GConfig.cells, hl, h, hz0, wR, hmin, hRn, ← hρ, wρ, wρ1, lρ, lρ2, wa, m0, m1, m3, hA, hB]
      refine ⟨⟨by kernel_rfl, by kernel_rfl⟩, ?_⟩
      rw [hr]; refine ret_closed rfl ?_ rfl
      simp
    · simp [GConfig.cells, hl, h, hz0, wR, hmin, hRn, ← hρ, wρ, wρ1, lρ, lρ2, wa, m0, m1, m3, hA, hB]
      refine ⟨⟨by kernel_rfl, by kernel_rfl⟩, ?_⟩
      rw [hr]; refine ret_closed rfl ?_ rfl
      simp
    · simp [GConfig.cells, hl, h, hz0, wR, hmin, hRn, ← hρ, wρ, wρ1, lρ, lρ2, wa, m0, m1, m3, hA, hB]
      refine ⟨⟨by kernel_rfl, by kernel_rfl⟩, ?_⟩
      rw [hr]; refine ret_closed rfl ?_ rfl
      simp
  · simp [hl]
    rw [hr]; refine ret_closed rfl ?_ rfl
    simp
end Go.Proofs.Ytgmmhhackiimcaa
