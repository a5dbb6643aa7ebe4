/-
  topo: laws.
-/
import Derived.Test.YtccmghkfofmedaaP7
import Derived.Test.YtccmghkfofmedaaPW2
namespace Go.Proofs.Ytccmghkfofmedaa
open Go.Lift

noncomputable def CP7 := mkC [(40, validTSp), (31, regionOfSp)]
theorem CP7_ok : SpecsOk Try.prog CP7 := mkC_ok (all_cons valid_spec (all_cons regionOf_spec all_nil))
@[simp] theorem CP7_1 : CP7 40 = validTSp := rfl
@[simp] theorem CP7_2 : CP7 31 = regionOfSp := rfl

noncomputable def trueP4 := fam (fun _ : Unit => []) (fun _ : Unit => []) (fun _ : Unit => True) (fun _ : Unit => ⟨.bool true, []⟩)
@[simp] theorem trueP4_eq {u : Unit}  : trueP4 ([]) ([]) = some (⟨.bool true, []⟩) :=
  fam_eq (A := fun _ : Unit => []) (O := fun _ : Unit => []) (res := fun _ : Unit => ⟨.bool true, []⟩) (by intro a b h h' <;> simp at h h' <;> simp_all) u trivial

@[simp] theorem trueP4_at : trueP4 [] [] = some ⟨.bool true, []⟩ := trueP4_eq (u := ())
@[simp] theorem twoSp_at : twoSp [] [] = some ⟨vConfig twoC, []⟩ := twoSp_eq (u := ())
noncomputable def CP8 := mkC [(11, lightSp), (13, configSp), (10, smallSp), (14, bentSp), (33, modSp), (17, betweenSp), (40, validTSp), (42, validTSp), (52, zoneOfSp), (63, zoneOfSp), (31, regionOfSp), (45, regionOfSp), (34, inRegionSp), (22, sameISp)]
theorem CP8_ok : SpecsOk Try.prog CP8 := mkC_ok (all_cons light_spec (all_cons config_spec (all_cons small_spec (all_cons bent_spec (all_cons mod_spec (all_cons between_spec (all_cons valid_spec (all_cons refvalid_spec (all_cons zoneOf_spec (all_cons refzoneOf_spec (all_cons regionOf_spec (all_cons refregionOf_spec (all_cons inRegion_spec (all_cons sameI_spec all_nil))))))))))))))
@[simp] theorem CP8_1 : CP8 11 = lightSp := rfl
@[simp] theorem CP8_2 : CP8 13 = configSp := rfl
@[simp] theorem CP8_3 : CP8 10 = smallSp := rfl
@[simp] theorem CP8_4 : CP8 14 = bentSp := rfl
@[simp] theorem CP8_5 : CP8 33 = modSp := rfl
@[simp] theorem CP8_6 : CP8 17 = betweenSp := rfl
@[simp] theorem CP8_7 : CP8 40 = validTSp := rfl
@[simp] theorem CP8_8 : CP8 42 = validTSp := rfl
@[simp] theorem CP8_9 : CP8 52 = zoneOfSp := rfl
@[simp] theorem CP8_10 : CP8 63 = zoneOfSp := rfl
@[simp] theorem CP8_11 : CP8 31 = regionOfSp := rfl
@[simp] theorem CP8_12 : CP8 45 = regionOfSp := rfl
@[simp] theorem CP8_13 : CP8 34 = inRegionSp := rfl
@[simp] theorem CP8_14 : CP8 22 = sameISp := rfl

theorem made_zones {C : GConfig} (h : TopoOk C) : ¬ C.Zones = [] := fun e => by have := h.Z; rw [e] at this; simp at this
theorem alive_len {C : GConfig} (h : TopoOk C) (s : Int) : (aliveL C s).length ≤ 9223372036854775807 := Nat.le_trans (idxTo_len _ _) (by have := h.N; omega)
theorem inZone_len {C : GConfig} (h : TopoOk C) (s : Int) : (inZoneL C s).length ≤ 9223372036854775807 := Nat.le_trans (idxTo_len _ _) (by have := h.N; omega)
theorem inRegion_len {C : GConfig} (h : TopoOk C) (s : Int) : (inRegionL C s).length ≤ 9223372036854775807 := Nat.le_trans (idxTo_len _ _) (by have := h.N; omega)

def tcSt (C : GConfig) (i : Nat × Int × Int × Int) : St := mkSt [(1, .int .i64 i.2.1), (2, .int .i64 i.2.2.1), (3, .int .i64 i.2.2.2), (9, .ptr 0 0 0), (10, .int .i64 i.1)] [(0, cfgO C)] 1
theorem MadeOk.rho {C : GConfig} (h : MadeOk C) : ∃ ρ : Int, ρ = 2 ^ C.Regions.toNat ∧ 2 ≤ ρ ∧ ρ ≤ 8 := ⟨_, rfl, two_pow_in h.topo.R.1 h.R⟩
theorem has_all {R r : Int} (h3 : R ≤ 3) (hr : 0 ≤ r ∧ r < R) : hasB (2 ^ R.toNat - 1) r = true := by
  obtain ⟨n, rfl⟩ := Int.eq_ofNat_of_zero_le (show 0 ≤ R by omega)
  obtain ⟨k, rfl⟩ := Int.eq_ofNat_of_zero_le hr.1
  exact bits_all ⟨n, by omega⟩ ⟨k, by omega⟩ (show k < n by omega)
theorem has_sub {R a r : Int} (h3 : R ≤ 3) (hr : 0 ≤ r ∧ r < R) (ha : 0 ≤ a ∧ a < 2 ^ R.toNat) : hasB (2 ^ R.toNat - 1 - a) r = !hasB a r := by
  have hp := two_pow_in (show 1 ≤ R by omega) h3
  obtain ⟨n, rfl⟩ := Int.eq_ofNat_of_zero_le (show 0 ≤ R by omega)
  obtain ⟨k, rfl⟩ := Int.eq_ofNat_of_zero_le hr.1
  obtain ⟨b, rfl⟩ := Int.eq_ofNat_of_zero_le ha.1
  refine bits_sub ⟨n, by omega⟩ ⟨b, by omega⟩ ⟨k, by omega⟩ ?_ (show k < n by omega)
  have h2 : (b : Int) < ((2 ^ n : Nat) : Int) := by rw [Int.natCast_pow]; exact ha.2
  exact Int.ofNat_lt.1 h2
theorem has_or {R a b r : Int} (h3 : R ≤ 3) (hr : 0 ≤ r ∧ r < R) (ha : 0 ≤ a ∧ a < 8) (hb : 0 ≤ b ∧ b < 8) (h : hasB a r = true) : hasB (iOr .i64 a b) r = true := by
  obtain ⟨k, rfl⟩ := Int.eq_ofNat_of_zero_le hr.1
  obtain ⟨a, rfl⟩ := Int.eq_ofNat_of_zero_le ha.1
  obtain ⟨b, rfl⟩ := Int.eq_ofNat_of_zero_le hb.1
  exact bits_or ⟨a, by omega⟩ ⟨b, by omega⟩ ⟨k, by omega⟩ h

end Go.Proofs.Ytccmghkfofmedaa
