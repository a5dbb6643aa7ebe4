/-
  make: numbers from a tape.
-/
import Derived.Test.YtlelalnahlpcpaaGreatT2
set_option linter.unusedSimpArgs false
set_option linter.unusedVariables false
namespace Go.Proofs.YtlelalnahlpcpaaGreat
open Go.Lift

theorem mod_eq {v n : Int} (h : 0 < n) : (v.tmod n + n).tmod n = v % n := by
  have h1 := Int.tmod_lt_of_pos v h
  have h2 := Int.lt_tmod_of_pos v h
  rw [Int.tmod_eq_emod_of_nonneg (by omega), Int.add_emod_right]
  have : v.tmod n = v % n ∨ v.tmod n = v % n - n := by
    have h3 := Int.tmod_add_tdiv_mul v n
    have h4 := Int.emod_add_ediv_mul v n
    rcases Int.le_total 0 v with hv | hv
    · left; exact Int.tmod_eq_emod_of_nonneg hv
    · by_cases hz : v % n = 0
      · left
        have : v.tmod n = 0 := Int.tmod_eq_zero_of_dvd (Int.dvd_of_emod_eq_zero hz)
        rw [this, hz]
      · right
        rw [Int.tmod_def] at *
        have hd := Int.tdiv_eq_ediv (a := v) (b := n)
        have hnd : ¬ n ∣ v := fun hd => hz (Int.emod_eq_zero_of_dvd hd)
        rw [if_neg (by
          simp [hnd]
          apply Classical.byContradiction
          intro h0
          have : v = 0 := by omega
          rw [this] at hz; simp at hz)] at hd
        have hs : n.sign = 1 := Int.sign_eq_one_of_pos h
        rw [hd, hs, Int.mul_add, Int.emod_def]; omega
  rcases this with e | e
  · rw [e, Int.emod_emod_of_dvd _ (Int.dvd_refl n)]
  · rw [e, Int.sub_emod_right, Int.emod_emod_of_dvd _ (Int.dvd_refl n)]

noncomputable def modSp := fam (fun i : Int × Int => [V.int .i64 i.1, .int .i64 i.2]) (fun _ : Int × Int => []) (fun i : Int × Int => (0 < i.2) ∧ (i.2 ≤ 4611686018427387904)) (fun i : Int × Int => ⟨.int .i64 (i.1 % i.2), []⟩)
@[simp] theorem modSp_eq {v : Int} {n : Int} (h1 : 0 < n) (h2 : n ≤ 4611686018427387904) : modSp ([V.int .i64 v, .int .i64 n]) ([]) = some (⟨.int .i64 (v % n), []⟩) :=
  fam_eq (A := fun i : Int × Int => [V.int .i64 i.1, .int .i64 i.2]) (O := fun _ : Int × Int => []) (res := fun i : Int × Int => ⟨.int .i64 (i.1 % i.2), []⟩) (by rintro ⟨a0, a1⟩ ⟨b0, b1⟩ h h' <;> simp at h h' <;> simp_all) (v, n) ⟨h1, h2⟩

theorem mod_spec : Lift.Spec Tryz.prog 9 modSp := by
  refine spec_fam (C := C0) types_ok C0_ok follows Tryz.func9 (by kernel_rfl) rfl (by kernel_rfl) rfl ?_
  rintro ⟨v, n⟩ ⟨h1, h2⟩
  try simp only at h1 h2
  refine ⟨by simp, ?_⟩
  intro r hr
  have h3 := Int.tmod_lt_of_pos v h1
  have h4 := Int.lt_tmod_of_pos v h1
  have w : IntKind.i64.wrap (v.tmod n + n) = v.tmod n + n := wrap_i64_in (by omega) (by omega)
  have h0 : ¬ n = 0 := by omega
  simp [h0, w, mod_eq h1]
  rw [hr]; refine ret_closed rfl ?_ rfl
  simp

noncomputable def CM1 := mkC [(9, modSp)]
theorem CM1_ok : SpecsOk Tryz.prog CM1 := mkC_ok (all_cons mod_spec all_nil)
@[simp] theorem CM1_1 : CM1 9 = modSp := rfl

noncomputable def betweenSp := fam (fun i : Int × Int × Int => [V.int .i64 i.1, .int .i64 i.2.1, .int .i64 i.2.2]) (fun _ : Int × Int × Int => []) (fun i : Int × Int × Int => (i.2.1 ≤ i.2.2) ∧ (-1099511627776 ≤ i.2.1) ∧ (i.2.2 ≤ 1099511627776)) (fun i : Int × Int × Int => ⟨.int .i64 (i.2.1 + i.1 % (i.2.2 - i.2.1 + 1)), []⟩)
@[simp] theorem betweenSp_eq {v : Int} {low : Int} {high : Int} (h1 : low ≤ high) (h2 : -1099511627776 ≤ low) (h3 : high ≤ 1099511627776) : betweenSp ([V.int .i64 v, .int .i64 low, .int .i64 high]) ([]) = some (⟨.int .i64 (low + v % (high - low + 1)), []⟩) :=
  fam_eq (A := fun i : Int × Int × Int => [V.int .i64 i.1, .int .i64 i.2.1, .int .i64 i.2.2]) (O := fun _ : Int × Int × Int => []) (res := fun i : Int × Int × Int => ⟨.int .i64 (i.2.1 + i.1 % (i.2.2 - i.2.1 + 1)), []⟩) (by rintro ⟨a0, a1, a2⟩ ⟨b0, b1, b2⟩ h h' <;> simp at h h' <;> simp_all) (v, low, high) ⟨h1, h2, h3⟩

theorem between_spec : Lift.Spec Tryz.prog 11 betweenSp := by
  refine spec_fam (C := CM1) types_ok CM1_ok follows Tryz.func11 (by kernel_rfl) rfl (by kernel_rfl) rfl ?_
  rintro ⟨v, low, high⟩ ⟨h1, h2, h3⟩
  try simp only at h1 h2 h3
  refine ⟨by simp, ?_⟩
  intro r hr
  have w1 : IntKind.i64.wrap (high - low) = high - low := wrap_i64_in (by omega) (by omega)
  have w2 : IntKind.i64.wrap (high - low + 1) = high - low + 1 := wrap_i64_in (by omega) (by omega)
  have h4 : 0 < high - low + 1 := by omega
  have h5 : high - low + 1 ≤ 4611686018427387904 := by omega
  have h6 := Int.emod_nonneg v (show high - low + 1 ≠ 0 by omega)
  have h7 := Int.emod_lt_of_pos v h4
  have w3 : IntKind.i64.wrap (low + v % (high - low + 1)) = low + v % (high - low + 1) := wrap_i64_in (by omega) (by omega)
  simp [w1, w2, h4, h5, w3]
  rw [hr]; refine ret_closed rfl ?_ rfl
  simp

/-- The place of a tape behind j numbers. -/
def tpos (L : List Int) (j : Nat) : Int := if L = [] then 0 else (j : Int)
/-- The number j of a tape, modulo n. -/
noncomputable def dr (L : List Int) (j : Nat) (n : Int) : Int := if L = [] then 0 else (L.getD (j % L.length) 0 % 1073741824 + ((j / L.length : Nat) : Int) * 7) % n
theorem dr_nonneg (L : List Int) (j : Nat) {n : Int} (h : 0 < n) : 0 ≤ dr L j n := by
  unfold dr; split
  · exact Int.le_refl _
  · exact Int.emod_nonneg _ (by omega)
theorem dr_lt (L : List Int) (j : Nat) {n : Int} (h : 0 < n) : dr L j n < n := by
  unfold dr; split
  · exact h
  · exact Int.emod_lt_of_pos _ h

noncomputable def CM2 := mkC [(9, modSp)]
theorem CM2_ok : SpecsOk Tryz.prog CM2 := mkC_ok (all_cons mod_spec all_nil)
@[simp] theorem CM2_1 : CM2 9 = modSp := rfl

noncomputable def CM3 := mkC []
theorem CM3_ok : SpecsOk Tryz.prog CM3 := mkC_ok all_nil

noncomputable def lightSp := fam (fun i : List Int => [V.sl 2 1 (intRow i)]) (fun _ : List Int => []) (fun _ : List Int => True) (fun i : List Int => ⟨.bool (decide (i.length ≤ 200)), []⟩)
@[simp] theorem lightSp_eq {L : List Int}  : lightSp ([V.sl 2 1 (intRow L)]) ([]) = some (⟨.bool (decide (L.length ≤ 200)), []⟩) :=
  fam_eq (A := fun i : List Int => [V.sl 2 1 (intRow i)]) (O := fun _ : List Int => []) (res := fun i : List Int => ⟨.bool (decide (i.length ≤ 200)), []⟩) (by intro a b h h' <;> simp at h h' <;> simp_all) L trivial

def intsO (zs : List Int) : AObj := ⟨3, 1, intRow zs, false, 2, .rw⟩
end Go.Proofs.YtlelalnahlpcpaaGreat
