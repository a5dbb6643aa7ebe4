/-
  make: numbers from a tape.
-/
import Derived.Test.YtegjhmhhbmnljaaDoorT2
namespace Go.Proofs.YtegjhmhhbmnljaaDoor
open Go.Lift

theorem mod_eq {v n : Int} (h : 0 < n) : (v.tmod n + n).tmod n = v % n := by
  have h1 := Int.tmod_lt_of_pos v h
  have h2 := Int.lt_tmod_of_pos v h
  rw [Int.tmod_eq_emod_of_nonneg (by omega), Int.add_emod_right]
  have : v.tmod n = v % n ∨ v.tmod n = v % n - n := by
    have h3 := Int.tmod_add_tdiv_mul v n
    have h4 := Int.emod_add_ediv_mul v n
    rcases Int.le_total 0 v with hv | hv
    · left; exact Int.tmod_eq_emod_of_nonneg hv
    · by_cases hz : v % n = 0
      · left
        have : v.tmod n = 0 := Int.tmod_eq_zero_of_dvd (Int.dvd_of_emod_eq_zero hz)
        rw [this, hz]
      · right
        rw [Int.tmod_def] at *
        have hd := Int.tdiv_eq_ediv (a := v) (b := n)
        have hnd : ¬ n ∣ v := fun hd => hz (Int.emod_eq_zero_of_dvd hd)
        rw [if_neg (by
          simp [hnd]
          apply Classical.byContradiction
          intro h0
          have : v = 0 := by omega
          rw [this] at hz; simp at hz)] at hd
        have hs : n.sign = 1 := Int.sign_eq_one_of_pos h
        rw [hd, hs, Int.mul_add, Int.emod_def]; omega
  rcases this with e | e
  · rw [e, Int.emod_emod_of_dvd _ (Int.dvd_refl n)]
  · rw [e, Int.sub_emod_right, Int.emod_emod_of_dvd _ (Int.dvd_refl n)]

noncomputable def modSp := fam (fun i : Int × Int => [V.int .i64 i.1, .int .i64 i.2]) (fun _ : Int × Int => []) (fun i : Int × Int => (0 < i.2) ∧ (i.2 ≤ 4611686018427387904)) (fun i : Int × Int => ⟨.int .i64 (i.1 % i.2), []⟩)
@[simp] theorem modSp_eq {v : Int} {n : Int} (h1 : 0 < n) (h2 : n ≤ 4611686018427387904) : modSp ([V.int .i64 v, .int .i64 n]) ([]) = some (⟨.int .i64 (v % n), []⟩) :=
  fam_eq (A := fun i : Int × Int => [V.int .i64 i.1, .int .i64 i.2]) (O := fun _ : Int × Int => []) (res := fun i : Int × Int => ⟨.int .i64 (i.1 % i.2), []⟩) (by rintro ⟨a0, a1⟩ ⟨b0, b1⟩ h h' <;> simp at h h' <;> simp_all) (v, n) ⟨h1, h2⟩

theorem mod_spec : Lift.Spec Tryd.prog 31 modSp := by
  refine spec_fam (C := C0) types_ok C0_ok follows Tryd.func31 (by kernel_rfl) rfl (by kernel_rfl) rfl ?_
  rintro ⟨v, n⟩ ⟨h1, h2⟩
  try simp only at h1 h2
  refine ⟨by simp, ?_⟩
  intro r hr
  have h3 := Int.tmod_lt_of_pos v h1
  have h4 := Int.lt_tmod_of_pos v h1
  have w : IntKind.i64.wrap (v.tmod n + n) = v.tmod n + n := wrap_i64_in (by omega) (by omega)
  have h0 : ¬ n = 0 := by omega
  simp [h0, w, mod_eq h1]
  rw [hr]; refine ret_closed rfl ?_ rfl
  simp

noncomputable def CM1 := mkC [(31, modSp)]
theorem CM1_ok : SpecsOk Tryd.prog CM1 := mkC_ok (all_cons mod_spec all_nil)
@[simp] theorem CM1_1 : CM1 31 = modSp := rfl

noncomputable def betweenSp := fam (fun i : Int × Int × Int => [V.int .i64 i.1, .int .i64 i.2.1, .int .i64 i.2.2]) (fun _ : Int × Int × Int => []) (fun i : Int × Int × Int => (i.2.1 ≤ i.2.2) ∧ (-1099511627776 ≤ i.2.1) ∧ (i.2.2 ≤ 1099511627776)) (fun i : Int × Int × Int => ⟨.int .i64 (i.2.1 + i.1 % (i.2.2 - i.2.1 + 1)), []⟩)
@[simp] theorem betweenSp_eq {v : Int} {low : Int} {high : Int} (h1 : low ≤ high) (h2 : -1099511627776 ≤ low) (h3 : high ≤ 1099511627776) : betweenSp ([V.int .i64 v, .int .i64 low, .int .i64 high]) ([]) = some (⟨.int .i64 (low + v % (high - low + 1)), []⟩) :=
  fam_eq (A := fun i : Int × Int × Int => [V.int .i64 i.1, .int .i64 i.2.1, .int .i64 i.2.2]) (O := fun _ : Int × Int × Int => []) (res := fun i : Int × Int × Int => ⟨.int .i64 (i.2.1 + i.1 % (i.2.2 - i.2.1 + 1)), []⟩) (by rintro ⟨a0, a1, a2⟩ ⟨b0, b1, b2⟩ h h' <;> simp at h h' <;> simp_all) (v, low, high) ⟨h1, h2, h3⟩

theorem between_spec : Lift.Spec Tryd.prog 15 betweenSp := by
  refine spec_fam (C := CM1) types_ok CM1_ok follows Tryd.func15 (by kernel_rfl) rfl (by kernel_rfl) rfl ?_
  rintro ⟨v, low, high⟩ ⟨h1, h2, h3⟩
  try simp only at h1 h2 h3
  refine ⟨by simp, ?_⟩
  intro r hr
  have w1 : IntKind.i64.wrap (high - low) = high - low := wrap_i64_in (by omega) (by omega)
  have w2 : IntKind.i64.wrap (high - low + 1) = high - low + 1 := wrap_i64_in (by omega) (by omega)
  have h4 : 0 < high - low + 1 := by omega
  have h5 : high - low + 1 ≤ 4611686018427387904 := by omega
  have h6 := Int.emod_nonneg v (show high - low + 1 ≠ 0 by omega)
  have h7 := Int.emod_lt_of_pos v h4
  have w3 : IntKind.i64.wrap (low + v % (high - low + 1)) = low + v % (high - low + 1) := wrap_i64_in (by omega) (by omega)
  simp [w1, w2, h4, h5, w3]
  rw [hr]; refine ret_closed rfl ?_ rfl
  simp

/-- The place of a tape behind j numbers. -/
def tpos (L : List Int) (j : Nat) : Int := if L = [] then 0 else (j : Int)
def tapeO (L : List Int) (j : Nat) : AObj := ⟨97, 2, [[.sl 2 1 (intRow L), .int .i64 (tpos L j)]], true, 1, .rw⟩
/-- The number j of a tape, modulo n. -/
noncomputable def dr (L : List Int) (j : Nat) (n : Int) : Int := if L = [] then 0 else (L.getD (j % L.length) 0 % 1073741824 + ((j / L.length : Nat) : Int) * 7) % n
theorem dr_nonneg (L : List Int) (j : Nat) {n : Int} (h : 0 < n) : 0 ≤ dr L j n := by
  unfold dr; split
  · exact Int.le_refl _
  · exact Int.emod_nonneg _ (by omega)
theorem dr_lt (L : List Int) (j : Nat) {n : Int} (h : 0 < n) : dr L j n < n := by
  unfold dr; split
  · exact h
  · exact Int.emod_lt_of_pos _ h

noncomputable def newTSp := fam (fun i : List Int => [V.sl 2 1 (intRow i)]) (fun _ : List Int => []) (fun _ : List Int => True) (fun i : List Int => ⟨.ptr 0 0 0, [tapeO i 0]⟩)
@[simp] theorem newTSp_eq {L : List Int}  : newTSp ([V.sl 2 1 (intRow L)]) ([]) = some (⟨.ptr 0 0 0, [tapeO L 0]⟩) :=
  fam_eq (A := fun i : List Int => [V.sl 2 1 (intRow i)]) (O := fun _ : List Int => []) (res := fun i : List Int => ⟨.ptr 0 0 0, [tapeO i 0]⟩) (by intro a b h h' <;> simp at h h' <;> simp_all) L trivial

theorem newT_spec : Lift.Spec Tryd.prog 29 newTSp := by
  refine spec_fam (C := C0) types_ok C0_ok follows Tryd.func29 (by kernel_rfl) rfl (by kernel_rfl) rfl ?_
  rintro L _
  refine ⟨by simp, ?_⟩
  intro r hr
  simp
  rw [hr]
  refine Ret.weak (ret_at [.inr 2] rfl ?_ ?_ (by simp) ?_ ?_ ?_ ?_) (weak_fl 24 1 ⟨97, 2, [[.sl 2 1 (intRow L), .int .i64 0]], true, (if L.isEmpty then 2 else 1), .rw⟩ ?_ ?_) <;> simp [tapeO, tpos]
  by_cases h : L = [] <;> simp [h]

noncomputable def CM2 := mkC [(31, modSp)]
theorem CM2_ok : SpecsOk Tryd.prog CM2 := mkC_ok (all_cons mod_spec all_nil)
@[simp] theorem CM2_1 : CM2 31 = modSp := rfl

theorem next_inj : ∀ i j : List Int × Nat × Int, [V.ptr 0 0 0, .int .i64 i.2.2] = [V.ptr 0 0 0, .int .i64 j.2.2] → [tapeO i.1 i.2.1] = [tapeO j.1 j.2.1] → (⟨.int .i64 (dr i.1 i.2.1 i.2.2), [tapeO i.1 (i.2.1 + 1)]⟩ : CRes) = ⟨.int .i64 (dr j.1 j.2.1 j.2.2), [tapeO j.1 (j.2.1 + 1)]⟩ := by
  rintro ⟨L, j, n⟩ ⟨L', j', n'⟩ h h'
  simp [tapeO] at h h'
  obtain ⟨rfl, hp⟩ := h'
  subst h
  by_cases hL : L = []
  · subst hL; simp [dr, tapeO, tpos]
  · simp [tpos, hL] at hp
    rw [show j = j' by omega]

noncomputable def nextSp := fam (fun i : (List Int) × Nat × Int => [V.ptr 0 0 0, .int .i64 i.2.2]) (fun i : (List Int) × Nat × Int => [tapeO i.1 i.2.1]) (fun i : (List Int) × Nat × Int => (i.1.length ≤ 200) ∧ (i.2.1 ≤ 100000) ∧ (0 < i.2.2) ∧ (i.2.2 ≤ 1099511627776)) (fun i : (List Int) × Nat × Int => ⟨.int .i64 (dr i.1 i.2.1 i.2.2), [tapeO i.1 (i.2.1 + 1)]⟩)
@[simp] theorem nextSp_eq {L : List Int} {j : Nat} {n : Int} (h1 : L.length ≤ 200) (h2 : j ≤ 100000) (h3 : 0 < n) (h4 : n ≤ 1099511627776) : nextSp ([V.ptr 0 0 0, .int .i64 n]) ([tapeO L j]) = some (⟨.int .i64 (dr L j n), [tapeO L (j + 1)]⟩) :=
  fam_eq (A := fun i : (List Int) × Nat × Int => [V.ptr 0 0 0, .int .i64 i.2.2]) (O := fun i : (List Int) × Nat × Int => [tapeO i.1 i.2.1]) (res := fun i : (List Int) × Nat × Int => ⟨.int .i64 (dr i.1 i.2.1 i.2.2), [tapeO i.1 (i.2.1 + 1)]⟩) (next_inj) (L, j, n) ⟨h1, h2, h3, h4⟩

theorem next_spec : Lift.Spec Tryd.prog 39 nextSp := by
  refine spec_fam (C := CM2) types_ok CM2_ok follows Tryd.func39 (by kernel_rfl) rfl (by kernel_rfl) rfl ?_
  rintro ⟨L, j, n⟩ ⟨h1, h2, h3, h4⟩
  try simp only at h1 h2 h3 h4
  refine ⟨by simp, ?_⟩
  intro r hr
  have h5 : n ≤ 4611686018427387904 := by omega
  by_cases hL : L = []
  · subst hL
    simp [tapeO, tpos]
    rw [hr]
    refine ret_at [.inl 0] rfl ?_ ?_ (by simp) ?_ ?_ ?_ ?_ <;> simp [tapeO, tpos, dr]
  · have hl0 : L.length ≠ 0 := by simpa using hL
    have hpos : 0 < L.length := by omega
    obtain ⟨m, hm⟩ : ∃ m, m = j % L.length := ⟨_, rfl⟩
    obtain ⟨q, hq⟩ : ∃ q, q = j / L.length := ⟨_, rfl⟩
    have e1 : ((j : Int)).tmod (L.length : Int) = (m : Int) := by rw [hm]; rfl
    have e2 : ((j : Int)).tdiv (L.length : Int) = (q : Int) := by rw [hq]; rfl
    have hlt : m < L.length := by rw [hm]; exact Nat.mod_lt _ hpos
    have hqj : q ≤ j := by rw [hq]; exact Nat.div_le_self _ _
    obtain ⟨x, hx, hx'⟩ : ∃ x, L[m]? = some x ∧ L[m] = x := ⟨_, List.getElem?_eq_getElem hlt, rfl⟩
    have hg : L.getD m 0 = x := by simp [List.getD, hx]
    have hd : dr L j n = (x % 1073741824 + (q : Int) * 7) % n := by unfold dr; rw [if_neg hL, ← hm, ← hq, hg]
    clear hm hq hg
    have w1 : IntKind.i64.wrap (q : Int) = (q : Int) := wrap_i64_in (by omega) (by omega)
    have w2 : IntKind.i64.wrap ((j : Int) + 1) = (j : Int) + 1 := wrap_i64_in (by omega) (by omega)
    have w3 : IntKind.i64.wrap ((q : Int) * 7) = (q : Int) * 7 := wrap_i64_in (by omega) (by omega)
    have hm1 := Int.emod_nonneg x (show (1073741824 : Int) ≠ 0 by decide)
    have hm2 := Int.emod_lt_of_pos x (show (0 : Int) < 1073741824 by decide)
    have w4 : IntKind.i64.wrap (x % 1073741824 + (q : Int) * 7) = x % 1073741824 + (q : Int) * 7 := wrap_i64_in (by omega) (by omega)
    simp [tapeO, tpos, hL, hl0, e1, e2, hlt, hx', w1, w2, w3, w4, h3, h5]
    refine ⟨⟨by kernel_rfl, by kernel_rfl⟩, ⟨by kernel_rfl, by kernel_rfl⟩, ?_⟩
    rw [hr]
    refine ret_at [.inl 0] rfl ?_ ?_ (by simp) ?_ ?_ ?_ ?_ <;> simp [tapeO, tpos, hL, hd]

noncomputable def CM3 := mkC [(39, nextSp)]
theorem CM3_ok : SpecsOk Tryd.prog CM3 := mkC_ok (all_cons next_spec all_nil)
@[simp] theorem CM3_1 : CM3 39 = nextSp := rfl

theorem range_inj : ∀ i j : List Int × Nat × Int × Int, [V.ptr 0 0 0, .int .i64 i.2.2.1, .int .i64 i.2.2.2] = [V.ptr 0 0 0, .int .i64 j.2.2.1, .int .i64 j.2.2.2] → [tapeO i.1 i.2.1] = [tapeO j.1 j.2.1] → (⟨.int .i64 (i.2.2.1 + dr i.1 i.2.1 (i.2.2.2 - i.2.2.1 + 1)), [tapeO i.1 (i.2.1 + 1)]⟩ : CRes) = ⟨.int .i64 (j.2.2.1 + dr j.1 j.2.1 (j.2.2.2 - j.2.2.1 + 1)), [tapeO j.1 (j.2.1 + 1)]⟩ := by
  rintro ⟨L, j, lo, hi⟩ ⟨L', j', lo', hi'⟩ h h'
  simp [tapeO] at h h'
  obtain ⟨rfl, hp⟩ := h'
  obtain ⟨rfl, rfl⟩ := h
  by_cases hL : L = []
  · subst hL; simp [dr, tapeO, tpos]
  · simp [tpos, hL] at hp
    rw [show j = j' by omega]

noncomputable def rangeSp := fam (fun i : (List Int) × Nat × Int × Int => [V.ptr 0 0 0, .int .i64 i.2.2.1, .int .i64 i.2.2.2]) (fun i : (List Int) × Nat × Int × Int => [tapeO i.1 i.2.1]) (fun i : (List Int) × Nat × Int × Int => (i.1.length ≤ 200) ∧ (i.2.1 ≤ 100000) ∧ (i.2.2.1 ≤ i.2.2.2) ∧ (-1000000000 ≤ i.2.2.1) ∧ (i.2.2.2 ≤ 1000000000)) (fun i : (List Int) × Nat × Int × Int => ⟨.int .i64 (i.2.2.1 + dr i.1 i.2.1 (i.2.2.2 - i.2.2.1 + 1)), [tapeO i.1 (i.2.1 + 1)]⟩)
@[simp] theorem rangeSp_eq {L : List Int} {j : Nat} {low : Int} {high : Int} (h1 : L.length ≤ 200) (h2 : j ≤ 100000) (h3 : low ≤ high) (h4 : -1000000000 ≤ low) (h5 : high ≤ 1000000000) : rangeSp ([V.ptr 0 0 0, .int .i64 low, .int .i64 high]) ([tapeO L j]) = some (⟨.int .i64 (low + dr L j (high - low + 1)), [tapeO L (j + 1)]⟩) :=
  fam_eq (A := fun i : (List Int) × Nat × Int × Int => [V.ptr 0 0 0, .int .i64 i.2.2.1, .int .i64 i.2.2.2]) (O := fun i : (List Int) × Nat × Int × Int => [tapeO i.1 i.2.1]) (res := fun i : (List Int) × Nat × Int × Int => ⟨.int .i64 (i.2.2.1 + dr i.1 i.2.1 (i.2.2.2 - i.2.2.1 + 1)), [tapeO i.1 (i.2.1 + 1)]⟩) (range_inj) (L, j, low, high) ⟨h1, h2, h3, h4, h5⟩

theorem range_spec : Lift.Spec Tryd.prog 40 rangeSp := by
  refine spec_fam (C := CM3) types_ok CM3_ok follows Tryd.func40 (by kernel_rfl) rfl (by kernel_rfl) rfl ?_
  rintro ⟨L, j, low, high⟩ ⟨h1, h2, h3, h4, h5⟩
  try simp only at h1 h2 h3 h4 h5
  refine ⟨by simp, ?_⟩
  intro r hr
  have w1 : IntKind.i64.wrap (high - low) = high - low := wrap_i64_in (by omega) (by omega)
  have w2 : IntKind.i64.wrap (high - low + 1) = high - low + 1 := wrap_i64_in (by omega) (by omega)
  have h6 : 0 < high - low + 1 := by omega
  have h7 : high - low + 1 ≤ 1099511627776 := by omega
  have h8 := dr_nonneg L j h6
  have h9 := dr_lt L j h6
  have w3 : IntKind.i64.wrap (low + dr L j (high - low + 1)) = low + dr L j (high - low + 1) := wrap_i64_in (by omega) (by omega)
  have hN := nextSp_eq h1 h2 h6 h7
  simp only [tapeO] at hN
  simp [tapeO, w1, w2, hN, w3]
  rw [hr]
  refine ret_at [.inl 0] rfl ?_ ?_ (by simp) ?_ ?_ ?_ ?_ <;> simp [tapeO]

theorem yes_inj : ∀ i j : List Int × Nat × Int, [V.ptr 0 0 0, .int .i64 i.2.2] = [V.ptr 0 0 0, .int .i64 j.2.2] → [tapeO i.1 i.2.1] = [tapeO j.1 j.2.1] → (⟨.bool (decide (dr i.1 i.2.1 i.2.2 = 0)), [tapeO i.1 (i.2.1 + 1)]⟩ : CRes) = ⟨.bool (decide (dr j.1 j.2.1 j.2.2 = 0)), [tapeO j.1 (j.2.1 + 1)]⟩ := by
  rintro ⟨L, j, n⟩ ⟨L', j', n'⟩ h h'
  simp [tapeO] at h h'
  obtain ⟨rfl, hp⟩ := h'
  subst h
  by_cases hL : L = []
  · subst hL; simp [dr, tapeO, tpos]
  · simp [tpos, hL] at hp
    rw [show j = j' by omega]

noncomputable def yesSp := fam (fun i : (List Int) × Nat × Int => [V.ptr 0 0 0, .int .i64 i.2.2]) (fun i : (List Int) × Nat × Int => [tapeO i.1 i.2.1]) (fun i : (List Int) × Nat × Int => (i.1.length ≤ 200) ∧ (i.2.1 ≤ 100000) ∧ (0 < i.2.2) ∧ (i.2.2 ≤ 1099511627776)) (fun i : (List Int) × Nat × Int => ⟨.bool (decide (dr i.1 i.2.1 i.2.2 = 0)), [tapeO i.1 (i.2.1 + 1)]⟩)
@[simp] theorem yesSp_eq {L : List Int} {j : Nat} {n : Int} (h1 : L.length ≤ 200) (h2 : j ≤ 100000) (h3 : 0 < n) (h4 : n ≤ 1099511627776) : yesSp ([V.ptr 0 0 0, .int .i64 n]) ([tapeO L j]) = some (⟨.bool (decide (dr L j n = 0)), [tapeO L (j + 1)]⟩) :=
  fam_eq (A := fun i : (List Int) × Nat × Int => [V.ptr 0 0 0, .int .i64 i.2.2]) (O := fun i : (List Int) × Nat × Int => [tapeO i.1 i.2.1]) (res := fun i : (List Int) × Nat × Int => ⟨.bool (decide (dr i.1 i.2.1 i.2.2 = 0)), [tapeO i.1 (i.2.1 + 1)]⟩) (yes_inj) (L, j, n) ⟨h1, h2, h3, h4⟩

theorem yes_spec : Lift.Spec Tryd.prog 41 yesSp := by
  refine spec_fam (C := CM3) types_ok CM3_ok follows Tryd.func41 (by kernel_rfl) rfl (by kernel_rfl) rfl ?_
  rintro ⟨L, j, n⟩ ⟨h1, h2, h3, h4⟩
  try simp only at h1 h2 h3 h4
  refine ⟨by simp, ?_⟩
  intro r hr
  have hN := nextSp_eq h1 h2 h3 h4
  simp only [tapeO] at hN
  simp [tapeO, hN]
  rw [hr]
  refine ret_at [.inl 0] rfl ?_ ?_ (by simp) ?_ ?_ ?_ ?_ <;> simp [tapeO]

noncomputable def lightSp := fam (fun i : List Int => [V.sl 2 1 (intRow i)]) (fun _ : List Int => []) (fun _ : List Int => True) (fun i : List Int => ⟨.bool (decide (i.length ≤ 200)), []⟩)
@[simp] theorem lightSp_eq {L : List Int}  : lightSp ([V.sl 2 1 (intRow L)]) ([]) = some (⟨.bool (decide (L.length ≤ 200)), []⟩) :=
  fam_eq (A := fun i : List Int => [V.sl 2 1 (intRow i)]) (O := fun _ : List Int => []) (res := fun i : List Int => ⟨.bool (decide (i.length ≤ 200)), []⟩) (by intro a b h h' <;> simp at h h' <;> simp_all) L trivial

theorem light_spec : Lift.Spec Tryd.prog 11 lightSp := by
  refine spec_fam (C := C0) types_ok C0_ok follows Tryd.func11 (by kernel_rfl) rfl (by kernel_rfl) rfl ?_
  rintro L _
  refine ⟨by simp, ?_⟩
  intro r hr
  simp
  rw [hr]; refine ret_closed rfl ?_ rfl
  simp
  omega
def intsO (zs : List Int) : AObj := ⟨3, 1, intRow zs, false, 2, .rw⟩
end Go.Proofs.YtegjhmhhbmnljaaDoor
