/-
  tenant: the sort by insertion, as slices.SortFunc makes it of few elements.
-/
import Derived.Test.YtegjhmhhbmnljaaDoorN2
namespace Go.Proofs.YtegjhmhhbmnljaaDoor
open Go.Lift

noncomputable def CS3 := mkC []
theorem CS3_ok : SpecsOk Tryd.prog CS3 := mkC_ok all_nil

def natI (l : List Nat) : List Int := l.map fun (k : Nat) => (k : Int)
@[simp] theorem natI_length (l : List Nat) : (natI l).length = l.length := by simp [natI]
def srtO (L : List Int) : AObj := ⟨3, 1, intRow L, true, 2, .rw⟩
def lstN (C : GConfig) (i : Nat) : List Nat := ordN C (min i C.Tenants.length) ++ List.range' (min i C.Tenants.length) (C.Tenants.length - min i C.Tenants.length)
theorem lstN_len (C : GConfig) (i : Nat) : (lstN C i).length = C.Tenants.length := by simp [lstN, ordN_len]; omega
theorem lstN_first (C : GConfig) : lstN C 1 = List.range C.Tenants.length := by
  unfold lstN
  cases h : C.Tenants.length with
  | zero => rfl
  | succ n =>
    rw [show min 1 (n + 1) = 1 by omega, show n + 1 - 1 = n by omega, List.range_eq_range']
    rfl
theorem lstN_last {C : GConfig} {i : Nat} (h : C.Tenants.length ≤ i) : lstN C i = ordN C C.Tenants.length := by
  unfold lstN
  rw [show min i C.Tenants.length = C.Tenants.length by omega, Nat.sub_self]; simp
theorem lstN_at {C : GConfig} {i : Nat} (h : i < C.Tenants.length) : lstN C i = ordN C i ++ i :: List.range' (i + 1) (C.Tenants.length - i - 1) := by
  unfold lstN
  rw [show min i C.Tenants.length = i by omega]
  congr 1
  rw [show C.Tenants.length - i = (C.Tenants.length - i - 1) + 1 by omega, List.range'_succ]; simp
theorem lstN_next {C : GConfig} {i : Nat} (h : i < C.Tenants.length) : lstN C (i + 1) = ordN C (i + 1) ++ List.range' (i + 1) (C.Tenants.length - i - 1) := by
  unfold lstN
  rw [show min (i + 1) C.Tenants.length = i + 1 by omega, show C.Tenants.length - (i + 1) = C.Tenants.length - i - 1 by omega]

/-- A state of the inner loop: element i on its way, at place j. -/
def Way (C : GConfig) (i j : Nat) (L : List Int) : Prop := ∃ A B, L = natI (A ++ i :: (B ++ List.range' (i + 1) (C.Tenants.length - i - 1))) ∧ A.length = j ∧ ordN C i = A ++ B ∧ ∀ y ∈ B, bef C i y = true
theorem Way.first {C : GConfig} {i : Nat} (h : i < C.Tenants.length) : Way C i i (natI (lstN C i)) := ⟨ordN C i, [], by rw [lstN_at h]; rfl, ordN_len C i, by simp, by simp⟩
theorem Way.len {C : GConfig} {i j : Nat} {L : List Int} (hi : i < C.Tenants.length) (h : Way C i j L) : L.length = C.Tenants.length := by
  obtain ⟨A, B, rfl, h2, h3, _⟩ := h
  have := ordN_len C i
  rw [h3] at this
  simp at this ⊢; omega
theorem Way.le {C : GConfig} {i j : Nat} {L : List Int} (h : Way C i j L) : j ≤ i := by
  obtain ⟨A, B, rfl, h2, h3, _⟩ := h
  have := ordN_len C i
  rw [h3] at this
  simp at this; omega
theorem Way.stop0 {C : GConfig} {i : Nat} {L : List Int} (hi : i < C.Tenants.length) (h : Way C i 0 L) : L = natI (lstN C (i + 1)) := by
  obtain ⟨A, B, rfl, h2, h3, h4⟩ := h
  have : A = [] := List.eq_nil_of_length_eq_zero h2
  subst this
  rw [lstN_next hi]
  congr 1
  have : ordN C (i + 1) = i :: B := by
    show insN C i (ordN C i) = _
    rw [h3, insN_split (by simp) (fun y hy => bef_asymm (h4 y (List.mem_of_mem_head? hy)))]; rfl
  rw [this]; simp
/-- One round. -/
theorem Way.round {C : GConfig} {i k : Nat} {L : List Int} (hi : i < C.Tenants.length) (h : Way C i (k + 1) L) : ∃ a : Nat, a < i ∧ L[k + 1]? = some (i : Int) ∧ L[k]? = some (a : Int) ∧
    (bef C i a = true → Way C i k ((L.set (k + 1) (a : Int)).set k (i : Int))) ∧ (bef C i a = false → L = natI (lstN C (i + 1))) := by
  obtain ⟨A, B, rfl, h2, h3, h4⟩ := h
  have hne : A ≠ [] := fun e => by rw [e] at h2; simp at h2
  obtain ⟨A', a, rfl⟩ : ∃ A' a, A = A' ++ [a] := ⟨A.dropLast, A.getLast hne, (List.dropLast_concat_getLast hne).symm⟩
  have hk : A'.length = k := by simp at h2; exact h2
  have ha : a < i := ordN_mem (C := C) (n := i) (by rw [h3]; simp)
  subst hk
  have hs := ordN_sorted C i
  rw [h3] at hs
  refine ⟨a, ha, by simp [natI], by simp [natI], fun hb => ⟨A', a :: B, ?_, rfl, by rw [h3]; simp, fun y hy => ?_⟩, fun hb => ?_⟩
  · simp [natI]
  · rcases List.mem_cons.1 hy with rfl | hy
    · exact hb
    · exact h4 y hy
  · have hai : bef C a i = true := bef_total (by omega) hb
    rw [lstN_next hi]
    congr 1
    have : ordN C (i + 1) = A' ++ [a] ++ i :: B := by
      show insN C i (ordN C i) = _
      rw [h3]
      refine insN_split (fun y hy => ?_) (fun y hy => bef_asymm (h4 y (List.mem_of_mem_head? hy)))
      rcases List.mem_append.1 hy with hy | hy
      · have := (List.pairwise_append.1 (List.pairwise_append.1 hs).1).2.2 y hy a (by simp)
        exact bef_trans this hai
      · simp at hy; subst hy; exact hai
    rw [this]; simp

/-! The number of rounds that the sort may make: nobody looks at it here. -/
def len12 (n : Nat) : Int := if n = 0 then 0 else if n < 2 then 1 else if n < 4 then 2 else if n < 8 then 3 else 4
theorem len12_cases {n : Nat} (h : n ≤ 12) : n = 0 ∨ n = 1 ∨ n = 2 ∨ n = 3 ∨ n = 4 ∨ n = 5 ∨ n = 6 ∨ n = 7 ∨ n = 8 ∨ n = 9 ∨ n = 10 ∨ n = 11 ∨ n = 12 := by omega
noncomputable def bitLenSp := fam (fun i : Nat => [V.int .u64 i]) (fun _ : Nat => []) (fun i : Nat => (i ≤ 12)) (fun i : Nat => ⟨.int .i64 (len12 i), []⟩)
@[simp] theorem bitLenSp_eq {n : Nat} (h1 : n ≤ 12) : bitLenSp ([V.int .u64 n]) ([]) = some (⟨.int .i64 (len12 n), []⟩) :=
  fam_eq (A := fun i : Nat => [V.int .u64 i]) (O := fun _ : Nat => []) (res := fun i : Nat => ⟨.int .i64 (len12 i), []⟩) (by intro a b h _; simp at h; rw [show a = b by omega]) n h1

noncomputable def CS4 := mkC []
theorem CS4_ok : SpecsOk Tryd.prog CS4 := mkC_ok all_nil

noncomputable def CS5 := mkC []
theorem CS5_ok : SpecsOk Tryd.prog CS5 := mkC_ok all_nil

noncomputable def CS6 := mkC []
theorem CS6_ok : SpecsOk Tryd.prog CS6 := mkC_ok all_nil

noncomputable def CS7 := mkC []
theorem CS7_ok : SpecsOk Tryd.prog CS7 := mkC_ok all_nil

noncomputable def orderSp := fam (fun i : GConfig => [vConfig i]) (fun _ : GConfig => []) (fun i : GConfig => (i.Tenants.length ≤ 12)) (fun i : GConfig => ⟨.sl 2 1 (intRow (natI (ordN i i.Tenants.length))), []⟩)
@[simp] theorem orderSp_eq {C : GConfig} (h1 : C.Tenants.length ≤ 12) : orderSp ([vConfig C]) ([]) = some (⟨.sl 2 1 (intRow (natI (ordN C C.Tenants.length))), []⟩) :=
  fam_eq (A := fun i : GConfig => [vConfig i]) (O := fun _ : GConfig => []) (res := fun i : GConfig => ⟨.sl 2 1 (intRow (natI (ordN i i.Tenants.length))), []⟩) (by intro a b h h' <;> simp at h h' <;> simp_all) C h1

def fillI (m i : Nat) : List Int := natI (List.range i) ++ List.replicate (m - i) 0
theorem fillI_len {m i : Nat} (h : i ≤ m) : (fillI m i).length = m := by simp [fillI]; omega
theorem fillI_zero (m : Nat) : fillI m 0 = List.replicate m 0 := by simp [fillI, natI]
theorem fillI_all (m : Nat) : fillI m m = natI (List.range m) := by simp [fillI]
theorem fillI_set {m i : Nat} (h : i < m) : (fillI m i).set i (i : Int) = fillI m (i + 1) := by
  unfold fillI
  rw [List.set_append_right _ _ (by simp)]
  simp only [natI_length, List.length_range, Nat.sub_self]
  rw [show m - i = (m - (i + 1)) + 1 by omega, List.replicate_succ, List.set_cons_zero, List.range_succ]
  simp [natI]
def ofSt (C : GConfig) (i : Nat) : St := mkSt [(1, .pp C.cells), (3, .own 0 0 C.Tenants.length), (10, .int .i64 C.Tenants.length), (11, .int .i64 i)] [(0, srtO (fillI C.Tenants.length i))] 1
end Go.Proofs.YtegjhmhhbmnljaaDoor
