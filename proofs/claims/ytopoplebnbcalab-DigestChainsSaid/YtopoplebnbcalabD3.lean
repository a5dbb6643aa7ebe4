/-
  digest: the laws without the reference.
-/
import Derived.Test.YtopoplebnbcalabD1
namespace Go.Proofs.Ytopoplebnbcalab
open Go.Lift

noncomputable def fewSp := fam (fun n : Int => [V.int .i64 n]) (fun _ => []) (fun _ => True) (fun n => ⟨.bool (decide (n ≤ 300)), []⟩)
@[simp] theorem fewSp_eq {n : Int} : fewSp [V.int .i64 n] [] = some ⟨.bool (decide (n ≤ 300)), []⟩ :=
  fam_eq (A := fun n : Int => [V.int .i64 n]) (fun i j h _ => by simp at h; rw [h]) n trivial
theorem few_spec : Lift.Spec Try.prog 13 fewSp := by
  refine spec_fam (C := C0) types_ok C0_ok follows Try.func13 (by kernel_rfl) rfl (by kernel_rfl) rfl ?_
  intro n _
  refine ⟨by simp, ?_⟩
  intro r hr
  simp
  rw [hr]; refine ret_closed rfl ?_ rfl
  simp

noncomputable def CE := mkC [(9, mixSp), (11, sumSp), (12, chainSp), (10, trueSp), (13, fewSp)]
theorem CE_ok : SpecsOk Try.prog CE := mkC_ok (all_cons mix_spec (all_cons sum_spec (all_cons chain_spec (all_cons awakeD_spec (all_cons few_spec all_nil)))))
@[simp] theorem CE_1 : CE 9 = mixSp := rfl
@[simp] theorem CE_2 : CE 11 = sumSp := rfl
@[simp] theorem CE_3 : CE 12 = chainSp := rfl
@[simp] theorem CE_4 : CE 10 = trueSp := rfl
@[simp] theorem CE_5 : CE 13 = fewSp := rfl

theorem law_DigestInjective : Lift.Spec Try.prog 7 (fam (fun i : Int × Int × Int × Int => [V.int .u64 i.1, .int .u64 i.2.1, .int .i64 i.2.2.1, .int .i64 i.2.2.2]) (fun _ => []) (fun i => InU64 i.1 ∧ InU64 i.2.1 ∧ In64 i.2.2.1 ∧ In64 i.2.2.2) (fun _ => ⟨.bool true, []⟩)) := by
  refine spec_fam (C := CE) types_ok CE_ok follows Try.func7 (by kernel_rfl) rfl (by kernel_rfl) rfl ?_
  rintro ⟨g, h, n, m⟩ ⟨h1, h2, h3, h4⟩
  simp only at h1 h2 h3 h4
  refine ⟨by simp, ?_⟩
  intro r hr
  have e1 := mixI_inj (h := h) h3 h4
  have e2 := mixI_inj' (n := n) h1 h2
  simp [h1, h2, h3, h4, e1, e2]
  rw [hr]; refine ret_closed rfl ?_ rfl
  simp

theorem law_DigestKeys : Lift.Spec Try.prog 6 (fam (fun i : Int × Int × List UInt8 => [V.int .i64 i.1, .int .i64 i.2.1, .sl 2 1 (byteRow i.2.2)]) (fun _ => []) (fun i => In64 i.1 ∧ In64 i.2.1 ∧ i.2.2.length ≤ 9223372036854775807) (fun _ => ⟨.bool true, []⟩)) := by
  refine spec_fam (C := CE) types_ok CE_ok follows Try.func6 (by kernel_rfl) rfl (by kernel_rfl) rfl ?_
  rintro ⟨k, m, l⟩ ⟨h1, h2, h3⟩
  simp only at h1 h2 h3
  have h3 : (l.length : Int) ≤ 9223372036854775807 := by omega
  refine ⟨by simp, ?_⟩
  intro r hr
  have e := sumI_inj h1 h2 l
  simp [h1, h2, h3, e]
  rw [hr]; refine ret_closed rfl ?_ rfl
  simp

noncomputable def stepSt (k : Int) (l : List UInt8) (i : Nat) : St :=
  mkSt [(0, .int .i64 k), (1, .sl 2 1 (byteRow l)), (5, .int .u64 (foldI (mixI 14695981039346656037 k) (l.take i))), (6, .int .i64 i)] [] 0

theorem law_DigestSteps : Lift.Spec Try.prog 3 (fam (fun i : Int × List UInt8 => [V.int .i64 i.1, .sl 2 1 (byteRow i.2)]) (fun _ => []) (fun i => In64 i.1 ∧ i.2.length ≤ 9223372036854775807) (fun _ => ⟨.bool true, []⟩)) := by
  refine spec_fam (C := CE) types_ok CE_ok follows Try.func3 (by kernel_rfl) rfl (by kernel_rfl) rfl ?_
  rintro ⟨k, l⟩ ⟨h1, h3⟩
  simp only at h1 h3
  have h3 : (l.length : Int) ≤ 9223372036854775807 := by omega
  refine ⟨by simp, ?_⟩
  intro r hr
  simp [h1, basis_in]
  refine axwp_loop (stepSt k l) (fun i => i ≤ l.length) (fun i => l.length - i) 0 ?_ (Nat.zero_le _) ?_
  · refine weak_mk id ?_ ?_ ?_ ?_ <;> simp [foldI_nil]
  · intro i hi
    have hin := foldI_in (mixI_in 14695981039346656037 k) (l.take i)
    by_cases hik : i < l.length
    · obtain ⟨x, hx, hx'⟩ : ∃ x, l[i]? = some x ∧ l[i] = x := ⟨_, List.getElem?_eq_getElem hik, rfl⟩
      have w0 : IntKind.i64.wrap (x.toNat : Int) = (x.toNat : Int) := by have := x.toNat_lt; exact wrap_i64_in (by omega) (by omega)
      have w4 : IntKind.i64.wrap ((i : Int) + 1) = (i : Int) + 1 := wrap_i64_in (by omega) (by omega)
      simp [stepSt, hik, hx, hx', w0, w4, hin]
      refine Again.mk (i + 1) ?_ ?_ ?_
      · exact hik
      · omega
      · refine weak_mk id ?_ ?_ ?_ ?_ <;> simp [w4, foldI_take hx]
    · have e : i = l.length := by omega
      subst e
      rw [List.take_length] at hin
      have hs : sumI k l = mixI (foldI (mixI 14695981039346656037 k) l) (l.length : Int) := sumI_eq k l
      simp [stepSt, hin, h1, h3, in64_nat h3, hs]
      rw [hr]; refine ret_closed rfl ?_ rfl
      simp

noncomputable def chainSt (k p q : Int) (l : List UInt8) (i : Nat) : St :=
  mkSt [(0, .int .i64 k), (1, .int .u64 p), (2, .int .u64 q), (3, .sl 2 1 (byteRow l)), (9, .int .u64 (foldI (mixI (mixI 14695981039346656037 k) p) (l.take i))), (10, .int .i64 i)] [] 0

theorem law_DigestChains : Lift.Spec Try.prog 4 (fam (fun i : Int × Int × Int × List UInt8 => [V.int .i64 i.1, .int .u64 i.2.1, .int .u64 i.2.2.1, .sl 2 1 (byteRow i.2.2.2)]) (fun _ => []) (fun i => In64 i.1 ∧ InU64 i.2.1 ∧ InU64 i.2.2.1 ∧ i.2.2.2.length ≤ 9223372036854775807) (fun _ => ⟨.bool true, []⟩)) := by
  refine spec_fam (C := CE) types_ok CE_ok follows Try.func4 (by kernel_rfl) rfl (by kernel_rfl) rfl ?_
  rintro ⟨k, p, q, l⟩ ⟨h1, h2, h4, h3⟩
  simp only at h1 h2 h3 h4
  have h3 : (l.length : Int) ≤ 9223372036854775807 := by omega
  refine ⟨by simp, ?_⟩
  intro r hr
  simp [h1, basis_in]
  refine axwp_loop (chainSt k p q l) (fun i => i ≤ l.length) (fun i => l.length - i) 0 ?_ (Nat.zero_le _) ?_
  · refine weak_mk id ?_ ?_ ?_ ?_ <;> simp [foldI_nil]
  · intro i hi
    have hin := foldI_in (mixI_in (mixI 14695981039346656037 k) p) (l.take i)
    by_cases hik : i < l.length
    · obtain ⟨x, hx, hx'⟩ : ∃ x, l[i]? = some x ∧ l[i] = x := ⟨_, List.getElem?_eq_getElem hik, rfl⟩
      have w0 : IntKind.i64.wrap (x.toNat : Int) = (x.toNat : Int) := by have := x.toNat_lt; exact wrap_i64_in (by omega) (by omega)
      have w4 : IntKind.i64.wrap ((i : Int) + 1) = (i : Int) + 1 := wrap_i64_in (by omega) (by omega)
      simp [chainSt, hik, hx, hx', w0, w4, hin]
      refine Again.mk (i + 1) ?_ ?_ ?_
      · exact hik
      · omega
      · refine weak_mk id ?_ ?_ ?_ ?_ <;> simp [w4, foldI_take hx]
    · have e : i = l.length := by omega
      subst e
      rw [List.take_length] at hin
      have hs : mixI (foldI (mixI (mixI 14695981039346656037 k) p) l) (l.length : Int) = chainI k p l := (chainI_eq k p l).symm
      have he := chainI_inj (k := k) h2 h4 l
      simp [chainSt, hin, h1, h2, h3, h4, in64_nat h3, hs, he]
      rw [hr]; refine ret_closed rfl ?_ rfl
      simp
end Go.Proofs.Ytopoplebnbcalab
