/-
  wire: laws on what is written.
-/
import Derived.Test.YtopoplebnbcalaaW7
namespace Go.Proofs.Ytopoplebnbcalaa
open Go.Lift

noncomputable def C9 := mkC [(19, textSp), (20, textSp), (21, intsSp), (22, intsSp), (16, sameSp), (31, alikeSp), (15, trueSp1), (23, fewSp1), (17, intSp)]
theorem C9_ok : SpecsOk Try.prog C9 := mkC_ok (all_cons text_spec (all_cons reftext_spec (all_cons ints_spec (all_cons refints_spec (all_cons same_spec (all_cons alike_spec (all_cons awakeW_spec (all_cons few1_spec (all_cons int_spec all_nil)))))))))
@[simp] theorem C9_1 : C9 19 = textSp := rfl
@[simp] theorem C9_2 : C9 20 = textSp := rfl
@[simp] theorem C9_3 : C9 21 = intsSp := rfl
@[simp] theorem C9_4 : C9 22 = intsSp := rfl
@[simp] theorem C9_5 : C9 16 = sameSp := rfl
@[simp] theorem C9_6 : C9 31 = alikeSp := rfl
@[simp] theorem C9_7 : C9 15 = trueSp1 := rfl
@[simp] theorem C9_8 : C9 23 = fewSp1 := rfl
@[simp] theorem C9_9 : C9 17 = intSp := rfl

theorem law_WireLists : Lift.Spec Try.prog 4 (fam (fun i : List UInt8 × ByteArray × List Int => [V.sl 2 1 (byteRow i.1), .str i.2.1, .sl 2 1 (intRow i.2.2)]) (fun _ => []) (fun i => i.1.length ≤ 1048575 ∧ i.2.1.size ≤ 1048575 ∧ i.2.2.length ≤ 1048575 ∧ ∀ x ∈ i.2.2, In64 x) (fun _ => ⟨.bool true, []⟩)) := by
  refine spec_fam (C := C9) types_ok C9_ok follows Try.func4 (by kernel_rfl) rfl (by kernel_rfl) rfl ?_
  rintro ⟨l, s, ns⟩ ⟨h1, h2, h3, h4⟩
  simp only at h1 h2 h3 h4
  refine ⟨by simp, ?_⟩
  intro r hr
  have n1 := textSp_eq (t := 2) (l := l) (s := s) (by omega)
  have n2 := intsSp_eq (t := 2) (u := 2) (l := l) (by omega) h4
  generalize textB l s = A at *
  generalize intsL l ns = B at *
  simp [n1, n2, rowOf]
  rw [hr]; refine ret_closed rfl ?_ rfl
  simp

theorem intRow_set (l : List Int) (k : Nat) (x : Int) : (intRow l).set k [V.int .i64 x] = intRow (l.set k x) := by
  simp [intRow, List.map_set]
theorem wrapIx {a n : Int} (hn : 0 < n) (hm : n ≤ 140737488355328) : ∃ k : Nat, (IntKind.i64.wrap (a.tmod n + n)).tmod n = (k : Int) ∧ (k : Int) < n := by
  have h1 := Int.tmod_lt_of_pos a hn
  have h2 := Int.lt_tmod_of_pos a hn
  rw [wrap_i64_in (by omega) (by omega)]
  have h3 : 0 ≤ (a.tmod n + n).tmod n := Int.tmod_nonneg _ (by omega)
  have h4 := Int.tmod_lt_of_pos (a.tmod n + n) hn
  exact ⟨((a.tmod n + n).tmod n).toNat, by omega, by omega⟩

theorem law_WireUnlike : Lift.Spec Try.prog 11 (fam (fun i : List Int × List Int × Int × Int => [V.sl 2 1 (intRow i.1), .sl 2 1 (intRow i.2.1), .int .i64 i.2.2.1, .int .i64 i.2.2.2]) (fun _ => []) (fun i => (i.1.length ≤ 1048575 ∧ ∀ x ∈ i.1, In64 x) ∧ (i.2.1.length ≤ 1048575 ∧ ∀ x ∈ i.2.1, In64 x) ∧ In64 i.2.2.2) (fun _ => ⟨.bool true, []⟩)) := by
  refine spec_fam (C := C9) types_ok C9_ok follows Try.func11 (by kernel_rfl) rfl (by kernel_rfl) rfl ?_
  rintro ⟨l, m, a, x⟩ ⟨⟨h1, h2⟩, ⟨h3, h4⟩, h5⟩
  simp only at h1 h2 h3 h4 h5
  refine ⟨by simp, ?_⟩
  intro r hr
  have p1 : l.length ≤ 1048576 := by omega
  have p3 : m.length ≤ 1048576 := by omega
  have q1 : (l.length : Int) * 8 ≤ 140737488355328 := by omega
  have q2 : (l.length : Int) ≤ 140737488355328 := by omega
  have n1 := alikeSp_eq (t := 2) (u := 2) p1 h2 p3 h4
  by_cases h0 : 0 < l.length
  · have h0' : (0 : Int) < (l.length : Int) := by omega
    obtain ⟨i, hi, hil⟩ := wrapIx (a := a) (n := l.length) h0' q2
    have hil' : i < l.length := by omega
    have hne : ¬ (l.length = 0) := by omega
    have n2 := alikeSp_eq (t := 2) (u := 2) p1 h2 (m := l.set i x) (by simpa using p1) (fun y hy => by
      rcases List.mem_or_eq_of_mem_set hy with h | h
      · exact h2 y h
      · rw [h]; exact h5)
    have ht : (l.set i x).take l.length = l.set i x := List.take_of_length_le (by simp)
    simp [h0, hne, q1, q2, hi, hil', intRow_set, ht, n1, n2]
    rw [hr]; refine ret_closed rfl ?_ rfl
    simp
  · have e : l = [] := List.length_eq_zero_iff.1 (by omega)
    subst e
    have n2 := alikeSp_eq (t := 2) (u := 2) p1 h2 p1 h2
    simp at n1 n2
    have sn : scalarRows [] = true := rfl
    simp [n1, n2, sn]
    rw [hr]; refine ret_closed rfl ?_ rfl
    simp
end Go.Proofs.Ytopoplebnbcalaa
