/-
  wire: what is given stays in front.
-/
import Derived.Test.YtopoplebnbcalaaW8
namespace Go.Proofs.Ytopoplebnbcalaa
open Go.Lift

theorem wrapCut {a : Int} {n : Nat} (hm : n ≤ 300) : ∃ k : Nat, (IntKind.i64.wrap (IntKind.i64.wrap (a.tmod ((n : Int) + 1) + n) + 1)).tmod ((n : Int) + 1) = (k : Int) ∧ k ≤ n := by
  have hn : (0 : Int) < (n : Int) + 1 := by omega
  have h1 := Int.tmod_lt_of_pos a hn
  have h2 := Int.lt_tmod_of_pos a hn
  rw [wrap_i64_in (x := a.tmod ((n : Int) + 1) + n) (by omega) (by omega), wrap_i64_in (by omega) (by omega)]
  have h3 : 0 ≤ (a.tmod ((n : Int) + 1) + n + 1).tmod ((n : Int) + 1) := Int.tmod_nonneg _ (by omega)
  have h4 := Int.tmod_lt_of_pos (a.tmod ((n : Int) + 1) + n + 1) hn
  exact ⟨((a.tmod ((n : Int) + 1) + n + 1).tmod ((n : Int) + 1)).toNat, by omega, by omega⟩

theorem law_WireAppends : Lift.Spec Try.prog 12 (fam (fun i : List UInt8 × Int × Int × ByteArray => [V.sl 2 1 (byteRow i.1), .int .i64 i.2.1, .int .i64 i.2.2.1, .str i.2.2.2]) (fun _ => []) (fun i => In64 i.2.2.1) (fun _ => ⟨.bool true, []⟩)) := by
  refine spec_fam (C := C9) types_ok C9_ok follows Try.func12 (by kernel_rfl) rfl (by kernel_rfl) rfl ?_
  rintro ⟨l, a, n, s⟩ h1
  simp only at h1
  refine ⟨by simp, ?_⟩
  intro r hr
  by_cases h0 : l.length ≤ 300
  · by_cases hs : s.size ≤ 300
    · have h0' : (l.length : Int) ≤ 300 := by omega
      have hs' : (s.size : Int) ≤ 300 := by omega
      have h4 : (l.length : Int) ≤ 140737488355328 := by omega
      have w1 : IntKind.i64.wrap ((l.length : Int) + 1) = (l.length : Int) + 1 := wrap_i64_in (by omega) (by omega)
      have w2 : ¬ ((l.length : Int) + 1 = 0) := by omega
      obtain ⟨k, hk, hkl⟩ := wrapCut (a := a) h0
      have hkl' : (k : Int) ≤ (l.length : Int) := by omega
      have ri : ([[V.int .i64 n]] : List (List V)) = intRow [n] := rfl
      have n1 := intSp_eq (t := 2) (l := l.take k) h1 (by rw [List.length_take]; omega)
      have n2 := textSp_eq (t := 2) (l := l.take k) (s := s) (by rw [List.length_take]; omega)
      have n3 := intsSp_eq (t := 2) (u := 2) (l := l.take k) (ns := [n]) (by rw [List.length_take]; simp; omega) (fun x hx => by simp at hx; rw [hx]; exact h1)
      have e1 : (l.take k).length = k := by rw [List.length_take]; omega
      obtain ⟨X, hX⟩ : ∃ X, X = l.take k ++ enc (code n) := ⟨_, rfl⟩
      obtain ⟨Y, hY⟩ : ∃ X, X = textB (l.take k) s := ⟨_, rfl⟩
      obtain ⟨Z, hZ⟩ : ∃ X, X = intsL (l.take k) [n] := ⟨_, rfl⟩
      have x1 : k < X.length := by rw [hX, List.length_append, e1]; have := enc_pos (code n); omega
      have y1 : k < Y.length := by rw [hY, textB, List.length_append, List.length_append, e1]; have := enc_pos (code (s.size : Int)); omega
      have z1 : k < Z.length := by rw [hZ, intsL, List.length_append, List.length_append, e1]; have := enc_pos (code (([n] : List Int).length : Int)); omega
      have x2 : X.take k = l.take k := by rw [hX]; exact List.take_left' e1
      have y2 : Y.take k = l.take k := by rw [hY, textB, List.append_assoc]; exact List.take_left' e1
      have z2 : Z.take k = l.take k := by rw [hZ, intsL, List.append_assoc]; exact List.take_left' e1
      rw [← List.length_append, ← hX] at n1
      rw [← hY] at n2
      rw [← hZ] at n3
      clear hX hY hZ
      simp [h0', hs', h4, w1, w2, hk, hkl', ri, n1, n2, n3, rowOf]
      refine ⟨⟨by kernel_rfl, by kernel_rfl⟩, ?_⟩
      have x3 : k ≤ X.length := by omega
      have y3 : k ≤ Y.length := by omega
      have z3 : k ≤ Z.length := by omega
      simp [hkl, x1, y1, z1, x2, y2, z2, x3, y3, z3]
      refine ⟨⟨by kernel_rfl, by kernel_rfl⟩, ?_⟩
      rw [hr]; refine ret_closed rfl ?_ rfl
      simp
    · have h0' : (l.length : Int) ≤ 300 := by omega
      have hs' : ¬ (s.size : Int) ≤ 300 := by omega
      simp [h0', hs']
      rw [hr]; refine ret_closed rfl ?_ rfl
      simp
  · have h0' : ¬ (l.length : Int) ≤ 300 := by omega
    simp [h0']
    rw [hr]; refine ret_closed rfl ?_ rfl
    simp
end Go.Proofs.Ytopoplebnbcalaa
