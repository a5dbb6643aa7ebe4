/-
  wire: laws on what is read.
-/
import Derived.Test.YtopoplebnbcalaaW9
namespace Go.Proofs.Ytopoplebnbcalaa
open Go.Lift

theorem ttV_form (l : List UInt8) : ∃ (s : ByteArray) (k e : Int), ttV l = .tup [.str s, .int .i64 k, .int .i64 e] := by
  unfold ttV
  split
  · split
    · exact ⟨_, _, _, rfl⟩
    · exact ⟨_, _, _, rfl⟩
  · exact ⟨_, _, _, rfl⟩
theorem tiGo_len : ∀ (c : Nat) (l : List UInt8) (k : Nat) (acc : List Int), (tiGo c l k acc).1.length ≤ acc.length + c
  | 0, l, k, acc => by rw [tiGo]; exact Nat.le_refl _
  | c + 1, l, k, acc => by
    rw [tiGo]
    split
    · have := tiGo_len c l (k + (takeT (l.drop k)).2.1.toNat) (acc ++ [(takeT (l.drop k)).1])
      simp only [List.length_append, List.length_cons, List.length_nil] at this
      omega
    · simp
theorem tiT_len (l : List UInt8) : (tiT l).1.length ≤ 65536 := by
  unfold tiT
  rcases lenT_cases l with ⟨e, he, hL⟩ | ⟨n, k, hL, hn, _⟩
  · simp [hL, he]
  · rw [hL]
    have := tiGo_len n l k []
    simp only [if_pos, Int.toNat_natCast]
    simp only [List.length_nil] at this
    omega

noncomputable def CZ := mkC [(26, ttSp), (27, ttSp), (28, tiSp), (29, rtiSp), (30, sameISp), (18, intSp), (15, trueSp1), (23, fewSp1), (19, textSp), (21, intsSp)]
theorem CZ_ok : SpecsOk Try.prog CZ := mkC_ok (all_cons tt_spec (all_cons reftt_spec (all_cons ti_spec (all_cons rti_spec (all_cons sameI_spec (all_cons refint_spec (all_cons awakeW_spec (all_cons few1_spec (all_cons text_spec (all_cons ints_spec all_nil))))))))))
@[simp] theorem CZ_1 : CZ 26 = ttSp := rfl
@[simp] theorem CZ_2 : CZ 27 = ttSp := rfl
@[simp] theorem CZ_3 : CZ 28 = tiSp := rfl
@[simp] theorem CZ_4 : CZ 29 = rtiSp := rfl
@[simp] theorem CZ_5 : CZ 30 = sameISp := rfl
@[simp] theorem CZ_6 : CZ 18 = intSp := rfl
@[simp] theorem CZ_7 : CZ 15 = trueSp1 := rfl
@[simp] theorem CZ_8 : CZ 23 = fewSp1 := rfl
@[simp] theorem CZ_9 : CZ 19 = textSp := rfl
@[simp] theorem CZ_10 : CZ 21 = intsSp := rfl

def wlSt (n : Int) (i : Nat × List UInt8) : St :=
  if i.1 = 0 then mkSt [(0, .sl 2 1 (byteRow i.2)), (1, .int .i64 n), (5, .int .i64 0)] [] 1
  else mkSt [(0, .own 0 0 i.2.length), (1, .int .i64 n), (5, .int .i64 i.1)] [(0, rowOf i.2)] 1

theorem law_WireTakeLists : Lift.Spec Try.prog 6 (fam (fun i : List UInt8 × Int => [V.sl 2 1 (byteRow i.1), .int .i64 i.2]) (fun _ => []) (fun i => In64 i.2) (fun _ => ⟨.bool true, []⟩)) := by
  refine spec_fam (C := CZ) types_ok CZ_ok follows Try.func6 (by kernel_rfl) rfl (by kernel_rfl) rfl ?_
  rintro ⟨l, n⟩ h1
  simp only at h1
  refine ⟨by simp, ?_⟩
  intro r hr
  by_cases h0 : l.length ≤ 300
  · have h0' : (l.length : Int) ≤ 300 := by omega
    simp [h0']
    refine axwp_loop (wlSt n) (fun i => i.1 ≤ 2 ∧ i.2.length ≤ 300 + 10 * i.1) (fun i => 2 - i.1) (0, l) ?_ ⟨by simp, by simpa using h0⟩ ?_
    · refine weak_mk id ?_ ?_ ?_ ?_ <;> simp
    · rintro ⟨i, m⟩ ⟨hi, hm⟩
      simp only at hi hm
      have n1 := ttSp_eq (t := 2) (l := m) (by omega)
      have n2 := tiSp_eq (t := 2) (l := m) (by omega)
      have n3 := rtiSp_eq (t := 2) (l := m) (by omega)
      have n4 := intSp_nil (t := 0) h1
      have p4 := enc_ten _ (code_lt h1)
      have hml := tiT_len m
      obtain ⟨s, k, e, hV⟩ := ttV_form m
      rcases hT : tiT m with ⟨acc, j, f⟩
      rw [hT] at hml n2 n3
      simp only at hml
      rw [hV] at n1
      generalize hE : enc (code n) = E at *
      have q1 : (E.length : Int) + (m.length : Int) ≤ 140737488355328 := by omega
      have n5 := sameISp_eq (t := 2) (u := 2) (l := acc) (m := acc) (by omega)
      have n6 : sameISp [V.sl 0 1 [], .sl 0 1 []] [] = some ⟨.bool true, []⟩ := by
        have := sameISp_eq (t := 0) (u := 0) (l := []) (m := []) (by simp)
        simpa using this
      have n7 : sameISp [V.sl 2 1 [], .sl 0 1 []] [] = some ⟨.bool true, []⟩ := by
        have := sameISp_eq (t := 2) (u := 0) (l := []) (m := []) (by simp)
        simpa using this
      have w1 : IntKind.i64.wrap 1 = 1 := by decide
      have w2 : IntKind.i64.wrap ((i : Int) + 1) = (i : Int) + 1 := wrap_i64_in (by omega) (by omega)
      by_cases hf : f = 0
      · subst hf
        by_cases hA : acc = []
        · subst hA
          simp only [tiRes, rtiRes, if_pos] at n2 n3
          by_cases hi0 : i = 0
          · subst hi0
            simp [wlSt, n1, n2, n3, n4, n7, listOf, rowOf, q1, w1]
            refine Again.mk (1, E ++ m) ⟨by show 1 ≤ 2; omega, by simp; omega⟩ (by show 2 - 1 < 2 - 0; omega) ?_
            refine weak_at [.inr 0] ?_ ?_ ?_ ?_ <;> simp [rowOf]
          · by_cases hi2 : i < 2
            · have hi2' : (i : Int) < 2 := by omega
              simp [wlSt, hi0, hi2', n1, n2, n3, n4, n7, listOf, rowOf, q1]
              refine Again.mk (i + 1, E ++ m) ⟨by show i + 1 ≤ 2; omega, by simp; omega⟩ (by show 2 - (i + 1) < 2 - i; omega) ?_
              refine weak_at [.inr 0] ?_ ?_ ?_ ?_ <;> simp [rowOf, w2]
            · have hi2' : ¬ (i : Int) < 2 := by omega
              simp [wlSt, hi0, hi2']
              rw [hr]; refine ret_closed rfl ?_ rfl
              simp

        · simp only [tiRes, rtiRes, if_pos, if_neg hA] at n2 n3
          by_cases hi0 : i = 0
          · subst hi0
            simp [wlSt, n1, n2, n3, n4, n5, hA, listOf, rowOf, q1, w1]
            refine Again.mk (1, E ++ m) ⟨by show 1 ≤ 2; omega, by simp; omega⟩ (by show 2 - 1 < 2 - 0; omega) ?_
            refine weak_at [.inr 0] ?_ ?_ ?_ ?_ <;> simp [rowOf]
          · by_cases hi2 : i < 2
            · have hi2' : (i : Int) < 2 := by omega
              simp [wlSt, hi0, hi2', n1, n2, n3, n4, n5, hA, listOf, rowOf, q1]
              refine Again.mk (i + 1, E ++ m) ⟨by show i + 1 ≤ 2; omega, by simp; omega⟩ (by show 2 - (i + 1) < 2 - i; omega) ?_
              refine weak_at [.inr 0] ?_ ?_ ?_ ?_ <;> simp [rowOf, w2]
            · have hi2' : ¬ (i : Int) < 2 := by omega
              simp [wlSt, hi0, hi2']
              rw [hr]; refine ret_closed rfl ?_ rfl
              simp

      · simp only [tiRes, rtiRes, if_neg hf] at n2 n3
        by_cases hi0 : i = 0
        · subst hi0
          simp [wlSt, n1, n2, n3, n4, n6, rowOf, q1, w1]
          refine Again.mk (1, E ++ m) ⟨by show 1 ≤ 2; omega, by simp; omega⟩ (by show 2 - 1 < 2 - 0; omega) ?_
          refine weak_at [.inr 0] ?_ ?_ ?_ ?_ <;> simp [rowOf]
        · by_cases hi2 : i < 2
          · have hi2' : (i : Int) < 2 := by omega
            simp [wlSt, hi0, hi2', n1, n2, n3, n4, n6, rowOf, q1]
            refine Again.mk (i + 1, E ++ m) ⟨by show i + 1 ≤ 2; omega, by simp; omega⟩ (by show 2 - (i + 1) < 2 - i; omega) ?_
            refine weak_at [.inr 0] ?_ ?_ ?_ ?_ <;> simp [rowOf, w2]
          · have hi2' : ¬ (i : Int) < 2 := by omega
            simp [wlSt, hi0, hi2']
            rw [hr]; refine ret_closed rfl ?_ rfl
            simp

  · have h0' : ¬ (l.length : Int) ≤ 300 := by omega
    simp [h0']
    rw [hr]; refine ret_closed rfl ?_ rfl
    simp
end Go.Proofs.Ytopoplebnbcalaa
