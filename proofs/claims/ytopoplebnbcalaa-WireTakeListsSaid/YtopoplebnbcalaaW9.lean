/-
  wire: texts and lists are read.
-/
import Derived.Test.YtopoplebnbcalaaW8
namespace Go.Proofs.Ytopoplebnbcalaa
open Go.Lift

/-- A length that is read: its number, its bytes, its error. -/
noncomputable def lenT0 (l : List UInt8) : Int × Int × Int :=
  if (takeT l).2.2 = 0 then (if (takeT l).1 < 0 then (0, 0, 18) else if 65536 < (takeT l).1 then (0, 0, 2) else ((takeT l).1, (takeT l).2.1, 0)) else (0, 0, (takeT l).2.2)
noncomputable def lenT : List UInt8 → Int × Int × Int := hush lenT0
theorem lenT_eq (l : List UInt8) : lenT l = lenT0 l := by unfold lenT; rw [hush_eq]
noncomputable def lenV (l : List UInt8) : V := .tup [.int .i64 (lenT l).1, .int .i64 (lenT l).2.1, .int .i64 (lenT l).2.2]
noncomputable def lenSp := fam (fun i : Nat × List UInt8 => [V.sl i.1 1 (byteRow i.2)]) (fun _ => []) (fun _ => True) (fun i => ⟨lenV i.2, []⟩)
@[simp] theorem lenSp_eq {t : Nat} {l : List UInt8} : lenSp [V.sl t 1 (byteRow l)] [] = some ⟨lenV l, []⟩ :=
  fam_eq (A := fun i : Nat × List UInt8 => [V.sl i.1 1 (byteRow i.2)]) (fun i j h _ => by simp at h; rw [h.2]) (t, l) trivial

theorem len_spec : Lift.Spec Try.prog 45 lenSp := by
  refine spec_fam (C := CW) types_ok CW_ok follows Try.func45 (by kernel_rfl) rfl (by kernel_rfl) rfl ?_
  rintro ⟨t, l⟩ _
  refine ⟨by simp, ?_⟩
  intro r hr
  rcases hT : takeT l with ⟨a, b, c⟩
  by_cases hc : c = 0
  · by_cases ha : a < 0
    · have hL : lenT l = (0, 0, 18) := by rw [lenT_eq, lenT0, hT]; simp [hc, ha]
      simp [takeV, hT, hc, ha]
      rw [hr]; refine ret_closed rfl ?_ rfl
      simp [lenV, hL]
    · by_cases hb : 65536 < a
      · have hL : lenT l = (0, 0, 2) := by rw [lenT_eq, lenT0, hT]; simp [hc, ha, hb]
        simp [takeV, hT, hc, ha, hb]
        rw [hr]; refine ret_closed rfl ?_ rfl
        simp [lenV, hL]
      · have hL : lenT l = (a, b, 0) := by rw [lenT_eq, lenT0, hT]; simp [hc, ha, hb]
        simp [takeV, hT, hc, ha, hb]
        rw [hr]; refine ret_closed rfl ?_ rfl
        simp [lenV, hL]
  · have hL : lenT l = (0, 0, c) := by rw [lenT_eq, lenT0, hT]; simp [hc]
    simp [takeV, hT, hc]
    rw [hr]; refine ret_closed rfl ?_ rfl
    simp [lenV, hL]

theorem reflen_spec : Lift.Spec Try.prog 46 lenSp := by
  refine spec_fam (C := CW) types_ok CW_ok follows Try.func46 (by kernel_rfl) rfl (by kernel_rfl) rfl ?_
  rintro ⟨t, l⟩ _
  refine ⟨by simp, ?_⟩
  intro r hr
  rcases hT : takeT l with ⟨a, b, c⟩
  by_cases hc : c = 0
  · by_cases ha : a < 0
    · have hL : lenT l = (0, 0, 18) := by rw [lenT_eq, lenT0, hT]; simp [hc, ha]
      simp [takeV, hT, hc, ha]
      rw [hr]; refine ret_closed rfl ?_ rfl
      simp [lenV, hL]
    · by_cases hb : 65536 < a
      · have hL : lenT l = (0, 0, 2) := by rw [lenT_eq, lenT0, hT]; simp [hc, ha, hb]
        simp [takeV, hT, hc, ha, hb]
        rw [hr]; refine ret_closed rfl ?_ rfl
        simp [lenV, hL]
      · have hL : lenT l = (a, b, 0) := by rw [lenT_eq, lenT0, hT]; simp [hc, ha, hb]
        simp [takeV, hT, hc, ha, hb]
        rw [hr]; refine ret_closed rfl ?_ rfl
        simp [lenV, hL]
  · have hL : lenT l = (0, 0, c) := by rw [lenT_eq, lenT0, hT]; simp [hc]
    simp [takeV, hT, hc]
    rw [hr]; refine ret_closed rfl ?_ rfl
    simp [lenV, hL]

/-- What a length that is read can be. -/
theorem lenT_cases (l : List UInt8) : (∃ e, ¬ e = 0 ∧ lenT l = (0, 0, e)) ∨ ∃ n k : Nat, lenT l = ((n : Int), (k : Int), 0) ∧ n ≤ 65536 ∧ k ≤ l.length ∧ 1 ≤ k ∧ k ≤ 10 ∧ ∃ rest, l = enc (code (n : Int)) ++ rest ∧ k = (enc (code (n : Int))).length := by
  rcases hT : takeT l with ⟨a, b, c⟩
  by_cases hc : c = 0
  · subst hc
    by_cases ha : a < 0
    · exact .inl ⟨18, by decide, by rw [lenT_eq, lenT0, hT]; simp [ha]⟩
    · by_cases hb : 65536 < a
      · exact .inl ⟨2, by decide, by rw [lenT_eq, lenT0, hT]; simp [ha, hb]⟩
      · obtain ⟨hn, rest, h1, h2⟩ := takeT_back hT
        have e : ((a.toNat : Nat) : Int) = a := by omega
        refine .inr ⟨a.toNat, (enc (code a)).length, by rw [lenT_eq, lenT0, hT]; simp [ha, hb, h2, e], by omega, by rw [h1]; simp, enc_pos _, enc_ten _ (code_lt hn), rest, by rw [e]; exact h1, by rw [e]⟩
  · exact .inl ⟨c, hc, by rw [lenT_eq, lenT0, hT]; simp [hc]⟩

/-- A text that is read. -/
noncomputable def ttV (l : List UInt8) : V :=
  if (lenT l).2.2 = 0 then (if (l.length : Int) - (lenT l).2.1 < (lenT l).1 then .tup [.str .empty, .int .i64 0, .int .i64 17]
    else .tup [.str ⟨((l.drop (lenT l).2.1.toNat).take (lenT l).1.toNat).toArray⟩, .int .i64 ((lenT l).2.1 + (lenT l).1), .int .i64 0]) else .tup [.str .empty, .int .i64 0, .int .i64 (lenT l).2.2]
noncomputable def ttSp := fam (fun i : Nat × List UInt8 => [V.sl i.1 1 (byteRow i.2)]) (fun _ => []) (fun i => i.2.length ≤ 140737488355328) (fun i => ⟨ttV i.2, []⟩)
theorem ttSp_eq {t : Nat} {l : List UInt8} (h : l.length ≤ 140737488355328) : ttSp [V.sl t 1 (byteRow l)] [] = some ⟨ttV l, []⟩ :=
  fam_eq (A := fun i : Nat × List UInt8 => [V.sl i.1 1 (byteRow i.2)]) (fun i j h _ => by simp at h; rw [h.2]) (t, l) h

noncomputable def CU := mkC [(45, lenSp), (46, lenSp), (24, takeSp), (25, takeSp)]
theorem CU_ok : SpecsOk Try.prog CU := mkC_ok (all_cons len_spec (all_cons reflen_spec (all_cons take_spec (all_cons reftake_spec all_nil))))
@[simp] theorem CU_1 : CU 45 = lenSp := rfl
@[simp] theorem CU_2 : CU 46 = lenSp := rfl
@[simp] theorem CU_3 : CU 24 = takeSp := rfl
@[simp] theorem CU_4 : CU 25 = takeSp := rfl

theorem tt_spec : Lift.Spec Try.prog 26 ttSp := by
  refine spec_fam (C := CU) types_ok CU_ok follows Try.func26 (by kernel_rfl) rfl (by kernel_rfl) rfl ?_
  rintro ⟨t, l⟩ hl
  simp only at hl
  refine ⟨by simp, ?_⟩
  intro r hr
  rcases lenT_cases l with ⟨e, he, hL⟩ | ⟨n, k, hL, hn, hk, hk1, hk2, _⟩
  · simp [lenV, hL, he]
    rw [hr]; refine ret_closed rfl ?_ ?_ <;> simp [ttV, hL, he]
    rfl
  · have w1 : IntKind.i64.wrap ((l.length : Int) - (k : Int)) = (l.length : Int) - (k : Int) := wrap_i64_in (by omega) (by omega)
    have w2 : IntKind.i64.wrap ((k : Int) + (n : Int)) = (k : Int) + (n : Int) := wrap_i64_in (by omega) (by omega)
    by_cases hs : (l.length : Int) - (k : Int) < (n : Int)
    · simp [lenV, hL, w1, hs]
      rw [hr]; refine ret_closed rfl ?_ ?_ <;> simp [ttV, hL, hs]
      rfl
    · have q1 : (k : Int) + (n : Int) ≤ (l.length : Int) := by omega
      have q2 : (k : Int) ≤ (k : Int) + (n : Int) := by omega
      have w3 : ((k : Int) + (n : Int)).toNat - k = n := by omega
      simp [lenV, hL, w1, w2, w3, hs, q1, q2]
      rw [hr]; refine ret_closed rfl ?_ ?_ <;> simp [ttV, hL, hs]
theorem reftt_spec : Lift.Spec Try.prog 27 ttSp := by
  refine spec_fam (C := CU) types_ok CU_ok follows Try.func27 (by kernel_rfl) rfl (by kernel_rfl) rfl ?_
  rintro ⟨t, l⟩ hl
  simp only at hl
  refine ⟨by simp, ?_⟩
  intro r hr
  rcases lenT_cases l with ⟨e, he, hL⟩ | ⟨n, k, hL, hn, hk, hk1, hk2, _⟩
  · simp [lenV, hL, he]
    rw [hr]; refine ret_closed rfl ?_ ?_ <;> simp [ttV, hL, he]
    rfl
  · have w1 : IntKind.i64.wrap ((l.length : Int) - (k : Int)) = (l.length : Int) - (k : Int) := wrap_i64_in (by omega) (by omega)
    have w2 : IntKind.i64.wrap ((k : Int) + (n : Int)) = (k : Int) + (n : Int) := wrap_i64_in (by omega) (by omega)
    by_cases hs : (l.length : Int) - (k : Int) < (n : Int)
    · simp [lenV, hL, w1, hs]
      rw [hr]; refine ret_closed rfl ?_ ?_ <;> simp [ttV, hL, hs]
      rfl
    · have q1 : (k : Int) + (n : Int) ≤ (l.length : Int) := by omega
      have q2 : (k : Int) ≤ (k : Int) + (n : Int) := by omega
      have w3 : ((k : Int) + (n : Int)).toNat - k = n := by omega
      simp [lenV, hL, w1, w2, w3, hs, q1, q2]
      rw [hr]; refine ret_closed rfl ?_ ?_ <;> simp [ttV, hL, hs]

/-- The elements of a list that are read, from the byte k on. -/
noncomputable def tiGo : Nat → List UInt8 → Nat → List Int → List Int × Int × Int
  | 0, _, k, acc => (acc, (k : Int), 0)
  | c + 1, l, k, acc => if (takeT (l.drop k)).2.2 = 0 then tiGo c l (k + (takeT (l.drop k)).2.1.toNat) (acc ++ [(takeT (l.drop k)).1]) else ([], 0, (takeT (l.drop k)).2.2)
noncomputable def tiT (l : List UInt8) : List Int × Int × Int :=
  if (lenT l).2.2 = 0 then tiGo (lenT l).1.toNat l (lenT l).2.1.toNat [] else ([], 0, (lenT l).2.2)

def listOf (l : List Int) (tight : Bool) : AObj := ⟨3, 1, intRow l, tight, 2, .rw⟩
/-- What the program's TakeInts hands back, and the reference's. -/
def tiRes (x : List Int × Int × Int) : CRes :=
  if x.2.2 = 0 then ⟨.tup [.own 0 0 x.1.length, .int .i64 x.2.1, .int .i64 0], [listOf x.1 (decide (x.1 = []))]⟩ else ⟨.tup [.sl 0 1 [], .int .i64 0, .int .i64 x.2.2], []⟩
def rtiRes (x : List Int × Int × Int) : CRes :=
  if x.2.2 = 0 then (if x.1 = [] then ⟨.tup [.sl 0 1 [], .int .i64 x.2.1, .int .i64 0], []⟩ else ⟨.tup [.own 0 0 x.1.length, .int .i64 x.2.1, .int .i64 0], [listOf x.1 false]⟩) else ⟨.tup [.sl 0 1 [], .int .i64 0, .int .i64 x.2.2], []⟩

noncomputable def tiSp := fam (fun i : Nat × List UInt8 => [V.sl i.1 1 (byteRow i.2)]) (fun _ => []) (fun i => i.2.length ≤ 140737488355328) (fun i => tiRes (tiT i.2))
theorem tiSp_eq {t : Nat} {l : List UInt8} (h : l.length ≤ 140737488355328) : tiSp [V.sl t 1 (byteRow l)] [] = some (tiRes (tiT l)) :=
  fam_eq (A := fun i : Nat × List UInt8 => [V.sl i.1 1 (byteRow i.2)]) (res := fun i => tiRes (tiT i.2)) (fun i j h _ => by simp at h; rw [h.2]) (t, l) h
noncomputable def rtiSp := fam (fun i : Nat × List UInt8 => [V.sl i.1 1 (byteRow i.2)]) (fun _ => []) (fun i => i.2.length ≤ 140737488355328) (fun i => rtiRes (tiT i.2))
theorem rtiSp_eq {t : Nat} {l : List UInt8} (h : l.length ≤ 140737488355328) : rtiSp [V.sl t 1 (byteRow l)] [] = some (rtiRes (tiT l)) :=
  fam_eq (A := fun i : Nat × List UInt8 => [V.sl i.1 1 (byteRow i.2)]) (res := fun i => rtiRes (tiT i.2)) (fun i j h _ => by simp at h; rw [h.2]) (t, l) h

def tiSt (t : Nat) (l : List UInt8) (n : Nat) (tight : Bool) (i : Nat × Nat × List Int) : St :=
  mkSt [(0, .sl t 1 (byteRow l)), (6, .int .i64 i.2.1), (8, .own 0 0 i.2.2.length), (28, .int .i64 n), (29, .int .i64 i.1)] [(0, listOf i.2.2 (if i.2.2 = [] then tight else false))] 1

/-- What an element that is read can be. -/
theorem elem_cases (l : List UInt8) (k : Nat) (hk : k ≤ l.length) : (∃ e, ¬ e = 0 ∧ takeT (l.drop k) = (0, 0, e)) ∨ ∃ (x : Int) (m : Nat), takeT (l.drop k) = (x, (m : Int), 0) ∧ In64 x ∧ k + m ≤ l.length := by
  rcases takeT_err (l.drop k) with h | h | ⟨x, m, h⟩
  · exact .inl ⟨17, by decide, h⟩
  · exact .inl ⟨18, by decide, h⟩
  · obtain ⟨hx, rest, h1, h2⟩ := takeT_back h
    refine .inr ⟨x, (enc (code x)).length, by rw [h, h2], hx, ?_⟩
    have := congrArg List.length h1
    simp only [List.length_drop, List.length_append] at this
    omega

theorem ti_spec : Lift.Spec Try.prog 28 tiSp := by
  refine spec_fam (C := CU) types_ok CU_ok follows Try.func28 (by kernel_rfl) rfl (by kernel_rfl) rfl ?_
  rintro ⟨t, l⟩ hl
  simp only at hl
  refine ⟨by simp, ?_⟩
  intro r hr
  rcases lenT_cases l with ⟨e, he, hL⟩ | ⟨n, k, hL, hn, hk, hk1, hk2, _⟩
  · simp [lenV, hL, he]
    rw [hr]
    have : tiRes (tiT l) = ⟨.tup [.sl 0 1 [], .int .i64 0, .int .i64 e], []⟩ := by simp [tiT, hL, he, tiRes]
    rw [this]; refine ret_closed rfl ?_ rfl
    simp
  · have w1 : IntKind.i64.wrap ((l.length : Int) - (k : Int)) = (l.length : Int) - (k : Int) := wrap_i64_in (by omega) (by omega)
    obtain ⟨c, hc⟩ : ∃ c : Nat, (c : Int) = (if (l.length : Int) - (k : Int) < (n : Int) then (l.length : Int) - (k : Int) else (n : Int)) := ⟨min (l.length - k) n, by split <;> omega⟩
    have hcn : c ≤ n := by split at hc <;> omega
    have hr' : r = tiRes (tiGo n l k []) := by rw [hr]; simp [tiT, hL]
    clear hr
    have q1 : (c : Int) ≤ 140737488351232 := by omega
    have q2 : 8 * (c : Int) ≤ 140737488355328 := by omega
    simp [lenV, hL, w1, ← hc, q1, q2]
    have htight : n = 0 → decide (0 = c) = true := fun h => decide_eq_true (by omega)
    refine axwp_loop (tiSt t l n (decide (0 = c))) (fun i => i.1 ≤ n ∧ i.2.2.length = i.1 ∧ i.2.1 ≤ l.length ∧ tiGo (n - i.1) l i.2.1 i.2.2 = tiGo n l k []) (fun i => n - i.1) (0, k, []) ?_ ⟨Nat.zero_le _, rfl, hk, rfl⟩ ?_
    · refine weak_at [.inr 8] ?_ ?_ ?_ ?_ <;> simp [listOf]
      omega
    · rintro ⟨i, j, acc⟩ ⟨hi, ha, hj, ht⟩
      simp only at hi ha hj ht
      by_cases hin : i < n
      · have e1 : n - i = (n - (i + 1)) + 1 := by omega
        rw [e1, tiGo] at ht
        have w2 : IntKind.i64.wrap ((i : Int) + 1) = (i : Int) + 1 := wrap_i64_in (by omega) (by omega)
        have hj' : (j : Int) ≤ (l.length : Int) := by omega
        have hd : (l.drop j).take (l.length - j) = l.drop j := List.take_of_length_le (by simp)
        rcases elem_cases l j hj with ⟨e, he, hT⟩ | ⟨x, m, hT, hx, hm⟩
        · rw [hT, if_neg he] at ht
          simp [tiSt, hin, hj', hd, takeV, hT, he]
          rw [hr', ← ht]
          have : tiRes ([], 0, e) = ⟨.tup [.sl 0 1 [], .int .i64 0, .int .i64 e], []⟩ := by simp [tiRes, he]
          rw [this]; refine ret_closed rfl ?_ rfl
          simp
        · rw [hT, if_pos rfl] at ht
          simp only [Int.toNat_natCast] at ht
          have w3 : IntKind.i64.wrap ((j : Int) + (m : Int)) = (j : Int) + (m : Int) := wrap_i64_in (by omega) (by omega)
          have ri : ([[V.int .i64 x]] : List (List V)) = intRow [x] := rfl
          have q3 : ((acc.length : Int) + 1) * 8 ≤ 140737488355328 := by omega
          have q4 : (acc.length : Int) + 1 ≤ 140737488355328 := by omega
          simp [tiSt, hin, hj', hd, takeV, hT, listOf, ri, q3, q4]
          refine Again.mk (i + 1, j + m, acc ++ [x]) ⟨hin, by simp [ha], hm, ht⟩ (by show n - (i + 1) < n - i; omega) ?_
          refine weak_at [.inr 8] ?_ ?_ ?_ ?_ <;> simp [listOf, w2, w3]
      · have e : i = n := by omega
        subst e
        rw [Nat.sub_self, tiGo] at ht
        simp [tiSt]
        rw [hr', ← ht]
        have : tiRes (acc, (j : Int), 0) = ⟨.tup [.own 0 0 acc.length, .int .i64 j, .int .i64 0], [listOf acc (decide (acc = []))]⟩ := by simp [tiRes]
        rw [this]
        refine ret_at [.inr 8] rfl ?_ ?_ (by simp) ?_ ?_ ?_ ?_ <;> simp [listOf]
        intro h; rw [h] at ha; simp at ha; omega

def rtiSt (t : Nat) (l : List UInt8) (n : Nat) (i : Nat × Nat × List Int) : St :=
  mkSt [(0, .sl t 1 (byteRow l)), (5, .int .i64 n), (6, .int .i64 i.2.1), (8, if i.2.2 = [] then .sl 0 1 [] else .own 0 0 i.2.2.length), (9, .int .i64 i.1)] (if i.2.2 = [] then [] else [(0, listOf i.2.2 false)]) 1

theorem rti_spec : Lift.Spec Try.prog 29 rtiSp := by
  refine spec_fam (C := CU) types_ok CU_ok follows Try.func29 (by kernel_rfl) rfl (by kernel_rfl) rfl ?_
  rintro ⟨t, l⟩ hl
  simp only at hl
  refine ⟨by simp, ?_⟩
  intro r hr
  rcases lenT_cases l with ⟨e, he, hL⟩ | ⟨n, k, hL, hn, hk, hk1, hk2, _⟩
  · simp [lenV, hL, he]
    rw [hr]
    have : rtiRes (tiT l) = ⟨.tup [.sl 0 1 [], .int .i64 0, .int .i64 e], []⟩ := by simp [tiT, hL, he, rtiRes]
    rw [this]; refine ret_closed rfl ?_ rfl
    simp
  · have hr' : r = rtiRes (tiGo n l k []) := by rw [hr]; simp [tiT, hL]
    clear hr
    simp [lenV, hL]
    refine axwp_loop (rtiSt t l n) (fun i => i.1 ≤ n ∧ i.2.2.length = i.1 ∧ i.2.1 ≤ l.length ∧ tiGo (n - i.1) l i.2.1 i.2.2 = tiGo n l k []) (fun i => n - i.1) (0, k, []) ?_ ⟨Nat.zero_le _, rfl, hk, rfl⟩ ?_
    · refine weak_mk id ?_ ?_ ?_ ?_ <;> simp
    · rintro ⟨i, j, acc⟩ ⟨hi, ha, hj, ht⟩
      simp only at hi ha hj ht
      by_cases hin : i < n
      · have e1 : n - i = (n - (i + 1)) + 1 := by omega
        rw [e1, tiGo] at ht
        have w2 : IntKind.i64.wrap ((i : Int) + 1) = (i : Int) + 1 := wrap_i64_in (by omega) (by omega)
        have hj' : (j : Int) ≤ (l.length : Int) := by omega
        have hd : (l.drop j).take (l.length - j) = l.drop j := List.take_of_length_le (by simp)
        rcases elem_cases l j hj with ⟨e, he, hT⟩ | ⟨x, m, hT, hx, hm⟩
        · rw [hT, if_neg he] at ht
          have hres : r = ⟨.tup [.sl 0 1 [], .int .i64 0, .int .i64 e], []⟩ := by rw [hr', ← ht]; simp [rtiRes, he]
          by_cases hA : acc = [] <;> simp [rtiSt, hA, hin, hj', hd, takeV, hT, he] <;> rw [hres] <;> refine ret_closed rfl ?_ rfl <;> simp
        · rw [hT, if_pos rfl] at ht
          simp only [Int.toNat_natCast] at ht
          have w3 : IntKind.i64.wrap ((j : Int) + (m : Int)) = (j : Int) + (m : Int) := wrap_i64_in (by omega) (by omega)
          have ri : ([[V.int .i64 x]] : List (List V)) = intRow [x] := rfl
          have q3 : ((acc.length : Int) + 1) * 8 ≤ 140737488355328 := by omega
          have q4 : (acc.length : Int) + 1 ≤ 140737488355328 := by omega
          cases acc with
          | nil =>
            simp [rtiSt, hin, hj', hd, takeV, hT, ri]
            refine Again.mk (i + 1, j + m, [] ++ [x]) ⟨hin, by rw [← ha]; rfl, hm, ht⟩ (by show n - (i + 1) < n - i; omega) ?_
            refine weak_at [.inr 8] ?_ ?_ ?_ ?_ <;> simp [listOf, w2, w3]
          | cons a0 tl =>
            generalize hA : a0 :: tl = A at *
            have hne : ¬ A = [] := by rw [← hA]; simp
            simp [rtiSt, hin, hj', hd, takeV, hT, listOf, ri, q3, q4, hne]
            refine Again.mk (i + 1, j + m, A ++ [x]) ⟨hin, by simp [ha], hm, ht⟩ (by show n - (i + 1) < n - i; omega) ?_
            refine weak_at [.inr 8] ?_ ?_ ?_ ?_ <;> simp [listOf, w2, w3]
      · have e : i = n := by omega
        subst e
        rw [Nat.sub_self, tiGo] at ht
        by_cases hA : acc = []
        · simp [rtiSt, hA]
          rw [hr', ← ht]
          have : rtiRes (acc, (j : Int), 0) = ⟨.tup [.sl 0 1 [], .int .i64 j, .int .i64 0], []⟩ := by simp [rtiRes, hA]
          rw [this]; refine ret_closed rfl ?_ rfl
          simp
        · simp [rtiSt, hA]
          rw [hr', ← ht]
          have : rtiRes (acc, (j : Int), 0) = ⟨.tup [.own 0 0 acc.length, .int .i64 j, .int .i64 0], [listOf acc false]⟩ := by simp [rtiRes, hA]
          rw [this]
          refine ret_at [.inr 8] rfl ?_ ?_ (by simp) ?_ ?_ ?_ ?_ <;> simp [listOf]
end Go.Proofs.Ytopoplebnbcalaa
