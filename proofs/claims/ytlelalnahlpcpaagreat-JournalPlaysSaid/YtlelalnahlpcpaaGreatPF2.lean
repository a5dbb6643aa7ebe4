/-
  Texts: F5, F6.
-/
import Derived.Test.YtlelalnahlpcpaaGreatPF1
import Derived.Test.YtlelalnahlpcpaaGreatPD
set_option linter.unusedSimpArgs false
set_option linter.unusedVariables false
/-
  frame: what frames are taken as.
-/
namespace Go.Proofs.YtlelalnahlpcpaaGreat
open Go.Lift

theorem in64_len {p : List UInt8} (h : p.length ≤ 65536) : In64 (p.length : Int) := by unfold In64; omega
theorem lenT_fr {key : Int} {p more : List UInt8} (h : p.length ≤ 65536) : lenT (frB key p ++ more) = ((p.length : Int), ((enc (code (p.length : Int))).length : Int), 0) := by
  have hT : takeT (frB key p ++ more) = ((p.length : Int), ((enc (code (p.length : Int))).length : Int), 0) := by
    rw [frB_eq, List.append_assoc, List.append_assoc]
    exact takeT_enc (in64_len h) _
  rw [lenT_eq, lenT0, hT]
  simp [show ¬ (p.length : Int) < 0 by omega, show ¬ (65536 : Int) < (p.length : Int) by omega]
theorem frB_len {key : Int} {p : List UInt8} : (frB key p).length = (enc (code (p.length : Int))).length + 8 + p.length := by
  rw [frB_eq]; simp [Nat.add_assoc]

/-- What is taken of a frame with any sum and any record. -/
theorem frT_any {key : Int} {p q s more : List UInt8} (h : p.length ≤ 65536) (hs : s.length = 8) (hq : q.length = p.length) :
    frT key (enc (code (p.length : Int)) ++ s ++ q ++ more) = if (backN s : Int) = sumI key q then (q, ((enc (code (p.length : Int))).length : Int) + 8 + p.length, 0) else ([], 0, 18) := by
  have hL : lenT (enc (code (p.length : Int)) ++ s ++ q ++ more) = ((p.length : Int), ((enc (code (p.length : Int))).length : Int), 0) := by
    have hT : takeT (enc (code (p.length : Int)) ++ s ++ q ++ more) = ((p.length : Int), ((enc (code (p.length : Int))).length : Int), 0) := by
      rw [List.append_assoc, List.append_assoc]
      exact takeT_enc (in64_len h) _
    rw [lenT_eq, lenT0, hT]
    simp [show ¬ (p.length : Int) < 0 by omega, show ¬ (65536 : Int) < (p.length : Int) by omega]
  rw [frT_eq, frT0, hL]
  generalize hE : enc (code (p.length : Int)) = E
  have e1 : ((E ++ s ++ q ++ more).drop E.length).take 8 = s := by
    rw [List.append_assoc, List.append_assoc, List.drop_left, ← hs, List.take_left]
  have e2 : ((E ++ s ++ q ++ more).drop (E.length + 8)).take p.length = q := by
    have : E.length + 8 = (E ++ s).length := by simp [hs]
    rw [this, List.append_assoc (E ++ s), List.drop_left, ← hq, List.take_left]
  have e3 : ¬ (E ++ s ++ q ++ more).length < E.length + 8 + p.length := by simp [hs, hq]; omega
  simp only [Int.toNat_natCast, if_true, e1, e2, if_neg e3]
theorem frT_fr {key key' : Int} {p more : List UInt8} (h : p.length ≤ 65536) (hk : In64 key) (hk' : In64 key') :
    frT key' (frB key p ++ more) = if key = key' then (p, ((frB key p).length : Int), 0) else ([], 0, 18) := by
  have := frT_any (key := key') (p := p) (q := p) (s := sumBs (sumI key p)) (more := more) h (by simp) rfl
  rw [frB_len]
  rw [frB_eq, this, backN_sumBs (sumI_in _ _)]
  by_cases e : key = key'
  · subst e; simp
  · rw [if_neg (fun h => e ((sumI_inj hk hk' p).1 h)), if_neg e]

/-- A number that is cut off. -/
theorem takeAt_cut : ∀ (u i c k : Nat), i ≤ 9 → u < 2 ^ (64 - 7 * i) → (0 < i → 0 < u) → k < (enc u).length → takeAt ((enc u).take k) i c = (0, 0, 17) := by
  intro u
  induction u using Nat.strongRecOn with
  | _ u ih =>
    intro i c k hi hu hp hk
    cases k with
    | zero => rw [List.take_zero, takeAt, if_pos (by omega)]
    | succ k =>
      by_cases h : u < 128
      · rw [enc_small h] at hk; simp at hk
      · rw [enc_great h] at hk ⊢
        rw [List.take_succ_cons, takeAt, if_neg (by omega), hiB_nat, if_pos (by omega)]
        have hi8 : i ≤ 8 := by
          apply Classical.byContradiction
          intro hn
          have e : 64 - 7 * i = 1 := by omega
          rw [e] at hu; omega
        have e1 : 2 ^ (64 - 7 * i) = 2 ^ (64 - 7 * (i + 1)) * 128 := by
          rw [show 64 - 7 * i = (64 - 7 * (i + 1)) + 7 by omega, Nat.pow_add]
        have hq : u / 128 < 2 ^ (64 - 7 * (i + 1)) := by
          rw [Nat.div_lt_iff_lt_mul (by omega)]; omega
        exact ih (u / 128) (by omega) (i + 1) _ k (by omega) hq (fun _ => by omega) (by simpa using hk)
theorem frT_cut {key : Int} {p : List UInt8} {k : Nat} (h : p.length ≤ 65536) (hk : k < (frB key p).length) : frT key ((frB key p).take k) = ([], 0, 17) := by
  have hn := in64_len h
  by_cases hlt : k < (enc (code (p.length : Int))).length
  · have e : (frB key p).take k = (enc (code (p.length : Int))).take k := by
      rw [frB_eq, List.append_assoc, List.take_append_of_le_length (by omega)]
    rw [frT_eq, frT0, lenT_eq, lenT0, takeT_eq, e, takeAt_cut _ 0 0 k (by omega) (by have := code_lt hn; simpa using this) (by omega) hlt]
    simp
  · rw [frB_len] at hk
    have e : (frB key p).take k = enc (code (p.length : Int)) ++ (sumBs (sumI key p) ++ p).take (k - (enc (code (p.length : Int))).length) := by
      rw [frB_eq, List.append_assoc, List.take_append, List.take_of_length_le (by omega)]
    have hL : lenT ((frB key p).take k) = ((p.length : Int), ((enc (code (p.length : Int))).length : Int), 0) := by
      rw [lenT_eq, lenT0, e, takeT_enc hn]
      simp [show ¬ (p.length : Int) < 0 by omega, show ¬ (65536 : Int) < (p.length : Int) by omega]
    have hlen : ((frB key p).take k).length = k := by rw [List.length_take, frB_len]; omega
    rw [frT_eq, frT0, hL]
    simp only [Int.toNat_natCast, if_true, hlen]
    rw [if_pos (by omega)]

/-- One byte of a frame behind its length is changed. -/
theorem frT_damage {key : Int} {p : List UInt8} {k : Nat} {was x : UInt8} (h : p.length ≤ 65536) (h1 : (enc (code (p.length : Int))).length ≤ k) (hw : (frB key p)[k]? = some was) :
    (frT key ((frB key p).set k x)).2.2 = if was = x then 0 else 18 := by
  have hk : k < (frB key p).length := (List.getElem?_eq_some_iff.1 hw).1
  rw [frB_len] at hk
  rw [frB_eq, List.append_assoc] at hw
  rw [frB_eq, List.append_assoc]
  generalize hE : enc (code (p.length : Int)) = E at *
  rw [List.getElem?_append_right h1] at hw
  rw [List.set_append_right _ _ h1]
  generalize hj : k - E.length = j at *
  by_cases hs : j < 8
  · rw [List.getElem?_append_left (by simpa using hs)] at hw
    rw [List.set_append_left _ _ (by simpa using hs)]
    have := frT_any (key := key) (p := p) (q := p) (s := (sumBs (sumI key p)).set j x) (more := []) h (by simp) rfl
    rw [hE, List.append_nil, List.append_assoc] at this
    rw [this]
    by_cases e : was = x
    · subst e
      have hset : (sumBs (sumI key p)).set j was = sumBs (sumI key p) := by
        rw [List.getElem?_eq_some_iff] at hw
        obtain ⟨_, hw⟩ := hw
        rw [← hw, List.set_getElem_self]
      rw [hset, backN_sumBs (sumI_in _ _), if_pos rfl, if_pos rfl]
    · rw [if_neg e, if_neg]
      intro hb
      have h2 := backN_sumBs (sumI_in key p)
      have := backN_inj (by simp) (Int.natCast_inj.1 (hb.trans h2.symm))
      have h3 : ((sumBs (sumI key p)).set j x)[j]? = (sumBs (sumI key p))[j]? := by rw [this]
      rw [hw, List.getElem?_set_self (by simpa using hs)] at h3
      exact e (Option.some.inj h3).symm
  · rw [List.getElem?_append_right (by simp; omega)] at hw
    rw [List.set_append_right _ _ (by simp; omega)]
    simp only [sumBs_length] at hw ⊢
    have := frT_any (key := key) (p := p) (q := p.set (j - 8) x) (s := sumBs (sumI key p)) (more := []) h (by simp) (by simp)
    rw [hE, List.append_nil, List.append_assoc] at this
    rw [this, backN_sumBs (sumI_in _ _)]
    have hsum := sum_set (k := key) (x := x) hw
    by_cases e : was = x
    · rw [if_pos (hsum.2 e), if_pos e]
    · rw [if_neg (fun h => e (hsum.1 h)), if_neg e]

/-- Frames one after the other. -/
noncomputable def framesB (key : Int) (l : List (List UInt8)) : List UInt8 := (l.map (frB key)).flatten
theorem framesB_append (key : Int) (a b : List (List UInt8)) : framesB key (a ++ b) = framesB key a ++ framesB key b := by simp [framesB]
theorem framesB_take {key : Int} {ls : List (List UInt8)} {i : Nat} {x : List UInt8} (hx : ls[i]? = some x) : framesB key (ls.take (i + 1)) = framesB key (ls.take i) ++ frB key x := by
  simp [framesB, List.take_add_one, hx]
theorem allAt_frames {key : Int} (hk : In64 key) : ∀ (l : List (List UInt8)) (pre rest : List UInt8) (acc : List (List UInt8)), (∀ x ∈ l, x.length ≤ 65536) →
    allAt key (pre ++ framesB key l ++ rest) pre.length acc = allAt key (pre ++ framesB key l ++ rest) (pre ++ framesB key l).length (acc ++ l)
  | [], pre, rest, acc, _ => by simp [framesB]
  | x :: l, pre, rest, acc, h => by
    have e : pre ++ framesB key (x :: l) ++ rest = (pre ++ frB key x) ++ framesB key l ++ rest := by simp [framesB]
    have e2 : pre ++ framesB key (x :: l) = (pre ++ frB key x) ++ framesB key l := by simp [framesB]
    have hx := h x (List.mem_cons_self ..)
    have h9 : 9 ≤ (frB key x).length := by rw [frB_len]; have := enc_pos (code (x.length : Int)); omega
    have hT : frT key ((pre ++ framesB key (x :: l) ++ rest).drop pre.length) = (x, ((frB key x).length : Int), 0) := by
      rw [List.append_assoc, List.drop_left]
      have : framesB key (x :: l) ++ rest = frB key x ++ (framesB key l ++ rest) := by simp [framesB]
      rw [this, frT_fr hx hk hk, if_pos rfl]
    rw [allAt_ok (by simp) (by omega) (by rw [e]; simp) hT]
    have := allAt_frames hk l (pre ++ frB key x) rest (acc ++ [x]) (fun y hy => h y (List.mem_cons_of_mem _ hy))
    rw [e2]
    rw [List.length_append] at this
    rw [this]
    simp
theorem allT_frames {key : Int} (hk : In64 key) {l : List (List UInt8)} {rest : List UInt8} (h : ∀ x ∈ l, x.length ≤ 65536) {e : Int} (he : ¬ e = 0) (hr : frT key rest = ([], 0, e)) : allT key (framesB key l ++ rest) = (l, (framesB key l).length) := by
  rw [allT_eq]
  have := allAt_frames hk l [] rest [] h
  simp only [List.nil_append, List.length_nil] at this
  rw [this, allAt_err (by simp) he (by rw [List.drop_left]; exact hr)]
end Go.Proofs.YtlelalnahlpcpaaGreat

/-
  frame: the laws' own functions.
-/
namespace Go.Proofs.YtlelalnahlpcpaaGreat
open Go.Lift

theorem putSp_nil {key : Int} {u : Nat} {p : List UInt8} (hk : In64 key) (hp : p.length ≤ 9223372036854775807) : putSp [V.sl 0 1 [], .int .i64 key, .sl u 1 (byteRow p)] [] = some ⟨.own 0 0 (putB key [] p).length, [rowOf (putB key [] p)]⟩ :=
  putSp_eq (b := []) (by simp) hk (by simp) hp
theorem putB_nil {key : Int} {p : List UInt8} (h : p.length ≤ 65536) : putB key [] p = frB key p := by
  unfold putB; rw [if_neg (by omega)]; rfl
theorem in5' : In64 5 := by unfold In64; omega
theorem putSp_seven : putSp [V.sl 0 1 [], .int .i64 5, .sl 2 1 [[.int .u8 7]]] [] = some ⟨.own 0 0 (frB 5 [7]).length, [rowOf (frB 5 [7])]⟩ := by
  have := putSp_nil (u := 2) (p := [7]) in5' (by simp)
  rw [putB_nil (by simp)] at this
  exact this
theorem frB_seven : (frB 5 [7]).length = 10 := by
  rw [frB_len]
  show (enc (code 1)).length + 8 + 1 = 10
  rw [show code 1 = 2 from rfl, enc_small (by omega)]; rfl

noncomputable def CF7 := mkC [(79, putSp), (53, putSp), (59, frTakeSp), (64, frTakeSp), (51, allSp), (41, sameSp)]
theorem CF7_ok : SpecsOk Tryz.prog CF7 := mkC_ok (all_cons put_spec (all_cons refput_spec (all_cons frTake_spec (all_cons refFrTake_spec (all_cons refall_spec2 (all_cons same_spec all_nil))))))
@[simp] theorem CF7_1 : CF7 79 = putSp := rfl
@[simp] theorem CF7_2 : CF7 53 = putSp := rfl
@[simp] theorem CF7_3 : CF7 59 = frTakeSp := rfl
@[simp] theorem CF7_4 : CF7 64 = frTakeSp := rfl
@[simp] theorem CF7_5 : CF7 51 = allSp := rfl
@[simp] theorem CF7_6 : CF7 41 = sameSp := rfl

noncomputable def fewL (l : List (List UInt8)) : Bool := decide (l.length ≤ 20 ∧ ∀ x ∈ l, x.length ≤ 300)
noncomputable def fewSp3 := fam (fun i : Nat × (List (List UInt8)) => [V.sl i.1 1 (listRow i.2)]) (fun _ : Nat × (List (List UInt8)) => []) (fun i : Nat × (List (List UInt8)) => (i.2.length ≤ 9223372036854775807)) (fun i : Nat × (List (List UInt8)) => ⟨.bool (fewL i.2), []⟩)
@[simp] theorem fewSp3_eq {t : Nat} {l : List (List UInt8)} (h1 : l.length ≤ 9223372036854775807) : fewSp3 ([V.sl t 1 (listRow l)]) ([]) = some (⟨.bool (fewL l), []⟩) :=
  fam_eq (A := fun i : Nat × (List (List UInt8)) => [V.sl i.1 1 (listRow i.2)]) (O := fun _ : Nat × (List (List UInt8)) => []) (res := fun i : Nat × (List (List UInt8)) => ⟨.bool (fewL i.2), []⟩) (by rintro ⟨a0, a1⟩ ⟨b0, b1⟩ h h' <;> simp at h h' <;> simp_all) (t, l) h1

def fwSt (t : Nat) (l : List (List UInt8)) (i : Nat) : St := mkSt [(0, .sl t 1 (listRow l)), (3, .int .i64 i)] [] 0

theorem putB_few {key : Int} {b p : List UInt8} (h : p.length ≤ 65536) : putB key b p = b ++ frB key p := by
  unfold putB; rw [if_neg (by omega)]
theorem frB_le {key : Int} {p : List UInt8} (h : p.length ≤ 65536) : (frB key p).length ≤ p.length + 18 := by
  rw [frB_len]; have := enc_ten _ (code_lt (in64_len h)); omega
theorem framesB_le {key : Int} : ∀ {l : List (List UInt8)}, (∀ x ∈ l, x.length ≤ 300) → (framesB key l).length ≤ 318 * l.length
  | [], _ => by simp [framesB]
  | x :: l, h => by
    have h1 := framesB_le (key := key) (l := l) (fun y hy => h y (List.mem_cons_of_mem _ hy))
    have h2 := h x (List.mem_cons_self ..)
    have h3 := frB_le (key := key) (p := x) (by omega)
    have : framesB key (x :: l) = frB key x ++ framesB key l := by simp [framesB]
    rw [this, List.length_append, List.length_cons]; omega
theorem fewL_spec {l : List (List UInt8)} (h : fewL l = true) : l.length ≤ 20 ∧ ∀ x ∈ l, x.length ≤ 300 := of_decide_eq_true h

noncomputable def wholeSp := fam (fun i : Nat × (List (List UInt8)) × Int => [V.sl i.1 1 (listRow i.2.1), .int .i64 i.2.2]) (fun _ : Nat × (List (List UInt8)) × Int => []) (fun i : Nat × (List (List UInt8)) × Int => (fewL i.2.1 = true) ∧ (In64 i.2.2)) (fun i : Nat × (List (List UInt8)) × Int => ⟨.own 0 0 (framesB i.2.2 i.2.1).length, [rowOf (framesB i.2.2 i.2.1)]⟩)
@[simp] theorem wholeSp_eq {t : Nat} {l : List (List UInt8)} {key : Int} (h1 : fewL l = true) (h2 : In64 key) : wholeSp ([V.sl t 1 (listRow l), .int .i64 key]) ([]) = some (⟨.own 0 0 (framesB key l).length, [rowOf (framesB key l)]⟩) :=
  fam_eq (A := fun i : Nat × (List (List UInt8)) × Int => [V.sl i.1 1 (listRow i.2.1), .int .i64 i.2.2]) (O := fun _ : Nat × (List (List UInt8)) × Int => []) (res := fun i : Nat × (List (List UInt8)) × Int => ⟨.own 0 0 (framesB i.2.2 i.2.1).length, [rowOf (framesB i.2.2 i.2.1)]⟩) (by rintro ⟨a0, a1, a2⟩ ⟨b0, b1, b2⟩ h h' <;> simp at h h' <;> simp_all) (t, l, key) ⟨h1, h2⟩

noncomputable def whSt (t : Nat) (l : List (List UInt8)) (key : Int) (i : Nat) : St :=
  mkSt [(0, .sl t 1 (listRow l)), (1, .int .i64 key), (5, .own 0 0 (framesB key (l.take i)).length), (6, .int .i64 i)] [(0, rowOf (framesB key (l.take i)))] 1

end Go.Proofs.YtlelalnahlpcpaaGreat

