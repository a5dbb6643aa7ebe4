/-
  wire: texts and lists are read.
-/
import Derived.Test.YtgnfgcpolbcaoaaW8
namespace Go.Proofs.Ytgnfgcpolbcaoaa
open Go.Lift

/-- A length that is read: its number, its bytes, its error. -/
noncomputable def lenT0 (l : List UInt8) : Int × Int × Int :=
  if (takeT l).2.2 = 0 then (if (takeT l).1 < 0 then (0, 0, 18) else if 65536 < (takeT l).1 then (0, 0, 2) else ((takeT l).1, (takeT l).2.1, 0)) else (0, 0, (takeT l).2.2)
noncomputable def lenT : List UInt8 → Int × Int × Int := hush lenT0
theorem lenT_eq (l : List UInt8) : lenT l = lenT0 l := by unfold lenT; rw [hush_eq]
noncomputable def lenV (l : List UInt8) : V := .tup [.int .i64 (lenT l).1, .int .i64 (lenT l).2.1, .int .i64 (lenT l).2.2]
noncomputable def lenSp := fam (fun i : Nat × List UInt8 => [V.sl i.1 1 (byteRow i.2)]) (fun _ => []) (fun _ => True) (fun i => ⟨lenV i.2, []⟩)
@[simp] theorem lenSp_eq {t : Nat} {l : List UInt8} : lenSp [V.sl t 1 (byteRow l)] [] = some ⟨lenV l, []⟩ :=
  fam_eq (A := fun i : Nat × List UInt8 => [V.sl i.1 1 (byteRow i.2)]) (fun i j h _ => by simp at h; rw [h.2]) (t, l) trivial

/-- What a length that is read can be. -/
theorem lenT_cases (l : List UInt8) : (∃ e, ¬ e = 0 ∧ lenT l = (0, 0, e)) ∨ ∃ n k : Nat, lenT l = ((n : Int), (k : Int), 0) ∧ n ≤ 65536 ∧ k ≤ l.length ∧ 1 ≤ k ∧ k ≤ 10 ∧ ∃ rest, l = enc (code (n : Int)) ++ rest ∧ k = (enc (code (n : Int))).length := by
  rcases hT : takeT l with ⟨a, b, c⟩
  by_cases hc : c = 0
  · subst hc
    by_cases ha : a < 0
    · exact .inl ⟨18, by decide, by rw [lenT_eq, lenT0, hT]; simp [ha]⟩
    · by_cases hb : 65536 < a
      · exact .inl ⟨2, by decide, by rw [lenT_eq, lenT0, hT]; simp [ha, hb]⟩
      · obtain ⟨hn, rest, h1, h2⟩ := takeT_back hT
        have e : ((a.toNat : Nat) : Int) = a := by omega
        refine .inr ⟨a.toNat, (enc (code a)).length, by rw [lenT_eq, lenT0, hT]; simp [ha, hb, h2, e], by omega, by rw [h1]; simp, enc_pos _, enc_ten _ (code_lt hn), rest, by rw [e]; exact h1, by rw [e]⟩
  · exact .inl ⟨c, hc, by rw [lenT_eq, lenT0, hT]; simp [hc]⟩

/-- A text that is read. -/
noncomputable def ttV (l : List UInt8) : V :=
  if (lenT l).2.2 = 0 then (if (l.length : Int) - (lenT l).2.1 < (lenT l).1 then .tup [.str .empty, .int .i64 0, .int .i64 17]
    else .tup [.str ⟨((l.drop (lenT l).2.1.toNat).take (lenT l).1.toNat).toArray⟩, .int .i64 ((lenT l).2.1 + (lenT l).1), .int .i64 0]) else .tup [.str .empty, .int .i64 0, .int .i64 (lenT l).2.2]
noncomputable def ttSp := fam (fun i : Nat × List UInt8 => [V.sl i.1 1 (byteRow i.2)]) (fun _ => []) (fun i => i.2.length ≤ 140737488355328) (fun i => ⟨ttV i.2, []⟩)
theorem ttSp_eq {t : Nat} {l : List UInt8} (h : l.length ≤ 140737488355328) : ttSp [V.sl t 1 (byteRow l)] [] = some ⟨ttV l, []⟩ :=
  fam_eq (A := fun i : Nat × List UInt8 => [V.sl i.1 1 (byteRow i.2)]) (fun i j h _ => by simp at h; rw [h.2]) (t, l) h

noncomputable def CU := mkC [(42, takeSp), (32, takeSp)]
theorem CU_ok : SpecsOk Try.prog CU := mkC_ok (all_cons take_spec (all_cons reftake_spec all_nil))
@[simp] theorem CU_1 : CU 42 = takeSp := rfl
@[simp] theorem CU_2 : CU 32 = takeSp := rfl

/-- The elements of a list that are read, from the byte k on. -/
noncomputable def tiGo : Nat → List UInt8 → Nat → List Int → List Int × Int × Int
  | 0, _, k, acc => (acc, (k : Int), 0)
  | c + 1, l, k, acc => if (takeT (l.drop k)).2.2 = 0 then tiGo c l (k + (takeT (l.drop k)).2.1.toNat) (acc ++ [(takeT (l.drop k)).1]) else ([], 0, (takeT (l.drop k)).2.2)
noncomputable def tiT (l : List UInt8) : List Int × Int × Int :=
  if (lenT l).2.2 = 0 then tiGo (lenT l).1.toNat l (lenT l).2.1.toNat [] else ([], 0, (lenT l).2.2)

def listOf (l : List Int) (tight : Bool) : AObj := ⟨3, 1, intRow l, tight, 2, .rw⟩
/-- What the program's TakeInts hands back, and the reference's. -/
def tiRes (x : List Int × Int × Int) : CRes :=
  if x.2.2 = 0 then ⟨.tup [.own 0 0 x.1.length, .int .i64 x.2.1, .int .i64 0], [listOf x.1 (decide (x.1 = []))]⟩ else ⟨.tup [.sl 0 1 [], .int .i64 0, .int .i64 x.2.2], []⟩
def rtiRes (x : List Int × Int × Int) : CRes :=
  if x.2.2 = 0 then (if x.1 = [] then ⟨.tup [.sl 0 1 [], .int .i64 x.2.1, .int .i64 0], []⟩ else ⟨.tup [.own 0 0 x.1.length, .int .i64 x.2.1, .int .i64 0], [listOf x.1 false]⟩) else ⟨.tup [.sl 0 1 [], .int .i64 0, .int .i64 x.2.2], []⟩

noncomputable def tiSp := fam (fun i : Nat × List UInt8 => [V.sl i.1 1 (byteRow i.2)]) (fun _ => []) (fun i => i.2.length ≤ 140737488355328) (fun i => tiRes (tiT i.2))
theorem tiSp_eq {t : Nat} {l : List UInt8} (h : l.length ≤ 140737488355328) : tiSp [V.sl t 1 (byteRow l)] [] = some (tiRes (tiT l)) :=
  fam_eq (A := fun i : Nat × List UInt8 => [V.sl i.1 1 (byteRow i.2)]) (res := fun i => tiRes (tiT i.2)) (fun i j h _ => by simp at h; rw [h.2]) (t, l) h
noncomputable def rtiSp := fam (fun i : Nat × List UInt8 => [V.sl i.1 1 (byteRow i.2)]) (fun _ => []) (fun i => i.2.length ≤ 140737488355328) (fun i => rtiRes (tiT i.2))
theorem rtiSp_eq {t : Nat} {l : List UInt8} (h : l.length ≤ 140737488355328) : rtiSp [V.sl t 1 (byteRow l)] [] = some (rtiRes (tiT l)) :=
  fam_eq (A := fun i : Nat × List UInt8 => [V.sl i.1 1 (byteRow i.2)]) (res := fun i => rtiRes (tiT i.2)) (fun i j h _ => by simp at h; rw [h.2]) (t, l) h

def tiSt (t : Nat) (l : List UInt8) (n : Nat) (tight : Bool) (i : Nat × Nat × List Int) : St :=
  mkSt [(0, .sl t 1 (byteRow l)), (6, .int .i64 i.2.1), (8, .own 0 0 i.2.2.length), (28, .int .i64 n), (29, .int .i64 i.1)] [(0, listOf i.2.2 (if i.2.2 = [] then tight else false))] 1

/-- What an element that is read can be. -/
theorem elem_cases (l : List UInt8) (k : Nat) (hk : k ≤ l.length) : (∃ e, ¬ e = 0 ∧ takeT (l.drop k) = (0, 0, e)) ∨ ∃ (x : Int) (m : Nat), takeT (l.drop k) = (x, (m : Int), 0) ∧ In64 x ∧ k + m ≤ l.length := by
  rcases takeT_err (l.drop k) with h | h | ⟨x, m, h⟩
  · exact .inl ⟨17, by decide, h⟩
  · exact .inl ⟨18, by decide, h⟩
  · obtain ⟨hx, rest, h1, h2⟩ := takeT_back h
    refine .inr ⟨x, (enc (code x)).length, by rw [h, h2], hx, ?_⟩
    have := congrArg List.length h1
    simp only [List.length_drop, List.length_append] at this
    omega

def rtiSt (t : Nat) (l : List UInt8) (n : Nat) (i : Nat × Nat × List Int) : St :=
  mkSt [(0, .sl t 1 (byteRow l)), (5, .int .i64 n), (6, .int .i64 i.2.1), (8, if i.2.2 = [] then .sl 0 1 [] else .own 0 0 i.2.2.length), (9, .int .i64 i.1)] (if i.2.2 = [] then [] else [(0, listOf i.2.2 false)]) 1

end Go.Proofs.Ytgnfgcpolbcaoaa
