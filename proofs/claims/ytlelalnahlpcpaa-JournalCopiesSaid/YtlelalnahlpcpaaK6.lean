/-
  journal: reading records; the reference.
-/
import Derived.Test.YtlelalnahlpcpaaK5
import Derived.Test.YtlelalnahlpcpaaE9
set_option linter.unusedSimpArgs false
set_option linter.unusedVariables false
namespace Go.Proofs.Ytlelalnahlpcpaa
open Go.Lift

/-- What a record makes of a journal, and whether it is right. -/
noncomputable def recordJ (J : JN) (p : List UInt8) : JN × Bool :=
  if (takeT p).2.2 ≠ 0 then (J, false) else
  if (takeT (p.drop (takeT p).2.1.toNat)).2.2 ≠ 0 then (J, false) else
  if (takeT p).1 = 1 then
    (if (takeT (p.drop ((takeT p).2.1 + (takeT (p.drop (takeT p).2.1.toNat)).2.1).toNat)).2.2 = 0 ∧ (takeT p).2.1 + (takeT (p.drop (takeT p).2.1.toNat)).2.1 + (takeT (p.drop ((takeT p).2.1 + (takeT (p.drop (takeT p).2.1.toNat)).2.1).toNat)).2.1 = p.length then
      (stJ J (takeT (p.drop (takeT p).2.1.toNat)).1 (takeT (p.drop ((takeT p).2.1 + (takeT (p.drop (takeT p).2.1.toNat)).2.1).toNat)).1, decide (stE J (takeT (p.drop (takeT p).2.1.toNat)).1 (takeT (p.drop ((takeT p).2.1 + (takeT (p.drop (takeT p).2.1.toNat)).2.1).toNat)).1 = 0))
    else (J, false))
  else if (takeT p).1 = 2 then
    (if (readE (p.drop ((takeT p).2.1 + (takeT (p.drop (takeT p).2.1.toNat)).2.1).toNat)).2.2 = 0 ∧ (takeT p).2.1 + (takeT (p.drop (takeT p).2.1.toNat)).2.1 + (readE (p.drop ((takeT p).2.1 + (takeT (p.drop (takeT p).2.1.toNat)).2.1).toNat)).2.1 = p.length then
      (adJ J (takeT (p.drop (takeT p).2.1.toNat)).1 (readE (p.drop ((takeT p).2.1 + (takeT (p.drop (takeT p).2.1.toNat)).2.1).toNat)).1, decide (adE J (takeT (p.drop (takeT p).2.1.toNat)).1 (readE (p.drop ((takeT p).2.1 + (takeT (p.drop (takeT p).2.1.toNat)).2.1).toNat)).1 = 0))
    else (J, false))
  else if (takeT p).1 = 3 then
    (if (takeT p).2.1 + (takeT (p.drop (takeT p).2.1.toNat)).2.1 = p.length then (cuJ J (takeT (p.drop (takeT p).2.1.toNat)).1, decide (cuE J (takeT (p.drop (takeT p).2.1.toNat)).1 = 0)) else (J, false))
  else (J, false)

noncomputable def CKA := mkC []
theorem CKA_ok : SpecsOk Try.prog CKA := mkC_ok all_nil

@[simp] theorem take_drop_all {α : Type} (l : List α) (n : Nat) : (l.drop n).take (l.length - n) = l.drop n := List.take_of_length_le (by simp)
theorem takeT_ok {l : List UInt8} {n k : Int} (h : takeT l = (n, k, 0)) : ∃ q : Nat, k = q ∧ 1 ≤ q ∧ q ≤ l.length := by
  obtain ⟨_, rest, h1, h2⟩ := takeT_back h
  refine ⟨_, h2, enc_pos _, ?_⟩
  rw [h1]; simp
theorem takeT_two (l : List UInt8) : (∃ e, ¬ e = 0 ∧ takeT l = (0, 0, e)) ∨ ∃ (n : Int) (q : Nat), takeT l = (n, (q : Int), 0) ∧ 1 ≤ q ∧ q ≤ l.length := by
  rcases takeT_err l with h | h | ⟨n, k, h⟩
  · exact .inl ⟨17, by decide, h⟩
  · exact .inl ⟨18, by decide, h⟩
  · obtain ⟨q, rfl, h1, h2⟩ := takeT_ok h
    exact .inr ⟨n, q, h, h1, h2⟩

/-- What the records make of a journal, up to the first that is not right, and how many bytes of frames they take. -/
noncomputable def replayJ : List (List UInt8) → JN → Nat → JN × Nat
  | [], J, n => (J, n)
  | p :: ps, J, n => if (recordJ J p).2 = true then replayJ ps (recordJ J p).1 (n + (putB 8 [] p).length) else ((recordJ J p).1, n)
def truncP (b : List UInt8) (d n : Nat) : List UInt8 × Nat := if b.length < n then (b, d) else (b.take n, min d n)
noncomputable def readJ (b : List UInt8) (d : Nat) : JN :=
  { (replayJ (allT 8 b).1 ⟨b, d, 0, -1, []⟩ 0).1 with b := (truncP b d (replayJ (allT 8 b).1 ⟨b, d, 0, -1, []⟩ 0).2).1, d := (truncP b d (replayJ (allT 8 b).1 ⟨b, d, 0, -1, []⟩ 0).2).2 }
noncomputable def crashJ (J : JN) (keep : Int) : JN := readJ (J.b.take (crashN J.b.length J.d keep)) (crashN J.b.length J.d keep)
theorem recordJ_disk (J : JN) (p : List UInt8) : (recordJ J p).1.b = J.b ∧ (recordJ J p).1.d = J.d := by
  unfold recordJ stJ adJ cuJ
  repeat' split
  all_goals exact ⟨rfl, rfl⟩
theorem recordJ_log (J : JN) (p : List UInt8) : (recordJ J p).1.log.length ≤ J.log.length + 1 := by
  unfold recordJ stJ adJ cuJ
  repeat' split
  all_goals simp <;> omega
theorem putB_any (p : List UInt8) : (putB 8 [] p).length ≤ 65600 := by
  by_cases h : p.length ≤ 65536
  · exact putB_len h
  · unfold putB; rw [if_pos (by omega)]; simp
theorem allAt_small (key : Int) (b : List UInt8) : ∀ (m at_ : Nat) (acc : List (List UInt8)), b.length - at_ ≤ m → at_ ≤ b.length → acc.length ≤ at_ → (∀ p ∈ acc, p.length ≤ 65536) → (allAt key b at_ acc).1.length ≤ b.length ∧ ∀ p ∈ (allAt key b at_ acc).1, p.length ≤ 65536 := by
  intro m
  induction m with
  | zero =>
    intro at_ acc h1 h3 h2 hacc
    have e : at_ = b.length := by omega
    rw [allAt_err h3 (e := 17) (by decide) (by rw [e, List.drop_length]; exact frT_nil key)]
    exact ⟨Nat.le_trans h2 h3, hacc⟩
  | succ m ih =>
    intro at_ acc h1 h3 h2 hacc
    rcases frT_two key (b.drop at_) with ⟨e, he, hT⟩ | ⟨p, n, hT, h9, hle, hpn⟩
    · rw [allAt_err h3 he hT]; exact ⟨Nat.le_trans h2 h3, hacc⟩
    · rw [List.length_drop] at hle
      rw [allAt_ok h3 (by omega) (by omega) hT]
      refine ih _ _ (by omega) (by omega) (by simp; omega) fun q hq => ?_
      rcases List.mem_append.1 hq with h | h
      · exact hacc q h
      · simp at h; subst h; exact hpn
theorem allT_small (key : Int) (b : List UInt8) : (allT key b).1.length ≤ b.length ∧ ∀ p ∈ (allT key b).1, p.length ≤ 65536 := by
  rw [allT_eq]; exact allAt_small key b b.length 0 [] (by omega) (Nat.zero_le _) (Nat.le_refl _) (by simp)

noncomputable def CKB := mkC []
theorem CKB_ok : SpecsOk Try.prog CKB := mkC_ok all_nil

noncomputable def CKC := mkC []
theorem CKC_ok : SpecsOk Try.prog CKC := mkC_ok all_nil

noncomputable def CKD := mkC []
theorem CKD_ok : SpecsOk Try.prog CKD := mkC_ok all_nil

end Go.Proofs.Ytlelalnahlpcpaa
