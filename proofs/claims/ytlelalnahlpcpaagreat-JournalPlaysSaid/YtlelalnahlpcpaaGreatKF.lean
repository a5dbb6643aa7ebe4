/-
  journal: the laws Votes, Order, Copies.
-/
import Derived.Test.YtlelalnahlpcpaaGreatKE
set_option linter.unusedSimpArgs false
set_option linter.unusedVariables false
namespace Go.Proofs.YtlelalnahlpcpaaGreat
open Go.Lift
set_option maxRecDepth 100000

theorem cutJ_term (J : JN) (n : Int) : (cutJ J n).term = J.term := by
  unfold cutJ cuJ
  repeat' split
  all_goals rfl
theorem cutJ_vote (J : JN) (n : Int) : (cutJ J n).vote = J.vote := by
  unfold cutJ cuJ
  repeat' split
  all_goals rfl
theorem NumJ.append {J : JN} (h : NumJ J) (t : Int) (e : GEntry) : NumJ (appendJ J t e) := by
  refine ⟨?_, ?_, ?_, ?_⟩ <;> simp only [appendJ_term, appendJ_vote]
  · exact h.t0
  · exact h.t1
  · exact h.v0
  · exact h.v1
theorem NumJ.cut {J : JN} (h : NumJ J) (n : Int) : NumJ (cutJ J n) := by
  refine ⟨?_, ?_, ?_, ?_⟩ <;> simp only [cutJ_term, cutJ_vote]
  · exact h.t0
  · exact h.t1
  · exact h.v0
  · exact h.v1
theorem NumJ.sync {J : JN} (h : NumJ J) : NumJ (syncJ J) := ⟨h.t0, h.t1, h.v0, h.v1⟩
/-- A journal that calls have made. -/
structure MadeJ (J : JN) (n : Nat) : Prop where
  hist : ∃ rs s, Hist J rs s
  num : NumJ J
  bd : J.b.length ≤ 65600 * n
theorem MadeJ.zero : MadeJ zeroJ 0 := ⟨⟨_, _, Hist.zero⟩, NumJ.zero, by simp⟩
theorem MadeJ.d_le {J : JN} {n : Nat} (h : MadeJ J n) : J.d ≤ J.b.length := by obtain ⟨⟨_, _, h1⟩, _, _⟩ := h; exact h1.d_le
theorem MadeJ.setTerm {J : JN} {n : Nat} (h : MadeJ J n) {t v : Int} (h1 : In64 t) (h2 : In64 v) : MadeJ (setTermJ J t v) (n + 1) := by
  obtain ⟨⟨_, _, g1⟩, g2, g3⟩ := h
  have := setTermJ_bd J t v
  exact ⟨⟨_, _, g1.setTerm h1 h2⟩, g2.setTerm t v, by omega⟩
theorem MadeJ.append {J : JN} {n : Nat} (h : MadeJ J n) {t : Int} {e : GEntry} (h1 : In64 t) (h2 : GEntry.ok e) : MadeJ (appendJ J t e) (n + 1) := by
  obtain ⟨⟨_, _, g1⟩, g2, g3⟩ := h
  have := appendJ_bd J t e
  exact ⟨⟨_, _, g1.append h1 h2⟩, g2.append t e, by omega⟩
theorem MadeJ.cut {J : JN} {n : Nat} (h : MadeJ J n) {k : Int} (h1 : In64 k) : MadeJ (cutJ J k) (n + 1) := by
  obtain ⟨⟨_, _, g1⟩, g2, g3⟩ := h
  have := cutJ_bd J k
  exact ⟨⟨_, _, g1.cut h1⟩, g2.cut k, by omega⟩
theorem MadeJ.sync {J : JN} {n : Nat} (h : MadeJ J n) : MadeJ (syncJ J) n := by
  obtain ⟨⟨_, _, g1⟩, g2, g3⟩ := h
  exact ⟨⟨_, _, g1.sync⟩, g2.sync, g3⟩
theorem MadeJ.crash_sync {J : JN} {n : Nat} (h : MadeJ J n) (keep : Int) : crashJ (syncJ J) keep = syncJ J := by
  obtain ⟨⟨_, _, g1⟩, g2, g3⟩ := h
  exact g1.sync.crash_synced keep

theorem em3 (p : Prop) : p = True ∨ p = False := by by_cases h : p; exact .inl (eq_true h); exact .inr (eq_false h)
def voSt (l : List GL08Act) (i : Nat × JN) : St := mkSt [(0, .sl 2 3 (GL08Act.row l)), (3, .ptr 0 0 0), (4, .int .i64 i.1)] [(0, jnO i.2)] 1
end Go.Proofs.YtlelalnahlpcpaaGreat
