/-
  journal: the laws Votes, Order, Copies.
-/
import Derived.Test.YtlelalnahlpcpaaKE
set_option linter.unusedSimpArgs false
set_option linter.unusedVariables false
namespace Go.Proofs.Ytlelalnahlpcpaa
open Go.Lift
set_option maxRecDepth 100000

theorem cutJ_term (J : JN) (n : Int) : (cutJ J n).term = J.term := by
  unfold cutJ cuJ
  repeat' split
  all_goals rfl
theorem cutJ_vote (J : JN) (n : Int) : (cutJ J n).vote = J.vote := by
  unfold cutJ cuJ
  repeat' split
  all_goals rfl
theorem NumJ.append {J : JN} (h : NumJ J) (t : Int) (e : GEntry) : NumJ (appendJ J t e) := by
  refine ⟨?_, ?_, ?_, ?_⟩ <;> simp only [appendJ_term, appendJ_vote]
  · exact h.t0
  · exact h.t1
  · exact h.v0
  · exact h.v1
theorem NumJ.cut {J : JN} (h : NumJ J) (n : Int) : NumJ (cutJ J n) := by
  refine ⟨?_, ?_, ?_, ?_⟩ <;> simp only [cutJ_term, cutJ_vote]
  · exact h.t0
  · exact h.t1
  · exact h.v0
  · exact h.v1
theorem NumJ.sync {J : JN} (h : NumJ J) : NumJ (syncJ J) := ⟨h.t0, h.t1, h.v0, h.v1⟩
/-- A journal that calls have made. -/
structure MadeJ (J : JN) (n : Nat) : Prop where
  hist : ∃ rs s, Hist J rs s
  num : NumJ J
  bd : J.b.length ≤ 65600 * n
theorem MadeJ.zero : MadeJ zeroJ 0 := ⟨⟨_, _, Hist.zero⟩, NumJ.zero, by simp⟩
theorem MadeJ.d_le {J : JN} {n : Nat} (h : MadeJ J n) : J.d ≤ J.b.length := by obtain ⟨⟨_, _, h1⟩, _, _⟩ := h; exact h1.d_le
theorem MadeJ.setTerm {J : JN} {n : Nat} (h : MadeJ J n) {t v : Int} (h1 : In64 t) (h2 : In64 v) : MadeJ (setTermJ J t v) (n + 1) := by
  obtain ⟨⟨_, _, g1⟩, g2, g3⟩ := h
  have := setTermJ_bd J t v
  exact ⟨⟨_, _, g1.setTerm h1 h2⟩, g2.setTerm t v, by omega⟩
theorem MadeJ.append {J : JN} {n : Nat} (h : MadeJ J n) {t : Int} {e : GEntry} (h1 : In64 t) (h2 : GEntry.ok e) : MadeJ (appendJ J t e) (n + 1) := by
  obtain ⟨⟨_, _, g1⟩, g2, g3⟩ := h
  have := appendJ_bd J t e
  exact ⟨⟨_, _, g1.append h1 h2⟩, g2.append t e, by omega⟩
theorem MadeJ.cut {J : JN} {n : Nat} (h : MadeJ J n) {k : Int} (h1 : In64 k) : MadeJ (cutJ J k) (n + 1) := by
  obtain ⟨⟨_, _, g1⟩, g2, g3⟩ := h
  have := cutJ_bd J k
  exact ⟨⟨_, _, g1.cut h1⟩, g2.cut k, by omega⟩
theorem MadeJ.sync {J : JN} {n : Nat} (h : MadeJ J n) : MadeJ (syncJ J) n := by
  obtain ⟨⟨_, _, g1⟩, g2, g3⟩ := h
  exact ⟨⟨_, _, g1.sync⟩, g2.sync, g3⟩
theorem MadeJ.crash_sync {J : JN} {n : Nat} (h : MadeJ J n) (keep : Int) : crashJ (syncJ J) keep = syncJ J := by
  obtain ⟨⟨_, _, g1⟩, g2, g3⟩ := h
  exact g1.sync.crash_synced keep

theorem em3 (p : Prop) : p = True ∨ p = False := by by_cases h : p; exact .inl (eq_true h); exact .inr (eq_false h)
def voSt (l : List GL08Act) (i : Nat × JN) : St := mkSt [(0, .sl 2 3 (GL08Act.row l)), (3, .ptr 0 0 0), (4, .int .i64 i.1)] [(0, jnO i.2)] 1
set_option maxHeartbeats 4000000 in
theorem law_JournalVotes : Lift.Spec Try.prog 5 (fam (fun i : List GL08Act => [V.sl 2 3 (GL08Act.row i)]) (fun _ => []) (fun _ : List GL08Act => True) (fun _ => ⟨.bool true, []⟩)) := by
  refine spec_fam (C := CNG) types_ok CNG_ok follows Try.func5 (by kernel_rfl) rfl (by kernel_rfl) rfl ?_
  rintro l _
  refine ⟨by simp, ?_⟩
  intro r hr
  by_cases hl : (50 : Int) < (l.length : Int)
  · simp [hl]
    ((repeat refine ⟨⟨by kernel_rfl, by kernel_rfl⟩, ?_⟩); rw [hr]; refine ret_closed rfl ?_ rfl; simp)
  · simp [hl]
    refine axwp_loop (voSt l) (fun i => i.1 ≤ l.length ∧ MadeJ i.2 i.1) (fun i => l.length - i.1) (0, zeroJ) ?_ ⟨Nat.zero_le _, MadeJ.zero⟩ ?_
    · refine weak_at [.inr 3] ?_ ?_ ?_ ?_ <;> simp
    · rintro ⟨i, J⟩ ⟨hi, hM⟩
      simp only at hi hM
      by_cases hik : i < l.length
      · obtain ⟨x, hx, hx', hxm⟩ := get_of_lt hik
        have w4 : IntKind.i64.wrap ((i : Int) + 1) = (i : Int) + 1 := wrap_i64_in (by omega) (by omega)
        have hN := hM.num
        have hbd := hM.bd
        have n0 := hN.t0
        have n1 := hN.t1
        have w1 : IntKind.i64.wrap (J.term - 1) = J.term - 1 := wrap_i64_in (by omega) (by omega)
        have w2 : IntKind.i64.wrap (J.term + 1) = J.term + 1 := wrap_i64_in (by omega) (by omega)
        have p1 : J.term - 1 ≤ J.term + 1 := by omega
        have p2 : -1099511627776 ≤ J.term - 1 := by omega
        have p3 : J.term + 1 ≤ 1099511627776 := by omega
        have hm3 : J.term + 1 - (J.term - 1) + 1 = 3 := by omega
        obtain ⟨t, ht⟩ : ∃ t, t = J.term - 1 + x.A % 3 := ⟨_, rfl⟩
        obtain ⟨v, hv⟩ : ∃ v, v = -1 + x.B % 4 := ⟨_, rfl⟩
        have it : In64 t := by unfold In64; omega
        have iv : In64 v := by unfold In64; omega
        have c1 : J.b.length ≤ 1000000000 := by omega
        have hM1 := hM.setTerm it iv
        have hM2 := hM1.sync
        have hcr := hM1.crash_sync
        have hbd1 := hM1.bd
        obtain ⟨K, hK⟩ : ∃ K, K = setTermJ J t v := ⟨_, rfl⟩
        have kt := setTermJ_term J t v
        have kv := setTermJ_vote J t v
        rw [← hK] at hM1 hM2 hcr hbd1 kt kv
        have c2 : K.b.length ≤ 1000000000 := by omega
        have c3 : K.b.length ≤ 4611686018427387904 := by omega
        have f1 : ¬ K.term < J.term := by
          rw [kt]; split
          · next h0 => have := stE_ok h0; omega
          · omega
        have f2 : K.term = J.term → ¬ J.vote = -1 → K.vote = J.vote := by
          rw [kt, kv]; intro g1 g2
          split at g1
          · next h0 => rw [if_pos h0]; have := stE_ok h0; omega
          · next h0 => rw [if_neg h0]
        have f3 : ¬ stE J t v = 0 → K.term = J.term ∧ K.vote = J.vote := by
          intro h0; rw [kt, kv, if_neg h0, if_neg h0]; exact ⟨rfl, rfl⟩
        rcases em3 (K.term = J.term) with a | a <;> rcases em3 (J.vote = -1) with b | b <;> rcases em3 (K.vote = J.vote) with c | c <;> rcases em3 (stE J t v = 0) with h0 | h0 <;>
          first
          | (exfalso; simp [a, b, c] at f2; done)
          | (exfalso; simp [a, c, h0] at f3; done)
          | skip
        all_goals
          rcases em3 (x.Which.tmod 3 = 0) with hw | hw
        all_goals
          simp [voSt, hik, hx', GL08Act.cells, w1, w2, p1, p2, p3, hm3, ← ht, ← hv, it, iv, c1, ← hK, f1, a, b, c, h0, hw, c2, c3, hcr]
          (repeat refine ⟨⟨by kernel_rfl, by kernel_rfl⟩, ?_⟩)
          refine Again.mk (i + 1, syncJ K) ⟨by exact hik, hM2⟩ (by show l.length - (i + 1) < l.length - i; omega) ?_
          refine weak_at [.inr 3] ?_ ?_ ?_ ?_ <;> simp [w4]
      · have e : i = l.length := by omega
        subst e
        simp [voSt]
        ((repeat refine ⟨⟨by kernel_rfl, by kernel_rfl⟩, ?_⟩); rw [hr]; refine ret_closed rfl ?_ rfl; simp)
end Go.Proofs.Ytlelalnahlpcpaa
