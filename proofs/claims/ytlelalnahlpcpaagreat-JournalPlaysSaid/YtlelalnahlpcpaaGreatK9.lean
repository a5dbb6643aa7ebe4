/-
  journal: logs that grow, terms and votes, the order of terms (all of it over the model alone).
-/
import Derived.Test.YtlelalnahlpcpaaGreatK8
set_option linter.unusedSimpArgs false
set_option linter.unusedVariables false
namespace Go.Proofs.YtlelalnahlpcpaaGreat
open Go.Lift

/-! ### A log that has grown -/
theorem grown_fin {es : List GEntry} (h : ∀ e ∈ es, GEntry.ok e ∧ shapeE e = true) (hl : es.length ≤ 4096) : finR (recA 1 0 :: es.map (recE 1)) zeroJ = ⟨[], 0, 1, 0, es.map (fun e => ⟨1, e⟩)⟩ ∧ AllR (recA 1 0 :: es.map (recE 1)) zeroJ := by
  have i1 : In64 1 := in1
  have i0 : In64 0 := by unfold In64; omega
  have hb := recA_back i1 i0 zeroJ
  have hs0 : stE zeroJ 1 0 = 0 := by simp [stE, zeroJ]
  have hst : stJ zeroJ 1 0 = ⟨[], 0, 1, 0, []⟩ := by unfold stJ; rw [if_pos hs0]; rfl
  have g := finR_log es ⟨[], 0, 1, 0, []⟩ (by simp) (by simp) (by simp) (by simpa using hl) h
  refine ⟨?_, ?_⟩
  · show finR _ (recordJ zeroJ (recA 1 0)).1 = _
    rw [hb, hst, g.2]; simp
  · refine ⟨by rw [hb]; simp [hs0], ?_⟩
    rw [hb, hst]; exact g.1
theorem grown_zero : Hist (setTermJ zeroJ 1 0) [recA 1 0] 0 := by
  have := Hist.zero.setTerm (t := 1) (v := 0) in1 (by unfold In64; omega)
  have hs0 : stE zeroJ 1 0 = 0 := by simp [stE, zeroJ]
  rw [if_pos hs0] at this
  exact this
structure Grown (J : JN) (es : List GEntry) (s : Nat) : Prop where
  hist : Hist J (recA 1 0 :: es.map (recE 1)) (s + 1)
  ok : ∀ e ∈ es, GEntry.ok e ∧ shapeE e = true
theorem Grown.zero : Grown (syncJ (setTermJ zeroJ 1 0)) [] 0 := ⟨by have := grown_zero.sync; simpa using this, by simp⟩
theorem Grown.le {J : JN} {es : List GEntry} {s : Nat} (h : Grown J es s) : s ≤ es.length := by have := h.hist.le; simp at this; omega
theorem Grown.is {J : JN} {es : List GEntry} {s : Nat} (h : Grown J es s) (hl : es.length ≤ 4096) : J.term = 1 ∧ J.vote = 0 ∧ J.log = es.map (fun e => ⟨1, e⟩) := by
  have g := (grown_fin h.ok hl).1
  have e := h.hist.eq
  rw [g] at e
  rw [e]; exact ⟨rfl, rfl, rfl⟩
theorem Grown.sync {J : JN} {es : List GEntry} {s : Nat} (h : Grown J es s) : Grown (syncJ J) es es.length := ⟨by have := h.hist.sync; simpa using this, h.ok⟩
theorem logAt_all {l : List GLogged} {t : Int} (h : ∀ x ∈ l, x.Term = t) (h0 : 0 ≤ t) : lastT l ≤ t := by
  unfold lastT logAt
  split
  · next hc =>
    have : (l.length : Int) - 1 = ((l.length - 1 : Nat) : Int) := by omega
    rw [this, Int.toNat_natCast, List.getD_eq_getElem?_getD, List.getElem?_eq_getElem (by omega), Option.getD_some]
    rw [h _ (List.getElem_mem _)]; exact Int.le_refl _
  · exact h0
theorem Grown.adE {J : JN} {es : List GEntry} {s : Nat} (h : Grown J es s) (hl : es.length < 4096) {e : GEntry} (hs : shapeE e = true) : adE J 1 e = 0 := by
  obtain ⟨h1, h2, h3⟩ := h.is (by omega)
  have := logAt_all (l := J.log) (t := 1) (by rw [h3]; intro x hx; obtain ⟨y, _, rfl⟩ := List.mem_map.1 hx; rfl) (by omega)
  unfold Go.Proofs.YtlelalnahlpcpaaGreat.adE
  rw [if_neg (by rw [hs]; simp), if_neg (by omega), if_neg (by rw [h3]; simp; omega)]
theorem Grown.append {J : JN} {es : List GEntry} {s : Nat} (h : Grown J es s) (hl : es.length < 4096) {e : GEntry} (ho : GEntry.ok e) (hs : shapeE e = true) : Grown (appendJ J 1 e) (es ++ [e]) s := by
  have g := h.hist.append in1 ho
  rw [if_pos (h.adE hl hs)] at g
  refine ⟨by simpa using g, fun x hx => ?_⟩
  rcases List.mem_append.1 hx with h1 | h1
  · exact h.ok x h1
  · simp at h1; subst h1; exact ⟨ho, hs⟩
theorem Grown.crash {J : JN} {es : List GEntry} {s : Nat} (h : Grown J es s) (hl : es.length ≤ 4096) (keep : Int) : ∃ k, s ≤ k ∧ k ≤ es.length ∧ Grown (crashJ J keep) (es.take k) k := by
  obtain ⟨k, h1, h2, h3⟩ := h.hist.crash keep
  obtain ⟨m, rfl⟩ : ∃ m, k = m + 1 := ⟨k - 1, by omega⟩
  refine ⟨m, by omega, by simpa using h2, ⟨?_, fun e he => h.ok e (List.mem_of_mem_take he)⟩⟩
  rw [List.take_succ_cons, ← List.map_take] at h3
  exact h3

/-! ### Terms and votes -/
theorem setTermJ_term (J : JN) (t v : Int) : (setTermJ J t v).term = if stE J t v = 0 then t else J.term := by
  unfold setTermJ
  by_cases h : stE J t v = 0
  · rw [if_pos h, if_pos h]; unfold stJ; rw [if_pos h]; rfl
  · rw [if_neg h, if_neg h]
theorem setTermJ_vote (J : JN) (t v : Int) : (setTermJ J t v).vote = if stE J t v = 0 then v else J.vote := by
  unfold setTermJ
  by_cases h : stE J t v = 0
  · rw [if_pos h, if_pos h]; unfold stJ; rw [if_pos h]; rfl
  · rw [if_neg h, if_neg h]
theorem setTermJ_log (J : JN) (t v : Int) : (setTermJ J t v).log = J.log := by
  unfold setTermJ
  by_cases h : stE J t v = 0
  · rw [if_pos h]; unfold stJ; rw [if_pos h]; rfl
  · rw [if_neg h]
theorem stE_ok {J : JN} {t v : Int} (h : stE J t v = 0) : 0 ≤ t ∧ t ≤ 1073741824 ∧ -1 ≤ v ∧ v < 5 ∧ J.term ≤ t ∧ (t = J.term → J.vote = -1 ∨ J.vote = v) := by
  unfold stE at h
  split at h
  · omega
  · split at h
    · omega
    · omega
/-- A journal's numbers. -/
structure NumJ (J : JN) : Prop where
  t0 : 0 ≤ J.term
  t1 : J.term ≤ 1073741824
  v0 : -1 ≤ J.vote
  v1 : J.vote < 5
theorem NumJ.zero : NumJ zeroJ := ⟨by simp [zeroJ], by simp [zeroJ], by simp [zeroJ], by simp [zeroJ]⟩
theorem NumJ.setTerm {J : JN} (h : NumJ J) (t v : Int) : NumJ (setTermJ J t v) := by
  by_cases h0 : stE J t v = 0
  · have := stE_ok h0
    refine ⟨?_, ?_, ?_, ?_⟩ <;> simp only [setTermJ_term, setTermJ_vote, if_pos h0] <;> omega
  · refine ⟨?_, ?_, ?_, ?_⟩ <;> simp only [setTermJ_term, setTermJ_vote, if_neg h0]
    · exact h.t0
    · exact h.t1
    · exact h.v0
    · exact h.v1

/-! ### The order of terms -/
structure OrdJ (J : JN) : Prop where
  low : ∀ x ∈ J.log, 1 ≤ x.Term ∧ x.Term ≤ J.term ∧ shapeE x.Entry = true
  asc : ∀ i, i + 1 < J.log.length → (logAt J.log i).Term ≤ (logAt J.log ((i : Int) + 1)).Term
theorem OrdJ.zero : OrdJ zeroJ := ⟨by simp [zeroJ], by simp [zeroJ]⟩
theorem OrdJ.setTerm {J : JN} (h : OrdJ J) (t v : Int) : OrdJ (setTermJ J t v) := by
  refine ⟨fun x hx => ?_, ?_⟩
  · rw [setTermJ_log] at hx
    have := h.low x hx
    rw [setTermJ_term]
    split
    · next h0 => have := stE_ok h0; exact ⟨by omega, by omega, this.2.2.2.2.2 |> fun _ => (h.low x hx).2.2⟩
    · exact this
  · rw [setTermJ_log]; exact h.asc
theorem logAt_app {l : List GLogged} {x : GLogged} {i : Int} (h : i < l.length) : logAt (l ++ [x]) i = logAt l i := by
  unfold logAt
  by_cases h0 : 0 ≤ i
  · rw [if_pos ⟨h0, by simp; omega⟩, if_pos ⟨h0, h⟩, List.getD_eq_getElem?_getD, List.getD_eq_getElem?_getD, List.getElem?_append_left (by omega)]
  · rw [if_neg (by omega), if_neg (by omega)]
theorem logAt_last {l : List GLogged} {x : GLogged} : logAt (l ++ [x]) l.length = x := by
  unfold logAt
  rw [if_pos ⟨by omega, by simp; omega⟩, Int.toNat_natCast, List.getD_eq_getElem?_getD, List.getElem?_append_right (Nat.le_refl _)]
  simp
theorem appendJ_term (J : JN) (t : Int) (e : GEntry) : (appendJ J t e).term = J.term := by
  unfold appendJ adJ
  repeat' split
  all_goals rfl
theorem appendJ_vote (J : JN) (t : Int) (e : GEntry) : (appendJ J t e).vote = J.vote := by
  unfold appendJ adJ
  repeat' split
  all_goals rfl
theorem appendJ_log (J : JN) (t : Int) (e : GEntry) : (appendJ J t e).log = if adE J t e = 0 then J.log ++ [⟨t, e⟩] else J.log := by
  unfold appendJ
  by_cases h : Go.Proofs.YtlelalnahlpcpaaGreat.adE J t e = 0
  · rw [if_pos h, if_pos h]; unfold adJ; rw [if_pos h]; rfl
  · rw [if_neg h, if_neg h]
theorem adE_ok {J : JN} {t : Int} {e : GEntry} (h : adE J t e = 0) : 1 ≤ t ∧ t ≤ J.term ∧ lastT J.log ≤ t ∧ J.log.length < 4096 ∧ shapeE e = true := by
  have hs := adE_shape h
  unfold adE at h
  rw [hs] at h
  split at h
  · omega
  · split at h
    · omega
    · split at h
      · omega
      · refine ⟨by simp at *; omega, by omega, by omega, by omega, hs⟩
theorem OrdJ.append {J : JN} (h : OrdJ J) (t : Int) (e : GEntry) : OrdJ (appendJ J t e) := by
  by_cases h0 : adE J t e = 0
  · obtain ⟨a1, a2, a3, a4, a5⟩ := adE_ok h0
    refine ⟨fun x hx => ?_, fun i hi => ?_⟩
    · rw [appendJ_log, if_pos h0] at hx
      rw [appendJ_term]
      rcases List.mem_append.1 hx with h1 | h1
      · exact h.low x h1
      · simp at h1; subst h1; exact ⟨a1, a2, a5⟩
    · rw [appendJ_log, if_pos h0] at hi ⊢
      simp only [List.length_append, List.length_cons, List.length_nil] at hi
      by_cases hj : i + 1 < J.log.length
      · rw [logAt_app (by omega), logAt_app (by omega)]; exact h.asc i hj
      · have e1 : (i : Int) + 1 = (J.log.length : Int) := by omega
        rw [logAt_app (by omega), e1, logAt_last]
        have e2 : (i : Int) = (J.log.length : Int) - 1 := by omega
        rw [e2]; exact a3
  · refine ⟨fun x hx => ?_, ?_⟩
    · rw [appendJ_log, if_neg h0] at hx; rw [appendJ_term]; exact h.low x hx
    · rw [appendJ_log, if_neg h0]; exact h.asc
end Go.Proofs.YtlelalnahlpcpaaGreat
