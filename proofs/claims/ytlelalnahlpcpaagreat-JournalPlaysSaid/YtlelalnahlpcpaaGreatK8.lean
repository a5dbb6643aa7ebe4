/-
  journal: each record is read back as it was meant; a journal is always made by its records.
-/
import Derived.Test.YtlelalnahlpcpaaGreatK7
set_option linter.unusedSimpArgs false
set_option linter.unusedVariables false
namespace Go.Proofs.YtlelalnahlpcpaaGreat
open Go.Lift

theorem recA_back {t v : Int} (h1 : In64 t) (h2 : In64 v) (J : JN) : recordJ J (recA t v) = (stJ J t v, decide (stE J t v = 0)) := by
  have e1 : takeT (recA t v) = (1, ((enc (code 1)).length : Int), 0) := by unfold recA; rw [List.append_assoc]; exact takeT_enc in1 _
  have e2 : takeT ((recA t v).drop (enc (code 1)).length) = (t, ((enc (code t)).length : Int), 0) := by
    unfold recA; rw [List.append_assoc, List.drop_left]; exact takeT_enc h1 _
  have e3 : takeT ((recA t v).drop ((enc (code 1)).length + (enc (code t)).length)) = (v, ((enc (code v)).length : Int), 0) := by
    unfold recA
    rw [← List.length_append, List.drop_left, ← List.append_nil (enc (code v))]
    rw [takeT_enc h2]; simp
  have e4 : ((recA t v).length : Int) = ((enc (code 1)).length : Int) + ((enc (code t)).length : Int) + ((enc (code v)).length : Int) := by
    unfold recA; simp only [List.length_append]; omega
  have k : (((enc (code 1)).length : Int) + ((enc (code t)).length : Int)).toNat = (enc (code 1)).length + (enc (code t)).length := by omega
  unfold recordJ
  simp only [e1, Int.toNat_natCast, e2, k, e3, e4]
  simp
theorem recE_back {t : Int} {e : GEntry} (h1 : In64 t) (h2 : GEntry.ok e) (hs : shapeE e = true) (J : JN) : recordJ J (recE t e) = (adJ J t e, decide (adE J t e = 0)) := by
  have e1 : takeT (recE t e) = (2, ((enc (code 2)).length : Int), 0) := by unfold recE; rw [List.append_assoc]; exact takeT_enc in2 _
  have e2 : takeT ((recE t e).drop (enc (code 2)).length) = (t, ((enc (code t)).length : Int), 0) := by
    unfold recE; rw [List.append_assoc, List.drop_left]; exact takeT_enc h1 _
  have e3 : readE ((recE t e).drop ((enc (code 2)).length + (enc (code t)).length)) = (e, ((bytesE e).length : Int), 0) := by
    unfold recE
    rw [← List.length_append, List.drop_left, ← List.append_nil (bytesE e), readE_bytes h2, if_pos hs]
    simp
  have e4 : ((recE t e).length : Int) = ((enc (code 2)).length : Int) + ((enc (code t)).length : Int) + ((bytesE e).length : Int) := by
    unfold recE; simp only [List.length_append]; omega
  have k : (((enc (code 2)).length : Int) + ((enc (code t)).length : Int)).toNat = (enc (code 2)).length + (enc (code t)).length := by omega
  unfold recordJ
  simp only [e1, Int.toNat_natCast, e2, k, e3, e4]
  simp
theorem recC_back {n : Int} (h1 : In64 n) (J : JN) : recordJ J (recC n) = (cuJ J n, decide (cuE J n = 0)) := by
  have e1 : takeT (recC n) = (3, ((enc (code 3)).length : Int), 0) := by unfold recC; exact takeT_enc in3 _
  have e2 : takeT ((recC n).drop (enc (code 3)).length) = (n, ((enc (code n)).length : Int), 0) := by
    unfold recC; rw [List.drop_left, ← List.append_nil (enc (code n)), takeT_enc h1]; simp
  have e4 : ((recC n).length : Int) = ((enc (code 3)).length : Int) + ((enc (code n)).length : Int) := by
    unfold recC; simp only [List.length_append]; omega
  unfold recordJ
  simp only [e1, Int.toNat_natCast, e2, e4]
  simp
theorem recA_len {t v : Int} (h1 : In64 t) (h2 : In64 v) : (recA t v).length ≤ 30 := by
  have := enc3 in1; have := enc3 h1; have := enc3 h2
  unfold recA; simp only [List.length_append]; omega
theorem recE_len {t : Int} {e : GEntry} (h1 : In64 t) (h2 : GEntry.ok e) : (recE t e).length ≤ 110 := by
  have := enc3 in2; have := enc3 h1; have := bytesE_len h2
  unfold recE; simp only [List.length_append]; omega
theorem recC_len {n : Int} (h1 : In64 n) : (recC n).length ≤ 20 := by
  have := enc3 in3; have := enc3 h1
  unfold recC; simp only [List.length_append]; omega

/-- One more record. -/
theorem Hist.put {J : JN} {rs : List (List UInt8)} {s : Nat} (h : Hist J rs s) {p : List UInt8} (hp : p.length ≤ 65536) (hr : (recordJ J p).2 = true) : Hist (putJ (recordJ J p).1 p) (rs ++ [p]) s := by
  have he := h.eq
  have hrec : recordJ J p = (setD (recordJ (finR rs zeroJ) p).1 J.b J.d, (recordJ (finR rs zeroJ) p).2) := by
    conv => lhs; rw [he]
    rw [recordJ_setD, he]; rfl
  have eb : J.b = framesB 8 rs := by rw [he]; rfl
  have ed : J.d = (framesB 8 (rs.take s)).length := by rw [he]; rfl
  refine ⟨fun q hq => ?_, ?_, ?_, by simp; have := h.le; omega⟩
  · rcases List.mem_append.1 hq with h1 | h1
    · exact h.small q h1
    · simp at h1; subst h1; exact hp
  · rw [AllR_append]
    refine ⟨h.all, ?_, trivial⟩
    rw [hrec] at hr; exact hr
  · rw [finR_append, finR_one, framesB_append, List.take_append_of_le_length h.le, hrec]
    have e1 : framesB 8 [p] = frB 8 p := by simp [framesB]
    unfold putJ setD
    rw [e1, putB_small hp, eb, ed]
theorem Hist.setTerm {J : JN} {rs : List (List UInt8)} {s : Nat} (h : Hist J rs s) {t v : Int} (h1 : In64 t) (h2 : In64 v) : Hist (setTermJ J t v) (if stE J t v = 0 then rs ++ [recA t v] else rs) s := by
  unfold setTermJ
  split
  · next h0 =>
    have hb := recA_back h1 h2 J
    have := h.put (p := recA t v) (by have := recA_len h1 h2; omega) (by rw [hb]; simp [h0])
    rw [hb] at this; exact this
  · exact h
theorem adE_shape {J : JN} {t : Int} {e : GEntry} (h : adE J t e = 0) : shapeE e = true := by
  cases hs : shapeE e with
  | true => rfl
  | false => unfold adE at h; rw [if_pos (.inr (.inr hs))] at h; omega
theorem Hist.append {J : JN} {rs : List (List UInt8)} {s : Nat} (h : Hist J rs s) {t : Int} {e : GEntry} (h1 : In64 t) (h2 : GEntry.ok e) : Hist (appendJ J t e) (if adE J t e = 0 then rs ++ [recE t e] else rs) s := by
  unfold appendJ
  split
  · next h0 =>
    have hb := recE_back h1 h2 (adE_shape h0) J
    have := h.put (p := recE t e) (by have := recE_len h1 h2; omega) (by rw [hb]; simp [h0])
    rw [hb] at this; exact this
  · exact h
theorem Hist.cut {J : JN} {rs : List (List UInt8)} {s : Nat} (h : Hist J rs s) {n : Int} (h1 : In64 n) : Hist (cutJ J n) (if cuE J n = 0 then rs ++ [recC n] else rs) s := by
  unfold cutJ
  split
  · next h0 =>
    have hb := recC_back h1 J
    have := h.put (p := recC n) (by have := recC_len h1; omega) (by rw [hb]; simp [h0])
    rw [hb] at this; exact this
  · exact h
def syncJ (J : JN) : JN := setD J J.b J.b.length
theorem Hist.sync {J : JN} {rs : List (List UInt8)} {s : Nat} (h : Hist J rs s) : Hist (syncJ J) rs rs.length := by
  refine ⟨h.small, h.all, ?_, Nat.le_refl _⟩
  have eb : J.b = framesB 8 rs := by rw [h.eq]; rfl
  unfold syncJ
  rw [List.take_length, eb]
  conv => lhs; rw [h.eq, setD_setD]
/-- Where all is durable, a crash changes nothing. -/
theorem Hist.crash_synced {J : JN} {rs : List (List UInt8)} (h : Hist J rs rs.length) (keep : Int) : crashJ J keep = J := by
  obtain ⟨k, h1, h2, hk⟩ := h.crash keep
  have : k = rs.length := by omega
  subst this
  rw [List.take_length] at hk
  rw [hk.eq, h.eq]
/-- What Open makes of the bytes of a journal. -/
theorem Hist.opened {J : JN} {rs : List (List UInt8)} {s : Nat} (h : Hist J rs s) (keep : Int) : crashJ ⟨J.b, J.b.length, 0, -1, []⟩ keep = syncJ J := by
  have hs := h.sync
  rw [← hs.crash_synced keep]
  unfold crashJ syncJ
  rfl

/-! ### What the records of a log say -/
theorem finR_log : ∀ (es : List GEntry) (J : JN), 1 ≤ J.term → J.term ≤ 1073741824 → (∀ x ∈ J.log, x.Term = J.term) → J.log.length + es.length ≤ 4096 → (∀ e ∈ es, GEntry.ok e ∧ shapeE e = true) →
    AllR (es.map (recE J.term)) J ∧ finR (es.map (recE J.term)) J = { J with log := J.log ++ es.map (fun e => ⟨J.term, e⟩) }
  | [], J, _, _, _, _, _ => by simp [AllR, finR]
  | e :: es, J, h1, h2, h3, h4, h5 => by
    have ⟨ho, hs⟩ := h5 e (List.mem_cons_self ..)
    simp only [List.length_cons] at h4
    have hl : lastT J.log ≤ J.term := by
      unfold lastT logAt
      split
      · next hc =>
        have : (J.log.length : Int) - 1 = ((J.log.length - 1 : Nat) : Int) := by omega
        rw [this, Int.toNat_natCast, List.getD_eq_getElem?_getD, List.getElem?_eq_getElem (by omega), Option.getD_some]
        rw [h3 _ (List.getElem_mem _)]; exact Int.le_refl _
      · simp; omega
    have h0 : adE J J.term e = 0 := by
      unfold adE
      rw [if_neg (by rw [hs]; simp; omega), if_neg (by omega), if_neg (by omega)]
    have hb := recE_back (show In64 J.term by unfold In64; omega) ho hs J
    have hadJ : adJ J J.term e = { J with log := J.log ++ [⟨J.term, e⟩] } := by unfold adJ; rw [if_pos h0]
    have ih := finR_log es (adJ J J.term e) (by rw [hadJ]; exact h1) (by rw [hadJ]; exact h2) (by rw [hadJ]; intro x hx; rcases List.mem_append.1 hx with h | h; exact h3 x h; simp at h; rw [h]) (by rw [hadJ]; simp; omega) (fun x hx => h5 x (List.mem_cons_of_mem _ hx))
    have ht : (adJ J J.term e).term = J.term := by rw [hadJ]
    rw [ht] at ih
    refine ⟨?_, ?_⟩
    · rw [List.map_cons]
      refine ⟨by rw [hb]; simp [h0], ?_⟩
      rw [hb]; exact ih.1
    · rw [List.map_cons]
      show finR _ (recordJ J (recE J.term e)).1 = _
      rw [hb, ih.2, hadJ]
      simp
end Go.Proofs.YtlelalnahlpcpaaGreat
