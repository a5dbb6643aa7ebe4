/-
  journal: what is written is read back.
-/
import Derived.Test.YtlelalnahlpcpaaGreatK6
import Derived.Test.YtlelalnahlpcpaaGreatPF2
set_option linter.unusedSimpArgs false
set_option linter.unusedVariables false
namespace Go.Proofs.YtlelalnahlpcpaaGreat
open Go.Lift

def setD (J : JN) (b : List UInt8) (d : Nat) : JN := { J with b := b, d := d }
@[simp] theorem setD_b (J : JN) (b : List UInt8) (d : Nat) : (setD J b d).b = b := rfl
@[simp] theorem setD_d (J : JN) (b : List UInt8) (d : Nat) : (setD J b d).d = d := rfl
@[simp] theorem setD_term (J : JN) (b : List UInt8) (d : Nat) : (setD J b d).term = J.term := rfl
@[simp] theorem setD_vote (J : JN) (b : List UInt8) (d : Nat) : (setD J b d).vote = J.vote := rfl
@[simp] theorem setD_log (J : JN) (b : List UInt8) (d : Nat) : (setD J b d).log = J.log := rfl
@[simp] theorem setD_setD (J : JN) (b c : List UInt8) (d e : Nat) : setD (setD J b d) c e = setD J c e := rfl
theorem stJ_setD (J : JN) (b : List UInt8) (d : Nat) (t v : Int) : stJ (setD J b d) t v = setD (stJ J t v) b d := by
  unfold stJ
  rw [show stE (setD J b d) t v = stE J t v from rfl]
  split <;> rfl
theorem adJ_setD (J : JN) (b : List UInt8) (d : Nat) (t : Int) (e : GEntry) : adJ (setD J b d) t e = setD (adJ J t e) b d := by
  unfold adJ
  rw [show adE (setD J b d) t e = adE J t e from rfl]
  split <;> rfl
theorem cuJ_setD (J : JN) (b : List UInt8) (d : Nat) (n : Int) : cuJ (setD J b d) n = setD (cuJ J n) b d := by
  unfold cuJ
  rw [show cuE (setD J b d) n = cuE J n from rfl]
  split <;> rfl
theorem recordJ_setD (J : JN) (b : List UInt8) (d : Nat) (p : List UInt8) : recordJ (setD J b d) p = (setD (recordJ J p).1 b d, (recordJ J p).2) := by
  unfold recordJ
  rw [stJ_setD, adJ_setD, cuJ_setD]
  repeat' split
  all_goals rfl

/-- What records make of a journal, all of them being right. -/
noncomputable def finR (rs : List (List UInt8)) (J : JN) : JN := rs.foldl (fun J p => (recordJ J p).1) J
noncomputable def AllR : List (List UInt8) → JN → Prop
  | [], _ => True
  | p :: ps, J => (recordJ J p).2 = true ∧ AllR ps (recordJ J p).1
theorem finR_append (a b : List (List UInt8)) (J : JN) : finR (a ++ b) J = finR b (finR a J) := by simp [finR]
theorem finR_one (p : List UInt8) (J : JN) : finR [p] J = (recordJ J p).1 := rfl
theorem AllR_append : ∀ (a b : List (List UInt8)) (J : JN), AllR (a ++ b) J ↔ AllR a J ∧ AllR b (finR a J)
  | [], b, J => by simp [AllR, finR]
  | p :: a, b, J => by
    have := AllR_append a b (recordJ J p).1
    simp only [List.cons_append, AllR, this, and_assoc]
    rfl
theorem finR_setD : ∀ (rs : List (List UInt8)) (J : JN) (b : List UInt8) (d : Nat), finR rs (setD J b d) = setD (finR rs J) b d
  | [], _, _, _ => rfl
  | p :: rs, J, b, d => by
    show finR rs (recordJ (setD J b d) p).1 = _
    rw [recordJ_setD]
    exact finR_setD rs _ b d
theorem framesB_cons (p : List UInt8) (rs : List (List UInt8)) : framesB 8 (p :: rs) = frB 8 p ++ framesB 8 rs := by simp [framesB]
theorem putB_small {p : List UInt8} (h : p.length ≤ 65536) : putB 8 [] p = frB 8 p := by unfold putB; rw [if_neg (by omega), List.nil_append]
theorem replayJ_all : ∀ (rs : List (List UInt8)) (J : JN) (n : Nat), (∀ p ∈ rs, p.length ≤ 65536) → AllR rs J → replayJ rs J n = (finR rs J, n + (framesB 8 rs).length)
  | [], J, n, _, _ => by simp [replayJ, finR, framesB]
  | p :: rs, J, n, hs, ha => by
    rw [replayJ, if_pos ha.1, replayJ_all rs _ _ (fun q hq => hs q (List.mem_cons_of_mem _ hq)) ha.2, putB_small (hs p (List.mem_cons_self ..)), framesB_cons]
    simp [finR, Nat.add_assoc]
def zeroJ : JN := ⟨[], 0, 0, -1, []⟩
theorem AllR_setD : ∀ (rs : List (List UInt8)) (J : JN) (b : List UInt8) (d : Nat), AllR rs (setD J b d) ↔ AllR rs J
  | [], _, _, _ => Iff.rfl
  | p :: rs, J, b, d => by
    simp only [AllR, recordJ_setD, AllR_setD rs]
theorem AllR_take {rs : List (List UInt8)} {J : JN} (h : AllR rs J) (k : Nat) : AllR (rs.take k) J := by
  have := (List.take_append_drop k rs).symm
  rw [this, AllR_append] at h
  exact h.1

/-- Frames that are cut: all that are whole, and no more. -/
theorem frames_cut : ∀ (rs : List (List UInt8)) (m : Nat), m ≤ (framesB 8 rs).length → (∀ p ∈ rs, p.length ≤ 65536) → ∃ k, k ≤ rs.length ∧ (framesB 8 (rs.take k)).length ≤ m ∧ (k < rs.length → m < (framesB 8 (rs.take (k + 1))).length) ∧
    ∃ rest e, ¬ e = 0 ∧ (framesB 8 rs).take m = framesB 8 (rs.take k) ++ rest ∧ frT 8 rest = ([], 0, e)
  | [], m, h, _ => by
    simp [framesB] at h
    subst h
    exact ⟨0, Nat.le_refl _, by simp [framesB], by simp, [], 17, by decide, by simp [framesB], frT_nil 8⟩
  | p :: rs, m, h, hs => by
    have hp := hs p (List.mem_cons_self ..)
    by_cases hm : m < (frB 8 p).length
    · refine ⟨0, Nat.zero_le _, by simp [framesB], fun _ => by simpa [framesB] using hm, (frB 8 p).take m, 17, by decide, ?_, frT_cut hp hm⟩
      rw [framesB_cons, List.take_append_of_le_length (by omega)]
      simp [framesB]
    · rw [framesB_cons, List.length_append] at h
      obtain ⟨k, h1, h2, h3, rest, e, h4, h5, h6⟩ := frames_cut rs (m - (frB 8 p).length) (by omega) (fun q hq => hs q (List.mem_cons_of_mem _ hq))
      refine ⟨k + 1, by simp; omega, ?_, fun hk => ?_, rest, e, h4, ?_, h6⟩
      · rw [List.take_succ_cons, framesB_cons, List.length_append]; omega
      · rw [List.take_succ_cons, framesB_cons, List.length_append]
        have := h3 (by simpa using hk)
        omega
      · rw [List.take_succ_cons, framesB_cons, framesB_cons, List.take_append, List.take_of_length_le (by omega), h5, List.append_assoc]

/-- A journal that records have made. -/
structure Hist (J : JN) (rs : List (List UInt8)) (s : Nat) : Prop where
  small : ∀ p ∈ rs, p.length ≤ 65536
  all : AllR rs zeroJ
  eq : J = setD (finR rs zeroJ) (framesB 8 rs) (framesB 8 (rs.take s)).length
  le : s ≤ rs.length
theorem frames_le {rs : List (List UInt8)} {i j : Nat} (h : i ≤ j) : (framesB 8 (rs.take i)).length ≤ (framesB 8 (rs.take j)).length := by
  have : rs.take j = rs.take i ++ (rs.take j).drop i := by
    conv => lhs; rw [← List.take_append_drop i (rs.take j)]
    rw [List.take_take, Nat.min_eq_left h]
  rw [this, framesB_append, List.length_append]; omega
theorem Hist.zero : Hist zeroJ [] 0 := ⟨by simp, trivial, rfl, Nat.le_refl _⟩
theorem Hist.d_le {J : JN} {rs : List (List UInt8)} {s : Nat} (h : Hist J rs s) : J.d ≤ J.b.length := by
  have := frames_le (rs := rs) h.le
  rw [List.take_length] at this
  rw [h.eq]; exact this
/-- A crash leaves a beginning of the records, with all that were durable. -/
theorem Hist.crash {J : JN} {rs : List (List UInt8)} {s : Nat} (h : Hist J rs s) (keep : Int) : ∃ k, s ≤ k ∧ k ≤ rs.length ∧ Hist (crashJ J keep) (rs.take k) k := by
  have hd := h.d_le
  obtain ⟨m, hm⟩ : ∃ m, m = crashN J.b.length J.d keep := ⟨_, rfl⟩
  have m1 : J.d ≤ m := by rw [hm]; unfold crashN; omega
  have m2 : m ≤ J.b.length := by rw [hm]; unfold crashN; omega
  have eb : J.b = framesB 8 rs := by rw [h.eq]; rfl
  have ed : J.d = (framesB 8 (rs.take s)).length := by rw [h.eq]; rfl
  obtain ⟨k, h1, h2, h3, rest, e, h4, h5, h6⟩ := frames_cut rs m (by rw [← eb]; exact m2) h.small
  have hsk : s ≤ k := by
    apply Classical.byContradiction
    intro hlt
    have := h3 (by have := h.le; omega)
    have h7 := frames_le (rs := rs) (show k + 1 ≤ s by omega)
    omega
  have hsm : ∀ p ∈ rs.take k, p.length ≤ 65536 := fun p hp => h.small p (List.mem_of_mem_take hp)
  refine ⟨k, hsk, h1, ⟨hsm, AllR_take h.all k, ?_, by simp; omega⟩⟩
  have hall := allT_frames (rest := rest) in8 hsm h4 h6
  unfold crashJ readJ
  rw [← hm, eb, h5, hall]
  simp only
  have e0 : (⟨framesB 8 (rs.take k) ++ rest, m, 0, -1, []⟩ : JN) = setD zeroJ (framesB 8 (rs.take k) ++ rest) m := rfl
  rw [e0, replayJ_all _ _ _ hsm ((AllR_setD _ _ _ _).2 (AllR_take h.all k)), finR_setD, Nat.zero_add]
  simp only [truncP, List.length_append, if_neg (show ¬ ((framesB 8 (rs.take k)).length + rest.length < (framesB 8 (rs.take k)).length) by omega), List.take_left']
  rw [List.take_take, Nat.min_self, Nat.min_eq_right h2]
  rfl
end Go.Proofs.YtlelalnahlpcpaaGreat
