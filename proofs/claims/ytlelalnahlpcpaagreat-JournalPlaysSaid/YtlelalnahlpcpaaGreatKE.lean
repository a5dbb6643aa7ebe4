/-
  journal: the laws Keeps, Reopens.
-/
import Derived.Test.YtlelalnahlpcpaaGreatKD
set_option linter.unusedSimpArgs false
set_option linter.unusedVariables false
namespace Go.Proofs.YtlelalnahlpcpaaGreat
open Go.Lift
set_option maxRecDepth 100000

theorem outL_take (l : List Int) (k : Nat) : (outL l).take k = outL (l.take k) := by simp [outL, List.map_take]
/-- What a crash leaves of a journal that has grown. -/
theorem grow_crash (l : List Int) (sync keep : Int) : ∃ k, growN l sync ≤ k ∧ k ≤ (l.take 30).length ∧ (crashJ (growJ l sync) keep).term = 1 ∧ (crashJ (growJ l sync) keep).vote = 0 ∧ (crashJ (growJ l sync) keep).log = outL ((l.take 30).take k) := by
  obtain ⟨⟨s, h1, h2⟩, h3⟩ := grow_inv l sync
  simp only at h1 h2
  have hl : ((l.take 30).map noteE).length ≤ 4096 := by simp; omega
  obtain ⟨k, g1, g2, g3⟩ := h1.crash hl keep
  rw [List.length_map] at g2
  refine ⟨k, by omega, g2, ?_⟩
  have := g3.is (by simp; omega)
  rw [← List.map_take, List.map_map] at this
  exact this
theorem grow_b (l : List Int) (sync : Int) : (growJ l sync).b.length ≤ 2033600 ∧ (growJ l sync).d ≤ (growJ l sync).b.length := by
  obtain ⟨⟨s, h1, h2⟩, h3⟩ := grow_inv l sync
  have : (l.take 30).length ≤ 30 := by simp; omega
  simp only at h3
  exact ⟨by omega, h1.hist.d_le⟩

noncomputable def CNG := mkC [(15, jnOpenSp), (21, jnSetTermSp), (23, jnAppendSp), (29, jnCutASp), (22, jnSyncSp), (25, jnCrashSp), (42, jnBytesSp), (26, jnTermSp), (27, jnVoteSp), (24, jnLenSp), (44, jnAtSp), (43, jnTermAtSp), (5, jnNewSp), (13, noteSp), (7, awake8Sp), (41, sameSp), (56, shapeSp), (9, modSp), (11, betweenSp)]
theorem CNG_ok : SpecsOk Tryz.prog CNG := mkC_ok (all_cons jnOpen_spec (all_cons jnSetTerm_spec (all_cons jnAppend_spec (all_cons jnCutA_spec (all_cons jnSync_spec (all_cons jnCrash_spec (all_cons jnBytes_spec (all_cons jnTerm_spec (all_cons jnVote_spec (all_cons jnLen_spec (all_cons jnAt_spec (all_cons jnTermAt_spec (all_cons jnNew_spec (all_cons note_spec (all_cons awake8_spec (all_cons same_spec (all_cons refshape_spec (all_cons mod_spec (all_cons between_spec all_nil)))))))))))))))))))
@[simp] theorem CNG_1 : CNG 15 = jnOpenSp := rfl
@[simp] theorem CNG_2 : CNG 21 = jnSetTermSp := rfl
@[simp] theorem CNG_3 : CNG 23 = jnAppendSp := rfl
@[simp] theorem CNG_4 : CNG 29 = jnCutASp := rfl
@[simp] theorem CNG_5 : CNG 22 = jnSyncSp := rfl
@[simp] theorem CNG_6 : CNG 25 = jnCrashSp := rfl
@[simp] theorem CNG_7 : CNG 42 = jnBytesSp := rfl
@[simp] theorem CNG_8 : CNG 26 = jnTermSp := rfl
@[simp] theorem CNG_9 : CNG 27 = jnVoteSp := rfl
@[simp] theorem CNG_10 : CNG 24 = jnLenSp := rfl
@[simp] theorem CNG_11 : CNG 44 = jnAtSp := rfl
@[simp] theorem CNG_12 : CNG 43 = jnTermAtSp := rfl
@[simp] theorem CNG_13 : CNG 5 = jnNewSp := rfl
@[simp] theorem CNG_14 : CNG 13 = noteSp := rfl
@[simp] theorem CNG_15 : CNG 7 = awake8Sp := rfl
@[simp] theorem CNG_16 : CNG 41 = sameSp := rfl
@[simp] theorem CNG_17 : CNG 56 = shapeSp := rfl
@[simp] theorem CNG_18 : CNG 9 = modSp := rfl
@[simp] theorem CNG_19 : CNG 11 = betweenSp := rfl

def keSt (out : List GLogged) (K : JN) (i : Nat) : St := mkSt [(7, .ptr 0 0 0), (8, .sl 2 10 (GLogged.row out)), (10, .int .i64 i)] [(0, jnO K)] 1
theorem cutJ_log (J : JN) (n : Int) : (cutJ J n).log = if cuE J n = 0 then J.log.take n.toNat else J.log := by
  unfold cutJ
  by_cases h : cuE J n = 0
  · rw [if_pos h, if_pos h]; unfold cuJ; rw [if_pos h]; rfl
  · rw [if_neg h, if_neg h]
def reSt (out : List GLogged) (K : JN) (k : Nat) (i : Nat) : St := mkSt [(6, .sl 2 10 (GLogged.row out)), (8, .int .i64 k), (9, .ptr 0 0 0), (10, .int .i64 i)] [(0, jnO K)] 1
end Go.Proofs.YtlelalnahlpcpaaGreat
