/-
  journal: the laws Keeps, Reopens.
-/
import Derived.Test.YtlelalnahlpcpaaKD
set_option linter.unusedSimpArgs false
set_option linter.unusedVariables false
namespace Go.Proofs.Ytlelalnahlpcpaa
open Go.Lift
set_option maxRecDepth 100000

theorem outL_take (l : List Int) (k : Nat) : (outL l).take k = outL (l.take k) := by simp [outL, List.map_take]
/-- What a crash leaves of a journal that has grown. -/
theorem grow_crash (l : List Int) (sync keep : Int) : ∃ k, growN l sync ≤ k ∧ k ≤ (l.take 30).length ∧ (crashJ (growJ l sync) keep).term = 1 ∧ (crashJ (growJ l sync) keep).vote = 0 ∧ (crashJ (growJ l sync) keep).log = outL ((l.take 30).take k) := by
  obtain ⟨⟨s, h1, h2⟩, h3⟩ := grow_inv l sync
  simp only at h1 h2
  have hl : ((l.take 30).map noteE).length ≤ 4096 := by simp; omega
  obtain ⟨k, g1, g2, g3⟩ := h1.crash hl keep
  rw [List.length_map] at g2
  refine ⟨k, by omega, g2, ?_⟩
  have := g3.is (by simp; omega)
  rw [← List.map_take, List.map_map] at this
  exact this
theorem grow_b (l : List Int) (sync : Int) : (growJ l sync).b.length ≤ 2033600 ∧ (growJ l sync).d ≤ (growJ l sync).b.length := by
  obtain ⟨⟨s, h1, h2⟩, h3⟩ := grow_inv l sync
  have : (l.take 30).length ≤ 30 := by simp; omega
  simp only at h3
  exact ⟨by omega, h1.hist.d_le⟩

noncomputable def CNG := mkC [(17, jnOpenSp), (21, jnSetTermSp), (25, jnAppendSp), (16, jnCutASp), (23, jnSyncSp), (9, jnCrashSp), (24, jnCopySp), (18, jnBytesSp), (11, jnTermSp), (12, jnVoteSp), (13, jnLenSp), (14, jnAtSp), (27, jnTermAtSp), (20, jnNewSp), (26, noteSp), (10, awake8Sp), (8, grownSp), (19, sameSp), (28, shapeSp), (15, modSp), (22, betweenSp)]
theorem CNG_ok : SpecsOk Try.prog CNG := mkC_ok (all_cons jnOpen_spec (all_cons jnSetTerm_spec (all_cons jnAppend_spec (all_cons jnCutA_spec (all_cons jnSync_spec (all_cons jnCrash_spec (all_cons jnCopy_spec (all_cons jnBytes_spec (all_cons jnTerm_spec (all_cons jnVote_spec (all_cons jnLen_spec (all_cons jnAt_spec (all_cons jnTermAt_spec (all_cons jnNew_spec (all_cons note_spec (all_cons awake8_spec (all_cons grown_spec (all_cons same_spec (all_cons refshape_spec (all_cons mod_spec (all_cons between_spec all_nil)))))))))))))))))))))
@[simp] theorem CNG_1 : CNG 17 = jnOpenSp := rfl
@[simp] theorem CNG_2 : CNG 21 = jnSetTermSp := rfl
@[simp] theorem CNG_3 : CNG 25 = jnAppendSp := rfl
@[simp] theorem CNG_4 : CNG 16 = jnCutASp := rfl
@[simp] theorem CNG_5 : CNG 23 = jnSyncSp := rfl
@[simp] theorem CNG_6 : CNG 9 = jnCrashSp := rfl
@[simp] theorem CNG_7 : CNG 24 = jnCopySp := rfl
@[simp] theorem CNG_8 : CNG 18 = jnBytesSp := rfl
@[simp] theorem CNG_9 : CNG 11 = jnTermSp := rfl
@[simp] theorem CNG_10 : CNG 12 = jnVoteSp := rfl
@[simp] theorem CNG_11 : CNG 13 = jnLenSp := rfl
@[simp] theorem CNG_12 : CNG 14 = jnAtSp := rfl
@[simp] theorem CNG_13 : CNG 27 = jnTermAtSp := rfl
@[simp] theorem CNG_14 : CNG 20 = jnNewSp := rfl
@[simp] theorem CNG_15 : CNG 26 = noteSp := rfl
@[simp] theorem CNG_16 : CNG 10 = awake8Sp := rfl
@[simp] theorem CNG_17 : CNG 8 = grownSp := rfl
@[simp] theorem CNG_18 : CNG 19 = sameSp := rfl
@[simp] theorem CNG_19 : CNG 28 = shapeSp := rfl
@[simp] theorem CNG_20 : CNG 15 = modSp := rfl
@[simp] theorem CNG_21 : CNG 22 = betweenSp := rfl

def keSt (out : List GLogged) (K : JN) (i : Nat) : St := mkSt [(7, .ptr 0 0 0), (8, .sl 2 10 (GLogged.row out)), (10, .int .i64 i)] [(0, jnO K)] 1
set_option maxHeartbeats 4000000 in
theorem law_JournalKeeps : Lift.Spec Try.prog 3 (fam (fun i : (List Int) × Int × Int => [V.sl 2 1 (intRow i.1), .int .i64 i.2.1, .int .i64 i.2.2]) (fun _ => []) (fun i : (List Int) × Int × Int => (i.1.length ≤ 9223372036854775807)) (fun _ => ⟨.bool true, []⟩)) := by
  refine spec_fam (C := CNG) types_ok CNG_ok follows Try.func3 (by kernel_rfl) rfl (by kernel_rfl) rfl ?_
  rintro ⟨l, sync, keep⟩ h1
  try simp only at h1
  refine ⟨by simp, ?_⟩
  intro r hr
  obtain ⟨k, y1, y2, y3, y4, y5⟩ := grow_crash l sync keep
  obtain ⟨b1, b2⟩ := grow_b l sync
  obtain ⟨K, hK⟩ : ∃ K, K = crashJ (growJ l sync) keep := ⟨_, rfl⟩
  rw [← hK] at y3 y4 y5
  have c1 : (growJ l sync).b.length ≤ 1000000000 := by omega
  have hlen : K.log.length = k := by rw [y5, outL_length, List.length_take]; omega
  have hlt : (l.take 30).length = min 30 l.length := List.length_take ..
  have c2 : ¬ ((k : Int) < (growN l sync : Int)) := by omega
  have c3 : ¬ (((min 30 l.length : Nat) : Int) < (k : Int)) := by omega
  simp [h1, c1, b2, ← hK, y3, y4, hlen, c2, c3]
  refine axwp_loop (keSt (outL (l.take 30)) K) (fun i => i ≤ k) (fun i => k - i) 0 ?_ (Nat.zero_le _) ?_
  · refine weak_at [.inr 7] ?_ ?_ ?_ ?_ <;> simp
  · intro i hi
    by_cases hik : i < k
    · have hi2 : i < (outL (l.take 30)).length := by rw [outL_length]; omega
      obtain ⟨x, hx, hx', hxm⟩ := get_of_lt hi2
      have w4 : IntKind.i64.wrap ((i : Int) + 1) = (i : Int) + 1 := wrap_i64_in (by omega) (by omega)
      have hx2 : K.log[i]? = some x := by rw [y5, ← outL_take, List.getElem?_take, if_pos hik]; exact hx
      have a1 : logAt K.log (i : Int) = x := logAt_get hx2
      have a2 : hasAt K.log (i : Int) = true := by simp [hasAt, hlen]; omega
      simp [keSt, hlen, hik, a1, a2, hx, hx', hi2, GLogged.cells, vLogged_fold]
      (repeat refine ⟨⟨by kernel_rfl, by kernel_rfl⟩, ?_⟩)
      refine Again.mk (i + 1) (by exact hik) (by show k - (i + 1) < k - i; omega) ?_
      refine weak_at [.inr 7] ?_ ?_ ?_ ?_ <;> simp [w4]
    · have e : i = k := by omega
      subst e
      simp [keSt, hlen]
      ((repeat refine ⟨⟨by kernel_rfl, by kernel_rfl⟩, ?_⟩); rw [hr]; refine ret_closed rfl ?_ rfl; simp)

theorem cutJ_log (J : JN) (n : Int) : (cutJ J n).log = if cuE J n = 0 then J.log.take n.toNat else J.log := by
  unfold cutJ
  by_cases h : cuE J n = 0
  · rw [if_pos h, if_pos h]; unfold cuJ; rw [if_pos h]; rfl
  · rw [if_neg h, if_neg h]
def reSt (out : List GLogged) (K : JN) (k : Nat) (i : Nat) : St := mkSt [(6, .sl 2 10 (GLogged.row out)), (8, .int .i64 k), (9, .ptr 0 0 0), (10, .int .i64 i)] [(0, jnO K)] 1
set_option maxHeartbeats 4000000 in
theorem law_JournalReopens : Lift.Spec Try.prog 4 (fam (fun i : (List Int) × Int => [V.sl 2 1 (intRow i.1), .int .i64 i.2]) (fun _ => []) (fun i : (List Int) × Int => (i.1.length ≤ 9223372036854775807)) (fun _ => ⟨.bool true, []⟩)) := by
  refine spec_fam (C := CNG) types_ok CNG_ok follows Try.func4 (by kernel_rfl) rfl (by kernel_rfl) rfl ?_
  rintro ⟨l, cut⟩ h1
  try simp only at h1
  refine ⟨by simp, ?_⟩
  intro r hr
  obtain ⟨b1, b2⟩ := grow_b l 0
  obtain ⟨⟨s, g1, _⟩, _⟩ := grow_inv l 0
  obtain ⟨t1, v1, l1⟩ := (grow_inv l 0).log (by simp; omega)
  simp only at g1 t1 v1 l1
  have hlt : (l.take 30).length = min 30 l.length := List.length_take ..
  have hm : 0 < (((min 30 l.length : Nat) : Int) + 1) := by omega
  have hm2 : (((min 30 l.length : Nat) : Int) + 1) ≤ 4611686018427387904 := by omega
  have q1 := Int.emod_nonneg cut (show (((min 30 l.length : Nat) : Int) + 1) ≠ 0 by omega)
  have q2 := Int.emod_lt_of_pos cut hm
  obtain ⟨k, hk⟩ := Int.eq_ofNat_of_zero_le q1
  have hk2 : k ≤ min 30 l.length := by omega
  have w1 : IntKind.i64.wrap (((min 30 l.length : Nat) : Int) + 1) = ((min 30 l.length : Nat) : Int) + 1 := wrap_i64_in (by omega) (by omega)
  have ik : In64 (k : Int) := by unfold In64; omega
  have e0 : cuE (growJ l 0) (k : Int) = 0 := by unfold cuE; rw [if_neg]; rw [l1, outL_length]; omega
  have hH := g1.hist.cut ik
  rw [if_pos e0] at hH
  obtain ⟨C, hC⟩ : ∃ C, C = cutJ (growJ l 0) (k : Int) := ⟨_, rfl⟩
  rw [← hC] at hH
  have c1 : (growJ l 0).b.length ≤ 1000000000 := by omega
  have c2 : (growJ l 0).log.length ≤ 1000000000 := by rw [l1, outL_length]; omega
  have b3 := cutJ_bd (growJ l 0) (k : Int)
  rw [← hC] at b3
  have c3 : C.b.length ≤ 1000000000 := by omega
  have c4 : C.b.length ≤ 140737488355328 := by omega
  have hO := hH.opened 0
  have hCl : C.log = outL ((l.take 30).take k) := by rw [hC, cutJ_log, if_pos e0, l1, Int.toNat_natCast, outL_take]
  have hlen : C.log.length = k := by rw [hCl, outL_length, List.length_take]; omega
  simp [h1, w1, hm, hm2, hk, ik, e0, ← hC, c1, c2, c3, c4, hO, hlen]
  refine axwp_loop (reSt (outL (l.take 30)) (syncJ C) k) (fun i => i ≤ k) (fun i => k - i) 0 ?_ (Nat.zero_le _) ?_
  · refine weak_at [.inr 9] ?_ ?_ ?_ ?_ <;> simp
  · intro i hi
    by_cases hik : i < k
    · have hi2 : i < (outL (l.take 30)).length := by rw [outL_length]; omega
      obtain ⟨x, hx, hx', hxm⟩ := get_of_lt hi2
      have w4 : IntKind.i64.wrap ((i : Int) + 1) = (i : Int) + 1 := wrap_i64_in (by omega) (by omega)
      have hx2 : C.log[i]? = some x := by rw [hCl, ← outL_take, List.getElem?_take, if_pos hik]; exact hx
      have a1 : logAt C.log (i : Int) = x := logAt_get hx2
      simp [reSt, hik, a1, hx, hx', hi2, GLogged.cells, vLogged_fold]
      (repeat refine ⟨⟨by kernel_rfl, by kernel_rfl⟩, ?_⟩)
      refine Again.mk (i + 1) (by exact hik) (by show k - (i + 1) < k - i; omega) ?_
      refine weak_at [.inr 9] ?_ ?_ ?_ ?_ <;> simp [w4]
    · have e : i = k := by omega
      subst e
      simp [reSt]
      ((repeat refine ⟨⟨by kernel_rfl, by kernel_rfl⟩, ?_⟩); rw [hr]; refine ret_closed rfl ?_ rfl; simp)
end Go.Proofs.Ytlelalnahlpcpaa
