/-
  journal: the law Opens.
-/
import Derived.Test.YtlelalnahlpcpaaGreatKI
set_option linter.unusedSimpArgs false
set_option linter.unusedVariables false
namespace Go.Proofs.YtlelalnahlpcpaaGreat
open Go.Lift
set_option maxRecDepth 100000

theorem replayJ_log4 : ∀ (rs : List (List UInt8)) (J : JN) (n : Nat), J.log.length ≤ 4096 → (replayJ rs J n).1.log.length ≤ 4096
  | [], _, _, h => h
  | p :: rs, J, n, h => by
    rw [replayJ]
    split
    · exact replayJ_log4 rs _ _ (recordJ_log4 h p)
    · exact recordJ_log4 h p
theorem crashJ_log4 (J : JN) (keep : Int) : (crashJ J keep).log.length ≤ 4096 := by
  unfold crashJ readJ
  exact replayJ_log4 _ _ _ (by simp)
noncomputable def CNI := mkC [(6, jrNewSp), (10, jrSetTermSp), (12, jrAppendSp), (14, jrCutASp), (15, jnOpenSp), (17, jrOpenSp), (16, same8Sp), (13, noteSp), (7, awake8Sp), (9, modSp), (11, betweenSp)]
theorem CNI_ok : SpecsOk Tryz.prog CNI := mkC_ok (all_cons jrNew_spec (all_cons jrSetTerm_spec (all_cons jrAppend_spec (all_cons jrCutA_spec (all_cons jnOpen_spec (all_cons jrOpen_spec (all_cons same8_spec (all_cons note_spec (all_cons awake8_spec (all_cons mod_spec (all_cons between_spec all_nil)))))))))))
@[simp] theorem CNI_1 : CNI 6 = jrNewSp := rfl
@[simp] theorem CNI_2 : CNI 10 = jrSetTermSp := rfl
@[simp] theorem CNI_3 : CNI 12 = jrAppendSp := rfl
@[simp] theorem CNI_4 : CNI 14 = jrCutASp := rfl
@[simp] theorem CNI_5 : CNI 15 = jnOpenSp := rfl
@[simp] theorem CNI_6 : CNI 17 = jrOpenSp := rfl
@[simp] theorem CNI_7 : CNI 16 = same8Sp := rfl
@[simp] theorem CNI_8 : CNI 13 = noteSp := rfl
@[simp] theorem CNI_9 : CNI 7 = awake8Sp := rfl
@[simp] theorem CNI_10 : CNI 9 = modSp := rfl
@[simp] theorem CNI_11 : CNI 11 = betweenSp := rfl

def opSt (l : List GL08Act) (raw : List UInt8) (at_ : Int) (by_ : UInt8) (i : Nat × JN) : St := mkSt [(0, .sl 2 3 (GL08Act.row l)), (1, .sl 2 1 (byteRow raw)), (2, .int .i64 at_), (3, .int .u8 by_.toNat), (9, .ptr 0 0 0), (10, .int .i64 i.1)] [(0, rjO i.2)] 1
def recT (ls : List (List UInt8)) : AObj := ⟨32, 1, listRow ls, true, 1, .rw⟩
def opSt2 (ls : List (List UInt8)) (i : Nat) : St := mkSt [(13, .own 0 0 ls.length), (14, .int .i64 i)] [(0, recT ls)] 1
set_option maxHeartbeats 4000000 in
theorem law_JournalOpens : Lift.Spec Tryz.prog 4 (fam (fun i : (List GL08Act) × (List UInt8) × Int × UInt8 => [V.sl 2 3 (GL08Act.row i.1), .sl 2 1 (byteRow i.2.1), .int .i64 i.2.2.1, .int .u8 i.2.2.2.toNat]) (fun _ => []) (fun _ : (List GL08Act) × (List UInt8) × Int × UInt8 => True) (fun _ => ⟨.bool true, []⟩)) := by
  refine spec_fam (C := CNI) types_ok CNI_ok follows Tryz.func4 (by kernel_rfl) rfl (by kernel_rfl) rfl ?_
  rintro ⟨l, raw, at_, by_⟩ _
  refine ⟨by simp, ?_⟩
  intro r hr
  by_cases hl : (50 : Int) < (l.length : Int)
  · simp [hl]
    ((repeat refine ⟨⟨by kernel_rfl, by kernel_rfl⟩, ?_⟩); rw [hr]; refine ret_closed rfl ?_ rfl; simp)
  by_cases hw : (300 : Int) < (raw.length : Int)
  · simp [hl, hw]
    ((repeat refine ⟨⟨by kernel_rfl, by kernel_rfl⟩, ?_⟩); rw [hr]; refine ret_closed rfl ?_ rfl; simp)
  simp [hl, hw]
  refine axwp_loop (opSt l raw at_ by_) (fun i => i.1 ≤ l.length ∧ MadeJ i.2 i.1) (fun i => l.length - i.1) (0, zeroJ) ?_ ⟨Nat.zero_le _, MadeJ.zero⟩ ?_
  · refine weak_at [.inr 9] ?_ ?_ ?_ ?_ <;> simp
  · rintro ⟨i, J⟩ ⟨hi, hM⟩
    simp only at hi hM
    have hN := hM.num
    have hbd := hM.bd
    have n0 := hN.t0
    have n1 := hN.t1
    have hlog : J.log.length ≤ 4096 := by obtain ⟨⟨_, _, g⟩, _, _⟩ := hM; exact g.log4
    by_cases hik : i < l.length
    · obtain ⟨x, hx, hx', hxm⟩ := get_of_lt hik
      have w4 : IntKind.i64.wrap ((i : Int) + 1) = (i : Int) + 1 := wrap_i64_in (by omega) (by omega)
      have w1 : IntKind.i64.wrap (J.term + 1) = J.term + 1 := wrap_i64_in (by omega) (by omega)
      have w5 : IntKind.i64.wrap ((J.log.length : Int) + 1) = (J.log.length : Int) + 1 := wrap_i64_in (by omega) (by omega)
      have m1 : 0 < (J.log.length : Int) + 1 := by omega
      have m2 : (J.log.length : Int) + 1 ≤ 4611686018427387904 := by omega
      have n2 := Int.emod_nonneg x.A (show (J.log.length : Int) + 1 ≠ 0 by omega)
      have n3 := Int.emod_lt_of_pos x.A m1
      have i1 : In64 (J.term + 1) := by unfold In64; omega
      have i0 : In64 J.term := by unfold In64; omega
      have i2 : In64 (-1 + x.A % 6) := by unfold In64; omega
      have i3 : In64 (x.A % ((J.log.length : Int) + 1)) := by unfold In64; omega
      have c1 : J.b.length ≤ 1000000000 := by omega
      have c2 : J.log.length ≤ 1000000000 := by omega
      rcases (show x.Which % 3 = 0 ∨ x.Which % 3 = 1 ∨ x.Which % 3 = 2 by omega) with hq | hq | hq
      · simp [opSt, hik, hx', GL08Act.cells, hq, w1, w4, w5, m1, m2, i0, i1, i2, i3, c1, c2, note_ok]
        (repeat refine ⟨⟨by kernel_rfl, by kernel_rfl⟩, ?_⟩)
        refine Again.mk (i + 1, setTermJ J (J.term + 1) (-1 + x.A % 6)) ⟨by exact hik, hM.setTerm i1 i2⟩ (by show l.length - (i + 1) < l.length - i; omega) ?_
        refine weak_at [.inr 9] ?_ ?_ ?_ ?_ <;> simp [w4]
      · simp [opSt, hik, hx', GL08Act.cells, hq, w1, w4, w5, m1, m2, i0, i1, i2, i3, c1, c2, note_ok]
        (repeat refine ⟨⟨by kernel_rfl, by kernel_rfl⟩, ?_⟩)
        refine Again.mk (i + 1, appendJ J J.term (noteE x.B)) ⟨by exact hik, hM.append i0 (note_ok _)⟩ (by show l.length - (i + 1) < l.length - i; omega) ?_
        refine weak_at [.inr 9] ?_ ?_ ?_ ?_ <;> simp [w4]
      · simp [opSt, hik, hx', GL08Act.cells, hq, w1, w4, w5, m1, m2, i0, i1, i2, i3, c1, c2, note_ok]
        (repeat refine ⟨⟨by kernel_rfl, by kernel_rfl⟩, ?_⟩)
        refine Again.mk (i + 1, cutJ J (x.A % ((J.log.length : Int) + 1))) ⟨by exact hik, hM.cut i3⟩ (by show l.length - (i + 1) < l.length - i; omega) ?_
        refine weak_at [.inr 9] ?_ ?_ ?_ ?_ <;> simp [w4]
    · have c3 : (J.b.length : Int) ≤ 140737488355328 := by omega
      have c4 : (J.b.length : Int) + (raw.length : Int) ≤ 140737488355328 := by omega
      have c5 : (raw.length : Int) ≤ 140737488355328 := by omega
      by_cases hb : J.b.length = 0
      · simp [opSt, hik, c3, c4, c5, hb]
        (repeat refine ⟨⟨by kernel_rfl, by kernel_rfl⟩, ?_⟩)
        obtain ⟨ls, hls⟩ : ∃ ls : List (List UInt8), ls = [raw, J.b, [], [], (J.b ++ raw).take raw.length] := ⟨_, rfl⟩
        have hl5 : ls.length = 5 := by rw [hls]; rfl
        have hsm : ∀ p ∈ ls, p.length ≤ 1000000000 := by
          intro p hp
          rw [hls] at hp
          simp at hp
          rcases hp with rfl | rfl | rfl | rfl | rfl <;> first | omega | (simp; done) | (simp; omega)
        refine axwp_loop (opSt2 ls) (fun i => i ≤ ls.length) (fun i => ls.length - i) 0 ?_ (Nat.zero_le _) ?_
        · refine (weak_fzS [11, 129] ?_).trans ((weak_tags [.inr 13] _).trans ((weak_flAt (.inr 13) 1).trans (weak_at [.inr 13] ?_ ?_ ?_ ?_))) <;> simp [recT, hls, tagC, listRow]
        · intro i hi
          by_cases hik : i < ls.length
          · obtain ⟨x, hx, hx', hxm⟩ := get_of_lt hik
            have w4 : IntKind.i64.wrap ((i : Int) + 1) = (i : Int) + 1 := wrap_i64_in (by omega) (by omega)
            have q1 := hsm x hxm
            obtain ⟨K, hK⟩ : ∃ K, K = crashJ ⟨x, x.length, 0, -1, []⟩ 0 := ⟨_, rfl⟩
            have q2 := (crashJ_bd ⟨x, x.length, 0, -1, []⟩ 0 (Nat.le_refl _)).1
            rw [← hK] at q2
            have q3 : K.b.length ≤ 1000000000 := Nat.le_trans q2 q1
            have q4 : K.log.length ≤ 1000000000 := by have := crashJ_log4 ⟨x, x.length, 0, -1, []⟩ 0; rw [← hK] at this; omega
            simp [opSt2, recT, hik, hx', q1, ← hK, q3, q4]
            (repeat refine ⟨⟨by kernel_rfl, by kernel_rfl⟩, ?_⟩)
            refine Again.mk (i + 1) (by exact hik) (by show ls.length - (i + 1) < ls.length - i; omega) ?_
            refine weak_at [.inr 13] ?_ ?_ ?_ ?_ <;> simp [recT, w4]
          · have e : i = ls.length := by omega
            subst e
            simp [opSt2, recT]
            ((repeat refine ⟨⟨by kernel_rfl, by kernel_rfl⟩, ?_⟩); rw [hr]; refine ret_closed rfl ?_ rfl; simp)
      · have hb2 : 0 < J.b.length := by omega
        have c6 : (J.b.length : Int) ≤ 4611686018427387904 := by omega
        have hb3 : (0 : Int) < (J.b.length : Int) := by omega
        have n2 := Int.emod_nonneg at_ (show (J.b.length : Int) ≠ 0 by omega)
        have n3 := Int.emod_lt_of_pos at_ hb3
        obtain ⟨k, hk⟩ := Int.eq_ofNat_of_zero_le n2
        have hk2 : k < J.b.length := by omega
        have hk3 : k ≤ J.b.length := by omega
        have hset : List.take J.b.length ((byteRow J.b).set k [V.int .u8 (by_.toNat : Int)]) = byteRow (J.b.set k by_) := by
          rw [List.take_of_length_le (by simp)]; simp [byteRow, List.map_set]
        simp [opSt, hik, c3, c4, c5, hb, hb2, hb3, c6, hk, hk2, hk3]
        (repeat refine ⟨⟨by kernel_rfl, by kernel_rfl⟩, ?_⟩)
        obtain ⟨ls, hls⟩ : ∃ ls : List (List UInt8), ls = [raw, J.b, J.b.set k by_, J.b.take k, J.b ++ raw] := ⟨_, rfl⟩
        have hl5 : ls.length = 5 := by rw [hls]; rfl
        have hsm : ∀ p ∈ ls, p.length ≤ 1000000000 := by
          intro p hp
          rw [hls] at hp
          simp at hp
          rcases hp with rfl | rfl | rfl | rfl | rfl <;> first | omega | (simp; done) | (simp; omega)
        refine axwp_loop (opSt2 ls) (fun i => i ≤ ls.length) (fun i => ls.length - i) 0 ?_ (Nat.zero_le _) ?_
        · refine (weak_fzS [11, 129] ?_).trans ((weak_tags [.inr 13] _).trans ((weak_flAt (.inr 13) 1).trans (weak_at [.inr 13] ?_ ?_ ?_ ?_))) <;> simp [recT, hls, tagC, listRow, hset]
        · intro i hi
          by_cases hik : i < ls.length
          · obtain ⟨x, hx, hx', hxm⟩ := get_of_lt hik
            have w4 : IntKind.i64.wrap ((i : Int) + 1) = (i : Int) + 1 := wrap_i64_in (by omega) (by omega)
            have q1 := hsm x hxm
            obtain ⟨K, hK⟩ : ∃ K, K = crashJ ⟨x, x.length, 0, -1, []⟩ 0 := ⟨_, rfl⟩
            have q2 := (crashJ_bd ⟨x, x.length, 0, -1, []⟩ 0 (Nat.le_refl _)).1
            rw [← hK] at q2
            have q3 : K.b.length ≤ 1000000000 := Nat.le_trans q2 q1
            have q4 : K.log.length ≤ 1000000000 := by have := crashJ_log4 ⟨x, x.length, 0, -1, []⟩ 0; rw [← hK] at this; omega
            simp [opSt2, recT, hik, hx', q1, ← hK, q3, q4]
            (repeat refine ⟨⟨by kernel_rfl, by kernel_rfl⟩, ?_⟩)
            refine Again.mk (i + 1) (by exact hik) (by show ls.length - (i + 1) < ls.length - i; omega) ?_
            refine weak_at [.inr 13] ?_ ?_ ?_ ?_ <;> simp [recT, w4]
          · have e : i = ls.length := by omega
            subst e
            simp [opSt2, recT]
            ((repeat refine ⟨⟨by kernel_rfl, by kernel_rfl⟩, ?_⟩); rw [hr]; refine ret_closed rfl ?_ rfl; simp)
end Go.Proofs.YtlelalnahlpcpaaGreat
