/-
  journal: the law Plays.
-/
import Derived.Test.YtlelalnahlpcpaaGreatKI
import Derived.Test.YtlelalnahlpcpaaGreatE7
set_option linter.unusedSimpArgs false
set_option linter.unusedVariables false
namespace Go.Proofs.YtlelalnahlpcpaaGreat
open Go.Lift
set_option maxRecDepth 100000

theorem NumJ.recordJ {J : JN} (h : NumJ J) (p : List UInt8) : NumJ (recordJ J p).1 := by
  have hst : ∀ t v, NumJ (stJ J t v) := by
    intro t v; unfold stJ; split
    · next h0 => have := stE_ok h0; exact ⟨by simp only; omega, by simp only; omega, by simp only; omega, by simp only; omega⟩
    · exact h
  have had : ∀ t e, NumJ (adJ J t e) := by
    intro t e; unfold adJ; split
    · exact ⟨h.t0, h.t1, h.v0, h.v1⟩
    · exact h
  have hcu : ∀ n, NumJ (cuJ J n) := by
    intro n; unfold cuJ; split
    · exact ⟨h.t0, h.t1, h.v0, h.v1⟩
    · exact h
  unfold Proofs.YtlelalnahlpcpaaGreat.recordJ
  repeat' split
  all_goals first | exact h | exact hst _ _ | exact had _ _ | exact hcu _
theorem NumJ.finR : ∀ (rs : List (List UInt8)) {J : JN}, NumJ J → NumJ (finR rs J)
  | [], _, h => h
  | p :: rs, J, h => NumJ.finR rs (h.recordJ p)
theorem LiveJ.num {J : JN} {n : Nat} (h : LiveJ J n) : NumJ J := by
  obtain ⟨⟨rs, s, g⟩, _⟩ := h
  have := NumJ.finR rs NumJ.zero
  rw [g.eq]
  exact ⟨this.t0, this.t1, this.v0, this.v1⟩
theorem LiveJ.zero : LiveJ zeroJ 0 := ⟨⟨_, _, Hist.zero⟩, by simp⟩
theorem LiveJ.more {J : JN} {n m : Nat} (h : LiveJ J n) (hm : n ≤ m) : LiveJ J m := ⟨h.hist, by have := h.bd; omega⟩

/-- What an act makes of a journal. -/
noncomputable def playJ (J : JN) (w x y : Int) : JN :=
  if w % 12 = 0 then setTermJ J x y else if w % 12 = 1 ∨ w % 12 = 2 then setTermJ J (J.term - 1 + x % 4) (-2 + y % 8)
  else if w % 12 = 3 ∨ w % 12 = 4 ∨ w % 12 = 5 ∨ w % 12 = 6 then appendJ J (J.term - 1 + x % 4) (noteE y)
  else if w % 12 = 7 then appendJ J J.term (spoilt (noteE 3) x y) else if w % 12 = 8 then cutJ J (-1 + x % ((J.log.length : Int) + 3))
  else if w % 12 = 9 ∨ w % 12 = 10 then syncJ J else crashJ J (-1 + x % 82)
theorem LiveJ.play {J : JN} {n : Nat} (h : LiveJ J n) (w : Int) {x y : Int} (hx : In64 x) (hy : In64 y) : LiveJ (playJ J w x y) (n + 1) := by
  have hN := h.num
  have n0 := hN.t0
  have n1 := hN.t1
  have hl := h.log
  have i1 : In64 (J.term - 1 + x % 4) := by unfold In64; omega
  have i2 : In64 (-2 + y % 8) := by unfold In64; omega
  have i3 : In64 J.term := by unfold In64; omega
  have m1 : 0 < (J.log.length : Int) + 3 := by omega
  have n2 := Int.emod_nonneg x (show (J.log.length : Int) + 3 ≠ 0 by omega)
  have n3 := Int.emod_lt_of_pos x m1
  have i4 : In64 (-1 + x % ((J.log.length : Int) + 3)) := by unfold In64; omega
  unfold playJ
  repeat' split
  · exact h.setTerm hx hy
  · exact h.setTerm i1 i2
  · exact h.append i1 (note_ok _)
  · exact h.append i3 (spoilt_ok (note_ok _) _ hy)
  · exact h.cut i4
  · exact h.sync.more (by omega)
  · exact (h.crash _).more (by omega)

noncomputable def CPL1 := mkC [(47, rsyncSp)]
theorem CPL1_ok : SpecsOk Tryz.prog CPL1 := mkC_ok (all_cons rsync_spec all_nil)
@[simp] theorem CPL1_1 : CPL1 47 = rsyncSp := rfl

noncomputable def jrSyncSp := fam (fun _ : JN => [V.ptr 0 0 0]) (fun i : JN => [rjO i]) (fun i : JN => (i.b.length ≤ 4611686018427387904)) (fun i : JN => ⟨.tup [], [rjO (syncJ i)]⟩)
@[simp] theorem jrSyncSp_eq {J : JN} (h1 : J.b.length ≤ 4611686018427387904) : jrSyncSp ([V.ptr 0 0 0]) ([rjO J]) = some (⟨.tup [], [rjO (syncJ J)]⟩) :=
  fam_eq (A := fun _ : JN => [V.ptr 0 0 0]) (O := fun i : JN => [rjO i]) (res := fun i : JN => ⟨.tup [], [rjO (syncJ i)]⟩) (by intro a b h h' <;> simp at h h' <;> simp_all) J h1

theorem jrSync_spec : Lift.Spec Tryz.prog 30 jrSyncSp := by
  refine spec_famO [] (C := CPL1) types_ok CPL1_ok follows Tryz.func30 (by kernel_rfl) rfl (by kernel_rfl) rfl ?_
  rintro J h1
  try simp only at h1
  refine ⟨by simp, ?_⟩
  intro r hr
  simp [h1]
  rw [hr]
  refine retC [] [.inl 0] [] rfl ?_
  simp [syncJ]

noncomputable def CPL := mkC [(9, modSp), (11, betweenSp), (28, spoiltSp), (13, noteSp), (16, same8Sp), (21, jnSetTermSp), (23, jnAppendSp), (29, jnCutASp), (22, jnSyncSp), (25, jnCrashSp), (10, jrSetTermSp), (12, jrAppendSp), (14, jrCutASp), (30, jrSyncSp), (31, jrCrashSp)]
theorem CPL_ok : SpecsOk Tryz.prog CPL := mkC_ok (all_cons mod_spec (all_cons between_spec (all_cons spoilt_spec (all_cons note_spec (all_cons same8_spec (all_cons jnSetTerm_spec (all_cons jnAppend_spec (all_cons jnCutA_spec (all_cons jnSync_spec (all_cons jnCrash_spec (all_cons jrSetTerm_spec (all_cons jrAppend_spec (all_cons jrCutA_spec (all_cons jrSync_spec (all_cons jrCrash_spec all_nil)))))))))))))))
@[simp] theorem CPL_1 : CPL 9 = modSp := rfl
@[simp] theorem CPL_2 : CPL 11 = betweenSp := rfl
@[simp] theorem CPL_3 : CPL 28 = spoiltSp := rfl
@[simp] theorem CPL_4 : CPL 13 = noteSp := rfl
@[simp] theorem CPL_5 : CPL 16 = same8Sp := rfl
@[simp] theorem CPL_6 : CPL 21 = jnSetTermSp := rfl
@[simp] theorem CPL_7 : CPL 23 = jnAppendSp := rfl
@[simp] theorem CPL_8 : CPL 29 = jnCutASp := rfl
@[simp] theorem CPL_9 : CPL 22 = jnSyncSp := rfl
@[simp] theorem CPL_10 : CPL 25 = jnCrashSp := rfl
@[simp] theorem CPL_11 : CPL 10 = jrSetTermSp := rfl
@[simp] theorem CPL_12 : CPL 12 = jrAppendSp := rfl
@[simp] theorem CPL_13 : CPL 14 = jrCutASp := rfl
@[simp] theorem CPL_14 : CPL 30 = jrSyncSp := rfl
@[simp] theorem CPL_15 : CPL 31 = jrCrashSp := rfl

structure PlayOk (J K : JN) : Prop where
  num : NumJ J
  d : J.d ≤ J.b.length
  b : J.b.length ≤ 1000000000
  log : J.log.length ≤ 4096
  kb : K.b.length ≤ 1000000000
  klog : K.log.length ≤ 1000000000
noncomputable def both8Sp := fam (fun i : JN × Int × Int × Int => [V.ptr 0 0 0, .ptr 1 0 0, .agg [.int .i64 i.2.1, .int .i64 i.2.2.1, .int .i64 i.2.2.2]]) (fun i : JN × Int × Int × Int => [jnO i.1, rjO i.1]) (fun i : JN × Int × Int × Int => (PlayOk i.1 (playJ i.1 i.2.1 i.2.2.1 i.2.2.2)) ∧ (In64 i.2.2.1) ∧ (In64 i.2.2.2)) (fun i : JN × Int × Int × Int => ⟨.bool true, [jnO (playJ i.1 i.2.1 i.2.2.1 i.2.2.2), rjO (playJ i.1 i.2.1 i.2.2.1 i.2.2.2)]⟩)
@[simp] theorem both8Sp_eq {J : JN} {w : Int} {x : Int} {y : Int} (h1 : PlayOk J (playJ J w x y)) (h2 : In64 x) (h3 : In64 y) : both8Sp ([V.ptr 0 0 0, .ptr 1 0 0, .agg [.int .i64 w, .int .i64 x, .int .i64 y]]) ([jnO J, rjO J]) = some (⟨.bool true, [jnO (playJ J w x y), rjO (playJ J w x y)]⟩) :=
  fam_eq (A := fun i : JN × Int × Int × Int => [V.ptr 0 0 0, .ptr 1 0 0, .agg [.int .i64 i.2.1, .int .i64 i.2.2.1, .int .i64 i.2.2.2]]) (O := fun i : JN × Int × Int × Int => [jnO i.1, rjO i.1]) (res := fun i : JN × Int × Int × Int => ⟨.bool true, [jnO (playJ i.1 i.2.1 i.2.2.1 i.2.2.2), rjO (playJ i.1 i.2.1 i.2.2.1 i.2.2.2)]⟩) (by rintro ⟨a0, a1, a2, a3⟩ ⟨b0, b1, b2, b3⟩ h h' <;> simp at h h' <;> simp_all) (J, w, x, y) ⟨h1, h2, h3⟩

set_option maxHeartbeats 8000000 in
theorem both8_spec : Lift.Spec Tryz.prog 8 both8Sp := by
  refine spec_famO [] (C := CPL) types_ok CPL_ok follows Tryz.func8 (by kernel_rfl) rfl (by kernel_rfl) rfl ?_
  rintro ⟨J, w, x, y⟩ ⟨h1, hx, hy⟩
  try simp only at h1 hx hy
  refine ⟨by simp, ?_⟩
  intro r hr
  obtain ⟨hN, hd, hb, hl, kb, klog⟩ := h1
  have n0 := hN.t0
  have n1 := hN.t1
  have hl2 : J.log.length ≤ 1000000000 := by omega
  have hb2 : J.b.length ≤ 4611686018427387904 := by omega
  have w1 : IntKind.i64.wrap (J.term - 1) = J.term - 1 := wrap_i64_in (by omega) (by omega)
  have w2 : IntKind.i64.wrap (J.term + 2) = J.term + 2 := wrap_i64_in (by omega) (by omega)
  have w3 : IntKind.i64.wrap ((J.log.length : Int) + 1) = (J.log.length : Int) + 1 := wrap_i64_in (by omega) (by omega)
  have p1 : J.term - 1 ≤ J.term + 2 := by omega
  have p2 : -1099511627776 ≤ J.term - 1 := by omega
  have p3 : J.term + 2 ≤ 1099511627776 := by omega
  have p4 : J.term + 2 - (J.term - 1) + 1 = 4 := by omega
  have p5 : -1 ≤ (J.log.length : Int) + 1 := by omega
  have p6 : (J.log.length : Int) + 1 ≤ 1099511627776 := by omega
  have p7 : (J.log.length : Int) + 1 - -1 + 1 = (J.log.length : Int) + 3 := by omega
  have p8 : (J.log.length : Int) + 1 + 1 + 1 = (J.log.length : Int) + 3 := by omega
  have m1 : 0 < (J.log.length : Int) + 3 := by omega
  have n2 := Int.emod_nonneg x (show (J.log.length : Int) + 3 ≠ 0 by omega)
  have n3 := Int.emod_lt_of_pos x m1
  have i1 : In64 (J.term - 1 + x % 4) := by unfold In64; omega
  have i2 : In64 (-2 + y % 8) := by unfold In64; omega
  have i3 : In64 J.term := by unfold In64; omega
  have i4 : In64 (-1 + x % ((J.log.length : Int) + 3)) := by unfold In64; omega
  have i5 := spoilt_ok (note_ok 3) x hy
  have hw : w % 12 = 0 ∨ w % 12 = 1 ∨ w % 12 = 2 ∨ w % 12 = 3 ∨ w % 12 = 4 ∨ w % 12 = 5 ∨ w % 12 = 6 ∨ w % 12 = 7 ∨ w % 12 = 8 ∨ w % 12 = 9 ∨ w % 12 = 10 ∨ w % 12 = 11 := by omega
  rcases hw with h | h | h | h | h | h | h | h | h | h | h | h
  · have hs : playJ J w x y = setTermJ J x y := by simp [playJ, h]
    simp only [hs] at hr kb klog
    simp [h, w1, w2, w3, p1, p2, p3, p4, p5, p6, p7, p8, hb, hb2, hl2, hd, hx, hy, i1, i2, i3, i4, i5, note_ok, kb, klog, GEntry.cells]
    (repeat refine ⟨⟨by kernel_rfl, by kernel_rfl⟩, ?_⟩)
    rw [hr]
    refine retC [] [] [] rfl ?_
    simp
  · have hs : playJ J w x y = setTermJ J (J.term - 1 + x % 4) (-2 + y % 8) := by simp [playJ, h]
    simp only [hs] at hr kb klog
    simp [h, w1, w2, w3, p1, p2, p3, p4, p5, p6, p7, p8, hb, hb2, hl2, hd, hx, hy, i1, i2, i3, i4, i5, note_ok, kb, klog, GEntry.cells]
    (repeat refine ⟨⟨by kernel_rfl, by kernel_rfl⟩, ?_⟩)
    rw [hr]
    refine retC [] [] [] rfl ?_
    simp
  · have hs : playJ J w x y = setTermJ J (J.term - 1 + x % 4) (-2 + y % 8) := by simp [playJ, h]
    simp only [hs] at hr kb klog
    simp [h, w1, w2, w3, p1, p2, p3, p4, p5, p6, p7, p8, hb, hb2, hl2, hd, hx, hy, i1, i2, i3, i4, i5, note_ok, kb, klog, GEntry.cells]
    (repeat refine ⟨⟨by kernel_rfl, by kernel_rfl⟩, ?_⟩)
    rw [hr]
    refine retC [] [] [] rfl ?_
    simp
  · have hs : playJ J w x y = appendJ J (J.term - 1 + x % 4) (noteE y) := by simp [playJ, h]
    simp only [hs] at hr kb klog
    simp [h, w1, w2, w3, p1, p2, p3, p4, p5, p6, p7, p8, hb, hb2, hl2, hd, hx, hy, i1, i2, i3, i4, i5, note_ok, kb, klog, GEntry.cells]
    (repeat refine ⟨⟨by kernel_rfl, by kernel_rfl⟩, ?_⟩)
    rw [hr]
    refine retC [] [] [] rfl ?_
    simp
  · have hs : playJ J w x y = appendJ J (J.term - 1 + x % 4) (noteE y) := by simp [playJ, h]
    simp only [hs] at hr kb klog
    simp [h, w1, w2, w3, p1, p2, p3, p4, p5, p6, p7, p8, hb, hb2, hl2, hd, hx, hy, i1, i2, i3, i4, i5, note_ok, kb, klog, GEntry.cells]
    (repeat refine ⟨⟨by kernel_rfl, by kernel_rfl⟩, ?_⟩)
    rw [hr]
    refine retC [] [] [] rfl ?_
    simp
  · have hs : playJ J w x y = appendJ J (J.term - 1 + x % 4) (noteE y) := by simp [playJ, h]
    simp only [hs] at hr kb klog
    simp [h, w1, w2, w3, p1, p2, p3, p4, p5, p6, p7, p8, hb, hb2, hl2, hd, hx, hy, i1, i2, i3, i4, i5, note_ok, kb, klog, GEntry.cells]
    (repeat refine ⟨⟨by kernel_rfl, by kernel_rfl⟩, ?_⟩)
    rw [hr]
    refine retC [] [] [] rfl ?_
    simp
  · have hs : playJ J w x y = appendJ J (J.term - 1 + x % 4) (noteE y) := by simp [playJ, h]
    simp only [hs] at hr kb klog
    simp [h, w1, w2, w3, p1, p2, p3, p4, p5, p6, p7, p8, hb, hb2, hl2, hd, hx, hy, i1, i2, i3, i4, i5, note_ok, kb, klog, GEntry.cells]
    (repeat refine ⟨⟨by kernel_rfl, by kernel_rfl⟩, ?_⟩)
    rw [hr]
    refine retC [] [] [] rfl ?_
    simp
  · have hs : playJ J w x y = appendJ J J.term (spoilt (noteE 3) x y) := by simp [playJ, h]
    simp only [hs] at hr kb klog
    simp [h, w1, w2, w3, p1, p2, p3, p4, p5, p6, p7, p8, hb, hb2, hl2, hd, hx, hy, i1, i2, i3, i4, i5, note_ok, kb, klog, GEntry.cells]
    (repeat refine ⟨⟨by kernel_rfl, by kernel_rfl⟩, ?_⟩)
    rw [hr]
    refine retC [] [] [] rfl ?_
    simp
  · have hs : playJ J w x y = cutJ J (-1 + x % ((J.log.length : Int) + 3)) := by simp [playJ, h]
    simp only [hs] at hr kb klog
    simp [h, w1, w2, w3, p1, p2, p3, p4, p5, p6, p7, p8, hb, hb2, hl2, hd, hx, hy, i1, i2, i3, i4, i5, note_ok, kb, klog, GEntry.cells]
    (repeat refine ⟨⟨by kernel_rfl, by kernel_rfl⟩, ?_⟩)
    rw [hr]
    refine retC [] [] [] rfl ?_
    simp
  · have hs : playJ J w x y = syncJ J := by simp [playJ, h]
    simp only [hs] at hr kb klog
    simp [h, w1, w2, w3, p1, p2, p3, p4, p5, p6, p7, p8, hb, hb2, hl2, hd, hx, hy, i1, i2, i3, i4, i5, note_ok, kb, klog, GEntry.cells]
    (repeat refine ⟨⟨by kernel_rfl, by kernel_rfl⟩, ?_⟩)
    rw [hr]
    refine retC [] [] [] rfl ?_
    simp
  · have hs : playJ J w x y = syncJ J := by simp [playJ, h]
    simp only [hs] at hr kb klog
    simp [h, w1, w2, w3, p1, p2, p3, p4, p5, p6, p7, p8, hb, hb2, hl2, hd, hx, hy, i1, i2, i3, i4, i5, note_ok, kb, klog, GEntry.cells]
    (repeat refine ⟨⟨by kernel_rfl, by kernel_rfl⟩, ?_⟩)
    rw [hr]
    refine retC [] [] [] rfl ?_
    simp
  · have hs : playJ J w x y = crashJ J (-1 + x % 82) := by simp [playJ, h]
    simp only [hs] at hr kb klog
    simp [h, w1, w2, w3, p1, p2, p3, p4, p5, p6, p7, p8, hb, hb2, hl2, hd, hx, hy, i1, i2, i3, i4, i5, note_ok, kb, klog, GEntry.cells]
    (repeat refine ⟨⟨by kernel_rfl, by kernel_rfl⟩, ?_⟩)
    rw [hr]
    refine retC [] [] [] rfl ?_
    simp

noncomputable def CPM := mkC [(5, jnNewSp), (6, jrNewSp), (7, awake8Sp), (8, both8Sp)]
theorem CPM_ok : SpecsOk Tryz.prog CPM := mkC_ok (all_cons jnNew_spec (all_cons jrNew_spec (all_cons awake8_spec (all_cons both8_spec all_nil))))
@[simp] theorem CPM_1 : CPM 5 = jnNewSp := rfl
@[simp] theorem CPM_2 : CPM 6 = jrNewSp := rfl
@[simp] theorem CPM_3 : CPM 7 = awake8Sp := rfl
@[simp] theorem CPM_4 : CPM 8 = both8Sp := rfl

def plSt (l : List GL08Act) (i : Nat × JN) : St := mkSt [(0, .sl 2 3 (GL08Act.row l)), (3, .ptr 0 0 0), (4, .ptr 1 0 0), (5, .int .i64 i.1)] [(0, jnO i.2), (1, rjO i.2)] 2
set_option maxHeartbeats 4000000 in
theorem law_JournalPlays : Lift.Spec Tryz.prog 3 (fam (fun i : List GL08Act => [V.sl 2 3 (GL08Act.row i)]) (fun _ => []) (fun i : List GL08Act => (∀ x ∈ i, GL08Act.ok x)) (fun _ => ⟨.bool true, []⟩)) := by
  refine spec_fam (C := CPM) types_ok CPM_ok follows Tryz.func3 (by kernel_rfl) rfl (by kernel_rfl) rfl ?_
  rintro l h1
  try simp only at h1
  refine ⟨by simp, ?_⟩
  intro r hr
  by_cases hl : (50 : Int) < (l.length : Int)
  · simp [hl]
    ((repeat refine ⟨⟨by kernel_rfl, by kernel_rfl⟩, ?_⟩); rw [hr]; refine ret_closed rfl ?_ rfl; simp)
  simp [hl]
  refine axwp_loop (plSt l) (fun i => i.1 ≤ l.length ∧ LiveJ i.2 i.1) (fun i => l.length - i.1) (0, zeroJ) ?_ ⟨Nat.zero_le _, LiveJ.zero⟩ ?_
  · refine weak_at [.inr 3, .inr 4] ?_ ?_ ?_ ?_ <;> first | (simp; done) | (intro n hn; rcases two_lt hn with rfl | rfl <;> simp)
  · rintro ⟨i, J⟩ ⟨hi, hM⟩
    simp only at hi hM
    by_cases hik : i < l.length
    · obtain ⟨x, hx, hx', hxm⟩ := get_of_lt hik
      have w4 : IntKind.i64.wrap ((i : Int) + 1) = (i : Int) + 1 := wrap_i64_in (by omega) (by omega)
      obtain ⟨i0, i1, i2⟩ := h1 x hxm
      have hM1 := hM.play x.Which i1 i2
      have hbd := hM.bd
      have hbd1 := hM1.bd
      have hP : PlayOk J (playJ J x.Which x.A x.B) := ⟨hM.num, hM.d_le, by omega, hM.log, by omega, by have := hM1.log; omega⟩
      simp [plSt, hik, hx', GL08Act.cells, hP, i1, i2]
      (repeat refine ⟨⟨by kernel_rfl, by kernel_rfl⟩, ?_⟩)
      refine Again.mk (i + 1, playJ J x.Which x.A x.B) ⟨by exact hik, hM1⟩ (by show l.length - (i + 1) < l.length - i; omega) ?_
      refine weak_at [.inr 3, .inr 4] ?_ ?_ ?_ ?_ <;> first | (simp [w4]; done) | (intro n hn; rcases two_lt hn with rfl | rfl <;> simp)
    · simp [plSt, hik]
      ((repeat refine ⟨⟨by kernel_rfl, by kernel_rfl⟩, ?_⟩); rw [hr]; refine ret_closed rfl ?_ rfl; simp)
end Go.Proofs.YtlelalnahlpcpaaGreat
