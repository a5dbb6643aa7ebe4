/-
  journal: the program: reading a disk.
-/
import Derived.Test.YtlelalnahlpcpaaGreatKO
set_option linter.unusedSimpArgs false
set_option linter.unusedVariables false
namespace Go.Proofs.YtlelalnahlpcpaaGreat
open Go.Lift

theorem frT_back {l p : List UInt8} {n : Nat} (h : frT 8 l = (p, (n : Int), 0)) : n = (putB 8 [] p).length := by
  rcases frT_cases 8 l with ⟨e, he, hT, hL⟩ | ⟨m, k, hL, hn, hk1, hk2, hk, ⟨rest, hr1, hr2⟩, hc⟩
  · rw [hT] at h
    simp only [Prod.mk.injEq] at h
    exact absurd h.2.2 he
  rcases hc with ⟨_, hT⟩ | ⟨_, _, hT⟩ | ⟨hs, _, hT⟩
  · rw [hT] at h; simp at h
  · rw [hT] at h; simp at h
  · rw [hT] at h
    simp only [Prod.mk.injEq, and_true] at h
    obtain ⟨h1, h2⟩ := h
    have hpl : p.length = m := by rw [← h1, List.length_take, List.length_drop]; omega
    rw [putB_small (by omega), frB_len, hpl, ← hr2]
    omega
theorem allGo_acc (key : Int) (b : List UInt8) : ∀ (f at_ : Nat) (acc : List (List UInt8)), allGo key f b at_ acc = (acc ++ (allGo key f b at_ []).1, (allGo key f b at_ []).2)
  | 0, at_, acc => by simp [allGo]
  | f + 1, at_, acc => by
    rw [allGo]
    conv => rhs; rw [allGo]
    split
    · rw [allGo_acc key b f _ (acc ++ _)]
      conv => rhs; rw [allGo_acc key b f _ ([] ++ _)]
      simp
    · simp
/-- The records from a place on. -/
noncomputable def fromL (b : List UInt8) (n : Nat) : List (List UInt8) := (allAt 8 b n []).1
theorem fromL_zero (b : List UInt8) : fromL b 0 = (allT 8 b).1 := by rw [allT_eq]; rfl
theorem fromL_err {b : List UInt8} {n : Nat} {e : Int} (h : n ≤ b.length) (he : ¬ e = 0) (hT : frT 8 (b.drop n) = ([], 0, e)) : fromL b n = [] := by unfold fromL; rw [allAt_err h he hT]
theorem fromL_ok {b : List UInt8} {n m : Nat} {p : List UInt8} (h : n ≤ b.length) (hm : 1 ≤ m) (hle : n + m ≤ b.length) (hT : frT 8 (b.drop n) = (p, (m : Int), 0)) : fromL b n = p :: fromL b (n + m) := by
  unfold fromL
  rw [allAt_ok h hm hle hT]
  unfold allAt
  rw [allGo_acc]
  rfl

noncomputable def CNB := mkC [(18, nothingSp), (61, dktruncSp), (58, dkbytesSp), (59, frTakeSp), (60, jnRecSp)]
theorem CNB_ok : SpecsOk Tryz.prog CNB := mkC_ok (all_cons nothing_spec (all_cons dktrunc_spec (all_cons dkbytes_spec (all_cons frTake_spec (all_cons jnRec_spec all_nil)))))
@[simp] theorem CNB_1 : CNB 18 = nothingSp := rfl
@[simp] theorem CNB_2 : CNB 61 = dktruncSp := rfl
@[simp] theorem CNB_3 : CNB 58 = dkbytesSp := rfl
@[simp] theorem CNB_4 : CNB 59 = frTakeSp := rfl
@[simp] theorem CNB_5 : CNB 60 = jnRecSp := rfl

noncomputable def jnReadSp := fam (fun _ : JN => [V.ptr 0 0 0]) (fun i : JN => [jnO i]) (fun i : JN => (i.b.length ≤ 1000000000) ∧ (i.d ≤ i.b.length)) (fun i : JN => ⟨.tup [], [jnO (readJ i.b i.d)]⟩)
@[simp] theorem jnReadSp_eq {J : JN} (h1 : J.b.length ≤ 1000000000) (h2 : J.d ≤ J.b.length) : jnReadSp ([V.ptr 0 0 0]) ([jnO J]) = some (⟨.tup [], [jnO (readJ J.b J.d)]⟩) :=
  fam_eq (A := fun _ : JN => [V.ptr 0 0 0]) (O := fun i : JN => [jnO i]) (res := fun i : JN => ⟨.tup [], [jnO (readJ i.b i.d)]⟩) (by intro a b h h' <;> simp at h h' <;> simp_all) J ⟨h1, h2⟩

def jdSt (b : List UInt8) (i : Nat × JN) : St := mkSt [(0, .ptr 0 0 0), (2, .own 1 0 b.length), (3, .int .i64 i.1)] [(0, jnO i.2), (1, rowOf b)] 2
set_option maxHeartbeats 4000000 in
theorem jnRead_spec : Lift.Spec Tryz.prog 40 jnReadSp := by
  refine spec_famO [] (C := CNB) types_ok CNB_ok follows Tryz.func40 (by kernel_rfl) rfl (by kernel_rfl) rfl ?_
  rintro J ⟨h1, h2⟩
  try simp only at h1 h2
  refine ⟨by simp, ?_⟩
  intro r hr
  obtain ⟨b, hb⟩ : ∃ b, b = J.b := ⟨_, rfl⟩
  obtain ⟨d, hd⟩ : ∃ d, d = J.d := ⟨_, rfl⟩
  rw [← hb] at h1 h2
  rw [← hd] at h2
  have c3 : b.length ≤ 140737488355328 := by omega
  have hend : ∀ (K : JN) (n : Nat), replayJ (allT 8 b).1 ⟨b, d, 0, -1, []⟩ 0 = (K, n) → n ≤ b.length → readJ b d = { K with b := b.take n, d := min d n } := by
    intro K n h h1
    unfold readJ truncP
    rw [h]
    simp only [if_neg (show ¬ b.length < n by omega)]
  simp only [← hb, ← hd] at hr
  simp [← hb, ← hd, c3]
  refine axwp_loop (jdSt b) (fun i => i.1 ≤ b.length ∧ replayJ (fromL b i.1) i.2 i.1 = replayJ (allT 8 b).1 ⟨b, d, 0, -1, []⟩ 0 ∧ i.2.b = b ∧ i.2.d = d ∧ i.2.log.length ≤ i.1) (fun i => b.length - i.1) (0, ⟨b, d, 0, -1, []⟩) ?_ ⟨Nat.zero_le _, by rw [fromL_zero], rfl, rfl, Nat.le_refl _⟩ ?_
  · refine (weak_nil1 _ 0 2 73 10).trans ((weak_close [0] _).trans (weak_at [.inl 0, .inr 2] ?_ ?_ ?_ ?_)) <;> simp [rowOf]
  · rintro ⟨n, K⟩ ⟨hi, g1, g2, g3, g4⟩
    simp only at hi g1 g2 g3 g4
    have w5 : K.b.length ≤ 140737488355328 := by rw [g2]; omega
    have w6 : K.d ≤ K.b.length := by rw [g2, g3]; omega
    have hdl : ((b.length - n : Nat) : Int) ≤ 140737488355328 := by omega
    have e := frTakeSp_eq (t := 2) (b := b.drop n) (key := 8) (by simp) in8 (by rw [List.length_drop]; omega)
    rcases frT_two 8 (b.drop n) with ⟨x, he, hT⟩ | ⟨p, m, hT, hm9, hml, hpl⟩
    · rw [hT, frRes_err _ _ _ he] at e
      rw [fromL_err hi he hT, replayJ] at g1
      have hE := hend _ _ g1.symm hi
      rw [hE] at hr
      have ht2 : ¬ (K.b.length : Int) < (n : Int) := by rw [g2]; omega
      simp [jdSt, rowOf, e, he, hi, truncN, w5, w6, ht2]
      rw [hr]
      refine retC [] [.inl 0] [] rfl ?_
      simp [g2, g3]
    · rw [hT, frRes_ok] at e
      rw [List.length_drop] at hml
      have hB := frT_back hT
      rw [fromL_ok hi (by omega) (by omega) hT] at g1
      have w7 : IntKind.i64.wrap ((n : Int) + (m : Int)) = (n : Int) + (m : Int) := wrap_i64_in (by omega) (by omega)
      have q1 : K.log.length ≤ 1000000000 := by omega
      have q2 : p.length ≤ 140737488355328 := by omega
      obtain ⟨r1, r2⟩ := recordJ_disk K p
      have r3 := recordJ_log K p
      cases hrec : (recordJ K p).2 with
      | true =>
        rw [replayJ, if_pos hrec, ← hB] at g1
        simp [jdSt, rowOf, e, hi, q1, q2, hrec, w7]
        refine Again.mk (n + m, (recordJ K p).1) ⟨by simp only; omega, g1, r1.trans g2, r2.trans g3, by simp only; omega⟩ (by simp only; omega) ?_
        refine (weak_close [0] _).trans (weak_at [.inl 0, .inr 2] ?_ ?_ ?_ ?_) <;> simp [rowOf, w7]
      | false =>
        rw [replayJ, if_neg (by rw [hrec]; decide)] at g1
        have hE := hend _ _ g1.symm hi
        rw [hE] at hr
        have v5 : (recordJ K p).1.b.length ≤ 140737488355328 := by rw [r1]; exact w5
        have v6 : (recordJ K p).1.d ≤ (recordJ K p).1.b.length := by rw [r1, r2]; exact w6
        have ht2 : ¬ ((recordJ K p).1.b.length : Int) < (n : Int) := by rw [r1, g2]; omega
        simp [jdSt, rowOf, e, hi, q1, q2, hrec, truncN, v5, v6, ht2]
        rw [hr]
        refine retC [] [.inl 0] [] rfl ?_
        simp [r1, r2, g2, g3]

noncomputable def CNC := mkC [(49, dkcrashSp), (40, jnReadSp)]
theorem CNC_ok : SpecsOk Tryz.prog CNC := mkC_ok (all_cons dkcrash_spec (all_cons jnRead_spec all_nil))
@[simp] theorem CNC_1 : CNC 49 = dkcrashSp := rfl
@[simp] theorem CNC_2 : CNC 40 = jnReadSp := rfl

noncomputable def jnCrashSp := fam (fun i : JN × Int => [V.ptr 0 0 0, .int .i64 i.2]) (fun i : JN × Int => [jnO i.1]) (fun i : JN × Int => (i.1.b.length ≤ 1000000000) ∧ (i.1.d ≤ i.1.b.length)) (fun i : JN × Int => ⟨.tup [], [jnO (crashJ i.1 i.2)]⟩)
@[simp] theorem jnCrashSp_eq {J : JN} {keep : Int} (h1 : J.b.length ≤ 1000000000) (h2 : J.d ≤ J.b.length) : jnCrashSp ([V.ptr 0 0 0, .int .i64 keep]) ([jnO J]) = some (⟨.tup [], [jnO (crashJ J keep)]⟩) :=
  fam_eq (A := fun i : JN × Int => [V.ptr 0 0 0, .int .i64 i.2]) (O := fun i : JN × Int => [jnO i.1]) (res := fun i : JN × Int => ⟨.tup [], [jnO (crashJ i.1 i.2)]⟩) (by rintro ⟨a0, a1⟩ ⟨b0, b1⟩ h h' <;> simp at h h' <;> simp_all) (J, keep) ⟨h1, h2⟩

theorem jnCrash_spec : Lift.Spec Tryz.prog 25 jnCrashSp := by
  refine spec_famO [] (C := CNC) types_ok CNC_ok follows Tryz.func25 (by kernel_rfl) rfl (by kernel_rfl) rfl ?_
  rintro ⟨J, keep⟩ ⟨h1, h2⟩
  try simp only at h1 h2
  refine ⟨by simp, ?_⟩
  intro r hr
  have c1 : J.b.length ≤ 140737488355328 := by omega
  obtain ⟨d, hd⟩ : ∃ d, d = crashN J.b.length J.d keep := ⟨_, rfl⟩
  obtain ⟨b, hb⟩ : ∃ b, b = J.b.take d := ⟨_, rfl⟩
  have hdl : d ≤ J.b.length := by rw [hd]; unfold crashN; omega
  have hbl : b.length = d := by rw [hb, List.length_take]; omega
  have k6 := dkcrashSp_eq (l := J.b) (d := J.d) (keep := keep) c1 h2
  rw [← hd, ← hb] at k6
  have c2 : b.length ≤ 1000000000 := by omega
  have c3 : d ≤ b.length := by omega
  have hres : crashJ J keep = readJ b d := by rw [crashJ, ← hd, ← hb]
  simp only [hres] at hr
  simp [k6, c2, c3]
  rw [hr]
  refine retC [] [.inl 0] [] rfl ?_
  simp

noncomputable def CND := mkC [(5, jnNewSp), (38, dkappendSp), (39, dksyncSp), (40, jnReadSp)]
theorem CND_ok : SpecsOk Tryz.prog CND := mkC_ok (all_cons jnNew_spec (all_cons dkappend_spec (all_cons dksync_spec (all_cons jnRead_spec all_nil))))
@[simp] theorem CND_1 : CND 5 = jnNewSp := rfl
@[simp] theorem CND_2 : CND 38 = dkappendSp := rfl
@[simp] theorem CND_3 : CND 39 = dksyncSp := rfl
@[simp] theorem CND_4 : CND 40 = jnReadSp := rfl

noncomputable def jnOpenSp := fam (fun i : Nat × (List UInt8) => [V.sl i.1 1 (byteRow i.2)]) (fun _ : Nat × (List UInt8) => []) (fun i : Nat × (List UInt8) => (i.2.length ≤ 1000000000)) (fun i : Nat × (List UInt8) => ⟨.ptr 0 0 0, [jnO (crashJ ⟨i.2, i.2.length, 0, -1, []⟩ 0)]⟩)
@[simp] theorem jnOpenSp_eq {t : Nat} {b : List UInt8} (h1 : b.length ≤ 1000000000) : jnOpenSp ([V.sl t 1 (byteRow b)]) ([]) = some (⟨.ptr 0 0 0, [jnO (crashJ ⟨b, b.length, 0, -1, []⟩ 0)]⟩) :=
  fam_eq (A := fun i : Nat × (List UInt8) => [V.sl i.1 1 (byteRow i.2)]) (O := fun _ : Nat × (List UInt8) => []) (res := fun i : Nat × (List UInt8) => ⟨.ptr 0 0 0, [jnO (crashJ ⟨i.2, i.2.length, 0, -1, []⟩ 0)]⟩) (by rintro ⟨a0, a1⟩ ⟨b0, b1⟩ h h' <;> simp at h h' <;> simp_all) (t, b) h1

theorem jnOpen_spec : Lift.Spec Tryz.prog 15 jnOpenSp := by
  refine spec_fam (C := CND) types_ok CND_ok follows Tryz.func15 (by kernel_rfl) rfl (by kernel_rfl) rfl ?_
  rintro ⟨t, b⟩ h1
  try simp only at h1
  refine ⟨by simp, ?_⟩
  intro r hr
  have c1 : b.length ≤ 140737488355328 := by omega
  have c2 : b.length ≤ 4611686018427387904 := by omega
  have e : crashJ ⟨b, b.length, 0, -1, []⟩ 0 = readJ b b.length := by simp [crashJ, crashN]
  simp only [e] at hr
  simp [c1, c2, h1, zeroJ]
  rw [hr]
  refine retC [] [] [.inr 2] rfl ?_
  simp
end Go.Proofs.YtlelalnahlpcpaaGreat
