/-
  journal: reading records; the reference.
-/
import Derived.Test.YtlelalnahlpcpaaGreatK5
import Derived.Test.YtlelalnahlpcpaaGreatE9
set_option linter.unusedSimpArgs false
set_option linter.unusedVariables false
namespace Go.Proofs.YtlelalnahlpcpaaGreat
open Go.Lift

/-- What a record makes of a journal, and whether it is right. -/
noncomputable def recordJ (J : JN) (p : List UInt8) : JN × Bool :=
  if (takeT p).2.2 ≠ 0 then (J, false) else
  if (takeT (p.drop (takeT p).2.1.toNat)).2.2 ≠ 0 then (J, false) else
  if (takeT p).1 = 1 then
    (if (takeT (p.drop ((takeT p).2.1 + (takeT (p.drop (takeT p).2.1.toNat)).2.1).toNat)).2.2 = 0 ∧ (takeT p).2.1 + (takeT (p.drop (takeT p).2.1.toNat)).2.1 + (takeT (p.drop ((takeT p).2.1 + (takeT (p.drop (takeT p).2.1.toNat)).2.1).toNat)).2.1 = p.length then
      (stJ J (takeT (p.drop (takeT p).2.1.toNat)).1 (takeT (p.drop ((takeT p).2.1 + (takeT (p.drop (takeT p).2.1.toNat)).2.1).toNat)).1, decide (stE J (takeT (p.drop (takeT p).2.1.toNat)).1 (takeT (p.drop ((takeT p).2.1 + (takeT (p.drop (takeT p).2.1.toNat)).2.1).toNat)).1 = 0))
    else (J, false))
  else if (takeT p).1 = 2 then
    (if (readE (p.drop ((takeT p).2.1 + (takeT (p.drop (takeT p).2.1.toNat)).2.1).toNat)).2.2 = 0 ∧ (takeT p).2.1 + (takeT (p.drop (takeT p).2.1.toNat)).2.1 + (readE (p.drop ((takeT p).2.1 + (takeT (p.drop (takeT p).2.1.toNat)).2.1).toNat)).2.1 = p.length then
      (adJ J (takeT (p.drop (takeT p).2.1.toNat)).1 (readE (p.drop ((takeT p).2.1 + (takeT (p.drop (takeT p).2.1.toNat)).2.1).toNat)).1, decide (adE J (takeT (p.drop (takeT p).2.1.toNat)).1 (readE (p.drop ((takeT p).2.1 + (takeT (p.drop (takeT p).2.1.toNat)).2.1).toNat)).1 = 0))
    else (J, false))
  else if (takeT p).1 = 3 then
    (if (takeT p).2.1 + (takeT (p.drop (takeT p).2.1.toNat)).2.1 = p.length then (cuJ J (takeT (p.drop (takeT p).2.1.toNat)).1, decide (cuE J (takeT (p.drop (takeT p).2.1.toNat)).1 = 0)) else (J, false))
  else (J, false)

noncomputable def CKA := mkC [(65, takeSp), (66, readSp), (32, jrSetSp), (35, jrAddSp), (37, jrCutSp)]
theorem CKA_ok : SpecsOk Tryz.prog CKA := mkC_ok (all_cons reftake_spec (all_cons refread_spec (all_cons jrSet_spec (all_cons jrAdd_spec (all_cons jrCut_spec all_nil)))))
@[simp] theorem CKA_1 : CKA 65 = takeSp := rfl
@[simp] theorem CKA_2 : CKA 66 = readSp := rfl
@[simp] theorem CKA_3 : CKA 32 = jrSetSp := rfl
@[simp] theorem CKA_4 : CKA 35 = jrAddSp := rfl
@[simp] theorem CKA_5 : CKA 37 = jrCutSp := rfl

@[simp] theorem take_drop_all {α : Type} (l : List α) (n : Nat) : (l.drop n).take (l.length - n) = l.drop n := List.take_of_length_le (by simp)
theorem takeT_ok {l : List UInt8} {n k : Int} (h : takeT l = (n, k, 0)) : ∃ q : Nat, k = q ∧ 1 ≤ q ∧ q ≤ l.length := by
  obtain ⟨_, rest, h1, h2⟩ := takeT_back h
  refine ⟨_, h2, enc_pos _, ?_⟩
  rw [h1]; simp
theorem takeT_two (l : List UInt8) : (∃ e, ¬ e = 0 ∧ takeT l = (0, 0, e)) ∨ ∃ (n : Int) (q : Nat), takeT l = (n, (q : Int), 0) ∧ 1 ≤ q ∧ q ≤ l.length := by
  rcases takeT_err l with h | h | ⟨n, k, h⟩
  · exact .inl ⟨17, by decide, h⟩
  · exact .inl ⟨18, by decide, h⟩
  · obtain ⟨q, rfl, h1, h2⟩ := takeT_ok h
    exact .inr ⟨n, q, h, h1, h2⟩

noncomputable def jrRecSp := fam (fun i : JN × Nat × (List UInt8) => [V.ptr 0 0 0, .sl i.2.1 1 (byteRow i.2.2)]) (fun i : JN × Nat × (List UInt8) => [rjO i.1]) (fun i : JN × Nat × (List UInt8) => (i.1.log.length ≤ 1000000000) ∧ (i.2.2.length ≤ 140737488355328)) (fun i : JN × Nat × (List UInt8) => ⟨.bool (recordJ i.1 i.2.2).2, [rjO (recordJ i.1 i.2.2).1]⟩)
@[simp] theorem jrRecSp_eq {J : JN} {t : Nat} {p : List UInt8} (h1 : J.log.length ≤ 1000000000) (h2 : p.length ≤ 140737488355328) : jrRecSp ([V.ptr 0 0 0, .sl t 1 (byteRow p)]) ([rjO J]) = some (⟨.bool (recordJ J p).2, [rjO (recordJ J p).1]⟩) :=
  fam_eq (A := fun i : JN × Nat × (List UInt8) => [V.ptr 0 0 0, .sl i.2.1 1 (byteRow i.2.2)]) (O := fun i : JN × Nat × (List UInt8) => [rjO i.1]) (res := fun i : JN × Nat × (List UInt8) => ⟨.bool (recordJ i.1 i.2.2).2, [rjO (recordJ i.1 i.2.2).1]⟩) (by rintro ⟨a0, a1, a2⟩ ⟨b0, b1, b2⟩ h h' <;> simp at h h' <;> simp_all) (J, t, p) ⟨h1, h2⟩

set_option maxHeartbeats 4000000 in
theorem jrRec_spec : Lift.Spec Tryz.prog 52 jrRecSp := by
  refine spec_famO [] (C := CKA) types_ok CKA_ok follows Tryz.func52 (by kernel_rfl) rfl (by kernel_rfl) rfl ?_
  rintro ⟨J, t, p⟩ ⟨h0, hp⟩
  try simp only at h0 hp
  refine ⟨by simp, ?_⟩
  intro r hr
  rcases takeT_two p with ⟨e, he, hT⟩ | ⟨kind, q, hT, hq1, hq2⟩
  · simp [takeV, hT, he]
    rw [hr]
    refine retC [] [] [] rfl ?_
    simp [recordJ, hT, he]
  rcases takeT_two (p.drop q) with ⟨e, he, hT2⟩ | ⟨n, k, hT2, hk1, hk2⟩
  · simp [takeV, hT, hT2, he, hq2]
    rw [hr]
    refine retC [] [] [] rfl ?_
    simp [recordJ, hT, hT2, he]
  rw [List.length_drop] at hk2
  have w1 : IntKind.i64.wrap ((q : Int) + k) = q + k := wrap_i64_in (by omega) (by omega)
  have hs : (q : Int) + k ≤ p.length := by omega
  have hs0 : (0 : Int) ≤ (q : Int) + k := by omega
  have hN : ((q : Int) + (k : Int)).toNat = q + k := by omega
  have wl : IntKind.i64.wrap (p.length : Int) = p.length := wrap_i64_in (by omega) (by omega)
  by_cases k1 : kind = 1
  · subst k1
    rcases takeT_two (p.drop (q + k)) with ⟨e, he, hT3⟩ | ⟨v, m, hT3, hm1, hm2⟩
    · simp [takeV, hT, hT2, hT3, he, hq2, w1, hs, hs0, hN]
      rw [hr]
      refine retC [] [] [] rfl ?_
      simp [recordJ, hT, hT2, hT3, he, hN]
    rw [List.length_drop] at hm2
    have w2 : IntKind.i64.wrap ((q : Int) + k + m) = q + k + m := wrap_i64_in (by omega) (by omega)
    by_cases hl : (q : Int) + k + m = p.length
    · simp [takeV, hT, hT2, hT3, hq2, w1, hs, hs0, hN, w2, hl, wl]
      rw [hr]
      refine retC [] [] [] rfl ?_
      simp [recordJ, hT, hT2, hT3, hN, hl]
    · simp [takeV, hT, hT2, hT3, hq2, w1, hs, hs0, hN, w2, hl, wl]
      rw [hr]
      refine retC [] [] [] rfl ?_
      simp [recordJ, hT, hT2, hT3, hN, hl]
  by_cases k2 : kind = 2
  · subst k2
    rcases hT3 : readE (p.drop (q + k)) with ⟨x, m, g⟩
    by_cases hg : g = 0
    · subst hg
      obtain ⟨g1, g2, g3, _⟩ := readE_back hT3
      rw [List.length_drop] at g3
      have hpl : ((p.drop (q + k)).length : Int) ≤ 140737488355328 := by rw [List.length_drop]; omega
      have w2 : IntKind.i64.wrap ((q : Int) + k + m) = q + k + m := wrap_i64_in (by omega) (by omega)
      have hpi : ((p.length - (q + k) : Nat) : Int) ≤ 140737488355328 := by omega
      by_cases hl : (q : Int) + k + m = p.length
      · simp [takeV, hT, hT2, readV_of hT3, hq2, w1, hs, hs0, hN, w2, hl, wl, hpi, GEntry.cells, vEntry_fold, h0]
        rw [hr]
        refine retC [] [] [] rfl ?_
        simp [recordJ, hT, hT2, hT3, hN, hl]
      · simp [takeV, hT, hT2, readV_of hT3, hq2, w1, hs, hs0, hN, w2, hl, wl, hpi, GEntry.cells, vEntry_fold]
        rw [hr]
        refine retC [] [] [] rfl ?_
        simp [recordJ, hT, hT2, hT3, hN, hl]
    · have hpi : ((p.length - (q + k) : Nat) : Int) ≤ 140737488355328 := by omega
      simp [takeV, hT, hT2, readV_of hT3, hq2, w1, hs, hs0, hN, hg, hpi, GEntry.cells, vEntry_fold]
      rw [hr]
      refine retC [] [] [] rfl ?_
      simp [recordJ, hT, hT2, hT3, hN, hg]
  by_cases k3 : kind = 3
  · subst k3
    by_cases hl : (q : Int) + k = p.length
    · simp [takeV, hT, hT2, hq2, w1, hs, hs0, hN, hl, wl, h0]
      rw [hr]
      refine retC [] [] [] rfl ?_
      simp [recordJ, hT, hT2, hN, hl]
    · simp [takeV, hT, hT2, hq2, w1, hs, hs0, hN, hl]
      rw [hr]
      refine retC [] [] [] rfl ?_
      simp [recordJ, hT, hT2, hN, hl]
  · simp [takeV, hT, hT2, hq2, w1, hs, hs0, hN, k1, k2, k3]
    rw [hr]
    refine retC [] [] [] rfl ?_
    simp [recordJ, hT, hT2, hN, k1, k2, k3]

/-- What the records make of a journal, up to the first that is not right, and how many bytes of frames they take. -/
noncomputable def replayJ : List (List UInt8) → JN → Nat → JN × Nat
  | [], J, n => (J, n)
  | p :: ps, J, n => if (recordJ J p).2 = true then replayJ ps (recordJ J p).1 (n + (putB 8 [] p).length) else ((recordJ J p).1, n)
def truncP (b : List UInt8) (d n : Nat) : List UInt8 × Nat := if b.length < n then (b, d) else (b.take n, min d n)
noncomputable def readJ (b : List UInt8) (d : Nat) : JN :=
  { (replayJ (allT 8 b).1 ⟨b, d, 0, -1, []⟩ 0).1 with b := (truncP b d (replayJ (allT 8 b).1 ⟨b, d, 0, -1, []⟩ 0).2).1, d := (truncP b d (replayJ (allT 8 b).1 ⟨b, d, 0, -1, []⟩ 0).2).2 }
noncomputable def crashJ (J : JN) (keep : Int) : JN := readJ (J.b.take (crashN J.b.length J.d keep)) (crashN J.b.length J.d keep)
theorem recordJ_disk (J : JN) (p : List UInt8) : (recordJ J p).1.b = J.b ∧ (recordJ J p).1.d = J.d := by
  unfold recordJ stJ adJ cuJ
  repeat' split
  all_goals exact ⟨rfl, rfl⟩
theorem recordJ_log (J : JN) (p : List UInt8) : (recordJ J p).1.log.length ≤ J.log.length + 1 := by
  unfold recordJ stJ adJ cuJ
  repeat' split
  all_goals simp <;> omega
theorem putB_any (p : List UInt8) : (putB 8 [] p).length ≤ 65600 := by
  by_cases h : p.length ≤ 65536
  · exact putB_len h
  · unfold putB; rw [if_pos (by omega)]; simp
theorem allAt_small (key : Int) (b : List UInt8) : ∀ (m at_ : Nat) (acc : List (List UInt8)), b.length - at_ ≤ m → at_ ≤ b.length → acc.length ≤ at_ → (∀ p ∈ acc, p.length ≤ 65536) → (allAt key b at_ acc).1.length ≤ b.length ∧ ∀ p ∈ (allAt key b at_ acc).1, p.length ≤ 65536 := by
  intro m
  induction m with
  | zero =>
    intro at_ acc h1 h3 h2 hacc
    have e : at_ = b.length := by omega
    rw [allAt_err h3 (e := 17) (by decide) (by rw [e, List.drop_length]; exact frT_nil key)]
    exact ⟨Nat.le_trans h2 h3, hacc⟩
  | succ m ih =>
    intro at_ acc h1 h3 h2 hacc
    rcases frT_two key (b.drop at_) with ⟨e, he, hT⟩ | ⟨p, n, hT, h9, hle, hpn⟩
    · rw [allAt_err h3 he hT]; exact ⟨Nat.le_trans h2 h3, hacc⟩
    · rw [List.length_drop] at hle
      rw [allAt_ok h3 (by omega) (by omega) hT]
      refine ih _ _ (by omega) (by omega) (by simp; omega) fun q hq => ?_
      rcases List.mem_append.1 hq with h | h
      · exact hacc q h
      · simp at h; subst h; exact hpn
theorem allT_small (key : Int) (b : List UInt8) : (allT key b).1.length ≤ b.length ∧ ∀ p ∈ (allT key b).1, p.length ≤ 65536 := by
  rw [allT_eq]; exact allAt_small key b b.length 0 [] (by omega) (Nat.zero_le _) (Nat.le_refl _) (by simp)

noncomputable def CKB := mkC [(50, rcrashSp), (54, rtruncSp), (51, allSp), (53, putSp), (52, jrRecSp)]
theorem CKB_ok : SpecsOk Tryz.prog CKB := mkC_ok (all_cons rcrash_spec (all_cons rtrunc_spec (all_cons refall_spec2 (all_cons refput_spec (all_cons jrRec_spec all_nil)))))
@[simp] theorem CKB_1 : CKB 50 = rcrashSp := rfl
@[simp] theorem CKB_2 : CKB 54 = rtruncSp := rfl
@[simp] theorem CKB_3 : CKB 51 = allSp := rfl
@[simp] theorem CKB_4 : CKB 53 = putSp := rfl
@[simp] theorem CKB_5 : CKB 52 = jrRecSp := rfl

noncomputable def jrCrashSp := fam (fun i : JN × Int => [V.ptr 0 0 0, .int .i64 i.2]) (fun i : JN × Int => [rjO i.1]) (fun i : JN × Int => (i.1.b.length ≤ 1000000000) ∧ (i.1.d ≤ i.1.b.length)) (fun i : JN × Int => ⟨.tup [], [rjO (crashJ i.1 i.2)]⟩)
@[simp] theorem jrCrashSp_eq {J : JN} {keep : Int} (h1 : J.b.length ≤ 1000000000) (h2 : J.d ≤ J.b.length) : jrCrashSp ([V.ptr 0 0 0, .int .i64 keep]) ([rjO J]) = some (⟨.tup [], [rjO (crashJ J keep)]⟩) :=
  fam_eq (A := fun i : JN × Int => [V.ptr 0 0 0, .int .i64 i.2]) (O := fun i : JN × Int => [rjO i.1]) (res := fun i : JN × Int => ⟨.tup [], [rjO (crashJ i.1 i.2)]⟩) (by rintro ⟨a0, a1⟩ ⟨b0, b1⟩ h h' <;> simp at h h' <;> simp_all) (J, keep) ⟨h1, h2⟩

def jcSt (ls : List (List UInt8)) (i : Nat × JN × Nat) : St := mkSt [(0, .ptr 0 0 0), (4, .own 1 0 ls.length), (6, .int .i64 i.2.2), (7, .int .i64 i.1)] [(0, rjO i.2.1), (1, recOf ls)] 2
set_option maxHeartbeats 4000000 in
theorem jrCrash_spec : Lift.Spec Tryz.prog 31 jrCrashSp := by
  refine spec_famO [] (C := CKB) types_ok CKB_ok follows Tryz.func31 (by kernel_rfl) rfl (by kernel_rfl) rfl ?_
  rintro ⟨J, keep⟩ ⟨h1, h2⟩
  try simp only at h1 h2
  refine ⟨by simp, ?_⟩
  intro r hr
  have c1 : J.b.length ≤ 140737488355328 := by omega
  obtain ⟨d, hd⟩ : ∃ d, d = crashN J.b.length J.d keep := ⟨_, rfl⟩
  obtain ⟨b, hb⟩ : ∃ b, b = J.b.take d := ⟨_, rfl⟩
  have hdl : d ≤ J.b.length := by rw [hd]; unfold crashN; omega
  have hbl : b.length = d := by rw [hb, List.length_take]; omega
  have k6 := rcrashSp_eq (l := J.b) (d := J.d) (keep := keep) c1 h2
  rw [← hd, ← hb] at k6
  have c2 : b.length ≤ 40000000000000 := by omega
  have hall := allSp_eq (t := 2) (b := b) (key := 8) (by simp) in8 c2
  obtain ⟨hn, hsm⟩ := allT_small 8 b
  have hres : crashJ J keep = readJ b d := by rw [crashJ, ← hd, ← hb]
  rw [hres] at hr
  rcases hT : allT 8 b with ⟨ls, u⟩
  rw [hT] at hall hn hsm
  simp only at hn hsm
  have hend : ∀ (K : JN) (n : Nat), replayJ ls ⟨b, d, 0, -1, []⟩ 0 = (K, n) → K.b = b → K.d = d → readJ b d = { K with b := (truncP b d n).1, d := (truncP b d n).2 } := by
    intro K n h h1 h2
    unfold readJ
    rw [hT]
    simp only [h]
  simp [k6, hall, allRes, recOf]
  refine axwp_loop (jcSt ls) (fun i => i.1 ≤ ls.length ∧ replayJ (ls.drop i.1) i.2.1 i.2.2 = replayJ ls ⟨b, d, 0, -1, []⟩ 0 ∧ i.2.1.b = b ∧ i.2.1.d = d ∧ i.2.1.log.length ≤ i.1 ∧ i.2.2 ≤ 65600 * i.1) (fun i => ls.length - i.1) (0, ⟨b, d, 0, -1, []⟩, 0) ?_ ⟨Nat.zero_le _, rfl, rfl, rfl, Nat.le_refl _, Nat.zero_le _⟩ ?_
  · refine (weak_nilA _ 0 3 10).trans ((weak_close [0] _).trans (weak_at [.inl 0, .inr 4] ?_ ?_ ?_ ?_)) <;> simp [recOf]
  · rintro ⟨i, K, n⟩ ⟨hi, g1, g2, g3, g4, g5⟩
    simp only at hi g1 g2 g3 g4 g5
    have w5 : K.b.length ≤ 140737488355328 := by rw [g2]; omega
    have w6 : K.d ≤ K.b.length := by rw [g2, g3]; omega
    by_cases hik : i < ls.length
    · obtain ⟨p, hp, hp', hpm⟩ := get_of_lt hik
      have w4 : IntKind.i64.wrap ((i : Int) + 1) = (i : Int) + 1 := wrap_i64_in (by omega) (by omega)
      have hpl := hsm p hpm
      have q1 : K.log.length ≤ 1000000000 := by omega
      have q2 : p.length ≤ 140737488355328 := by omega
      have q3 : p.length ≤ 9223372036854775807 := by omega
      have e := putSp_eq (t := 0) (b := []) (u := 2) (p := p) (key := 8) (by simp) in8 (by simp) q3
      simp only [byteRow_nil] at e
      have hB := putB_any p
      have w7 : IntKind.i64.wrap ((n : Int) + ((putB 8 [] p).length : Int)) = (n : Int) + ((putB 8 [] p).length : Int) := wrap_i64_in (by omega) (by omega)
      have hdrop : ls.drop i = p :: ls.drop (i + 1) := by rw [← hp']; exact (List.drop_eq_getElem_cons hik)
      rw [hdrop] at g1
      obtain ⟨r1, r2⟩ := recordJ_disk K p
      have r3 := recordJ_log K p
      cases hrec : (recordJ K p).2 with
      | true =>
        simp [jcSt, recOf, hik, hp', q1, q2, hrec, e, rowOf, w7]
        refine Again.mk (i + 1, (recordJ K p).1, n + (putB 8 [] p).length) ⟨hik, ?_, r1.trans g2, r2.trans g3, by simp only; omega, by simp only; omega⟩ (by simp only; omega) ?_
        · rw [← g1, replayJ, if_pos hrec]
        · refine weak_at [.inl 0, .inr 4] ?_ ?_ ?_ ?_ <;> simp [recOf, w4]
      | false =>
        rw [replayJ, if_neg (by rw [hrec]; decide)] at g1
        have hE := hend _ _ g1.symm (r1.trans g2) (r2.trans g3)
        have v5 : (recordJ K p).1.b.length ≤ 140737488355328 := by rw [r1]; exact w5
        have v6 : (recordJ K p).1.d ≤ (recordJ K p).1.b.length := by rw [r1, r2]; exact w6
        rw [hE] at hr
        by_cases ht : (recordJ K p).1.b.length < n
        · have ht' : b.length < n := by rw [← g2, ← r1]; exact ht
          have ht2 : ((recordJ K p).1.b.length : Int) < (n : Int) := by omega
          simp [jcSt, recOf, hik, hp', q1, q2, hrec, v5, v6, rtruncN, ht2]
          rw [hr]
          refine retC [] [.inl 0] [] rfl ?_
          simp [truncP, ht']
          first | exact ⟨r1.trans g2, r2.trans g3⟩ | (rw [r1.trans g2, r2.trans g3]; exact ⟨rfl, rfl⟩)
        · have ht' : ¬ b.length < n := by rw [← g2, ← r1]; exact ht
          have ht2 : ¬ ((recordJ K p).1.b.length : Int) < (n : Int) := by omega
          simp [jcSt, recOf, hik, hp', q1, q2, hrec, v5, v6, rtruncN, ht2]
          rw [hr]
          refine retC [] [.inl 0] [] rfl ?_
          simp [truncP, ht']
          first | exact ⟨r1.trans g2, r2.trans g3⟩ | (rw [r1.trans g2, r2.trans g3]; exact ⟨rfl, rfl⟩)
    · have hi' : i = ls.length := by omega
      subst hi'
      rw [List.drop_length, replayJ] at g1
      have hE := hend _ _ g1.symm g2 g3
      rw [hE] at hr
      by_cases ht : K.b.length < n
      · have ht' : b.length < n := by rw [← g2]; exact ht
        have ht2 : (K.b.length : Int) < (n : Int) := by omega
        simp [jcSt, recOf, w5, w6, rtruncN, ht2]
        rw [hr]
        refine retC [] [.inl 0] [] rfl ?_
        simp [truncP, ht']
        first | exact ⟨g2, g3⟩ | (rw [g2, g3]; exact ⟨rfl, rfl⟩)
      · have ht' : ¬ b.length < n := by rw [← g2]; exact ht
        have ht2 : ¬ (K.b.length : Int) < (n : Int) := by omega
        simp [jcSt, recOf, w5, w6, rtruncN, ht2]
        rw [hr]
        refine retC [] [.inl 0] [] rfl ?_
        simp [truncP, ht']
        first | exact ⟨g2, g3⟩ | (rw [g2, g3]; exact ⟨rfl, rfl⟩)

noncomputable def jrNewSp := fam (fun _ : Unit => []) (fun _ : Unit => []) (fun _ : Unit => True) (fun _ : Unit => ⟨.ptr 0 0 0, [rjO ⟨[], 0, 0, -1, []⟩]⟩)
theorem jrNewSp_eq {u : Unit}  : jrNewSp ([]) ([]) = some (⟨.ptr 0 0 0, [rjO ⟨[], 0, 0, -1, []⟩]⟩) :=
  fam_eq (A := fun _ : Unit => []) (O := fun _ : Unit => []) (res := fun _ : Unit => ⟨.ptr 0 0 0, [rjO ⟨[], 0, 0, -1, []⟩]⟩) (by intro a b h h' <;> simp at h h' <;> simp_all) u trivial

@[simp] theorem jrNewSp_at : jrNewSp [] [] = some ⟨.ptr 0 0 0, [rjO ⟨[], 0, 0, -1, []⟩]⟩ := jrNewSp_eq (u := ())
noncomputable def CKC := mkC [(20, rnewSp)]
theorem CKC_ok : SpecsOk Tryz.prog CKC := mkC_ok (all_cons rnew_spec all_nil)
@[simp] theorem CKC_1 : CKC 20 = rnewSp := rfl

theorem jrNew_spec : Lift.Spec Tryz.prog 6 jrNewSp := by
  refine spec_fam (C := CKC) types_ok CKC_ok follows Tryz.func6 (by kernel_rfl) rfl (by kernel_rfl) rfl ?_
  rintro u _
  try simp only at _
  refine ⟨by simp, ?_⟩
  intro r hr
  simp
  rw [hr]
  refine Ret.weak (retC [] [.inr 0] [.inr 0] rfl ?_) (weak_nilAt (.inr 0) 3 10)
  simp
noncomputable def CKD := mkC [(6, jrNewSp), (46, rappendSp), (47, rsyncSp), (31, jrCrashSp)]
theorem CKD_ok : SpecsOk Tryz.prog CKD := mkC_ok (all_cons jrNew_spec (all_cons rappend_spec (all_cons rsync_spec (all_cons jrCrash_spec all_nil))))
@[simp] theorem CKD_1 : CKD 6 = jrNewSp := rfl
@[simp] theorem CKD_2 : CKD 46 = rappendSp := rfl
@[simp] theorem CKD_3 : CKD 47 = rsyncSp := rfl
@[simp] theorem CKD_4 : CKD 31 = jrCrashSp := rfl

noncomputable def jrOpenSp := fam (fun i : Nat × (List UInt8) => [V.sl i.1 1 (byteRow i.2)]) (fun _ : Nat × (List UInt8) => []) (fun i : Nat × (List UInt8) => (i.2.length ≤ 1000000000)) (fun i : Nat × (List UInt8) => ⟨.ptr 0 0 0, [rjO (crashJ ⟨i.2, i.2.length, 0, -1, []⟩ 0)]⟩)
@[simp] theorem jrOpenSp_eq {t : Nat} {b : List UInt8} (h1 : b.length ≤ 1000000000) : jrOpenSp ([V.sl t 1 (byteRow b)]) ([]) = some (⟨.ptr 0 0 0, [rjO (crashJ ⟨b, b.length, 0, -1, []⟩ 0)]⟩) :=
  fam_eq (A := fun i : Nat × (List UInt8) => [V.sl i.1 1 (byteRow i.2)]) (O := fun _ : Nat × (List UInt8) => []) (res := fun i : Nat × (List UInt8) => ⟨.ptr 0 0 0, [rjO (crashJ ⟨i.2, i.2.length, 0, -1, []⟩ 0)]⟩) (by rintro ⟨a0, a1⟩ ⟨b0, b1⟩ h h' <;> simp at h h' <;> simp_all) (t, b) h1

theorem jrOpen_spec : Lift.Spec Tryz.prog 17 jrOpenSp := by
  refine spec_fam (C := CKD) types_ok CKD_ok follows Tryz.func17 (by kernel_rfl) rfl (by kernel_rfl) rfl ?_
  rintro ⟨t, b⟩ h1
  try simp only at h1
  refine ⟨by simp, ?_⟩
  intro r hr
  have c1 : b.length ≤ 140737488355328 := by omega
  have c2 : b.length ≤ 4611686018427387904 := by omega
  simp [c1, c2, h1]

  rw [hr]
  refine retC [] [] [.inr 2] rfl ?_
  simp
end Go.Proofs.YtlelalnahlpcpaaGreat
