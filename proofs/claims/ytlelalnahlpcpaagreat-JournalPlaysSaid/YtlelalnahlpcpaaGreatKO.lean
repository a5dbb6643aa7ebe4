/-
  journal: the program: taking a record; the calls that write.
-/
import Derived.Test.YtlelalnahlpcpaaGreatKN
set_option linter.unusedSimpArgs false
set_option linter.unusedVariables false
namespace Go.Proofs.YtlelalnahlpcpaaGreat
open Go.Lift

theorem readR_record (J : JN) (p : List UInt8) : recordJ J p = if (readR p).2 = true then (apJ J (readR p).1, decide (apE J (readR p).1 = 0)) else (J, false) := by
  rcases takeT_two p with ⟨e, he, hT⟩ | ⟨kind, q, hT, hq1, hq2⟩
  · simp [recordJ, readR, hT, he]
  rcases takeT_two (p.drop q) with ⟨e, he, hT2⟩ | ⟨n, k, hT2, hk1, hk2⟩
  · by_cases k1 : kind = 1
    · simp [recordJ, readR, hT, hT2, he, k1]
    by_cases k2 : kind = 2
    · simp [recordJ, readR, hT, hT2, he, k2]
    by_cases k3 : kind = 3
    · simp [recordJ, readR, hT, hT2, he, k3]
    by_cases hl : q = p.length
    · simp [recordJ, readR, hT, hT2, he, k1, k2, k3, hl, apJ, apE]
    · simp [recordJ, readR, hT, hT2, he, k1, k2, k3, hl]
  have hN : ((q : Int) + (k : Int)).toNat = q + k := by omega
  by_cases k1 : kind = 1
  · subst k1
    rcases takeT_two (p.drop (q + k)) with ⟨e, he, hT3⟩ | ⟨v, m, hT3, hm1, hm2⟩
    · simp [recordJ, readR, hT, hT2, hT3, he, hN]
    by_cases hl : q + (k + m) = p.length
    · have hl2 : (q : Int) + k + m = p.length := by omega
      simp [recordJ, readR, hT, hT2, hT3, hN, hl, hl2, apJ, apE, zeroR]
    · have hl2 : ¬ (q : Int) + k + m = p.length := by omega
      simp [recordJ, readR, hT, hT2, hT3, hN, hl, hl2]
  by_cases k2 : kind = 2
  · subst k2
    rcases hT3 : readE (p.drop (q + k)) with ⟨x, m, g⟩
    by_cases hg : g = 0
    · subst hg
      obtain ⟨g1, g2, g3, _⟩ := readE_back hT3
      obtain ⟨m, rfl⟩ := Int.eq_ofNat_of_zero_le (show 0 ≤ m by omega)
      by_cases hl : q + (k + m) = p.length
      · have hl2 : (q : Int) + k + m = p.length := by omega
        simp [recordJ, readR, hT, hT2, hT3, hN, hl, hl2, apJ, apE, zeroR]
      · have hl2 : ¬ (q : Int) + k + m = p.length := by omega
        simp [recordJ, readR, hT, hT2, hT3, hN, hl, hl2]
    · simp [recordJ, readR, hT, hT2, hT3, hN, hg]
  by_cases k3 : kind = 3
  · subst k3
    by_cases hl : q + k = p.length
    · have hl2 : (q : Int) + k = p.length := by omega
      simp [recordJ, readR, hT, hT2, hN, hl, hl2, apJ, apE, zeroR]
    · have hl2 : ¬ (q : Int) + k = p.length := by omega
      simp [recordJ, readR, hT, hT2, hN, hl, hl2]
  · by_cases hl : q = p.length
    · simp [recordJ, readR, hT, hT2, k1, k2, k3, hl, apJ, apE]
    · simp [recordJ, readR, hT, hT2, k1, k2, k3, hl]

noncomputable def CQA := mkC [(75, rdrSp), (62, jnApplySp)]
theorem CQA_ok : SpecsOk Tryz.prog CQA := mkC_ok (all_cons rdr_spec (all_cons jnApply_spec all_nil))
@[simp] theorem CQA_1 : CQA 75 = rdrSp := rfl
@[simp] theorem CQA_2 : CQA 62 = jnApplySp := rfl

noncomputable def jnRecSp := fam (fun i : JN × Nat × (List UInt8) => [V.ptr 0 0 0, .sl i.2.1 1 (byteRow i.2.2)]) (fun i : JN × Nat × (List UInt8) => [jnO i.1]) (fun i : JN × Nat × (List UInt8) => (i.1.log.length ≤ 1000000000) ∧ (i.2.2.length ≤ 140737488355328)) (fun i : JN × Nat × (List UInt8) => ⟨.bool (recordJ i.1 i.2.2).2, [jnO (recordJ i.1 i.2.2).1]⟩)
@[simp] theorem jnRecSp_eq {J : JN} {t : Nat} {p : List UInt8} (h1 : J.log.length ≤ 1000000000) (h2 : p.length ≤ 140737488355328) : jnRecSp ([V.ptr 0 0 0, .sl t 1 (byteRow p)]) ([jnO J]) = some (⟨.bool (recordJ J p).2, [jnO (recordJ J p).1]⟩) :=
  fam_eq (A := fun i : JN × Nat × (List UInt8) => [V.ptr 0 0 0, .sl i.2.1 1 (byteRow i.2.2)]) (O := fun i : JN × Nat × (List UInt8) => [jnO i.1]) (res := fun i : JN × Nat × (List UInt8) => ⟨.bool (recordJ i.1 i.2.2).2, [jnO (recordJ i.1 i.2.2).1]⟩) (by rintro ⟨a0, a1, a2⟩ ⟨b0, b1, b2⟩ h h' <;> simp at h h' <;> simp_all) (J, t, p) ⟨h1, h2⟩

theorem jnRec_spec : Lift.Spec Tryz.prog 60 jnRecSp := by
  refine spec_famO [] (C := CQA) types_ok CQA_ok follows Tryz.func60 (by kernel_rfl) rfl (by kernel_rfl) rfl ?_
  rintro ⟨J, t, p⟩ ⟨h0, hp⟩
  try simp only at h0 hp
  refine ⟨by simp, ?_⟩
  intro r hr
  have hp' : (p.length : Int) ≤ 140737488355328 := by omega
  have hR := readR_record J p
  obtain ⟨x, hx⟩ : ∃ x, x = (readR p).1 := ⟨_, rfl⟩
  rw [← hx] at hR
  cases hb : (readR p).2 with
  | false =>
    rw [hb, if_neg (by decide)] at hR
    simp [hp', hb, ← hx, GRec.cells, GEntry.cells]
    rw [hr]
    refine retC [] [.inl 0] [] rfl ?_
    simp [hR]
  | true =>
    rw [hb, if_pos rfl] at hR
    simp [hp', hb, ← hx, h0, GRec.cells, GEntry.cells]
    rw [hr]
    refine retC [] [.inl 0] [] rfl ?_
    simp [hR]

noncomputable def CQB := mkC [(48, jnWriteSp)]
theorem CQB_ok : SpecsOk Tryz.prog CQB := mkC_ok (all_cons jnWrite_spec all_nil)
@[simp] theorem CQB_1 : CQB 48 = jnWriteSp := rfl

theorem zeroE_ok : GEntry.ok ⟨0, 0, 0, 0, 0, 0, 0, 0, 0⟩ := by unfold GEntry.ok In64; simp only; omega
theorem okA {t v : Int} (h2 : In64 t) (h3 : In64 v) : GRec.ok ⟨1, t, v, ⟨0, 0, 0, 0, 0, 0, 0, 0, 0⟩⟩ := ⟨in1, h2, h3, zeroE_ok⟩
theorem okE {t : Int} {e : GEntry} (h2 : In64 t) (h3 : GEntry.ok e) : GRec.ok ⟨2, t, 0, e⟩ := ⟨in2, h2, in0, h3⟩
theorem okC {n : Int} (h2 : In64 n) : GRec.ok ⟨3, 0, n, ⟨0, 0, 0, 0, 0, 0, 0, 0, 0⟩⟩ := ⟨in3, in0, h2, zeroE_ok⟩
theorem wrA (J : JN) (t v : Int) : wrJ J ⟨1, t, v, ⟨0, 0, 0, 0, 0, 0, 0, 0, 0⟩⟩ = setTermJ J t v := by simp [wrJ, apE, apJ, setTermJ, recB, recA]
theorem wrE (J : JN) (t : Int) (e : GEntry) : wrJ J ⟨2, t, 0, e⟩ = appendJ J t e := by simp [wrJ, apE, apJ, appendJ, recB, recE]
theorem wrC (J : JN) (n : Int) : wrJ J ⟨3, 0, n, ⟨0, 0, 0, 0, 0, 0, 0, 0, 0⟩⟩ = cutJ J n := by simp [wrJ, apE, apJ, cutJ, recB, recC]
noncomputable def jnSetTermSp := fam (fun i : JN × Int × Int => [V.ptr 0 0 0, .int .i64 i.2.1, .int .i64 i.2.2]) (fun i : JN × Int × Int => [jnO i.1]) (fun i : JN × Int × Int => (i.1.b.length ≤ 1000000000) ∧ (In64 i.2.1) ∧ (In64 i.2.2)) (fun i : JN × Int × Int => ⟨.int .i64 (stE i.1 i.2.1 i.2.2), [jnO (setTermJ i.1 i.2.1 i.2.2)]⟩)
@[simp] theorem jnSetTermSp_eq {J : JN} {t : Int} {v : Int} (h1 : J.b.length ≤ 1000000000) (h2 : In64 t) (h3 : In64 v) : jnSetTermSp ([V.ptr 0 0 0, .int .i64 t, .int .i64 v]) ([jnO J]) = some (⟨.int .i64 (stE J t v), [jnO (setTermJ J t v)]⟩) :=
  fam_eq (A := fun i : JN × Int × Int => [V.ptr 0 0 0, .int .i64 i.2.1, .int .i64 i.2.2]) (O := fun i : JN × Int × Int => [jnO i.1]) (res := fun i : JN × Int × Int => ⟨.int .i64 (stE i.1 i.2.1 i.2.2), [jnO (setTermJ i.1 i.2.1 i.2.2)]⟩) (by rintro ⟨a0, a1, a2⟩ ⟨b0, b1, b2⟩ h h' <;> simp at h h' <;> simp_all) (J, t, v) ⟨h1, h2, h3⟩

theorem jnSetTerm_spec : Lift.Spec Tryz.prog 21 jnSetTermSp := by
  refine spec_famO [] (C := CQB) types_ok CQB_ok follows Tryz.func21 (by kernel_rfl) rfl (by kernel_rfl) rfl ?_
  rintro ⟨J, t, v⟩ ⟨h1, h2, h3⟩
  try simp only at h1 h2 h3
  refine ⟨by simp, ?_⟩
  intro r hr
  simp [h1, okA h2 h3, wrA]
  rw [hr]
  refine retC [] [.inl 0] [] rfl ?_
  simp [apE]
noncomputable def jnAppendSp := fam (fun i : JN × Int × GEntry => [V.ptr 0 0 0, .int .i64 i.2.1, vEntry i.2.2]) (fun i : JN × Int × GEntry => [jnO i.1]) (fun i : JN × Int × GEntry => (i.1.b.length ≤ 1000000000) ∧ (i.1.log.length ≤ 1000000000) ∧ (In64 i.2.1) ∧ (GEntry.ok i.2.2)) (fun i : JN × Int × GEntry => ⟨.int .i64 (adE i.1 i.2.1 i.2.2), [jnO (appendJ i.1 i.2.1 i.2.2)]⟩)
@[simp] theorem jnAppendSp_eq {J : JN} {t : Int} {e : GEntry} (h1 : J.b.length ≤ 1000000000) (h2 : J.log.length ≤ 1000000000) (h3 : In64 t) (h4 : GEntry.ok e) : jnAppendSp ([V.ptr 0 0 0, .int .i64 t, vEntry e]) ([jnO J]) = some (⟨.int .i64 (adE J t e), [jnO (appendJ J t e)]⟩) :=
  fam_eq (A := fun i : JN × Int × GEntry => [V.ptr 0 0 0, .int .i64 i.2.1, vEntry i.2.2]) (O := fun i : JN × Int × GEntry => [jnO i.1]) (res := fun i : JN × Int × GEntry => ⟨.int .i64 (adE i.1 i.2.1 i.2.2), [jnO (appendJ i.1 i.2.1 i.2.2)]⟩) (by rintro ⟨a0, a1, a2⟩ ⟨b0, b1, b2⟩ h h' <;> simp at h h' <;> simp_all) (J, t, e) ⟨h1, h2, h3, h4⟩

theorem jnAppend_spec : Lift.Spec Tryz.prog 23 jnAppendSp := by
  refine spec_famO [] (C := CQB) types_ok CQB_ok follows Tryz.func23 (by kernel_rfl) rfl (by kernel_rfl) rfl ?_
  rintro ⟨J, t, e⟩ ⟨h1, h0, h2, h3⟩
  try simp only at h1 h0 h2 h3
  refine ⟨by simp, ?_⟩
  intro r hr
  simp [h1, h0, okE h2 h3, wrE, GEntry.cells]
  rw [hr]
  refine retC [] [.inl 0] [] rfl ?_
  simp [apE]
noncomputable def jnCutASp := fam (fun i : JN × Int => [V.ptr 0 0 0, .int .i64 i.2]) (fun i : JN × Int => [jnO i.1]) (fun i : JN × Int => (i.1.b.length ≤ 1000000000) ∧ (i.1.log.length ≤ 1000000000) ∧ (In64 i.2)) (fun i : JN × Int => ⟨.int .i64 (cuE i.1 i.2), [jnO (cutJ i.1 i.2)]⟩)
@[simp] theorem jnCutASp_eq {J : JN} {n : Int} (h1 : J.b.length ≤ 1000000000) (h2 : J.log.length ≤ 1000000000) (h3 : In64 n) : jnCutASp ([V.ptr 0 0 0, .int .i64 n]) ([jnO J]) = some (⟨.int .i64 (cuE J n), [jnO (cutJ J n)]⟩) :=
  fam_eq (A := fun i : JN × Int => [V.ptr 0 0 0, .int .i64 i.2]) (O := fun i : JN × Int => [jnO i.1]) (res := fun i : JN × Int => ⟨.int .i64 (cuE i.1 i.2), [jnO (cutJ i.1 i.2)]⟩) (by rintro ⟨a0, a1⟩ ⟨b0, b1⟩ h h' <;> simp at h h' <;> simp_all) (J, n) ⟨h1, h2, h3⟩

theorem jnCutA_spec : Lift.Spec Tryz.prog 29 jnCutASp := by
  refine spec_famO [] (C := CQB) types_ok CQB_ok follows Tryz.func29 (by kernel_rfl) rfl (by kernel_rfl) rfl ?_
  rintro ⟨J, n⟩ ⟨h1, h0, h2⟩
  try simp only at h1 h0 h2
  refine ⟨by simp, ?_⟩
  intro r hr
  simp [h1, h0, okC h2, wrC]
  rw [hr]
  refine retC [] [.inl 0] [] rfl ?_
  simp [apE]
end Go.Proofs.YtlelalnahlpcpaaGreat
