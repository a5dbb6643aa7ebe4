/-
  journal: the program: a record's bytes, a record's change.
-/
import Derived.Test.YtlelalnahlpcpaaGreatKB
set_option linter.unusedSimpArgs false
set_option linter.unusedVariables false
namespace Go.Proofs.YtlelalnahlpcpaaGreat
open Go.Lift

/-- What a record's change answers, and what it makes. -/
def apE (J : JN) (r : GRec) : Int := if r.k = 1 then stE J r.t r.n else if r.k = 2 then adE J r.t r.e else if r.k = 3 then cuE J r.n else 18
def apJ (J : JN) (r : GRec) : JN := if r.k = 1 then stJ J r.t r.n else if r.k = 2 then adJ J r.t r.e else if r.k = 3 then cuJ J r.n else J
theorem apJ_b (J : JN) (r : GRec) : (apJ J r).b = J.b := by
  unfold apJ
  split
  · exact stJ_b _ _ _
  split
  · exact adJ_b _ _ _
  split
  · exact cuJ_b _ _
  · rfl
noncomputable def CLA := mkC [(76, jnSetSp), (77, jnAddSp), (78, jnCutSp)]
theorem CLA_ok : SpecsOk Tryz.prog CLA := mkC_ok (all_cons jnSet_spec (all_cons jnAdd_spec (all_cons jnCut_spec all_nil)))
@[simp] theorem CLA_1 : CLA 76 = jnSetSp := rfl
@[simp] theorem CLA_2 : CLA 77 = jnAddSp := rfl
@[simp] theorem CLA_3 : CLA 78 = jnCutSp := rfl

noncomputable def jnApplySp := fam (fun i : JN × GRec => [V.ptr 0 0 0, vRec i.2]) (fun i : JN × GRec => [jnO i.1]) (fun i : JN × GRec => (i.2.k = 1 ∨ i.1.log.length ≤ 1000000000)) (fun i : JN × GRec => ⟨.int .i64 (apE i.1 i.2), [jnO (apJ i.1 i.2)]⟩)
@[simp] theorem jnApplySp_eq {J : JN} {r : GRec} (h1 : r.k = 1 ∨ J.log.length ≤ 1000000000) : jnApplySp ([V.ptr 0 0 0, vRec r]) ([jnO J]) = some (⟨.int .i64 (apE J r), [jnO (apJ J r)]⟩) :=
  fam_eq (A := fun i : JN × GRec => [V.ptr 0 0 0, vRec i.2]) (O := fun i : JN × GRec => [jnO i.1]) (res := fun i : JN × GRec => ⟨.int .i64 (apE i.1 i.2), [jnO (apJ i.1 i.2)]⟩) (by rintro ⟨a0, a1⟩ ⟨b0, b1⟩ h h' <;> simp at h h' <;> simp_all) (J, r) h1

theorem jnApply_spec : Lift.Spec Tryz.prog 62 jnApplySp := by
  refine spec_famO [] (C := CLA) types_ok CLA_ok follows Tryz.func62 (by kernel_rfl) rfl (by kernel_rfl) rfl ?_
  rintro ⟨J, x⟩ h0
  try simp only at h0
  refine ⟨by simp, ?_⟩
  intro r hr
  by_cases k1 : x.k = 1
  · simp [k1, GRec.cells, GEntry.cells]
    rw [hr]
    refine retC [] [.inl 0] [] rfl ?_
    simp [apE, apJ, k1]
  replace h0 := h0.resolve_left k1
  by_cases k2 : x.k = 2
  · simp [k2, h0, GRec.cells, GEntry.cells]
    rw [hr]
    refine retC [] [.inl 0] [] rfl ?_
    simp [apE, apJ, k2]
  by_cases k3 : x.k = 3
  · simp [k3, h0, GRec.cells, GEntry.cells]
    rw [hr]
    refine retC [] [.inl 0] [] rfl ?_
    simp [apE, apJ, k3]
  · simp [k1, k2, k3, GRec.cells, GEntry.cells]
    rw [hr]
    refine retC [] [.inl 0] [] rfl ?_
    simp [apE, apJ, k1, k2, k3]

/-- A record's bytes. -/
noncomputable def recB (r : GRec) : List UInt8 :=
  if r.k = 1 then enc (code 1) ++ (enc (code r.t) ++ enc (code r.n)) else if r.k = 2 then enc (code 2) ++ (enc (code r.t) ++ bytesE r.e) else if r.k = 3 then enc (code 3) ++ enc (code r.n) else enc (code r.k)
theorem apJ_ne {J : JN} {r : GRec} (h : ¬ apE J r = 0) : apJ J r = J := by
  unfold apE at h
  unfold apJ
  (repeat' split at h) <;> simp_all [stJ, adJ, cuJ]
structure GRec.ok (r : GRec) : Prop where
  k : In64 r.k
  t : In64 r.t
  n : In64 r.n
  e : GEntry.ok r.e
theorem recB_len {r : GRec} (h : r.ok) : (recB r).length ≤ 65536 := by
  have e0 := enc3 h.k
  have e1 := enc3 h.t
  have e2 := enc3 h.n
  have e3 := bytesE_len h.e
  have f1 := enc3 in1
  have f2 := enc3 in2
  have f3 := enc3 in3
  unfold recB
  (repeat' split) <;> (try simp only [List.length_append]) <;> omega
noncomputable def CLB := mkC [(95, intSp), (97, bytesESp)]
theorem CLB_ok : SpecsOk Tryz.prog CLB := mkC_ok (all_cons int_spec (all_cons bytesE_spec all_nil))
@[simp] theorem CLB_1 : CLB 95 = intSp := rfl
@[simp] theorem CLB_2 : CLB 97 = bytesESp := rfl

noncomputable def recbSp := fam (fun i : GRec => [vRec i]) (fun _ : GRec => []) (fun i : GRec => (GRec.ok i)) (fun i : GRec => ⟨.own 0 0 (recB i).length, [rowOf (recB i)]⟩)
@[simp] theorem recbSp_eq {r : GRec} (h1 : GRec.ok r) : recbSp ([vRec r]) ([]) = some (⟨.own 0 0 (recB r).length, [rowOf (recB r)]⟩) :=
  fam_eq (A := fun i : GRec => [vRec i]) (O := fun _ : GRec => []) (res := fun i : GRec => ⟨.own 0 0 (recB i).length, [rowOf (recB i)]⟩) (by intro a b h h' <;> simp at h h' <;> simp_all) r h1

theorem recb_spec : Lift.Spec Tryz.prog 80 recbSp := by
  refine spec_fam (C := CLB) types_ok CLB_ok follows Tryz.func80 (by kernel_rfl) rfl (by kernel_rfl) rfl ?_
  rintro x h0
  try simp only at h0
  refine ⟨by simp, ?_⟩
  intro r hr
  have hk := h0.k
  have ht := h0.t
  have hn := h0.n
  have he := h0.e
  have e0 := enc3 hk
  have e1 := enc3 ht
  have e2 := enc3 hn
  have e3 := bytesE_len he
  have i0 := intSp_nil (t := 0) hk
  have i1 : ((enc (code x.k)).length : Int) ≤ 140737488351222 := by omega
  by_cases k1 : x.k = 1
  · have i2 : ((enc (code x.k)).length : Int) + ((enc (code x.t)).length : Int) ≤ 140737488351222 := by omega
    rw [k1] at i0 i1 i2 hk
    have it : List.take ((enc (code 1)).length + ((enc (code x.t)).length + (enc (code x.n)).length)) (enc (code 1) ++ (enc (code x.t) ++ enc (code x.n))) = enc (code 1) ++ (enc (code x.t) ++ enc (code x.n)) := List.take_of_length_le (by simp)
    simp [k1, i0, i1, i2, hk, ht, hn, rowOf, GRec.cells, GEntry.cells]
    (repeat refine ⟨⟨by kernel_rfl, by kernel_rfl⟩, ?_⟩)
    rw [hr]
    refine retC [] [] [.inr 2] rfl ?_
    simp [recB, k1, rowOf, it, Nat.add_assoc]
  by_cases k2 : x.k = 2
  · have i2 : ((enc (code x.k)).length : Int) + (((enc (code x.t)).length : Int) + ((bytesE x.e).length : Int)) ≤ 140737488355328 := by omega
    rw [k2] at i0 i1 i2 hk
    have it : List.take ((enc (code 2)).length + ((enc (code x.t)).length + (bytesE x.e).length)) (enc (code 2) ++ (enc (code x.t) ++ bytesE x.e)) = enc (code 2) ++ (enc (code x.t) ++ bytesE x.e) := List.take_of_length_le (by simp)
    simp [k2, i0, i1, i2, hk, ht, he, rowOf, GRec.cells, GEntry.cells, Nat.add_assoc, Int.add_assoc]
    (repeat refine ⟨⟨by kernel_rfl, by kernel_rfl⟩, ?_⟩)
    rw [hr]
    refine retC [] [] [.inr 2] rfl ?_
    simp [recB, k2, rowOf, it, Nat.add_assoc]
  by_cases k3 : x.k = 3
  · rw [k3] at i0 i1 hk
    simp [k3, i0, i1, hk, hn, rowOf, GRec.cells, GEntry.cells]
    rw [hr]
    refine retC [] [] [.inr 2] rfl ?_
    simp [recB, k3, rowOf]
  · simp [k1, k2, k3, i0, i1, rowOf, GRec.cells, GEntry.cells]
    rw [hr]
    refine retC [] [] [.inr 2] rfl ?_
    simp [recB, k1, k2, k3, rowOf]

noncomputable def CLC := mkC [(80, recbSp), (79, putSp), (38, dkappendSp)]
theorem CLC_ok : SpecsOk Tryz.prog CLC := mkC_ok (all_cons recb_spec (all_cons put_spec (all_cons dkappend_spec all_nil)))
@[simp] theorem CLC_1 : CLC 80 = recbSp := rfl
@[simp] theorem CLC_2 : CLC 79 = putSp := rfl
@[simp] theorem CLC_3 : CLC 38 = dkappendSp := rfl

noncomputable def jnPutSp := fam (fun i : (List UInt8) × Nat × GRec => [V.agg [V.ptr 0 0 0], vRec i.2.2]) (fun i : (List UInt8) × Nat × GRec => [diskO i.1 i.2.1]) (fun i : (List UInt8) × Nat × GRec => (i.1.length ≤ 1000000000) ∧ (GRec.ok i.2.2)) (fun i : (List UInt8) × Nat × GRec => ⟨.tup [], [diskO (i.1 ++ putB 8 [] (recB i.2.2)) i.2.1]⟩)
@[simp] theorem jnPutSp_eq {l : List UInt8} {d : Nat} {r : GRec} (h1 : l.length ≤ 1000000000) (h2 : GRec.ok r) : jnPutSp ([V.agg [V.ptr 0 0 0], vRec r]) ([diskO l d]) = some (⟨.tup [], [diskO (l ++ putB 8 [] (recB r)) d]⟩) :=
  fam_eq (A := fun i : (List UInt8) × Nat × GRec => [V.agg [V.ptr 0 0 0], vRec i.2.2]) (O := fun i : (List UInt8) × Nat × GRec => [diskO i.1 i.2.1]) (res := fun i : (List UInt8) × Nat × GRec => ⟨.tup [], [diskO (i.1 ++ putB 8 [] (recB i.2.2)) i.2.1]⟩) (by rintro ⟨a0, a1, a2⟩ ⟨b0, b1, b2⟩ h h' <;> simp at h h' <;> simp_all) (l, d, r) ⟨h1, h2⟩

theorem jnPut_spec : Lift.Spec Tryz.prog 63 jnPutSp := by
  refine spec_famO [] (C := CLC) types_ok CLC_ok follows Tryz.func63 (by kernel_rfl) rfl (by kernel_rfl) rfl ?_
  rintro ⟨l, d, x⟩ ⟨h1, h2⟩
  try simp only at h1 h2
  refine ⟨by simp, ?_⟩
  intro r hr
  have h2' := recB_len h2
  have hl := putB_len (key := 8) h2'
  have h3 : l.length + (putB 8 [] (recB x)).length ≤ 140737488355328 := by omega
  have hp : (recB x).length ≤ 9223372036854775807 := by omega
  have e := putSp_eq (t := 0) (b := []) (u := 2) (p := recB x) (key := 8) (by simp) in8 (by simp) hp
  simp only [byteRow_nil] at e
  simp [e, h2, h3, rowOf, GRec.cells, GEntry.cells]
  (repeat refine ⟨⟨by kernel_rfl, by kernel_rfl⟩, ?_⟩)
  rw [hr]
  refine retE [] [] [] [] [.inl 0] rfl ?_
  simp

noncomputable def wrJ (J : JN) (r : GRec) : JN := if apE J r = 0 then putJ (apJ J r) (recB r) else J
noncomputable def CLD := mkC [(62, jnApplySp), (63, jnPutSp)]
theorem CLD_ok : SpecsOk Tryz.prog CLD := mkC_ok (all_cons jnApply_spec (all_cons jnPut_spec all_nil))
@[simp] theorem CLD_1 : CLD 62 = jnApplySp := rfl
@[simp] theorem CLD_2 : CLD 63 = jnPutSp := rfl

noncomputable def jnWriteSp := fam (fun i : JN × GRec => [V.ptr 0 0 0, vRec i.2]) (fun i : JN × GRec => [jnO i.1]) (fun i : JN × GRec => (i.1.b.length ≤ 1000000000) ∧ (i.2.k = 1 ∨ i.1.log.length ≤ 1000000000) ∧ (GRec.ok i.2)) (fun i : JN × GRec => ⟨.int .i64 (apE i.1 i.2), [jnO (wrJ i.1 i.2)]⟩)
@[simp] theorem jnWriteSp_eq {J : JN} {r : GRec} (h1 : J.b.length ≤ 1000000000) (h2 : r.k = 1 ∨ J.log.length ≤ 1000000000) (h3 : GRec.ok r) : jnWriteSp ([V.ptr 0 0 0, vRec r]) ([jnO J]) = some (⟨.int .i64 (apE J r), [jnO (wrJ J r)]⟩) :=
  fam_eq (A := fun i : JN × GRec => [V.ptr 0 0 0, vRec i.2]) (O := fun i : JN × GRec => [jnO i.1]) (res := fun i : JN × GRec => ⟨.int .i64 (apE i.1 i.2), [jnO (wrJ i.1 i.2)]⟩) (by rintro ⟨a0, a1⟩ ⟨b0, b1⟩ h h' <;> simp at h h' <;> simp_all) (J, r) ⟨h1, h2, h3⟩

theorem jnWrite_spec : Lift.Spec Tryz.prog 48 jnWriteSp := by
  refine spec_famO [] (C := CLD) types_ok CLD_ok follows Tryz.func48 (by kernel_rfl) rfl (by kernel_rfl) rfl ?_
  rintro ⟨J, x⟩ ⟨h1, h0, h2⟩
  try simp only at h1 h0 h2
  refine ⟨by simp, ?_⟩
  intro r hr
  have i4 : (apJ J x).b.length ≤ 1000000000 := by rw [apJ_b]; exact h1
  by_cases h : apE J x = 0
  · simp [h0, h, h2, i4, GRec.cells, GEntry.cells]
    (repeat refine ⟨⟨by kernel_rfl, by kernel_rfl⟩, ?_⟩)
    rw [hr]
    refine retC [] [.inl 0] [] rfl ?_
    simp [h, wrJ, putJ]
  · simp [h0, h, GRec.cells, GEntry.cells]
    (repeat refine ⟨⟨by kernel_rfl, by kernel_rfl⟩, ?_⟩)
    rw [hr]
    refine retC [] [.inl 0] [] rfl ?_
    simp [h, wrJ, apJ_ne h]
end Go.Proofs.YtlelalnahlpcpaaGreat
