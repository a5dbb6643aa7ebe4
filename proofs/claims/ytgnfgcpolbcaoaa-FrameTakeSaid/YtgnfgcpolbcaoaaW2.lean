/-
  wire: bytes of integers are appended.
-/
import Derived.Test.YtgnfgcpolbcaoaaW1
namespace Go.Proofs.Ytgnfgcpolbcaoaa
open Go.Lift

noncomputable def C2 := mkC [(43, codeSp), (39, codeSp)]
theorem C2_ok : SpecsOk Try.prog C2 := mkC_ok (all_cons encode_spec (all_cons refcode_spec all_nil))
@[simp] theorem C2_1 : C2 43 = codeSp := rfl
@[simp] theorem C2_2 : C2 39 = codeSp := rfl

theorem app_spec : Lift.Spec Try.prog 34 appSp := by
  refine spec_fam (C := C2) types_ok C2_ok follows Try.func34 (by kernel_rfl) rfl (by kernel_rfl) rfl ?_
  rintro ⟨l, n⟩ ⟨hn, hlen⟩
  simp only at hn hlen
  refine ⟨by simp, ?_⟩
  intro r hr
  simp [hn]
  refine axwp_loop (appSt l) (fun i => i.2.1 ++ enc i.2.2 = l ++ enc (code n) ∧ i.2.2 < 18446744073709551616 ∧ (i.1 = false → i.2.1 = l)) (fun i => i.2.2) (false, l, code n) ?_ ⟨rfl, code_lt hn, fun _ => rfl⟩ ?_
  · refine weak_mk id ?_ ?_ ?_ ?_ <;> simp [rowOf]
  · rintro ⟨b, acc, u⟩ ⟨h1, h2, h3⟩
    simp only at h1 h2 h3
    have q1 : (acc.length : Int) + 1 ≤ 140737488355328 := by
      have := congrArg List.length h1
      simp only [List.length_append] at this
      have := enc_pos u
      have := enc_ten _ (code_lt hn)
      omega
    have q2 : (128 : Int) ≤ (u : Int) ↔ ¬ u < 128 := by omega
    have hst : appSt l (b, acc, u) = mkSt [(0, .own (if b then 1 else 0) 0 acc.length), (5, .int .u64 u)] (if b then [(0, kill (rowOf l)), (1, rowOf acc)] else [(0, rowOf acc)]) 2 := by
      cases b with
      | false => rw [h3 rfl]; rfl
      | true => rfl
    rw [hst]
    have fin : u < 128 → acc ++ [loB u] = l ++ enc (code n) := fun hu => by rw [enc_small hu] at h1; exact h1
    cases b <;> simp [rowOf] <;> refine condV_split (fun hu => ?_) (fun hu => ?_) <;> simp [q1, fdiv_nat, u8_high, u8_low, byteRow_one]
    · refine Again.mk (true, acc ++ [hiB u], u / 128) ?_ ?_ ?_
      · rw [enc_great (by omega)] at h1
        exact ⟨by simpa using h1, by show u / 128 < _; omega, fun h => by cases h⟩
      · show u / 128 < u; omega
      · rw [h3 rfl] at *
        refine weak_at [.inl 0, .inr 0] ?_ ?_ ?_ ?_ <;> simp [rowOf]
    · have hf := fin (by omega)
      have hz : l.length + (enc (code n)).length = acc.length + 1 := by simpa using (congrArg List.length hf).symm
      rw [hr, ← hf, hz]
      rw [h3 rfl] at *
      refine ret_at [.inl 0, .inr 4] rfl ?_ ?_ (by simp) ?_ ?_ ?_ ?_ <;> simp [rowOf]
    · refine Again.mk (true, acc ++ [hiB u], u / 128) ?_ ?_ ?_
      · rw [enc_great (by omega)] at h1
        exact ⟨by simpa using h1, by show u / 128 < _; omega, fun h => by cases h⟩
      · show u / 128 < u; omega
      · refine weak_at [.inl 0, .inr 0] ?_ ?_ ?_ ?_ <;> simp [rowOf]
    · have hf := fin (by omega)
      have hz : l.length + (enc (code n)).length = acc.length + 1 := by simpa using (congrArg List.length hf).symm
      rw [hr, ← hf, hz]
      refine ret_at [.inl 0, .inr 4] rfl ?_ ?_ (by simp) ?_ ?_ ?_ ?_ <;> simp [rowOf]

noncomputable def C3 := mkC [(34, appSp), (35, copySp), (39, codeSp)]
theorem C3_ok : SpecsOk Try.prog C3 := mkC_ok (all_cons app_spec (all_cons copy_spec (all_cons refcode_spec all_nil)))
@[simp] theorem C3_1 : C3 34 = appSp := rfl
@[simp] theorem C3_2 : C3 35 = copySp := rfl
@[simp] theorem C3_3 : C3 39 = codeSp := rfl

/-- Bytes, followed by those of an integer. -/
noncomputable def intSp := fam (fun i : Nat × List UInt8 × Int => [V.sl i.1 1 (byteRow i.2.1), .int .i64 i.2.2]) (fun _ => []) (fun i => In64 i.2.2 ∧ (i.2.1.length : Int) ≤ 140737488351222) (fun i => ⟨.own 0 0 (i.2.1.length + (enc (code i.2.2)).length), [rowOf (i.2.1 ++ enc (code i.2.2))]⟩)
@[simp] theorem intSp_eq {t : Nat} {l : List UInt8} {n : Int} (h : In64 n) (h0 : (l.length : Int) ≤ 140737488351222) : intSp [V.sl t 1 (byteRow l), .int .i64 n] [] = some ⟨.own 0 0 (l.length + (enc (code n)).length), [rowOf (l ++ enc (code n))]⟩ :=
  fam_eq (A := fun i : Nat × List UInt8 × Int => [V.sl i.1 1 (byteRow i.2.1), .int .i64 i.2.2]) (fun i j h _ => by simp at h; rw [h.1.2, h.2]) (t, l, n) ⟨h, h0⟩

theorem int_spec : Lift.Spec Try.prog 24 intSp := by
  refine spec_fam (C := C3) types_ok C3_ok follows Try.func24 (by kernel_rfl) rfl (by kernel_rfl) rfl ?_
  rintro ⟨t, l, n⟩ ⟨hn, hlen⟩
  simp only at hn hlen
  refine ⟨by simp, ?_⟩
  intro r hr
  have q : (l.length : Int) ≤ 140737488355318 := by omega
  have q2 : (l.length : Int) + 10 ≤ 140737488351232 := by omega
  simp [rowOf, hn, q, q2]
  rw [hr]
  refine ret_at [.inr 4] rfl ?_ ?_ (by simp) ?_ ?_ ?_ ?_ <;> simp [rowOf]

def refSt (i : List UInt8 × Nat) : St := mkSt [(5, .own 0 0 i.1.length), (6, .int .u64 i.2)] [(0, rowOf i.1)] 1

theorem refint_spec : Lift.Spec Try.prog 28 intSp := by
  refine spec_fam (C := C3) types_ok C3_ok follows Try.func28 (by kernel_rfl) rfl (by kernel_rfl) rfl ?_
  rintro ⟨t, l, n⟩ ⟨hn, hlen⟩
  simp only at hn hlen
  refine ⟨by simp, ?_⟩
  intro r hr
  have q : (l.length : Int) ≤ 140737488355328 := by omega
  simp [hn, q]
  refine axwp_loop refSt (fun i => i.1 ++ enc i.2 = l ++ enc (code n) ∧ i.2 < 18446744073709551616) (fun i => i.2) (l, code n) ?_ ⟨rfl, code_lt hn⟩ ?_
  · refine weak_at [.inr 5] ?_ ?_ ?_ ?_ <;> simp [rowOf]
  · rintro ⟨acc, u⟩ ⟨h1, h2⟩
    simp only at h1 h2
    have q1 : (acc.length : Int) + 1 ≤ 140737488355328 := by
      have := congrArg List.length h1
      simp only [List.length_append] at this
      have := enc_pos u
      have := enc_ten _ (code_lt hn)
      omega
    simp [refSt, rowOf]
    refine condV_split (fun hu => ?_) (fun hu => ?_) <;> simp [q1, u8_high, u8_low, byteRow_one]
    · refine Again.mk (acc ++ [hiB u], u / 128) ?_ ?_ ?_
      · rw [enc_great (by omega)] at h1
        exact ⟨by simpa using h1, by show u / 128 < _; omega⟩
      · show u / 128 < u; omega
      · have hw : IntKind.u64.wrap ((u : Int) / 128) = (u : Int) / 128 := wrap_u64_in (by omega) (by omega)
        refine weak_at [.inr 5] ?_ ?_ ?_ ?_ <;> simp [rowOf, hw]
    · rw [enc_small (by omega)] at h1
      have hz : l.length + (enc (code n)).length = acc.length + 1 := by simpa using (congrArg List.length h1).symm
      rw [hr, ← h1, hz]
      refine ret_at [.inr 4] rfl ?_ ?_ (by simp) ?_ ?_ ?_ ?_ <;> simp [rowOf]
end Go.Proofs.Ytgnfgcpolbcaoaa
