/-
  wire: what is written is read back.
-/
import Derived.Test.YtgnfgcpolbcaoaaW2
import Derived.Test.YtgnfgcpolbcaoaaW4
namespace Go.Proofs.Ytgnfgcpolbcaoaa
open Go.Lift

theorem loB_nat {u : Nat} (h : u < 128) : (loB u).toNat = u := by simp [loB]; omega
theorem hiB_nat (u : Nat) : (hiB u).toNat = u % 128 + 128 := by simp [hiB]; omega

theorem takeAt_enc (rest : List UInt8) : ∀ (u i c : Nat), i ≤ 9 → u < 2 ^ (64 - 7 * i) → (0 < i → 0 < u) → takeAt (enc u ++ rest) i c = (decodeN (c + u * 2 ^ (7 * i)), (i : Int) + (enc u).length, 0) := by
  intro u
  induction u using Nat.strongRecOn with
  | _ u ih =>
    intro i c hi hu hp
    by_cases h : u < 128
    · rw [enc_small h]
      show takeAt (loB u :: rest) i c = _
      rw [takeAt, if_neg (by omega), loB_nat h, if_neg (by omega), if_neg]
      · rfl
      · intro hc
        rcases hc with hc | hc
        · have := hp hc.1; omega
        · have e : 64 - 7 * i = 1 := by omega
          rw [e] at hu; omega
    · rw [enc_great h]
      show takeAt (hiB u :: (enc (u / 128) ++ rest)) i c = _
      have hi8 : i ≤ 8 := by
        apply Classical.byContradiction
        intro hn
        have e : 64 - 7 * i = 1 := by omega
        rw [e] at hu; omega
      have e1 : 2 ^ (64 - 7 * i) = 2 ^ (64 - 7 * (i + 1)) * 128 := by
        rw [show 64 - 7 * i = (64 - 7 * (i + 1)) + 7 by omega, Nat.pow_add]
      have hq : u / 128 < 2 ^ (64 - 7 * (i + 1)) := by
        rw [Nat.div_lt_iff_lt_mul (by omega)]; omega
      rw [takeAt, if_neg (by omega), hiB_nat, if_pos (by omega), ih (u / 128) (by omega) (i + 1) _ (by omega) hq (fun _ => by omega)]
      have e2 : (u % 128 + 128) % 128 = u % 128 := by omega
      have e3 : 2 ^ (7 * (i + 1)) = 128 * 2 ^ (7 * i) := by rw [show 7 * (i + 1) = 7 * i + 7 by omega, Nat.pow_add]; omega
      have e4 : c + u % 128 * 2 ^ (7 * i) + u / 128 * (128 * 2 ^ (7 * i)) = c + u * 2 ^ (7 * i) := by
        have : u % 128 * 2 ^ (7 * i) + u / 128 * (128 * 2 ^ (7 * i)) = u * 2 ^ (7 * i) := by
          rw [← Nat.mul_assoc, ← Nat.add_mul]
          congr 1; omega
        omega
      rw [e2, e3, e4]
      simp only [List.length_cons, Prod.mk.injEq, true_and, and_true]
      omega

theorem takeT_enc {n : Int} (hn : In64 n) (rest : List UInt8) : takeT (enc (code n) ++ rest) = (n, ((enc (code n)).length : Int), 0) := by
  rw [takeT_eq, takeAt_enc rest (code n) 0 0 (by omega) (by have := code_lt hn; simpa using this) (fun h => by omega)]
  simp [decode_code]

theorem takeAt_back : ∀ (l : List UInt8) (i c : Nat) (n k : Int), i ≤ 10 → c < 2 ^ (7 * i) → takeAt l i c = (n, k, 0) →
    ∃ u rest, l = enc u ++ rest ∧ n = decodeN (c + u * 2 ^ (7 * i)) ∧ k = (i : Int) + (enc u).length ∧ c + u * 2 ^ (7 * i) < 18446744073709551616 ∧ (0 < i → 0 < u)
  | [], i, c, n, k, _, _, h => by
    rw [takeAt] at h
    split at h <;> simp at h
  | x :: l, i, c, n, k, hi, hc, h => by
    rw [takeAt] at h
    split at h
    · simp at h
    · rename_i hi10
      split at h
      · rename_i hx
        have e3 : 2 ^ (7 * (i + 1)) = 128 * 2 ^ (7 * i) := by rw [show 7 * (i + 1) = 7 * i + 7 by omega, Nat.pow_add]; omega
        have hm : x.toNat % 128 * 2 ^ (7 * i) ≤ 127 * 2 ^ (7 * i) := Nat.mul_le_mul_right _ (by omega)
        obtain ⟨u, rest, h1, h2, h3, h4, h5⟩ := takeAt_back l (i + 1) _ n k (by omega) (by rw [e3]; omega) h
        have hu := h5 (by omega)
        have e5 : (128 * u + x.toNat % 128) / 128 = u := by omega
        have e6 : (128 * u + x.toNat % 128) % 128 = x.toNat % 128 := by omega
        have e4 : c + (128 * u + x.toNat % 128) * 2 ^ (7 * i) = c + x.toNat % 128 * 2 ^ (7 * i) + u * 2 ^ (7 * (i + 1)) := by
          rw [e3, Nat.add_mul, ← Nat.mul_assoc, Nat.mul_comm 128 u]; omega
        have hlt := x.toNat_lt
        refine ⟨128 * u + x.toNat % 128, rest, ?_, by rw [e4]; exact h2, ?_, by rw [e4]; exact h4, fun _ => by omega⟩
        · rw [enc_great (by omega), e5, h1]
          have : hiB (128 * u + x.toNat % 128) = x := by
            apply UInt8.toNat_inj.1
            rw [hiB_nat, e6]; omega
          rw [this]; rfl
        · rw [enc_great (by omega), e5, List.length_cons, h3]; push_cast; omega
      · rename_i hx
        split at h
        · simp at h
        · rename_i hg
          simp only [Prod.mk.injEq, and_true] at h
          have hb : loB x.toNat = x := by apply UInt8.toNat_inj.1; rw [loB_nat (by omega)]
          refine ⟨x.toNat, l, by rw [enc_small (by omega), hb]; rfl, h.1.symm, by rw [enc_small (by omega)]; simp [← h.2], ?_, fun h0 => by omega⟩
          by_cases h9 : i = 9
          · subst h9
            have : x.toNat ≤ 1 := by omega
            have e63 : 2 ^ (7 * 9) = 9223372036854775808 := by decide
            rw [e63] at hc ⊢
            have : x.toNat * 9223372036854775808 ≤ 9223372036854775808 := by omega
            omega
          · exact (pow_bits hc (show i ≤ 8 by omega) (show x.toNat < 128 by omega)).2

theorem takeT_back {l : List UInt8} {n k : Int} (h : takeT l = (n, k, 0)) : In64 n ∧ ∃ rest, l = enc (code n) ++ rest ∧ k = (enc (code n)).length := by
  rw [takeT_eq] at h
  obtain ⟨u, rest, h1, h2, h3, h4, _⟩ := takeAt_back l 0 0 n k (by omega) (by simp) h
  simp only [Nat.mul_zero, Nat.pow_zero, Nat.mul_one, Nat.zero_add] at h2 h4
  rw [h2, code_decode]
  exact ⟨decode_in h4, rest, h1, by simpa using h3⟩

theorem takeAt_err : ∀ (l : List UInt8) (i c : Nat), takeAt l i c = (0, 0, 17) ∨ takeAt l i c = (0, 0, 18) ∨ ∃ n k, takeAt l i c = (n, k, 0)
  | [], i, c => by
    rw [takeAt]; split
    · exact .inl rfl
    · exact .inr (.inl rfl)
  | x :: l, i, c => by
    rw [takeAt]
    split
    · exact .inr (.inl rfl)
    · split
      · exact takeAt_err l _ _
      · split
        · exact .inr (.inl rfl)
        · exact .inr (.inr ⟨_, _, rfl⟩)
theorem takeT_err (l : List UInt8) : takeT l = (0, 0, 17) ∨ takeT l = (0, 0, 18) ∨ ∃ n k, takeT l = (n, k, 0) := by rw [takeT_eq]; exact takeAt_err l 0 0

/-! ### The sanity check -/
theorem in64_1 : In64 (-1) := by unfold In64; omega
theorem in64_64 : In64 64 := by unfold In64; omega
theorem enc_m1 : enc (code (-1)) = [1] := by rw [show code (-1) = 1 from rfl, enc_small (by omega)]; rfl
theorem enc_64 : enc (code 64) = [128, 1] := by rw [show code 64 = 128 from rfl, enc_great (by omega), enc_small (by omega)]; rfl
theorem take_a : takeT [128, 1] = (64, 2, 0) := by rw [takeT_eq]; decide
theorem take_b : takeT [128, 0] = (0, 0, 18) := by rw [takeT_eq]; decide
theorem intSp_nil {t : Nat} {n : Int} (h : In64 n) : intSp [V.sl t 1 [], .int .i64 n] [] = some ⟨.own 0 0 (enc (code n)).length, [rowOf (enc (code n))]⟩ := by
  have := intSp_eq (t := t) (l := []) h (by simp)
  simpa using this

noncomputable def trueSp1 := fam (fun _ : Unit => ([] : List V)) (fun _ => []) (fun _ => True) (fun _ => ⟨.bool true, []⟩)
@[simp] theorem trueSp1_eq : trueSp1 [] [] = some ⟨.bool true, []⟩ := fam_eq (A := fun _ : Unit => ([] : List V)) (fun _ _ _ _ => rfl) () trivial

noncomputable def CW := mkC [(24, intSp), (28, intSp), (42, takeSp), (32, takeSp), (12, sameSp)]
theorem CW_ok : SpecsOk Try.prog CW := mkC_ok (all_cons int_spec (all_cons refint_spec (all_cons take_spec (all_cons reftake_spec (all_cons same_spec all_nil)))))
@[simp] theorem CW_1 : CW 24 = intSp := rfl
@[simp] theorem CW_2 : CW 28 = intSp := rfl
@[simp] theorem CW_3 : CW 42 = takeSp := rfl
@[simp] theorem CW_4 : CW 32 = takeSp := rfl
@[simp] theorem CW_5 : CW 12 = sameSp := rfl

noncomputable def CX := mkC [(24, intSp), (28, intSp), (42, takeSp), (32, takeSp), (12, sameSp)]
theorem CX_ok : SpecsOk Try.prog CX := mkC_ok (all_cons int_spec (all_cons refint_spec (all_cons take_spec (all_cons reftake_spec (all_cons same_spec all_nil)))))
@[simp] theorem CX_1 : CX 24 = intSp := rfl
@[simp] theorem CX_2 : CX 28 = intSp := rfl
@[simp] theorem CX_3 : CX 42 = takeSp := rfl
@[simp] theorem CX_4 : CX 32 = takeSp := rfl
@[simp] theorem CX_5 : CX 12 = sameSp := rfl

end Go.Proofs.Ytgnfgcpolbcaoaa
