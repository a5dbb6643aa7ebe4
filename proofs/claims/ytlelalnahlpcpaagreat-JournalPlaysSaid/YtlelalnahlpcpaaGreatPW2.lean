/-
  Texts: W5, W6, W7, W8, W9, WA, WB, WC.
-/
import Derived.Test.YtlelalnahlpcpaaGreatPW1
set_option linter.unusedSimpArgs false
set_option linter.unusedVariables false
/-
  wire: what is written is read back.
-/
namespace Go.Proofs.YtlelalnahlpcpaaGreat
open Go.Lift

theorem loB_nat {u : Nat} (h : u < 128) : (loB u).toNat = u := by simp [loB]; omega
theorem hiB_nat (u : Nat) : (hiB u).toNat = u % 128 + 128 := by simp [hiB]; omega

theorem takeAt_enc (rest : List UInt8) : ∀ (u i c : Nat), i ≤ 9 → u < 2 ^ (64 - 7 * i) → (0 < i → 0 < u) → takeAt (enc u ++ rest) i c = (decodeN (c + u * 2 ^ (7 * i)), (i : Int) + (enc u).length, 0) := by
  intro u
  induction u using Nat.strongRecOn with
  | _ u ih =>
    intro i c hi hu hp
    by_cases h : u < 128
    · rw [enc_small h]
      show takeAt (loB u :: rest) i c = _
      rw [takeAt, if_neg (by omega), loB_nat h, if_neg (by omega), if_neg]
      · rfl
      · intro hc
        rcases hc with hc | hc
        · have := hp hc.1; omega
        · have e : 64 - 7 * i = 1 := by omega
          rw [e] at hu; omega
    · rw [enc_great h]
      show takeAt (hiB u :: (enc (u / 128) ++ rest)) i c = _
      have hi8 : i ≤ 8 := by
        apply Classical.byContradiction
        intro hn
        have e : 64 - 7 * i = 1 := by omega
        rw [e] at hu; omega
      have e1 : 2 ^ (64 - 7 * i) = 2 ^ (64 - 7 * (i + 1)) * 128 := by
        rw [show 64 - 7 * i = (64 - 7 * (i + 1)) + 7 by omega, Nat.pow_add]
      have hq : u / 128 < 2 ^ (64 - 7 * (i + 1)) := by
        rw [Nat.div_lt_iff_lt_mul (by omega)]; omega
      rw [takeAt, if_neg (by omega), hiB_nat, if_pos (by omega), ih (u / 128) (by omega) (i + 1) _ (by omega) hq (fun _ => by omega)]
      have e2 : (u % 128 + 128) % 128 = u % 128 := by omega
      have e3 : 2 ^ (7 * (i + 1)) = 128 * 2 ^ (7 * i) := by rw [show 7 * (i + 1) = 7 * i + 7 by omega, Nat.pow_add]; omega
      have e4 : c + u % 128 * 2 ^ (7 * i) + u / 128 * (128 * 2 ^ (7 * i)) = c + u * 2 ^ (7 * i) := by
        have : u % 128 * 2 ^ (7 * i) + u / 128 * (128 * 2 ^ (7 * i)) = u * 2 ^ (7 * i) := by
          rw [← Nat.mul_assoc, ← Nat.add_mul]
          congr 1; omega
        omega
      rw [e2, e3, e4]
      simp only [List.length_cons, Prod.mk.injEq, true_and, and_true]
      omega

theorem takeT_enc {n : Int} (hn : In64 n) (rest : List UInt8) : takeT (enc (code n) ++ rest) = (n, ((enc (code n)).length : Int), 0) := by
  rw [takeT_eq, takeAt_enc rest (code n) 0 0 (by omega) (by have := code_lt hn; simpa using this) (fun h => by omega)]
  simp [decode_code]

theorem takeAt_back : ∀ (l : List UInt8) (i c : Nat) (n k : Int), i ≤ 10 → c < 2 ^ (7 * i) → takeAt l i c = (n, k, 0) →
    ∃ u rest, l = enc u ++ rest ∧ n = decodeN (c + u * 2 ^ (7 * i)) ∧ k = (i : Int) + (enc u).length ∧ c + u * 2 ^ (7 * i) < 18446744073709551616 ∧ (0 < i → 0 < u)
  | [], i, c, n, k, _, _, h => by
    rw [takeAt] at h
    split at h <;> simp at h
  | x :: l, i, c, n, k, hi, hc, h => by
    rw [takeAt] at h
    split at h
    · simp at h
    · rename_i hi10
      split at h
      · rename_i hx
        have e3 : 2 ^ (7 * (i + 1)) = 128 * 2 ^ (7 * i) := by rw [show 7 * (i + 1) = 7 * i + 7 by omega, Nat.pow_add]; omega
        have hm : x.toNat % 128 * 2 ^ (7 * i) ≤ 127 * 2 ^ (7 * i) := Nat.mul_le_mul_right _ (by omega)
        obtain ⟨u, rest, h1, h2, h3, h4, h5⟩ := takeAt_back l (i + 1) _ n k (by omega) (by rw [e3]; omega) h
        have hu := h5 (by omega)
        have e5 : (128 * u + x.toNat % 128) / 128 = u := by omega
        have e6 : (128 * u + x.toNat % 128) % 128 = x.toNat % 128 := by omega
        have e4 : c + (128 * u + x.toNat % 128) * 2 ^ (7 * i) = c + x.toNat % 128 * 2 ^ (7 * i) + u * 2 ^ (7 * (i + 1)) := by
          rw [e3, Nat.add_mul, ← Nat.mul_assoc, Nat.mul_comm 128 u]; omega
        have hlt := x.toNat_lt
        refine ⟨128 * u + x.toNat % 128, rest, ?_, by rw [e4]; exact h2, ?_, by rw [e4]; exact h4, fun _ => by omega⟩
        · rw [enc_great (by omega), e5, h1]
          have : hiB (128 * u + x.toNat % 128) = x := by
            apply UInt8.toNat_inj.1
            rw [hiB_nat, e6]; omega
          rw [this]; rfl
        · rw [enc_great (by omega), e5, List.length_cons, h3]; push_cast; omega
      · rename_i hx
        split at h
        · simp at h
        · rename_i hg
          simp only [Prod.mk.injEq, and_true] at h
          have hb : loB x.toNat = x := by apply UInt8.toNat_inj.1; rw [loB_nat (by omega)]
          refine ⟨x.toNat, l, by rw [enc_small (by omega), hb]; rfl, h.1.symm, by rw [enc_small (by omega)]; simp [← h.2], ?_, fun h0 => by omega⟩
          by_cases h9 : i = 9
          · subst h9
            have : x.toNat ≤ 1 := by omega
            have e63 : 2 ^ (7 * 9) = 9223372036854775808 := by decide
            rw [e63] at hc ⊢
            have : x.toNat * 9223372036854775808 ≤ 9223372036854775808 := by omega
            omega
          · exact (pow_bits hc (show i ≤ 8 by omega) (show x.toNat < 128 by omega)).2

theorem takeT_back {l : List UInt8} {n k : Int} (h : takeT l = (n, k, 0)) : In64 n ∧ ∃ rest, l = enc (code n) ++ rest ∧ k = (enc (code n)).length := by
  rw [takeT_eq] at h
  obtain ⟨u, rest, h1, h2, h3, h4, _⟩ := takeAt_back l 0 0 n k (by omega) (by simp) h
  simp only [Nat.mul_zero, Nat.pow_zero, Nat.mul_one, Nat.zero_add] at h2 h4
  rw [h2, code_decode]
  exact ⟨decode_in h4, rest, h1, by simpa using h3⟩

theorem takeAt_err : ∀ (l : List UInt8) (i c : Nat), takeAt l i c = (0, 0, 17) ∨ takeAt l i c = (0, 0, 18) ∨ ∃ n k, takeAt l i c = (n, k, 0)
  | [], i, c => by
    rw [takeAt]; split
    · exact .inl rfl
    · exact .inr (.inl rfl)
  | x :: l, i, c => by
    rw [takeAt]
    split
    · exact .inr (.inl rfl)
    · split
      · exact takeAt_err l _ _
      · split
        · exact .inr (.inl rfl)
        · exact .inr (.inr ⟨_, _, rfl⟩)
theorem takeT_err (l : List UInt8) : takeT l = (0, 0, 17) ∨ takeT l = (0, 0, 18) ∨ ∃ n k, takeT l = (n, k, 0) := by rw [takeT_eq]; exact takeAt_err l 0 0

/-! ### The sanity check -/
theorem in64_1 : In64 (-1) := by unfold In64; omega
theorem in64_64 : In64 64 := by unfold In64; omega
theorem enc_m1 : enc (code (-1)) = [1] := by rw [show code (-1) = 1 from rfl, enc_small (by omega)]; rfl
theorem enc_64 : enc (code 64) = [128, 1] := by rw [show code 64 = 128 from rfl, enc_great (by omega), enc_small (by omega)]; rfl
theorem take_a : takeT [128, 1] = (64, 2, 0) := by rw [takeT_eq]; decide
theorem take_b : takeT [128, 0] = (0, 0, 18) := by rw [takeT_eq]; decide
theorem intSp_nil {t : Nat} {n : Int} (h : In64 n) : intSp [V.sl t 1 [], .int .i64 n] [] = some ⟨.own 0 0 (enc (code n)).length, [rowOf (enc (code n))]⟩ := by
  have := intSp_eq (t := t) (l := []) h (by simp)
  simpa using this

noncomputable def trueSp1 := fam (fun _ : Unit => ([] : List V)) (fun _ => []) (fun _ => True) (fun _ => ⟨.bool true, []⟩)
@[simp] theorem trueSp1_eq : trueSp1 [] [] = some ⟨.bool true, []⟩ := fam_eq (A := fun _ : Unit => ([] : List V)) (fun _ _ _ _ => rfl) () trivial

noncomputable def CW := mkC [(95, intSp), (34, intSp), (87, takeSp), (65, takeSp), (41, sameSp)]
theorem CW_ok : SpecsOk Tryz.prog CW := mkC_ok (all_cons int_spec (all_cons refint_spec (all_cons take_spec (all_cons reftake_spec (all_cons same_spec all_nil)))))
@[simp] theorem CW_1 : CW 95 = intSp := rfl
@[simp] theorem CW_2 : CW 34 = intSp := rfl
@[simp] theorem CW_3 : CW 87 = takeSp := rfl
@[simp] theorem CW_4 : CW 65 = takeSp := rfl
@[simp] theorem CW_5 : CW 41 = sameSp := rfl

noncomputable def CX := mkC [(95, intSp), (34, intSp), (87, takeSp), (65, takeSp), (41, sameSp)]
theorem CX_ok : SpecsOk Tryz.prog CX := mkC_ok (all_cons int_spec (all_cons refint_spec (all_cons take_spec (all_cons reftake_spec (all_cons same_spec all_nil)))))
@[simp] theorem CX_1 : CX 95 = intSp := rfl
@[simp] theorem CX_2 : CX 34 = intSp := rfl
@[simp] theorem CX_3 : CX 87 = takeSp := rfl
@[simp] theorem CX_4 : CX 65 = takeSp := rfl
@[simp] theorem CX_5 : CX 41 = sameSp := rfl

end Go.Proofs.YtlelalnahlpcpaaGreat

/-
  wire: laws on integers.
-/
namespace Go.Proofs.YtlelalnahlpcpaaGreat
open Go.Lift

noncomputable def fewSp1 := fam (fun n : Int => [V.int .i64 n]) (fun _ => []) (fun _ => True) (fun n => ⟨.bool (decide (n ≤ 300)), []⟩)
@[simp] theorem fewSp1_eq {n : Int} : fewSp1 [V.int .i64 n] [] = some ⟨.bool (decide (n ≤ 300)), []⟩ :=
  fam_eq (A := fun n : Int => [V.int .i64 n]) (fun i j h _ => by simp at h; rw [h]) n trivial
noncomputable def CY := mkC [(95, intSp), (34, intSp), (87, takeSp), (65, takeSp), (41, sameSp)]
theorem CY_ok : SpecsOk Tryz.prog CY := mkC_ok (all_cons int_spec (all_cons refint_spec (all_cons take_spec (all_cons reftake_spec (all_cons same_spec all_nil)))))
@[simp] theorem CY_1 : CY 95 = intSp := rfl
@[simp] theorem CY_2 : CY 34 = intSp := rfl
@[simp] theorem CY_3 : CY 87 = takeSp := rfl
@[simp] theorem CY_4 : CY 65 = takeSp := rfl
@[simp] theorem CY_5 : CY 41 = sameSp := rfl

theorem iOr_u8 (a b : Int) : ∃ y : UInt8, iOr .u8 a b = (y.toNat : Int) := by
  refine ⟨UInt8.ofNat (BitVec.ofInt IntKind.u8.bits a ||| BitVec.ofInt IntKind.u8.bits b).toNat, ?_⟩
  unfold iOr
  rw [wrap_u8, u8_nat]; omega
theorem byteRow_set (l : List UInt8) (k : Nat) (x : UInt8) : (byteRow l).set k [V.int .u8 x.toNat] = byteRow (l.set k x) := by
  simp [byteRow, List.map_set]

def wtSt (l : List UInt8) (hi : Int) (i : Nat × List UInt8) : St :=
  mkSt [(0, .sl 2 1 (byteRow l)), (1, .int .i64 hi), (5, .own 0 0 i.2.length), (6, .int .i64 i.1)] [(0, rowOf i.2)] 1

theorem enc_one (u : Nat) : (enc u).length = 1 ↔ u < 128 := by
  by_cases h : u < 128
  · rw [enc_small h]; simp [h]
  · rw [enc_great h, List.length_cons]
    have := enc_pos (u / 128)
    omega
theorem enc_at : ∀ (u i : Nat) (x : UInt8), (enc u)[i]? = some x → (x.toNat < 128 ↔ i + 1 = (enc u).length) := by
  intro u
  induction u using Nat.strongRecOn with
  | _ u ih =>
    intro i x hx
    by_cases h : u < 128
    · rw [enc_small h] at hx ⊢
      cases i with
      | zero => simp at hx; subst hx; simp [loB_nat h, h]
      | succ i => simp at hx
    · rw [enc_great h] at hx ⊢
      cases i with
      | zero =>
        simp at hx; subst hx
        rw [hiB_nat, List.length_cons]
        have := enc_pos (u / 128)
        omega
      | succ i =>
        rw [List.length_cons]
        have := ih (u / 128) (by omega) i x (by simpa using hx)
        omega
theorem code_one {n : Int} : code n < 128 ↔ -64 ≤ n ∧ n ≤ 63 := by unfold code; split <;> omega

def shSt (n : Int) (E : List UInt8) (i : Nat) : St :=
  mkSt [(0, .int .i64 n), (3, .own 0 0 E.length), (4, .int .i64 i)] [(0, rowOf E)] 1

end Go.Proofs.YtlelalnahlpcpaaGreat

/-
  wire: texts and lists are written.
-/
namespace Go.Proofs.YtlelalnahlpcpaaGreat
open Go.Lift

def intsB (ns : List Int) : List UInt8 := ns.flatMap fun n => enc (code n)
theorem intsB_len : ∀ {ns : List Int}, (∀ x ∈ ns, In64 x) → (intsB ns).length ≤ 10 * ns.length
  | [], _ => Nat.le_refl _
  | n :: ns, h => by
    have h1 := enc_ten _ (code_lt (h n (List.mem_cons_self ..)))
    have h2 := intsB_len (ns := ns) (fun x hx => h x (List.mem_cons_of_mem _ hx))
    have e : intsB (n :: ns) = enc (code n) ++ intsB ns := rfl
    rw [e, List.length_append, List.length_cons]
    omega
theorem intsB_take {ns : List Int} {i : Nat} {x : Int} (hx : ns[i]? = some x) : intsB (ns.take (i + 1)) = intsB (ns.take i) ++ enc (code x) := by
  unfold intsB
  rw [List.take_add_one, hx]
  simp

def textB (l : List UInt8) (s : ByteArray) : List UInt8 := l ++ enc (code (s.size : Int)) ++ s.data.toList
noncomputable def textSp := fam (fun i : Nat × List UInt8 × ByteArray => [V.sl i.1 1 (byteRow i.2.1), .str i.2.2]) (fun _ => []) (fun i => (i.2.1.length : Int) + i.2.2.size ≤ 70368744177664) (fun i => ⟨.own 0 0 (textB i.2.1 i.2.2).length, [rowOf (textB i.2.1 i.2.2)]⟩)
@[simp] theorem textSp_eq {t : Nat} {l : List UInt8} {s : ByteArray} (h : (l.length : Int) + s.size ≤ 70368744177664) : textSp [V.sl t 1 (byteRow l), .str s] [] = some ⟨.own 0 0 (textB l s).length, [rowOf (textB l s)]⟩ :=
  fam_eq (A := fun i : Nat × List UInt8 × ByteArray => [V.sl i.1 1 (byteRow i.2.1), .str i.2.2]) (fun i j h _ => by simp at h; rw [h.1.2, h.2]) (t, l, s) h

noncomputable def C7 := mkC [(104, appSp), (105, copySp), (34, intSp)]
theorem C7_ok : SpecsOk Tryz.prog C7 := mkC_ok (all_cons app_spec (all_cons copy_spec (all_cons refint_spec all_nil)))
@[simp] theorem C7_1 : C7 104 = appSp := rfl
@[simp] theorem C7_2 : C7 105 = copySp := rfl
@[simp] theorem C7_3 : C7 34 = intSp := rfl

def intsL (l : List UInt8) (ns : List Int) : List UInt8 := l ++ enc (code (ns.length : Int)) ++ intsB ns
noncomputable def intsSp := fam (fun i : Nat × Nat × List UInt8 × List Int => [V.sl i.1 1 (byteRow i.2.2.1), .sl i.2.1 1 (intRow i.2.2.2)]) (fun _ => []) (fun i => (i.2.2.1.length : Int) + 10 * (i.2.2.2.length : Int) ≤ 70368744177664 ∧ ∀ x ∈ i.2.2.2, In64 x) (fun i => ⟨.own 0 0 (intsL i.2.2.1 i.2.2.2).length, [rowOf (intsL i.2.2.1 i.2.2.2)]⟩)
@[simp] theorem intsSp_eq {t u : Nat} {l : List UInt8} {ns : List Int} (h : (l.length : Int) + 10 * (ns.length : Int) ≤ 70368744177664) (h2 : ∀ x ∈ ns, In64 x) : intsSp [V.sl t 1 (byteRow l), .sl u 1 (intRow ns)] [] = some ⟨.own 0 0 (intsL l ns).length, [rowOf (intsL l ns)]⟩ :=
  fam_eq (A := fun i : Nat × Nat × List UInt8 × List Int => [V.sl i.1 1 (byteRow i.2.2.1), .sl i.2.1 1 (intRow i.2.2.2)]) (fun i j h _ => by simp at h; rw [h.1.2, h.2.2]) (t, u, l, ns) ⟨h, h2⟩

theorem intsL_len {l : List UInt8} {ns : List Int} (h2 : ∀ x ∈ ns, In64 x) (hn : In64 (ns.length : Int)) (i : Nat) : (l ++ enc (code (ns.length : Int)) ++ intsB (ns.take i)).length ≤ l.length + 10 + 10 * ns.length := by
  have h := intsB_len (ns := ns.take i) (fun x hx => h2 x (List.mem_of_mem_take hx))
  have := enc_ten _ (code_lt hn)
  simp only [List.length_append]
  have : (ns.take i).length ≤ ns.length := by rw [List.length_take]; omega
  omega

def itSt (u : Nat) (ns : List Int) (i : Nat × List UInt8) : St :=
  mkSt [(5, .own 0 0 i.2.length), (16, .sl u 1 (intRow ns)), (17, .int .i64 ns.length), (18, .int .i64 i.1)] [(0, rowOf i.2)] 1

def irSt (t u : Nat) (l0 : List UInt8) (ns : List Int) (i : Nat × List UInt8) : St :=
  mkSt [(0, .sl t 1 (byteRow l0)), (1, .sl u 1 (intRow ns)), (5, .own 0 0 i.2.length), (6, .int .i64 i.1)] [(0, rowOf i.2)] 1

noncomputable def sameISp := fam (fun i : Nat × Nat × List Int × List Int => [V.sl i.1 1 (intRow i.2.2.1), .sl i.2.1 1 (intRow i.2.2.2)]) (fun _ => []) (fun i => i.2.2.1.length ≤ 9223372036854775807) (fun i => ⟨.bool (decide (i.2.2.1 = i.2.2.2)), []⟩)
@[simp] theorem sameISp_eq {t u : Nat} {l m : List Int} (h : l.length ≤ 9223372036854775807) : sameISp [V.sl t 1 (intRow l), .sl u 1 (intRow m)] [] = some ⟨.bool (decide (l = m)), []⟩ :=
  fam_eq (A := fun i : Nat × Nat × List Int × List Int => [V.sl i.1 1 (intRow i.2.2.1), .sl i.2.1 1 (intRow i.2.2.2)]) (fun i j h _ => by simp at h; rw [h.1.2, h.2.2]) (t, u, l, m) h

def siSt (t u : Nat) (l m : List Int) (i : Nat) : St :=
  mkSt [(0, .sl t 1 (intRow l)), (1, .sl u 1 (intRow m)), (5, .int .i64 i)] [] 0

noncomputable def C8 := mkC [(41, sameSp)]
theorem C8_ok : SpecsOk Tryz.prog C8 := mkC_ok (all_cons same_spec all_nil)
@[simp] theorem C8_1 : C8 41 = sameSp := rfl

theorem intsSp_nil {t u : Nat} {ns : List Int} (h : (ns.length : Int) ≤ 1048576) (h2 : ∀ x ∈ ns, In64 x) : intsSp [V.sl t 1 [], .sl u 1 (intRow ns)] [] = some ⟨.own 0 0 (intsL [] ns).length, [rowOf (intsL [] ns)]⟩ :=
  intsSp_eq (t := t) (l := []) (by simp; omega) h2

theorem enc_prefix {a b : Int} (ha : In64 a) (hb : In64 b) {x y : List UInt8} (h : enc (code a) ++ x = enc (code b) ++ y) : a = b ∧ x = y := by
  have h1 := takeT_enc ha x
  have h2 := takeT_enc hb y
  rw [h, h2] at h1
  simp only [Prod.mk.injEq] at h1
  have e := h1.1.symm
  subst e
  exact ⟨rfl, List.append_cancel_left h⟩
theorem intsB_inj : ∀ {a b : List Int}, (∀ x ∈ a, In64 x) → (∀ x ∈ b, In64 x) → a.length = b.length → intsB a = intsB b → a = b
  | [], [], _, _, _, _ => rfl
  | x :: a, y :: b, ha, hb, hl, h => by
    have e : ∀ (x : Int) (l : List Int), intsB (x :: l) = enc (code x) ++ intsB l := fun _ _ => rfl
    rw [e, e] at h
    obtain ⟨h1, h2⟩ := enc_prefix (ha x (List.mem_cons_self ..)) (hb y (List.mem_cons_self ..)) h
    rw [h1, intsB_inj (fun x hx => ha x (List.mem_cons_of_mem _ hx)) (fun x hx => hb x (List.mem_cons_of_mem _ hx)) (by simpa using hl) h2]
  | [], _ :: _, _, _, hl, _ => by simp at hl
  | _ :: _, [], _, _, hl, _ => by simp at hl
theorem intsL_inj {a b : List Int} (ha : ∀ x ∈ a, In64 x) (hb : ∀ x ∈ b, In64 x) (hla : a.length ≤ 1048576) (hlb : b.length ≤ 1048576) : intsL [] a = intsL [] b ↔ a = b := by
  refine ⟨fun h => ?_, fun h => by rw [h]⟩
  simp only [intsL, List.nil_append] at h
  obtain ⟨h1, h2⟩ := enc_prefix (by unfold In64; omega) (by unfold In64; omega) h
  exact intsB_inj ha hb (by omega) h2

noncomputable def alikeSp := fam (fun i : Nat × Nat × List Int × List Int => [V.sl i.1 1 (intRow i.2.2.1), .sl i.2.1 1 (intRow i.2.2.2)]) (fun _ => []) (fun i => (i.2.2.1.length ≤ 1048576 ∧ ∀ x ∈ i.2.2.1, In64 x) ∧ (i.2.2.2.length ≤ 1048576 ∧ ∀ x ∈ i.2.2.2, In64 x)) (fun _ => ⟨.bool true, []⟩)
@[simp] theorem alikeSp_eq {t u : Nat} {l m : List Int} (h1 : l.length ≤ 1048576) (h2 : ∀ x ∈ l, In64 x) (h3 : m.length ≤ 1048576) (h4 : ∀ x ∈ m, In64 x) : alikeSp [V.sl t 1 (intRow l), .sl u 1 (intRow m)] [] = some ⟨.bool true, []⟩ :=
  fam_eq (A := fun i : Nat × Nat × List Int × List Int => [V.sl i.1 1 (intRow i.2.2.1), .sl i.2.1 1 (intRow i.2.2.2)]) (fun _ _ _ _ => rfl) (t, u, l, m) ⟨⟨h1, h2⟩, h3, h4⟩
end Go.Proofs.YtlelalnahlpcpaaGreat

/-
  wire: laws on what is written.
-/
namespace Go.Proofs.YtlelalnahlpcpaaGreat
open Go.Lift

noncomputable def C9 := mkC [(41, sameSp), (95, intSp)]
theorem C9_ok : SpecsOk Tryz.prog C9 := mkC_ok (all_cons same_spec (all_cons int_spec all_nil))
@[simp] theorem C9_1 : C9 41 = sameSp := rfl
@[simp] theorem C9_2 : C9 95 = intSp := rfl

theorem intRow_set (l : List Int) (k : Nat) (x : Int) : (intRow l).set k [V.int .i64 x] = intRow (l.set k x) := by
  simp [intRow, List.map_set]
theorem wrapIx {a n : Int} (hn : 0 < n) (hm : n ≤ 140737488355328) : ∃ k : Nat, (IntKind.i64.wrap (a.tmod n + n)).tmod n = (k : Int) ∧ (k : Int) < n := by
  have h1 := Int.tmod_lt_of_pos a hn
  have h2 := Int.lt_tmod_of_pos a hn
  rw [wrap_i64_in (by omega) (by omega)]
  have h3 : 0 ≤ (a.tmod n + n).tmod n := Int.tmod_nonneg _ (by omega)
  have h4 := Int.tmod_lt_of_pos (a.tmod n + n) hn
  exact ⟨((a.tmod n + n).tmod n).toNat, by omega, by omega⟩

end Go.Proofs.YtlelalnahlpcpaaGreat

/-
  wire: texts and lists are read.
-/
namespace Go.Proofs.YtlelalnahlpcpaaGreat
open Go.Lift

/-- A length that is read: its number, its bytes, its error. -/
noncomputable def lenT0 (l : List UInt8) : Int × Int × Int :=
  if (takeT l).2.2 = 0 then (if (takeT l).1 < 0 then (0, 0, 18) else if 65536 < (takeT l).1 then (0, 0, 2) else ((takeT l).1, (takeT l).2.1, 0)) else (0, 0, (takeT l).2.2)
noncomputable def lenT : List UInt8 → Int × Int × Int := hush lenT0
theorem lenT_eq (l : List UInt8) : lenT l = lenT0 l := by unfold lenT; rw [hush_eq]
noncomputable def lenV (l : List UInt8) : V := .tup [.int .i64 (lenT l).1, .int .i64 (lenT l).2.1, .int .i64 (lenT l).2.2]
noncomputable def lenSp := fam (fun i : Nat × List UInt8 => [V.sl i.1 1 (byteRow i.2)]) (fun _ => []) (fun _ => True) (fun i => ⟨lenV i.2, []⟩)
@[simp] theorem lenSp_eq {t : Nat} {l : List UInt8} : lenSp [V.sl t 1 (byteRow l)] [] = some ⟨lenV l, []⟩ :=
  fam_eq (A := fun i : Nat × List UInt8 => [V.sl i.1 1 (byteRow i.2)]) (fun i j h _ => by simp at h; rw [h.2]) (t, l) trivial

/-- What a length that is read can be. -/
theorem lenT_cases (l : List UInt8) : (∃ e, ¬ e = 0 ∧ lenT l = (0, 0, e)) ∨ ∃ n k : Nat, lenT l = ((n : Int), (k : Int), 0) ∧ n ≤ 65536 ∧ k ≤ l.length ∧ 1 ≤ k ∧ k ≤ 10 ∧ ∃ rest, l = enc (code (n : Int)) ++ rest ∧ k = (enc (code (n : Int))).length := by
  rcases hT : takeT l with ⟨a, b, c⟩
  by_cases hc : c = 0
  · subst hc
    by_cases ha : a < 0
    · exact .inl ⟨18, by decide, by rw [lenT_eq, lenT0, hT]; simp [ha]⟩
    · by_cases hb : 65536 < a
      · exact .inl ⟨2, by decide, by rw [lenT_eq, lenT0, hT]; simp [ha, hb]⟩
      · obtain ⟨hn, rest, h1, h2⟩ := takeT_back hT
        have e : ((a.toNat : Nat) : Int) = a := by omega
        refine .inr ⟨a.toNat, (enc (code a)).length, by rw [lenT_eq, lenT0, hT]; simp [ha, hb, h2, e], by omega, by rw [h1]; simp, enc_pos _, enc_ten _ (code_lt hn), rest, by rw [e]; exact h1, by rw [e]⟩
  · exact .inl ⟨c, hc, by rw [lenT_eq, lenT0, hT]; simp [hc]⟩

/-- A text that is read. -/
noncomputable def ttV (l : List UInt8) : V :=
  if (lenT l).2.2 = 0 then (if (l.length : Int) - (lenT l).2.1 < (lenT l).1 then .tup [.str .empty, .int .i64 0, .int .i64 17]
    else .tup [.str ⟨((l.drop (lenT l).2.1.toNat).take (lenT l).1.toNat).toArray⟩, .int .i64 ((lenT l).2.1 + (lenT l).1), .int .i64 0]) else .tup [.str .empty, .int .i64 0, .int .i64 (lenT l).2.2]
noncomputable def ttSp := fam (fun i : Nat × List UInt8 => [V.sl i.1 1 (byteRow i.2)]) (fun _ => []) (fun i => i.2.length ≤ 140737488355328) (fun i => ⟨ttV i.2, []⟩)
theorem ttSp_eq {t : Nat} {l : List UInt8} (h : l.length ≤ 140737488355328) : ttSp [V.sl t 1 (byteRow l)] [] = some ⟨ttV l, []⟩ :=
  fam_eq (A := fun i : Nat × List UInt8 => [V.sl i.1 1 (byteRow i.2)]) (fun i j h _ => by simp at h; rw [h.2]) (t, l) h

noncomputable def CU := mkC [(87, takeSp), (65, takeSp)]
theorem CU_ok : SpecsOk Tryz.prog CU := mkC_ok (all_cons take_spec (all_cons reftake_spec all_nil))
@[simp] theorem CU_1 : CU 87 = takeSp := rfl
@[simp] theorem CU_2 : CU 65 = takeSp := rfl

/-- The elements of a list that are read, from the byte k on. -/
noncomputable def tiGo : Nat → List UInt8 → Nat → List Int → List Int × Int × Int
  | 0, _, k, acc => (acc, (k : Int), 0)
  | c + 1, l, k, acc => if (takeT (l.drop k)).2.2 = 0 then tiGo c l (k + (takeT (l.drop k)).2.1.toNat) (acc ++ [(takeT (l.drop k)).1]) else ([], 0, (takeT (l.drop k)).2.2)
noncomputable def tiT (l : List UInt8) : List Int × Int × Int :=
  if (lenT l).2.2 = 0 then tiGo (lenT l).1.toNat l (lenT l).2.1.toNat [] else ([], 0, (lenT l).2.2)

def listOf (l : List Int) (tight : Bool) : AObj := ⟨3, 1, intRow l, tight, 2, .rw⟩
/-- What the program's TakeInts hands back, and the reference's. -/
def tiRes (x : List Int × Int × Int) : CRes :=
  if x.2.2 = 0 then ⟨.tup [.own 0 0 x.1.length, .int .i64 x.2.1, .int .i64 0], [listOf x.1 (decide (x.1 = []))]⟩ else ⟨.tup [.sl 0 1 [], .int .i64 0, .int .i64 x.2.2], []⟩
def rtiRes (x : List Int × Int × Int) : CRes :=
  if x.2.2 = 0 then (if x.1 = [] then ⟨.tup [.sl 0 1 [], .int .i64 x.2.1, .int .i64 0], []⟩ else ⟨.tup [.own 0 0 x.1.length, .int .i64 x.2.1, .int .i64 0], [listOf x.1 false]⟩) else ⟨.tup [.sl 0 1 [], .int .i64 0, .int .i64 x.2.2], []⟩

noncomputable def tiSp := fam (fun i : Nat × List UInt8 => [V.sl i.1 1 (byteRow i.2)]) (fun _ => []) (fun i => i.2.length ≤ 140737488355328) (fun i => tiRes (tiT i.2))
theorem tiSp_eq {t : Nat} {l : List UInt8} (h : l.length ≤ 140737488355328) : tiSp [V.sl t 1 (byteRow l)] [] = some (tiRes (tiT l)) :=
  fam_eq (A := fun i : Nat × List UInt8 => [V.sl i.1 1 (byteRow i.2)]) (res := fun i => tiRes (tiT i.2)) (fun i j h _ => by simp at h; rw [h.2]) (t, l) h
noncomputable def rtiSp := fam (fun i : Nat × List UInt8 => [V.sl i.1 1 (byteRow i.2)]) (fun _ => []) (fun i => i.2.length ≤ 140737488355328) (fun i => rtiRes (tiT i.2))
theorem rtiSp_eq {t : Nat} {l : List UInt8} (h : l.length ≤ 140737488355328) : rtiSp [V.sl t 1 (byteRow l)] [] = some (rtiRes (tiT l)) :=
  fam_eq (A := fun i : Nat × List UInt8 => [V.sl i.1 1 (byteRow i.2)]) (res := fun i => rtiRes (tiT i.2)) (fun i j h _ => by simp at h; rw [h.2]) (t, l) h

def tiSt (t : Nat) (l : List UInt8) (n : Nat) (tight : Bool) (i : Nat × Nat × List Int) : St :=
  mkSt [(0, .sl t 1 (byteRow l)), (6, .int .i64 i.2.1), (8, .own 0 0 i.2.2.length), (28, .int .i64 n), (29, .int .i64 i.1)] [(0, listOf i.2.2 (if i.2.2 = [] then tight else false))] 1

/-- What an element that is read can be. -/
theorem elem_cases (l : List UInt8) (k : Nat) (hk : k ≤ l.length) : (∃ e, ¬ e = 0 ∧ takeT (l.drop k) = (0, 0, e)) ∨ ∃ (x : Int) (m : Nat), takeT (l.drop k) = (x, (m : Int), 0) ∧ In64 x ∧ k + m ≤ l.length := by
  rcases takeT_err (l.drop k) with h | h | ⟨x, m, h⟩
  · exact .inl ⟨17, by decide, h⟩
  · exact .inl ⟨18, by decide, h⟩
  · obtain ⟨hx, rest, h1, h2⟩ := takeT_back h
    refine .inr ⟨x, (enc (code x)).length, by rw [h, h2], hx, ?_⟩
    have := congrArg List.length h1
    simp only [List.length_drop, List.length_append] at this
    omega

def rtiSt (t : Nat) (l : List UInt8) (n : Nat) (i : Nat × Nat × List Int) : St :=
  mkSt [(0, .sl t 1 (byteRow l)), (5, .int .i64 n), (6, .int .i64 i.2.1), (8, if i.2.2 = [] then .sl 0 1 [] else .own 0 0 i.2.2.length), (9, .int .i64 i.1)] (if i.2.2 = [] then [] else [(0, listOf i.2.2 false)]) 1

end Go.Proofs.YtlelalnahlpcpaaGreat

/-
  wire: what is given stays in front.
-/
namespace Go.Proofs.YtlelalnahlpcpaaGreat
open Go.Lift

theorem wrapCut {a : Int} {n : Nat} (hm : n ≤ 300) : ∃ k : Nat, (IntKind.i64.wrap (IntKind.i64.wrap (a.tmod ((n : Int) + 1) + n) + 1)).tmod ((n : Int) + 1) = (k : Int) ∧ k ≤ n := by
  have hn : (0 : Int) < (n : Int) + 1 := by omega
  have h1 := Int.tmod_lt_of_pos a hn
  have h2 := Int.lt_tmod_of_pos a hn
  rw [wrap_i64_in (x := a.tmod ((n : Int) + 1) + n) (by omega) (by omega), wrap_i64_in (by omega) (by omega)]
  have h3 : 0 ≤ (a.tmod ((n : Int) + 1) + n + 1).tmod ((n : Int) + 1) := Int.tmod_nonneg _ (by omega)
  have h4 := Int.tmod_lt_of_pos (a.tmod ((n : Int) + 1) + n + 1) hn
  exact ⟨((a.tmod ((n : Int) + 1) + n + 1).tmod ((n : Int) + 1)).toNat, by omega, by omega⟩

end Go.Proofs.YtlelalnahlpcpaaGreat

/-
  wire: laws on what is read.
-/
namespace Go.Proofs.YtlelalnahlpcpaaGreat
open Go.Lift

theorem ttV_form (l : List UInt8) : ∃ (s : ByteArray) (k e : Int), ttV l = .tup [.str s, .int .i64 k, .int .i64 e] := by
  unfold ttV
  split
  · split
    · exact ⟨_, _, _, rfl⟩
    · exact ⟨_, _, _, rfl⟩
  · exact ⟨_, _, _, rfl⟩
theorem tiGo_len : ∀ (c : Nat) (l : List UInt8) (k : Nat) (acc : List Int), (tiGo c l k acc).1.length ≤ acc.length + c
  | 0, l, k, acc => by rw [tiGo]; exact Nat.le_refl _
  | c + 1, l, k, acc => by
    rw [tiGo]
    split
    · have := tiGo_len c l (k + (takeT (l.drop k)).2.1.toNat) (acc ++ [(takeT (l.drop k)).1])
      simp only [List.length_append, List.length_cons, List.length_nil] at this
      omega
    · simp
theorem tiT_len (l : List UInt8) : (tiT l).1.length ≤ 65536 := by
  unfold tiT
  rcases lenT_cases l with ⟨e, he, hL⟩ | ⟨n, k, hL, hn, _⟩
  · simp [hL, he]
  · rw [hL]
    have := tiGo_len n l k []
    simp only [if_pos, Int.toNat_natCast]
    simp only [List.length_nil] at this
    omega

noncomputable def CZ := mkC [(34, intSp)]
theorem CZ_ok : SpecsOk Tryz.prog CZ := mkC_ok (all_cons refint_spec all_nil)
@[simp] theorem CZ_1 : CZ 34 = intSp := rfl

def wlSt (n : Int) (i : Nat × List UInt8) : St :=
  if i.1 = 0 then mkSt [(0, .sl 2 1 (byteRow i.2)), (1, .int .i64 n), (5, .int .i64 0)] [] 1
  else mkSt [(0, .own 0 0 i.2.length), (1, .int .i64 n), (5, .int .i64 i.1)] [(0, rowOf i.2)] 1

end Go.Proofs.YtlelalnahlpcpaaGreat

/-
  wire: texts and lists are read back.
-/
namespace Go.Proofs.YtlelalnahlpcpaaGreat
open Go.Lift

theorem lenT_enc {n : Nat} (hn : n ≤ 65536) (rest : List UInt8) : lenT (enc (code (n : Int)) ++ rest) = ((n : Int), ((enc (code (n : Int))).length : Int), 0) := by
  have h := takeT_enc (n := (n : Int)) (by unfold In64; omega) rest
  rw [lenT_eq, lenT0, h]
  have h1 : ¬ (n : Int) < 0 := by omega
  have h2 : ¬ (65536 : Int) < (n : Int) := by omega
  simp [h2]

theorem tiGo_enc (more : List UInt8) : ∀ (ns : List Int) (l : List UInt8) (k : Nat) (acc : List Int), (∀ x ∈ ns, In64 x) → l.drop k = intsB ns ++ more → tiGo ns.length l k acc = (acc ++ ns, ((k + (intsB ns).length : Nat) : Int), 0)
  | [], l, k, acc, _, _ => by rw [List.length_nil, tiGo]; simp [intsB]
  | x :: ns, l, k, acc, h, hl => by
    have e : intsB (x :: ns) = enc (code x) ++ intsB ns := rfl
    rw [e, List.append_assoc] at hl
    have ht := takeT_enc (h x (List.mem_cons_self ..)) (intsB ns ++ more)
    rw [List.length_cons, tiGo, hl, ht, if_pos rfl]
    simp only [Int.toNat_natCast]
    have hd : l.drop (k + (enc (code x)).length) = intsB ns ++ more := by
      rw [← List.drop_drop, hl, List.drop_left]
    rw [tiGo_enc more ns l _ _ (fun y hy => h y (List.mem_cons_of_mem _ hy)) hd, e, List.length_append]
    simp only [List.append_assoc, List.cons_append, List.nil_append, Prod.mk.injEq, true_and, and_true]
    omega

theorem tiT_back {ns : List Int} (hn : ns.length ≤ 65536) (h : ∀ x ∈ ns, In64 x) (more : List UInt8) : tiT (intsL [] ns ++ more) = (ns, ((intsL [] ns).length : Int), 0) := by
  have hl : intsL [] ns ++ more = enc (code (ns.length : Int)) ++ (intsB ns ++ more) := by simp [intsL]
  have h1 := lenT_enc hn (intsB ns ++ more)
  rw [← hl] at h1
  have hd : (intsL [] ns ++ more).drop (enc (code (ns.length : Int))).length = intsB ns ++ more := by rw [hl, List.drop_left]
  unfold tiT
  rw [h1, if_pos rfl]
  simp only [Int.toNat_natCast]
  rw [tiGo_enc more ns _ _ [] h hd]
  simp [intsL]

theorem ttV_back {s : ByteArray} (hs : s.size ≤ 65536) (more : List UInt8) : ttV (textB [] s ++ more) = .tup [.str s, .int .i64 (textB [] s).length, .int .i64 0] := by
  have hl : textB [] s ++ more = enc (code (s.size : Int)) ++ (s.data.toList ++ more) := by simp [textB]
  have h1 := lenT_enc hs (s.data.toList ++ more)
  rw [← hl] at h1
  have hd : (textB [] s ++ more).drop (enc (code (s.size : Int))).length = s.data.toList ++ more := by rw [hl, List.drop_left]
  have hlen : (textB [] s ++ more).length = (enc (code (s.size : Int))).length + (s.size + more.length) := by rw [hl]; simp
  have hs2 : ¬ (((textB [] s ++ more).length : Nat) : Int) - ((enc (code (s.size : Int))).length : Int) < (s.size : Int) := by rw [hlen]; omega
  have ht : (s.data.toList ++ more).take s.size = s.data.toList := by
    apply List.take_left'
    simp
  unfold ttV
  rw [h1, if_pos rfl, if_neg hs2]
  simp only [Int.toNat_natCast]
  rw [hd, ht]
  simp [textB]

theorem textSp_nil {t : Nat} {s : ByteArray} (h : s.size ≤ 65536) : textSp [V.sl t 1 [], .str s] [] = some ⟨.own 0 0 (textB [] s).length, [rowOf (textB [] s)]⟩ :=
  textSp_eq (t := t) (l := []) (by simp; omega)

end Go.Proofs.YtlelalnahlpcpaaGreat

