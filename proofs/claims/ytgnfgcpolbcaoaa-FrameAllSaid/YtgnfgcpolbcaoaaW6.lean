/-
  wire: laws on integers.
-/
import Derived.Test.YtgnfgcpolbcaoaaW5
namespace Go.Proofs.Ytgnfgcpolbcaoaa
open Go.Lift

noncomputable def fewSp1 := fam (fun n : Int => [V.int .i64 n]) (fun _ => []) (fun _ => True) (fun n => ⟨.bool (decide (n ≤ 300)), []⟩)
@[simp] theorem fewSp1_eq {n : Int} : fewSp1 [V.int .i64 n] [] = some ⟨.bool (decide (n ≤ 300)), []⟩ :=
  fam_eq (A := fun n : Int => [V.int .i64 n]) (fun i j h _ => by simp at h; rw [h]) n trivial
noncomputable def CY := mkC [(24, intSp), (28, intSp), (42, takeSp), (32, takeSp), (12, sameSp)]
theorem CY_ok : SpecsOk Try.prog CY := mkC_ok (all_cons int_spec (all_cons refint_spec (all_cons take_spec (all_cons reftake_spec (all_cons same_spec all_nil)))))
@[simp] theorem CY_1 : CY 24 = intSp := rfl
@[simp] theorem CY_2 : CY 28 = intSp := rfl
@[simp] theorem CY_3 : CY 42 = takeSp := rfl
@[simp] theorem CY_4 : CY 32 = takeSp := rfl
@[simp] theorem CY_5 : CY 12 = sameSp := rfl

theorem iOr_u8 (a b : Int) : ∃ y : UInt8, iOr .u8 a b = (y.toNat : Int) := by
  refine ⟨UInt8.ofNat (BitVec.ofInt IntKind.u8.bits a ||| BitVec.ofInt IntKind.u8.bits b).toNat, ?_⟩
  unfold iOr
  rw [wrap_u8, u8_nat]; omega
theorem byteRow_set (l : List UInt8) (k : Nat) (x : UInt8) : (byteRow l).set k [V.int .u8 x.toNat] = byteRow (l.set k x) := by
  simp [byteRow, List.map_set]

def wtSt (l : List UInt8) (hi : Int) (i : Nat × List UInt8) : St :=
  mkSt [(0, .sl 2 1 (byteRow l)), (1, .int .i64 hi), (5, .own 0 0 i.2.length), (6, .int .i64 i.1)] [(0, rowOf i.2)] 1

theorem enc_one (u : Nat) : (enc u).length = 1 ↔ u < 128 := by
  by_cases h : u < 128
  · rw [enc_small h]; simp [h]
  · rw [enc_great h, List.length_cons]
    have := enc_pos (u / 128)
    omega
theorem enc_at : ∀ (u i : Nat) (x : UInt8), (enc u)[i]? = some x → (x.toNat < 128 ↔ i + 1 = (enc u).length) := by
  intro u
  induction u using Nat.strongRecOn with
  | _ u ih =>
    intro i x hx
    by_cases h : u < 128
    · rw [enc_small h] at hx ⊢
      cases i with
      | zero => simp at hx; subst hx; simp [loB_nat h, h]
      | succ i => simp at hx
    · rw [enc_great h] at hx ⊢
      cases i with
      | zero =>
        simp at hx; subst hx
        rw [hiB_nat, List.length_cons]
        have := enc_pos (u / 128)
        omega
      | succ i =>
        rw [List.length_cons]
        have := ih (u / 128) (by omega) i x (by simpa using hx)
        omega
theorem code_one {n : Int} : code n < 128 ↔ -64 ≤ n ∧ n ≤ 63 := by unfold code; split <;> omega

def shSt (n : Int) (E : List UInt8) (i : Nat) : St :=
  mkSt [(0, .int .i64 n), (3, .own 0 0 E.length), (4, .int .i64 i)] [(0, rowOf E)] 1

end Go.Proofs.Ytgnfgcpolbcaoaa
