/-
  wire: the bytes of integers, and the small functions.
-/
import Derived.Test.YtgnfgcpolbcaoaaT1
import Derived.Test.YtgnfgcpolbcaoaaT2
namespace Go.Proofs.Ytgnfgcpolbcaoaa
open Go.Lift

/-- The code of an integer. -/
def code (n : Int) : Nat := if n < 0 then (-2 * n - 1).toNat else (2 * n).toNat



/-- A code's last byte, and a byte that more follow. -/
def loB (u : Nat) : UInt8 := UInt8.ofNat u
def hiB (u : Nat) : UInt8 := UInt8.ofNat (u % 128 + 128)

/-- The bytes of a code. -/
def enc (u : Nat) : List UInt8 := if u < 128 then [loB u] else hiB u :: enc (u / 128)
termination_by u
decreasing_by omega

theorem enc_small {u : Nat} (h : u < 128) : enc u = [loB u] := by rw [enc, if_pos h]
theorem enc_great {u : Nat} (h : ¬ u < 128) : enc u = hiB u :: enc (u / 128) := by rw [enc, if_neg h]
theorem enc_len (k : Nat) : ∀ u, u < 128 ^ (k + 1) → (enc u).length ≤ k + 1 := by
  induction k with
  | zero => intro u h; rw [enc_small (by omega)]; simp
  | succ k ih =>
    intro u h
    by_cases hu : u < 128
    · rw [enc_small hu]; simp
    · rw [enc_great hu, List.length_cons]
      have : u / 128 < 128 ^ (k + 1) := by
        rw [Nat.div_lt_iff_lt_mul (by omega), ← Nat.pow_succ]; exact h
      have := ih _ this
      omega
theorem enc_ten (u : Nat) (h : u < 18446744073709551616) : (enc u).length ≤ 10 := enc_len 9 u (Nat.lt_of_lt_of_le h (by decide))
theorem enc_pos (u : Nat) : 1 ≤ (enc u).length := by
  by_cases hu : u < 128
  · rw [enc_small hu]; simp
  · rw [enc_great hu]; simp
theorem code_lt {n : Int} (h : In64 n) : code n < 18446744073709551616 := by unfold In64 at h; unfold code; split <;> omega
theorem fdiv_nat (u : Nat) : (u : Int).fdiv 128 = ((u / 128 : Nat) : Int) := by
  rw [Int.fdiv_eq_ediv_of_nonneg _ (by omega)]; rfl
theorem tmod_nat (u : Nat) : (u : Int).tmod 128 = ((u % 128 : Nat) : Int) := rfl
theorem u8_low (u : Nat) : IntKind.u8.wrap (u : Int) = ((loB u).toNat : Int) := by
  rw [wrap_u8]; simp [loB]
theorem u8_high (u : Nat) : IntKind.u8.wrap (IntKind.u8.wrap ((u : Int).tmod 128) + 128) = ((hiB u).toNat : Int) := by
  rw [wrap_u8, wrap_u8, tmod_nat]; simp [hiB]

/-! ### The functions -/
noncomputable def codeSp := fam (fun n : Int => [V.int .i64 n]) (fun _ => []) In64 (fun n => ⟨.int .u64 (code n), []⟩)
@[simp] theorem codeSp_eq {n : Int} (h : In64 n) : codeSp [V.int .i64 n] [] = some ⟨.int .u64 (code n), []⟩ :=
  fam_eq (A := fun n : Int => [V.int .i64 n]) (fun i j h _ => by simp at h; rw [h]) n h

theorem encode_spec : Lift.Spec Try.prog 43 codeSp := by
  refine spec_fam (C := C0) types_ok C0_ok follows Try.func43 (by kernel_rfl) rfl (by kernel_rfl) rfl ?_
  intro n hn
  refine ⟨by simp, ?_⟩
  intro r hr
  unfold In64 at hn
  simp
  refine condV_split (fun h => ?_) (fun h => ?_)
  · simp
    rw [hr]; refine ret_closed rfl ?_ rfl
    simp [wrap_u64, code, h]
    omega
  · simp
    rw [hr]; refine ret_closed rfl ?_ rfl
    simp [wrap_u64, code, h]
    omega

theorem refcode_spec : Lift.Spec Try.prog 39 codeSp := by
  refine spec_fam (C := C0) types_ok C0_ok follows Try.func39 (by kernel_rfl) rfl (by kernel_rfl) rfl ?_
  intro n hn
  refine ⟨by simp, ?_⟩
  intro r hr
  unfold In64 at hn
  simp
  refine condV_split (fun h => ?_) (fun h => ?_)
  · simp
    rw [hr]; refine ret_closed rfl ?_ rfl
    simp [wrap_u64, code, show ¬ n < 0 by omega]
    omega
  · simp
    rw [hr]; refine ret_closed rfl ?_ rfl
    simp [wrap_u64, wrap_i64, code, show n < 0 by omega]
    omega

/-- Bytes in new memory. -/
def rowOf (l : List UInt8) : AObj := ⟨5, 1, byteRow l, false, 2, .rw⟩
@[simp] theorem rowOf_eq {a b : List UInt8} : rowOf a = rowOf b ↔ a = b := by simp [rowOf]

noncomputable def copySp := fam (fun i : Nat × List UInt8 × Int => [V.sl i.1 1 (byteRow i.2.1), .int .i64 i.2.2]) (fun _ => []) (fun i => 0 ≤ i.2.2 ∧ i.2.1.length + i.2.2 ≤ 140737488351232) (fun i => ⟨.own 0 0 i.2.1.length, [rowOf i.2.1]⟩)
@[simp] theorem copySp_eq {t : Nat} {l : List UInt8} {m : Int} (h0 : 0 ≤ m) (h : l.length + m ≤ 140737488351232) : copySp [V.sl t 1 (byteRow l), .int .i64 m] [] = some ⟨.own 0 0 l.length, [rowOf l]⟩ :=
  fam_eq (A := fun i : Nat × List UInt8 × Int => [V.sl i.1 1 (byteRow i.2.1), .int .i64 i.2.2]) (fun i j h _ => by simp at h; rw [h.1.2]) (t, l, m) ⟨h0, h⟩

theorem copy_spec : Lift.Spec Try.prog 35 copySp := by
  refine spec_fam (C := C0) types_ok C0_ok follows Try.func35 (by kernel_rfl) rfl (by kernel_rfl) rfl ?_
  rintro ⟨t, l, m⟩ hm
  simp only at hm
  refine ⟨by simp, ?_⟩
  intro r hr
  have hw : IntKind.i64.wrap ((l.length : Int) + m) = l.length + m := wrap_i64_in (by omega) (by omega)
  have h1 : 0 ≤ (l.length : Int) + m := by omega
  have h2 : (l.length : Int) + m ≤ 140737488351232 := by omega
  have h3 : (l.length : Int) + m ≤ 140737488355328 := by omega
  have h4 : (l.length : Int) ≤ 140737488355328 := by omega
  simp [hw, h1, h2, h3, h4]
  rw [hr]; refine ret_own rfl rfl ?_ (by simp [rowOf])
  simp [rowOf]

/-- What is appended to the caller's own bytes. -/
noncomputable def appSp := fam (fun i : List UInt8 × Int => [V.own 0 0 i.1.length, .int .i64 i.2]) (fun i => [rowOf i.1]) (fun i => In64 i.2 ∧ (i.1.length : Int) ≤ 140737488355318) (fun i => ⟨.own 1 0 (i.1.length + (enc (code i.2)).length), [kill (rowOf i.1), rowOf (i.1 ++ enc (code i.2))]⟩)
@[simp] theorem appSp_eq {l : List UInt8} {n : Int} {k : Nat} (hk : k = l.length) (h : In64 n) (h0 : (l.length : Int) ≤ 140737488355318) : appSp [V.own 0 0 k, .int .i64 n] [⟨5, 1, byteRow l, false, 2, .rw⟩] = some ⟨.own 1 0 (l.length + (enc (code n)).length), [kill (rowOf l), rowOf (l ++ enc (code n))]⟩ := by
  subst hk
  exact fam_eq (A := fun i : List UInt8 × Int => [V.own 0 0 i.1.length, .int .i64 i.2]) (O := fun i => [rowOf i.1]) (fun i j h h' => by simp at h h'; rw [h', h.2]) (l, n) ⟨h, h0⟩

@[simp] theorem appSp_sl {a b : Nat} {c : List (List V)} {v : V} {os : List AObj} : appSp [V.sl a b c, v] os = none := fam_none (fun i h _ => by simp at h)

def appSt (l : List UInt8) (i : Bool × List UInt8 × Nat) : St :=
  mkSt [(0, .own (if i.1 then 1 else 0) 0 i.2.1.length), (5, .int .u64 i.2.2)] (if i.1 then [(0, kill (rowOf l)), (1, rowOf i.2.1)] else [(0, rowOf l)]) 2
end Go.Proofs.Ytgnfgcpolbcaoaa
