/-
  Texts: W1, W2, W3, W4.
-/
import Derived.Test.YtpahppndnpeiaaaT1
import Derived.Test.YtpahppndnpeiaaaT2
import Derived.Laws.Strings
set_option linter.unusedSimpArgs false
set_option linter.unusedVariables false
/-
  wire: the bytes of integers, and the small functions.
-/
namespace Go.Proofs.Ytpahppndnpeiaaa
open Go.Lift

/-- The code of an integer. -/
def code (n : Int) : Nat := if n < 0 then (-2 * n - 1).toNat else (2 * n).toNat



/-- A code's last byte, and a byte that more follow. -/
def loB (u : Nat) : UInt8 := UInt8.ofNat u
def hiB (u : Nat) : UInt8 := UInt8.ofNat (u % 128 + 128)

/-- The bytes of a code. -/
def enc (u : Nat) : List UInt8 := if u < 128 then [loB u] else hiB u :: enc (u / 128)
termination_by u
decreasing_by omega

theorem enc_small {u : Nat} (h : u < 128) : enc u = [loB u] := by rw [enc, if_pos h]
theorem enc_great {u : Nat} (h : ¬ u < 128) : enc u = hiB u :: enc (u / 128) := by rw [enc, if_neg h]
theorem enc_len (k : Nat) : ∀ u, u < 128 ^ (k + 1) → (enc u).length ≤ k + 1 := by
  induction k with
  | zero => intro u h; rw [enc_small (by omega)]; simp
  | succ k ih =>
    intro u h
    by_cases hu : u < 128
    · rw [enc_small hu]; simp
    · rw [enc_great hu, List.length_cons]
      have : u / 128 < 128 ^ (k + 1) := by
        rw [Nat.div_lt_iff_lt_mul (by omega), ← Nat.pow_succ]; exact h
      have := ih _ this
      omega
theorem enc_ten (u : Nat) (h : u < 18446744073709551616) : (enc u).length ≤ 10 := enc_len 9 u (Nat.lt_of_lt_of_le h (by decide))
theorem enc_pos (u : Nat) : 1 ≤ (enc u).length := by
  by_cases hu : u < 128
  · rw [enc_small hu]; simp
  · rw [enc_great hu]; simp
theorem code_lt {n : Int} (h : In64 n) : code n < 18446744073709551616 := by unfold In64 at h; unfold code; split <;> omega
theorem fdiv_nat (u : Nat) : (u : Int).fdiv 128 = ((u / 128 : Nat) : Int) := by
  rw [Int.fdiv_eq_ediv_of_nonneg _ (by omega)]; rfl
theorem tmod_nat (u : Nat) : (u : Int).tmod 128 = ((u % 128 : Nat) : Int) := rfl
theorem u8_low (u : Nat) : IntKind.u8.wrap (u : Int) = ((loB u).toNat : Int) := by
  rw [wrap_u8]; simp [loB]
theorem u8_high (u : Nat) : IntKind.u8.wrap (IntKind.u8.wrap ((u : Int).tmod 128) + 128) = ((hiB u).toNat : Int) := by
  rw [wrap_u8, wrap_u8, tmod_nat]; simp [hiB]

/-! ### The functions -/
noncomputable def codeSp := fam (fun n : Int => [V.int .i64 n]) (fun _ => []) In64 (fun n => ⟨.int .u64 (code n), []⟩)
@[simp] theorem codeSp_eq {n : Int} (h : In64 n) : codeSp [V.int .i64 n] [] = some ⟨.int .u64 (code n), []⟩ :=
  fam_eq (A := fun n : Int => [V.int .i64 n]) (fun i j h _ => by simp at h; rw [h]) n h

/-- Bytes in new memory. -/
def rowOf (l : List UInt8) : AObj := ⟨5, 1, byteRow l, false, 2, .rw⟩
@[simp] theorem rowOf_eq {a b : List UInt8} : rowOf a = rowOf b ↔ a = b := by simp [rowOf]

noncomputable def copySp := fam (fun i : Nat × List UInt8 × Int => [V.sl i.1 1 (byteRow i.2.1), .int .i64 i.2.2]) (fun _ => []) (fun i => 0 ≤ i.2.2 ∧ i.2.1.length + i.2.2 ≤ 140737488351232) (fun i => ⟨.own 0 0 i.2.1.length, [rowOf i.2.1]⟩)
@[simp] theorem copySp_eq {t : Nat} {l : List UInt8} {m : Int} (h0 : 0 ≤ m) (h : l.length + m ≤ 140737488351232) : copySp [V.sl t 1 (byteRow l), .int .i64 m] [] = some ⟨.own 0 0 l.length, [rowOf l]⟩ :=
  fam_eq (A := fun i : Nat × List UInt8 × Int => [V.sl i.1 1 (byteRow i.2.1), .int .i64 i.2.2]) (fun i j h _ => by simp at h; rw [h.1.2]) (t, l, m) ⟨h0, h⟩

/-- What is appended to the caller's own bytes. -/
noncomputable def appSp := fam (fun i : List UInt8 × Int => [V.own 0 0 i.1.length, .int .i64 i.2]) (fun i => [rowOf i.1]) (fun i => In64 i.2 ∧ (i.1.length : Int) ≤ 140737488355318) (fun i => ⟨.own 1 0 (i.1.length + (enc (code i.2)).length), [kill (rowOf i.1), rowOf (i.1 ++ enc (code i.2))]⟩)
@[simp] theorem appSp_eq {l : List UInt8} {n : Int} {k : Nat} (hk : k = l.length) (h : In64 n) (h0 : (l.length : Int) ≤ 140737488355318) : appSp [V.own 0 0 k, .int .i64 n] [⟨5, 1, byteRow l, false, 2, .rw⟩] = some ⟨.own 1 0 (l.length + (enc (code n)).length), [kill (rowOf l), rowOf (l ++ enc (code n))]⟩ := by
  subst hk
  exact fam_eq (A := fun i : List UInt8 × Int => [V.own 0 0 i.1.length, .int .i64 i.2]) (O := fun i => [rowOf i.1]) (fun i j h h' => by simp at h h'; rw [h', h.2]) (l, n) ⟨h, h0⟩

@[simp] theorem appSp_sl {a b : Nat} {c : List (List V)} {v : V} {os : List AObj} : appSp [V.sl a b c, v] os = none := fam_none (fun i h _ => by simp at h)

def appSt (l : List UInt8) (i : Bool × List UInt8 × Nat) : St :=
  mkSt [(0, .own (if i.1 then 1 else 0) 0 i.2.1.length), (5, .int .u64 i.2.2)] (if i.1 then [(0, kill (rowOf l)), (1, rowOf i.2.1)] else [(0, rowOf l)]) 2
end Go.Proofs.Ytpahppndnpeiaaa

/-
  wire: bytes of integers are appended.
-/
namespace Go.Proofs.Ytpahppndnpeiaaa
open Go.Lift

noncomputable def C2 := mkC []
theorem C2_ok : SpecsOk Try.prog C2 := mkC_ok all_nil

noncomputable def C3 := mkC []
theorem C3_ok : SpecsOk Try.prog C3 := mkC_ok all_nil

/-- Bytes, followed by those of an integer. -/
noncomputable def intSp := fam (fun i : Nat × List UInt8 × Int => [V.sl i.1 1 (byteRow i.2.1), .int .i64 i.2.2]) (fun _ => []) (fun i => In64 i.2.2 ∧ (i.2.1.length : Int) ≤ 140737488351222) (fun i => ⟨.own 0 0 (i.2.1.length + (enc (code i.2.2)).length), [rowOf (i.2.1 ++ enc (code i.2.2))]⟩)
@[simp] theorem intSp_eq {t : Nat} {l : List UInt8} {n : Int} (h : In64 n) (h0 : (l.length : Int) ≤ 140737488351222) : intSp [V.sl t 1 (byteRow l), .int .i64 n] [] = some ⟨.own 0 0 (l.length + (enc (code n)).length), [rowOf (l ++ enc (code n))]⟩ :=
  fam_eq (A := fun i : Nat × List UInt8 × Int => [V.sl i.1 1 (byteRow i.2.1), .int .i64 i.2.2]) (fun i j h _ => by simp at h; rw [h.1.2, h.2]) (t, l, n) ⟨h, h0⟩

def refSt (i : List UInt8 × Nat) : St := mkSt [(5, .own 0 0 i.1.length), (6, .int .u64 i.2)] [(0, rowOf i.1)] 1

end Go.Proofs.Ytpahppndnpeiaaa

/-
  wire: TakeInt, and the reference's.
-/
namespace Go.Proofs.Ytpahppndnpeiaaa
open Go.Lift

noncomputable def sameSp := fam (fun i : Nat × Nat × List UInt8 × List UInt8 => [V.sl i.1 1 (byteRow i.2.2.1), .sl i.2.1 1 (byteRow i.2.2.2)]) (fun _ => []) (fun _ => True) (fun i => ⟨.bool (decide (i.2.2.1 = i.2.2.2)), []⟩)
@[simp] theorem sameSp_eq {t u : Nat} {l m : List UInt8} : sameSp [V.sl t 1 (byteRow l), .sl u 1 (byteRow m)] [] = some ⟨.bool (decide (l = m)), []⟩ :=
  fam_eq (A := fun i : Nat × Nat × List UInt8 × List UInt8 => [V.sl i.1 1 (byteRow i.2.2.1), .sl i.2.1 1 (byteRow i.2.2.2)]) (fun i j h _ => by simp at h; rw [h.1.2, h.2.2]) (t, u, l, m) trivial

theorem same_spec : Lift.Spec Try.prog 15 sameSp := by
  refine spec_fam (C := C0) types_ok C0_ok follows Try.func15 (by kernel_rfl) rfl (by kernel_rfl) rfl ?_
  rintro ⟨t, u, l, m⟩ _
  refine ⟨by simp, ?_⟩
  intro r hr
  simp
  rw [hr]; refine ret_closed rfl ?_ rfl
  simp [Bool.beq_eq_decide_eq]

def padB (i x : Int) : Bool := decide (0 < i ∧ x = 0)
def greatB (i x : Int) : Bool := decide (i = 9 ∧ 1 < x)
noncomputable def padSp := fam (fun i : Int × Int => [V.int .i64 i.1, .int .u8 i.2]) (fun _ => []) (fun _ => True) (fun i => ⟨.bool (padB i.1 i.2), []⟩)
@[simp] theorem padSp_eq {i x : Int} : padSp [V.int .i64 i, .int .u8 x] [] = some ⟨.bool (padB i x), []⟩ :=
  fam_eq (A := fun i : Int × Int => [V.int .i64 i.1, .int .u8 i.2]) (fun i j h _ => by simp at h; rw [h.1, h.2]) (i, x) trivial
noncomputable def greatSp := fam (fun i : Int × Int => [V.int .i64 i.1, .int .u8 i.2]) (fun _ => []) (fun _ => True) (fun i => ⟨.bool (greatB i.1 i.2), []⟩)
@[simp] theorem greatSp_eq {i x : Int} : greatSp [V.int .i64 i, .int .u8 x] [] = some ⟨.bool (greatB i x), []⟩ :=
  fam_eq (A := fun i : Int × Int => [V.int .i64 i.1, .int .u8 i.2]) (fun i j h _ => by simp at h; rw [h.1, h.2]) (i, x) trivial
/-- The integer of a code. -/
def decodeN (c : Nat) : Int := if c % 2 = 1 then -((c / 2 : Nat) : Int) - 1 else ((c / 2 : Nat) : Int)
theorem decode_code {n : Int} : decodeN (code n) = n := by unfold decodeN code; split <;> split <;> omega
theorem code_decode {c : Nat} : code (decodeN c) = c := by unfold decodeN code; split <;> split <;> omega
theorem decode_in {c : Nat} (h : c < 18446744073709551616) : In64 (decodeN c) := by unfold In64 decodeN; split <;> omega

noncomputable def decodeSp := fam (fun c : Nat => [V.int .u64 c]) (fun _ => []) (fun c => c < 18446744073709551616) (fun c => ⟨.int .i64 (decodeN c), []⟩)
@[simp] theorem decodeSp_eq {c : Nat} (h : c < 18446744073709551616) : decodeSp [V.int .u64 (c : Int)] [] = some ⟨.int .i64 (decodeN c), []⟩ :=
  fam_eq (A := fun c : Nat => [V.int .u64 (c : Int)]) (fun i j h _ => by simp at h; rw [show i = j by omega]) c h
/-- What TakeInt answers from its byte i on. -/
def takeAt : List UInt8 → Nat → Nat → Int × Int × Int
  | [], i, _ => if i < 10 then (0, 0, 17) else (0, 0, 18)
  | x :: l, i, c =>
    if 10 ≤ i then (0, 0, 18)
    else if 128 ≤ x.toNat then takeAt l (i + 1) (c + x.toNat % 128 * 2 ^ (7 * i))
    else if (0 < i ∧ x.toNat = 0) ∨ (i = 9 ∧ 1 < x.toNat) then (0, 0, 18) else (decodeN (c + x.toNat * 2 ^ (7 * i)), (i : Int) + 1, 0)

noncomputable def takeT : List UInt8 → Int × Int × Int := hush fun l => takeAt l 0 0
theorem takeT_eq (l : List UInt8) : takeT l = takeAt l 0 0 := by unfold takeT; rw [hush_eq]
noncomputable def takeV (l : List UInt8) : V := .tup [.int .i64 (takeT l).1, .int .i64 (takeT l).2.1, .int .i64 (takeT l).2.2]
noncomputable def takeSp := fam (fun i : Nat × List UInt8 => [V.sl i.1 1 (byteRow i.2)]) (fun _ => []) (fun _ => True) (fun i => ⟨takeV i.2, []⟩)
@[simp] theorem takeSp_eq {t : Nat} {l : List UInt8} : takeSp [V.sl t 1 (byteRow l)] [] = some ⟨takeV l, []⟩ :=
  fam_eq (A := fun i : Nat × List UInt8 => [V.sl i.1 1 (byteRow i.2)]) (fun i j h _ => by simp at h; rw [h.2]) (t, l) trivial

noncomputable def CT := mkC []
theorem CT_ok : SpecsOk Try.prog CT := mkC_ok all_nil

/-- The tenth byte aside, bits are added. -/
theorem or_bits {c y i : Nat} (hc : c < 2 ^ (7 * i)) (hy : c + y * 2 ^ (7 * i) < 18446744073709551616) : iOr .u64 (c : Int) (IntKind.u64.wrap ((y : Int) * 2 ^ (7 * i))) = ((c + y * 2 ^ (7 * i) : Nat) : Int) := by
  have e1 : (y : Int) * 2 ^ (7 * i) = ((y * 2 ^ (7 * i) : Nat) : Int) := by simp
  have e2 : y * 2 ^ (7 * i) < 18446744073709551616 := by omega
  rw [e1, wrap_u64_in (x := ((y * 2 ^ (7 * i) : Nat) : Int)) (by omega) (by omega)]
  have : (BitVec.ofInt 64 (c : Int) ||| BitVec.ofInt 64 ((y * 2 ^ (7 * i) : Nat) : Int)).toNat = c + y * 2 ^ (7 * i) := by
    rw [BitVec.toNat_or, BitVec.ofInt_natCast, BitVec.ofInt_natCast, BitVec.toNat_ofNat, BitVec.toNat_ofNat, Nat.mod_eq_of_lt (by omega), Nat.mod_eq_of_lt (by omega), Nat.or_comm, Nat.mul_comm y, ← Nat.two_pow_add_eq_or_of_lt hc]
    omega
  show IntKind.u64.wrap ((BitVec.ofInt 64 (c : Int) ||| BitVec.ofInt 64 ((y * 2 ^ (7 * i) : Nat) : Int)).toNat : Int) = _
  rw [this]
  exact wrap_u64_in (by omega) (by omega)

theorem pow_bits {c y i : Nat} (hc : c < 2 ^ (7 * i)) (hi : i ≤ 8) (hy : y < 128) : c + y * 2 ^ (7 * i) < 2 ^ (7 * (i + 1)) ∧ c + y * 2 ^ (7 * i) < 18446744073709551616 := by
  have e : 2 ^ (7 * (i + 1)) = 128 * 2 ^ (7 * i) := by rw [show 7 * (i + 1) = 7 * i + 7 by omega, Nat.pow_add]; omega
  have h1 : y * 2 ^ (7 * i) ≤ 127 * 2 ^ (7 * i) := Nat.mul_le_mul_right _ (by omega)
  have h2 : 2 ^ (7 * (i + 1)) ≤ 2 ^ 63 := Nat.pow_le_pow_right (by decide) (by omega)
  have h3 : (2 : Nat) ^ 63 = 9223372036854775808 := by decide
  omega
theorem takeAt_ten (l : List UInt8) (c : Nat) : takeAt l 10 c = (0, 0, 18) := by cases l <;> rfl

def tkSt (t tg : Nat) (l : List UInt8) (k : Nat) (i : Nat × Int) : St :=
  mkSt [(0, .sl t 1 (byteRow l)), (5, .int .u64 i.2), (12, .sl tg 1 (byteRow (l.take k))), (13, .int .i64 k), (14, .int .i64 i.1)] [] 0

end Go.Proofs.Ytpahppndnpeiaaa

/-
  wire: the reference's TakeInt; lengths.
-/
namespace Go.Proofs.Ytpahppndnpeiaaa
open Go.Lift

theorem Int.ofNat_tmod_two (m : Nat) : (m : Int).tmod 2 = ((m % 2 : Nat) : Int) := rfl

def rkSt (t : Nat) (l : List UInt8) (i : Nat × Int) : St :=
  mkSt [(0, .sl t 1 (byteRow l)), (5, .int .u64 i.2), (6, .int .i64 i.1)] [] 0

end Go.Proofs.Ytpahppndnpeiaaa

