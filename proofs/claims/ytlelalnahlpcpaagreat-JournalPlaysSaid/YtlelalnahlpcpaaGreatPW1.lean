/-
  Texts: W1, W2, W3, W4.
-/
import Derived.Test.YtlelalnahlpcpaaGreatT1
import Derived.Test.YtlelalnahlpcpaaGreatT2
import Derived.Laws.Strings
set_option linter.unusedSimpArgs false
set_option linter.unusedVariables false
/-
  wire: the bytes of integers, and the small functions.
-/
namespace Go.Proofs.YtlelalnahlpcpaaGreat
open Go.Lift

/-- The code of an integer. -/
def code (n : Int) : Nat := if n < 0 then (-2 * n - 1).toNat else (2 * n).toNat



/-- A code's last byte, and a byte that more follow. -/
def loB (u : Nat) : UInt8 := UInt8.ofNat u
def hiB (u : Nat) : UInt8 := UInt8.ofNat (u % 128 + 128)

/-- The bytes of a code. -/
def enc (u : Nat) : List UInt8 := if u < 128 then [loB u] else hiB u :: enc (u / 128)
termination_by u
decreasing_by omega

theorem enc_small {u : Nat} (h : u < 128) : enc u = [loB u] := by rw [enc, if_pos h]
theorem enc_great {u : Nat} (h : ¬ u < 128) : enc u = hiB u :: enc (u / 128) := by rw [enc, if_neg h]
theorem enc_len (k : Nat) : ∀ u, u < 128 ^ (k + 1) → (enc u).length ≤ k + 1 := by
  induction k with
  | zero => intro u h; rw [enc_small (by omega)]; simp
  | succ k ih =>
    intro u h
    by_cases hu : u < 128
    · rw [enc_small hu]; simp
    · rw [enc_great hu, List.length_cons]
      have : u / 128 < 128 ^ (k + 1) := by
        rw [Nat.div_lt_iff_lt_mul (by omega), ← Nat.pow_succ]; exact h
      have := ih _ this
      omega
theorem enc_ten (u : Nat) (h : u < 18446744073709551616) : (enc u).length ≤ 10 := enc_len 9 u (Nat.lt_of_lt_of_le h (by decide))
theorem enc_pos (u : Nat) : 1 ≤ (enc u).length := by
  by_cases hu : u < 128
  · rw [enc_small hu]; simp
  · rw [enc_great hu]; simp
theorem code_lt {n : Int} (h : In64 n) : code n < 18446744073709551616 := by unfold In64 at h; unfold code; split <;> omega
theorem fdiv_nat (u : Nat) : (u : Int).fdiv 128 = ((u / 128 : Nat) : Int) := by
  rw [Int.fdiv_eq_ediv_of_nonneg _ (by omega)]; rfl
theorem tmod_nat (u : Nat) : (u : Int).tmod 128 = ((u % 128 : Nat) : Int) := rfl
theorem u8_low (u : Nat) : IntKind.u8.wrap (u : Int) = ((loB u).toNat : Int) := by
  rw [wrap_u8]; simp [loB]
theorem u8_high (u : Nat) : IntKind.u8.wrap (IntKind.u8.wrap ((u : Int).tmod 128) + 128) = ((hiB u).toNat : Int) := by
  rw [wrap_u8, wrap_u8, tmod_nat]; simp [hiB]

/-! ### The functions -/
noncomputable def codeSp := fam (fun n : Int => [V.int .i64 n]) (fun _ => []) In64 (fun n => ⟨.int .u64 (code n), []⟩)
@[simp] theorem codeSp_eq {n : Int} (h : In64 n) : codeSp [V.int .i64 n] [] = some ⟨.int .u64 (code n), []⟩ :=
  fam_eq (A := fun n : Int => [V.int .i64 n]) (fun i j h _ => by simp at h; rw [h]) n h

theorem encode_spec : Lift.Spec Tryz.prog 112 codeSp := by
  refine spec_fam (C := C0) types_ok C0_ok follows Tryz.func112 (by kernel_rfl) rfl (by kernel_rfl) rfl ?_
  intro n hn
  refine ⟨by simp, ?_⟩
  intro r hr
  unfold In64 at hn
  simp
  refine condV_split (fun h => ?_) (fun h => ?_)
  · simp
    rw [hr]; refine ret_closed rfl ?_ rfl
    simp [wrap_u64, code, h]
    omega
  · simp
    rw [hr]; refine ret_closed rfl ?_ rfl
    simp [wrap_u64, code, h]
    omega

theorem refcode_spec : Lift.Spec Tryz.prog 55 codeSp := by
  refine spec_fam (C := C0) types_ok C0_ok follows Tryz.func55 (by kernel_rfl) rfl (by kernel_rfl) rfl ?_
  intro n hn
  refine ⟨by simp, ?_⟩
  intro r hr
  unfold In64 at hn
  simp
  refine condV_split (fun h => ?_) (fun h => ?_)
  · simp
    rw [hr]; refine ret_closed rfl ?_ rfl
    simp [wrap_u64, code, show ¬ n < 0 by omega]
    omega
  · simp
    rw [hr]; refine ret_closed rfl ?_ rfl
    simp [wrap_u64, wrap_i64, code, show n < 0 by omega]
    omega

/-- Bytes in new memory. -/
def rowOf (l : List UInt8) : AObj := ⟨5, 1, byteRow l, false, 2, .rw⟩
@[simp] theorem rowOf_eq {a b : List UInt8} : rowOf a = rowOf b ↔ a = b := by simp [rowOf]

noncomputable def copySp := fam (fun i : Nat × List UInt8 × Int => [V.sl i.1 1 (byteRow i.2.1), .int .i64 i.2.2]) (fun _ => []) (fun i => 0 ≤ i.2.2 ∧ i.2.1.length + i.2.2 ≤ 140737488351232) (fun i => ⟨.own 0 0 i.2.1.length, [rowOf i.2.1]⟩)
@[simp] theorem copySp_eq {t : Nat} {l : List UInt8} {m : Int} (h0 : 0 ≤ m) (h : l.length + m ≤ 140737488351232) : copySp [V.sl t 1 (byteRow l), .int .i64 m] [] = some ⟨.own 0 0 l.length, [rowOf l]⟩ :=
  fam_eq (A := fun i : Nat × List UInt8 × Int => [V.sl i.1 1 (byteRow i.2.1), .int .i64 i.2.2]) (fun i j h _ => by simp at h; rw [h.1.2]) (t, l, m) ⟨h0, h⟩

theorem copy_spec : Lift.Spec Tryz.prog 105 copySp := by
  refine spec_fam (C := C0) types_ok C0_ok follows Tryz.func105 (by kernel_rfl) rfl (by kernel_rfl) rfl ?_
  rintro ⟨t, l, m⟩ hm
  simp only at hm
  refine ⟨by simp, ?_⟩
  intro r hr
  have hw : IntKind.i64.wrap ((l.length : Int) + m) = l.length + m := wrap_i64_in (by omega) (by omega)
  have h1 : 0 ≤ (l.length : Int) + m := by omega
  have h2 : (l.length : Int) + m ≤ 140737488351232 := by omega
  have h3 : (l.length : Int) + m ≤ 140737488355328 := by omega
  have h4 : (l.length : Int) ≤ 140737488355328 := by omega
  simp [hw, h1, h2, h3, h4]
  rw [hr]; refine ret_own rfl rfl ?_ (by simp [rowOf])
  simp [rowOf]

/-- What is appended to the caller's own bytes. -/
noncomputable def appSp := fam (fun i : List UInt8 × Int => [V.own 0 0 i.1.length, .int .i64 i.2]) (fun i => [rowOf i.1]) (fun i => In64 i.2 ∧ (i.1.length : Int) ≤ 140737488355318) (fun i => ⟨.own 1 0 (i.1.length + (enc (code i.2)).length), [kill (rowOf i.1), rowOf (i.1 ++ enc (code i.2))]⟩)
@[simp] theorem appSp_eq {l : List UInt8} {n : Int} {k : Nat} (hk : k = l.length) (h : In64 n) (h0 : (l.length : Int) ≤ 140737488355318) : appSp [V.own 0 0 k, .int .i64 n] [⟨5, 1, byteRow l, false, 2, .rw⟩] = some ⟨.own 1 0 (l.length + (enc (code n)).length), [kill (rowOf l), rowOf (l ++ enc (code n))]⟩ := by
  subst hk
  exact fam_eq (A := fun i : List UInt8 × Int => [V.own 0 0 i.1.length, .int .i64 i.2]) (O := fun i => [rowOf i.1]) (fun i j h h' => by simp at h h'; rw [h', h.2]) (l, n) ⟨h, h0⟩

@[simp] theorem appSp_sl {a b : Nat} {c : List (List V)} {v : V} {os : List AObj} : appSp [V.sl a b c, v] os = none := fam_none (fun i h _ => by simp at h)

def appSt (l : List UInt8) (i : Bool × List UInt8 × Nat) : St :=
  mkSt [(0, .own (if i.1 then 1 else 0) 0 i.2.1.length), (5, .int .u64 i.2.2)] (if i.1 then [(0, kill (rowOf l)), (1, rowOf i.2.1)] else [(0, rowOf l)]) 2
end Go.Proofs.YtlelalnahlpcpaaGreat

/-
  wire: bytes of integers are appended.
-/
namespace Go.Proofs.YtlelalnahlpcpaaGreat
open Go.Lift

noncomputable def C2 := mkC [(112, codeSp), (55, codeSp)]
theorem C2_ok : SpecsOk Tryz.prog C2 := mkC_ok (all_cons encode_spec (all_cons refcode_spec all_nil))
@[simp] theorem C2_1 : C2 112 = codeSp := rfl
@[simp] theorem C2_2 : C2 55 = codeSp := rfl

theorem app_spec : Lift.Spec Tryz.prog 104 appSp := by
  refine spec_fam (C := C2) types_ok C2_ok follows Tryz.func104 (by kernel_rfl) rfl (by kernel_rfl) rfl ?_
  rintro ⟨l, n⟩ ⟨hn, hlen⟩
  simp only at hn hlen
  refine ⟨by simp, ?_⟩
  intro r hr
  simp [hn]
  refine axwp_loop (appSt l) (fun i => i.2.1 ++ enc i.2.2 = l ++ enc (code n) ∧ i.2.2 < 18446744073709551616 ∧ (i.1 = false → i.2.1 = l)) (fun i => i.2.2) (false, l, code n) ?_ ⟨rfl, code_lt hn, fun _ => rfl⟩ ?_
  · refine weak_mk id ?_ ?_ ?_ ?_ <;> simp [rowOf]
  · rintro ⟨b, acc, u⟩ ⟨h1, h2, h3⟩
    simp only at h1 h2 h3
    have q1 : (acc.length : Int) + 1 ≤ 140737488355328 := by
      have := congrArg List.length h1
      simp only [List.length_append] at this
      have := enc_pos u
      have := enc_ten _ (code_lt hn)
      omega
    have q2 : (128 : Int) ≤ (u : Int) ↔ ¬ u < 128 := by omega
    have hst : appSt l (b, acc, u) = mkSt [(0, .own (if b then 1 else 0) 0 acc.length), (5, .int .u64 u)] (if b then [(0, kill (rowOf l)), (1, rowOf acc)] else [(0, rowOf acc)]) 2 := by
      cases b with
      | false => rw [h3 rfl]; rfl
      | true => rfl
    rw [hst]
    have fin : u < 128 → acc ++ [loB u] = l ++ enc (code n) := fun hu => by rw [enc_small hu] at h1; exact h1
    cases b <;> simp [rowOf] <;> refine condV_split (fun hu => ?_) (fun hu => ?_) <;> simp [q1, fdiv_nat, u8_high, u8_low, byteRow_one]
    · refine Again.mk (true, acc ++ [hiB u], u / 128) ?_ ?_ ?_
      · rw [enc_great (by omega)] at h1
        exact ⟨by simpa using h1, by show u / 128 < _; omega, fun h => by cases h⟩
      · show u / 128 < u; omega
      · rw [h3 rfl] at *
        refine weak_at [.inl 0, .inr 0] ?_ ?_ ?_ ?_ <;> simp [rowOf]
    · have hf := fin (by omega)
      have hz : l.length + (enc (code n)).length = acc.length + 1 := by simpa using (congrArg List.length hf).symm
      rw [hr, ← hf, hz]
      rw [h3 rfl] at *
      refine ret_at [.inl 0, .inr 4] rfl ?_ ?_ (by simp) ?_ ?_ ?_ ?_ <;> simp [rowOf]
    · refine Again.mk (true, acc ++ [hiB u], u / 128) ?_ ?_ ?_
      · rw [enc_great (by omega)] at h1
        exact ⟨by simpa using h1, by show u / 128 < _; omega, fun h => by cases h⟩
      · show u / 128 < u; omega
      · refine weak_at [.inl 0, .inr 0] ?_ ?_ ?_ ?_ <;> simp [rowOf]
    · have hf := fin (by omega)
      have hz : l.length + (enc (code n)).length = acc.length + 1 := by simpa using (congrArg List.length hf).symm
      rw [hr, ← hf, hz]
      refine ret_at [.inl 0, .inr 4] rfl ?_ ?_ (by simp) ?_ ?_ ?_ ?_ <;> simp [rowOf]

noncomputable def C3 := mkC [(104, appSp), (105, copySp), (55, codeSp)]
theorem C3_ok : SpecsOk Tryz.prog C3 := mkC_ok (all_cons app_spec (all_cons copy_spec (all_cons refcode_spec all_nil)))
@[simp] theorem C3_1 : C3 104 = appSp := rfl
@[simp] theorem C3_2 : C3 105 = copySp := rfl
@[simp] theorem C3_3 : C3 55 = codeSp := rfl

/-- Bytes, followed by those of an integer. -/
noncomputable def intSp := fam (fun i : Nat × List UInt8 × Int => [V.sl i.1 1 (byteRow i.2.1), .int .i64 i.2.2]) (fun _ => []) (fun i => In64 i.2.2 ∧ (i.2.1.length : Int) ≤ 140737488351222) (fun i => ⟨.own 0 0 (i.2.1.length + (enc (code i.2.2)).length), [rowOf (i.2.1 ++ enc (code i.2.2))]⟩)
@[simp] theorem intSp_eq {t : Nat} {l : List UInt8} {n : Int} (h : In64 n) (h0 : (l.length : Int) ≤ 140737488351222) : intSp [V.sl t 1 (byteRow l), .int .i64 n] [] = some ⟨.own 0 0 (l.length + (enc (code n)).length), [rowOf (l ++ enc (code n))]⟩ :=
  fam_eq (A := fun i : Nat × List UInt8 × Int => [V.sl i.1 1 (byteRow i.2.1), .int .i64 i.2.2]) (fun i j h _ => by simp at h; rw [h.1.2, h.2]) (t, l, n) ⟨h, h0⟩

theorem int_spec : Lift.Spec Tryz.prog 95 intSp := by
  refine spec_fam (C := C3) types_ok C3_ok follows Tryz.func95 (by kernel_rfl) rfl (by kernel_rfl) rfl ?_
  rintro ⟨t, l, n⟩ ⟨hn, hlen⟩
  simp only at hn hlen
  refine ⟨by simp, ?_⟩
  intro r hr
  have q : (l.length : Int) ≤ 140737488355318 := by omega
  have q2 : (l.length : Int) + 10 ≤ 140737488351232 := by omega
  simp [rowOf, hn, q, q2]
  rw [hr]
  refine ret_at [.inr 4] rfl ?_ ?_ (by simp) ?_ ?_ ?_ ?_ <;> simp [rowOf]

def refSt (i : List UInt8 × Nat) : St := mkSt [(5, .own 0 0 i.1.length), (6, .int .u64 i.2)] [(0, rowOf i.1)] 1

theorem refint_spec : Lift.Spec Tryz.prog 34 intSp := by
  refine spec_fam (C := C3) types_ok C3_ok follows Tryz.func34 (by kernel_rfl) rfl (by kernel_rfl) rfl ?_
  rintro ⟨t, l, n⟩ ⟨hn, hlen⟩
  simp only at hn hlen
  refine ⟨by simp, ?_⟩
  intro r hr
  have q : (l.length : Int) ≤ 140737488355328 := by omega
  simp [hn, q]
  refine axwp_loop refSt (fun i => i.1 ++ enc i.2 = l ++ enc (code n) ∧ i.2 < 18446744073709551616) (fun i => i.2) (l, code n) ?_ ⟨rfl, code_lt hn⟩ ?_
  · refine weak_at [.inr 5] ?_ ?_ ?_ ?_ <;> simp [rowOf]
  · rintro ⟨acc, u⟩ ⟨h1, h2⟩
    simp only at h1 h2
    have q1 : (acc.length : Int) + 1 ≤ 140737488355328 := by
      have := congrArg List.length h1
      simp only [List.length_append] at this
      have := enc_pos u
      have := enc_ten _ (code_lt hn)
      omega
    simp [refSt, rowOf]
    refine condV_split (fun hu => ?_) (fun hu => ?_) <;> simp [q1, u8_high, u8_low, byteRow_one]
    · refine Again.mk (acc ++ [hiB u], u / 128) ?_ ?_ ?_
      · rw [enc_great (by omega)] at h1
        exact ⟨by simpa using h1, by show u / 128 < _; omega⟩
      · show u / 128 < u; omega
      · have hw : IntKind.u64.wrap ((u : Int) / 128) = (u : Int) / 128 := wrap_u64_in (by omega) (by omega)
        refine weak_at [.inr 5] ?_ ?_ ?_ ?_ <;> simp [rowOf, hw]
    · rw [enc_small (by omega)] at h1
      have hz : l.length + (enc (code n)).length = acc.length + 1 := by simpa using (congrArg List.length h1).symm
      rw [hr, ← h1, hz]
      refine ret_at [.inr 4] rfl ?_ ?_ (by simp) ?_ ?_ ?_ ?_ <;> simp [rowOf]
end Go.Proofs.YtlelalnahlpcpaaGreat

/-
  wire: TakeInt, and the reference's.
-/
namespace Go.Proofs.YtlelalnahlpcpaaGreat
open Go.Lift

noncomputable def sameSp := fam (fun i : Nat × Nat × List UInt8 × List UInt8 => [V.sl i.1 1 (byteRow i.2.2.1), .sl i.2.1 1 (byteRow i.2.2.2)]) (fun _ => []) (fun _ => True) (fun i => ⟨.bool (decide (i.2.2.1 = i.2.2.2)), []⟩)
@[simp] theorem sameSp_eq {t u : Nat} {l m : List UInt8} : sameSp [V.sl t 1 (byteRow l), .sl u 1 (byteRow m)] [] = some ⟨.bool (decide (l = m)), []⟩ :=
  fam_eq (A := fun i : Nat × Nat × List UInt8 × List UInt8 => [V.sl i.1 1 (byteRow i.2.2.1), .sl i.2.1 1 (byteRow i.2.2.2)]) (fun i j h _ => by simp at h; rw [h.1.2, h.2.2]) (t, u, l, m) trivial

theorem same_spec : Lift.Spec Tryz.prog 41 sameSp := by
  refine spec_fam (C := C0) types_ok C0_ok follows Tryz.func41 (by kernel_rfl) rfl (by kernel_rfl) rfl ?_
  rintro ⟨t, u, l, m⟩ _
  refine ⟨by simp, ?_⟩
  intro r hr
  simp
  rw [hr]; refine ret_closed rfl ?_ rfl
  simp [Bool.beq_eq_decide_eq]

def padB (i x : Int) : Bool := decide (0 < i ∧ x = 0)
def greatB (i x : Int) : Bool := decide (i = 9 ∧ 1 < x)
noncomputable def padSp := fam (fun i : Int × Int => [V.int .i64 i.1, .int .u8 i.2]) (fun _ => []) (fun _ => True) (fun i => ⟨.bool (padB i.1 i.2), []⟩)
@[simp] theorem padSp_eq {i x : Int} : padSp [V.int .i64 i, .int .u8 x] [] = some ⟨.bool (padB i x), []⟩ :=
  fam_eq (A := fun i : Int × Int => [V.int .i64 i.1, .int .u8 i.2]) (fun i j h _ => by simp at h; rw [h.1, h.2]) (i, x) trivial
theorem pad_spec : Lift.Spec Tryz.prog 99 padSp := by
  refine spec_fam (C := C0) types_ok C0_ok follows Tryz.func99 (by kernel_rfl) rfl (by kernel_rfl) rfl ?_
  rintro ⟨i, x⟩ _
  refine ⟨by simp, ?_⟩
  intro r hr
  by_cases hi : 0 < i <;> simp [hi] <;> rw [hr] <;> refine ret_closed rfl ?_ rfl <;> simp [hi, padB]

noncomputable def greatSp := fam (fun i : Int × Int => [V.int .i64 i.1, .int .u8 i.2]) (fun _ => []) (fun _ => True) (fun i => ⟨.bool (greatB i.1 i.2), []⟩)
@[simp] theorem greatSp_eq {i x : Int} : greatSp [V.int .i64 i, .int .u8 x] [] = some ⟨.bool (greatB i x), []⟩ :=
  fam_eq (A := fun i : Int × Int => [V.int .i64 i.1, .int .u8 i.2]) (fun i j h _ => by simp at h; rw [h.1, h.2]) (i, x) trivial
theorem great_spec : Lift.Spec Tryz.prog 100 greatSp := by
  refine spec_fam (C := C0) types_ok C0_ok follows Tryz.func100 (by kernel_rfl) rfl (by kernel_rfl) rfl ?_
  rintro ⟨i, x⟩ _
  refine ⟨by simp, ?_⟩
  intro r hr
  by_cases hi : i = 9 <;> simp [hi] <;> rw [hr] <;> refine ret_closed rfl ?_ rfl <;> simp [hi, greatB]

/-- The integer of a code. -/
def decodeN (c : Nat) : Int := if c % 2 = 1 then -((c / 2 : Nat) : Int) - 1 else ((c / 2 : Nat) : Int)
theorem decode_code {n : Int} : decodeN (code n) = n := by unfold decodeN code; split <;> split <;> omega
theorem code_decode {c : Nat} : code (decodeN c) = c := by unfold decodeN code; split <;> split <;> omega
theorem decode_in {c : Nat} (h : c < 18446744073709551616) : In64 (decodeN c) := by unfold In64 decodeN; split <;> omega

noncomputable def decodeSp := fam (fun c : Nat => [V.int .u64 c]) (fun _ => []) (fun c => c < 18446744073709551616) (fun c => ⟨.int .i64 (decodeN c), []⟩)
@[simp] theorem decodeSp_eq {c : Nat} (h : c < 18446744073709551616) : decodeSp [V.int .u64 (c : Int)] [] = some ⟨.int .i64 (decodeN c), []⟩ :=
  fam_eq (A := fun c : Nat => [V.int .u64 (c : Int)]) (fun i j h _ => by simp at h; rw [show i = j by omega]) c h
theorem decode_spec : Lift.Spec Tryz.prog 101 decodeSp := by
  refine spec_fam (C := C0) types_ok C0_ok follows Tryz.func101 (by kernel_rfl) rfl (by kernel_rfl) rfl ?_
  intro c hc
  refine ⟨by simp, ?_⟩
  intro r hr
  have h2 : (c : Int).fdiv 2 = ((c / 2 : Nat) : Int) := by
    rw [Int.fdiv_eq_ediv_of_nonneg _ (by omega)]; rfl
  have h3 : IntKind.i64.wrap ((c : Int) / 2) = (c : Int) / 2 := wrap_i64_in (by omega) (by omega)
  have h4 : IntKind.i64.wrap (-((c : Int) / 2) - 1) = -((c : Int) / 2) - 1 := wrap_i64_in (by omega) (by omega)
  have h1 : iAnd .u64 (c : Int) 1 = ((c % 2 : Nat) : Int) := by
    have : (BitVec.ofInt 64 (c : Int) &&& BitVec.ofInt 64 1).toNat = c % 2 := by
      show (BitVec.ofNat 64 c &&& 1#64).toNat = c % 2
      rw [BitVec.toNat_and, BitVec.toNat_ofNat, BitVec.toNat_ofNat]
      show _ &&& 1 = _
      rw [Nat.and_one_is_mod]; omega
    show IntKind.u64.wrap ((BitVec.ofInt 64 (c : Int) &&& BitVec.ofInt 64 1).toNat : Int) = _
    rw [this]; exact wrap_u64_in (by omega) (by omega)
  simp
  refine condV_split (fun hq => ?_) (fun hq => ?_)
  · have ho : ((c % 2 : Nat) : Int) = 1 := h1.symm.trans hq
    have ho : c % 2 = 1 := by omega
    simp
    rw [hr]; refine ret_closed rfl ?_ rfl
    simp [decodeN, ho, h2, h3, h4]
  · have ho : ¬ ((c % 2 : Nat) : Int) = 1 := fun h => hq (h1.trans h)
    have ho : ¬ c % 2 = 1 := by omega
    simp
    rw [hr]; refine ret_closed rfl ?_ rfl
    simp [decodeN, ho, h2, h3]

/-- What TakeInt answers from its byte i on. -/
def takeAt : List UInt8 → Nat → Nat → Int × Int × Int
  | [], i, _ => if i < 10 then (0, 0, 17) else (0, 0, 18)
  | x :: l, i, c =>
    if 10 ≤ i then (0, 0, 18)
    else if 128 ≤ x.toNat then takeAt l (i + 1) (c + x.toNat % 128 * 2 ^ (7 * i))
    else if (0 < i ∧ x.toNat = 0) ∨ (i = 9 ∧ 1 < x.toNat) then (0, 0, 18) else (decodeN (c + x.toNat * 2 ^ (7 * i)), (i : Int) + 1, 0)

noncomputable def takeT : List UInt8 → Int × Int × Int := hush fun l => takeAt l 0 0
theorem takeT_eq (l : List UInt8) : takeT l = takeAt l 0 0 := by unfold takeT; rw [hush_eq]
noncomputable def takeV (l : List UInt8) : V := .tup [.int .i64 (takeT l).1, .int .i64 (takeT l).2.1, .int .i64 (takeT l).2.2]
noncomputable def takeSp := fam (fun i : Nat × List UInt8 => [V.sl i.1 1 (byteRow i.2)]) (fun _ => []) (fun _ => True) (fun i => ⟨takeV i.2, []⟩)
@[simp] theorem takeSp_eq {t : Nat} {l : List UInt8} : takeSp [V.sl t 1 (byteRow l)] [] = some ⟨takeV l, []⟩ :=
  fam_eq (A := fun i : Nat × List UInt8 => [V.sl i.1 1 (byteRow i.2)]) (fun i j h _ => by simp at h; rw [h.2]) (t, l) trivial

noncomputable def CT := mkC [(99, padSp), (100, greatSp), (101, decodeSp)]
theorem CT_ok : SpecsOk Tryz.prog CT := mkC_ok (all_cons pad_spec (all_cons great_spec (all_cons decode_spec all_nil)))
@[simp] theorem CT_1 : CT 99 = padSp := rfl
@[simp] theorem CT_2 : CT 100 = greatSp := rfl
@[simp] theorem CT_3 : CT 101 = decodeSp := rfl

/-- The tenth byte aside, bits are added. -/
theorem or_bits {c y i : Nat} (hc : c < 2 ^ (7 * i)) (hy : c + y * 2 ^ (7 * i) < 18446744073709551616) : iOr .u64 (c : Int) (IntKind.u64.wrap ((y : Int) * 2 ^ (7 * i))) = ((c + y * 2 ^ (7 * i) : Nat) : Int) := by
  have e1 : (y : Int) * 2 ^ (7 * i) = ((y * 2 ^ (7 * i) : Nat) : Int) := by simp
  have e2 : y * 2 ^ (7 * i) < 18446744073709551616 := by omega
  rw [e1, wrap_u64_in (x := ((y * 2 ^ (7 * i) : Nat) : Int)) (by omega) (by omega)]
  have : (BitVec.ofInt 64 (c : Int) ||| BitVec.ofInt 64 ((y * 2 ^ (7 * i) : Nat) : Int)).toNat = c + y * 2 ^ (7 * i) := by
    rw [BitVec.toNat_or, BitVec.ofInt_natCast, BitVec.ofInt_natCast, BitVec.toNat_ofNat, BitVec.toNat_ofNat, Nat.mod_eq_of_lt (by omega), Nat.mod_eq_of_lt (by omega), Nat.or_comm, Nat.mul_comm y, ← Nat.two_pow_add_eq_or_of_lt hc]
    omega
  show IntKind.u64.wrap ((BitVec.ofInt 64 (c : Int) ||| BitVec.ofInt 64 ((y * 2 ^ (7 * i) : Nat) : Int)).toNat : Int) = _
  rw [this]
  exact wrap_u64_in (by omega) (by omega)

theorem pow_bits {c y i : Nat} (hc : c < 2 ^ (7 * i)) (hi : i ≤ 8) (hy : y < 128) : c + y * 2 ^ (7 * i) < 2 ^ (7 * (i + 1)) ∧ c + y * 2 ^ (7 * i) < 18446744073709551616 := by
  have e : 2 ^ (7 * (i + 1)) = 128 * 2 ^ (7 * i) := by rw [show 7 * (i + 1) = 7 * i + 7 by omega, Nat.pow_add]; omega
  have h1 : y * 2 ^ (7 * i) ≤ 127 * 2 ^ (7 * i) := Nat.mul_le_mul_right _ (by omega)
  have h2 : 2 ^ (7 * (i + 1)) ≤ 2 ^ 63 := Nat.pow_le_pow_right (by decide) (by omega)
  have h3 : (2 : Nat) ^ 63 = 9223372036854775808 := by decide
  omega
theorem takeAt_ten (l : List UInt8) (c : Nat) : takeAt l 10 c = (0, 0, 18) := by cases l <;> rfl

def tkSt (t tg : Nat) (l : List UInt8) (k : Nat) (i : Nat × Int) : St :=
  mkSt [(0, .sl t 1 (byteRow l)), (5, .int .u64 i.2), (12, .sl tg 1 (byteRow (l.take k))), (13, .int .i64 k), (14, .int .i64 i.1)] [] 0

theorem take_spec : Lift.Spec Tryz.prog 87 takeSp := by
  refine spec_fam (C := CT) types_ok CT_ok follows Tryz.func87 (by kernel_rfl) rfl (by kernel_rfl) rfl ?_
  rintro ⟨t, l⟩ _
  refine ⟨by simp, ?_⟩
  intro r hr
  obtain ⟨k, hk⟩ : ∃ k, k = min l.length 10 := ⟨_, rfl⟩
  have hm : (if (10 : Int) < (l.length : Int) then 10 else (l.length : Int)) = (k : Int) := by split <;> omega
  have hk1 : k ≤ l.length := by omega
  simp [hm, hk1]
  generalize htg : cutTag t (decide ((k : Int) = (l.length : Int))) = tg
  refine axwp_loop (tkSt t tg l k) (fun i => i.1 ≤ k ∧ (i.1 < 10 → ∃ c : Nat, i.2 = c ∧ c < 2 ^ (7 * i.1) ∧ takeAt (l.drop i.1) i.1 c = takeAt l 0 0) ∧ (i.1 = 10 → takeAt l 0 0 = (0, 0, 18))) (fun i => k - i.1) (0, 0) ?_ ⟨by simp, fun _ => ⟨0, by simp⟩, fun h => by simp at h⟩ ?_
  · refine weak_mk id ?_ ?_ ?_ ?_ <;> simp
  · rintro ⟨i, c⟩ ⟨h1, h2, h3⟩
    simp only at h1 h2 h3
    by_cases hik : i < k
    · obtain ⟨x, hx⟩ : ∃ x, l[i]? = some x := ⟨_, List.getElem?_eq_getElem (by omega)⟩
      have hi10 : i < 10 := by clear h2; omega
      obtain ⟨n, rfl, hn, ht⟩ := h2 hi10
      clear h2
      have hd : l.drop i = x :: l.drop (i + 1) := by
        have hi : i < l.length := by omega
        rw [List.drop_eq_getElem_cons hi]; rw [List.getElem?_eq_getElem hi] at hx; cases hx; rfl
      rw [hd, takeAt, if_neg (by omega)] at ht
      have w1 : IntKind.i64.wrap (7 * (i : Int)) = 7 * (i : Int) := wrap_i64_in (by omega) (by omega)
      have w2 : (min (7 * (i : Int)).toNat 64) = 7 * i := by omega
      have w0 : ¬ (7 * (i : Int) < 0) := by omega
      have w3 : IntKind.u64.wrap ((x.toNat : Int).tmod 128) = ((x.toNat % 128 : Nat) : Int) := by
        rw [tmod_nat]; exact wrap_u64_in (by omega) (by omega)
      have w4 : IntKind.i64.wrap ((i : Int) + 1) = (i : Int) + 1 := wrap_i64_in (by omega) (by omega)
      have hik' : (i : Int) < (k : Int) := by omega
      by_cases hb : 128 ≤ x.toNat
      · have hb' : (128 : Int) ≤ (x.toNat : Int) := by omega
        rw [if_pos hb] at ht
        simp [tkSt, hik, hx, hb', w0, w1, w2, w3]
        refine Again.mk (i + 1, iOr .u64 (n : Int) (IntKind.u64.wrap (((x.toNat % 128 : Nat) : Int) * 2 ^ (7 * i)))) ⟨by show i + 1 ≤ k; omega, fun h => ?_, fun h => ?_⟩ (by show k - (i + 1) < k - i; omega) ?_
        · have hp := pow_bits hn (show i ≤ 8 by simp only at h; omega) (Nat.mod_lt x.toNat (show 128 > 0 by decide))
          exact ⟨_, or_bits hn hp.2, hp.1, ht⟩
        · simp only at h
          rw [← ht, show i + 1 = 10 from h, takeAt_ten]
        · refine weak_mk id ?_ ?_ ?_ ?_ <;> simp [w4]
      · have hb' : ¬ (128 : Int) ≤ (x.toNat : Int) := by omega
        rw [if_neg hb] at ht
        by_cases hp : padB i x.toNat = true
        · simp [tkSt, hik, hx, hb', w0, w1, w2, w3, hp]
          rw [hr]; refine ret_closed rfl ?_ rfl
          simp only [padB, decide_eq_true_eq] at hp
          rw [if_pos (.inl (by omega))] at ht
          simp [takeV, takeT_eq, ← ht]
        · by_cases hg : greatB i x.toNat = true
          · simp [tkSt, hik, hx, hb', w0, w1, w2, w3, hp, hg]
            rw [hr]; refine ret_closed rfl ?_ rfl
            simp only [greatB, decide_eq_true_eq] at hg
            rw [if_pos (.inr (by omega))] at ht
            simp [takeV, takeT_eq, ← ht]
          · have hsm : x.toNat % 128 = x.toNat := Nat.mod_eq_of_lt (by omega)
            have hc : n + x.toNat * 2 ^ (7 * i) < 18446744073709551616 := by
              simp only [greatB, decide_eq_true_eq] at hg
              by_cases h9 : i = 9
              · subst h9
                have : x.toNat ≤ 1 := by omega
                have e63 : 2 ^ (7 * 9) = 9223372036854775808 := by decide
                rw [e63] at hn ⊢
                have : x.toNat * 9223372036854775808 ≤ 9223372036854775808 := by omega
                omega
              · exact (pow_bits hn (show i ≤ 8 by omega) (show x.toNat < 128 by omega)).2
            have ho := or_bits hn hc
            rw [hsm] at w3
            generalize n + x.toNat * 2 ^ (7 * i) = m at *
            simp [tkSt, hik, hx, hb', w0, w1, w2, w3, w4, hp, hg, ho, hc]
            rw [if_neg (by simp only [padB, greatB, decide_eq_true_eq] at hp hg; omega)] at ht
            rw [hr]
            refine ret_closed rfl ?_ rfl
            simp [takeV, takeT_eq, ← ht]
    · have : i = k := by omega
      subst this
      simp [tkSt]
      refine condV_split (fun h => ?_) (fun h => ?_) <;> simp <;> rw [hr]
      · refine ret_closed rfl ?_ rfl
        obtain ⟨c, _, _, hc⟩ := h2 (by omega)
        have : i = l.length := by omega
        rw [this, List.drop_length, takeAt, if_pos (by omega)] at hc
        simp [takeV, takeT_eq, ← hc]
      · refine ret_closed rfl ?_ rfl
        have := h3 (by omega)
        simp [takeV, takeT_eq, this]
end Go.Proofs.YtlelalnahlpcpaaGreat

/-
  wire: the reference's TakeInt; lengths.
-/
namespace Go.Proofs.YtlelalnahlpcpaaGreat
open Go.Lift

theorem Int.ofNat_tmod_two (m : Nat) : (m : Int).tmod 2 = ((m % 2 : Nat) : Int) := rfl

def rkSt (t : Nat) (l : List UInt8) (i : Nat × Int) : St :=
  mkSt [(0, .sl t 1 (byteRow l)), (5, .int .u64 i.2), (6, .int .i64 i.1)] [] 0

theorem reftake_spec : Lift.Spec Tryz.prog 65 takeSp := by
  refine spec_fam (C := C0) types_ok C0_ok follows Tryz.func65 (by kernel_rfl) rfl (by kernel_rfl) rfl ?_
  rintro ⟨t, l⟩ _
  refine ⟨by simp, ?_⟩
  intro r hr
  simp
  refine axwp_loop (rkSt t l) (fun i => i.1 ≤ 10 ∧ i.1 ≤ l.length ∧ (i.1 < 10 → ∃ c : Nat, i.2 = c ∧ c < 2 ^ (7 * i.1) ∧ takeAt (l.drop i.1) i.1 c = takeAt l 0 0) ∧ (i.1 = 10 → takeAt l 0 0 = (0, 0, 18))) (fun i => 10 - i.1) (0, 0) ?_ ⟨by simp, by simp, fun _ => ⟨0, by simp⟩, fun h => by simp at h⟩ ?_
  · refine weak_mk id ?_ ?_ ?_ ?_ <;> simp
  · rintro ⟨i, c⟩ ⟨h1, hl, h2, h3⟩
    simp only at h1 hl h2 h3
    by_cases hik : i < 10
    · obtain ⟨n, rfl, hn, ht⟩ := h2 hik
      clear h2
      have hik' : (i : Int) < 10 := by omega
      by_cases hil : i = l.length
      · subst hil
        simp [rkSt, hik']
        rw [hr]; refine ret_closed rfl ?_ rfl
        rw [List.drop_length, takeAt, if_pos (by omega)] at ht
        simp [takeV, takeT_eq, ← ht]
      · have hil' : ¬ (i : Int) = (l.length : Int) := by omega
        obtain ⟨x, hx⟩ : ∃ x, l[i]? = some x := ⟨_, List.getElem?_eq_getElem (by omega)⟩
        have hd : l.drop i = x :: l.drop (i + 1) := by
          have hi : i < l.length := by omega
          rw [List.drop_eq_getElem_cons hi]; rw [List.getElem?_eq_getElem hi] at hx; cases hx; rfl
        rw [hd, takeAt, if_neg (by omega)] at ht
        have w1 : IntKind.i64.wrap (7 * (i : Int)) = 7 * (i : Int) := wrap_i64_in (by omega) (by omega)
        have w2 : (min (7 * (i : Int)).toNat 64) = 7 * i := by omega
        have w0 : ¬ (7 * (i : Int) < 0) := by omega
        have w4 : IntKind.i64.wrap ((i : Int) + 1) = (i : Int) + 1 := wrap_i64_in (by omega) (by omega)
        have w5 : IntKind.u64.wrap (7 * (i : Int)) = 7 * (i : Int) := wrap_u64_in (by omega) (by omega)
        have w6 : IntKind.u64.wrap (x.toNat : Int) = (x.toNat : Int) := wrap_u64_in (by omega) (by have := x.toNat_lt; omega)
        by_cases hb : 128 ≤ x.toNat
        · have hb' : ¬ (x.toNat : Int) < 128 := by omega
          rw [if_pos hb] at ht
          have w7 : IntKind.u8.wrap ((x.toNat : Int) - 128) = ((x.toNat % 128 : Nat) : Int) := by rw [wrap_u8_in (by omega) (by have := x.toNat_lt; omega)]; have := x.toNat_lt; omega
          have w8 : IntKind.u64.wrap ((x.toNat % 128 : Nat) : Int) = ((x.toNat % 128 : Nat) : Int) := wrap_u64_in (by omega) (by omega)
          generalize hy : x.toNat % 128 = y at *
          simp [rkSt, hik', hil', hx, hb', w0, w1, w2, w4, w5, w7, w8]
          refine Again.mk (i + 1, iOr .u64 (n : Int) (IntKind.u64.wrap ((y : Int) * 2 ^ (7 * i)))) ⟨by show i + 1 ≤ 10; omega, by show i + 1 ≤ l.length; omega, fun h => ?_, fun h => ?_⟩ (by show 10 - (i + 1) < 10 - i; omega) ?_
          · have hp := pow_bits hn (show i ≤ 8 by simp only at h; omega) (show y < 128 by omega)
            exact ⟨_, or_bits hn hp.2, hp.1, ht⟩
          · simp only at h
            rw [← ht, show i + 1 = 10 from h, takeAt_ten]
          · refine weak_mk id ?_ ?_ ?_ ?_ <;> simp
        · have hb' : (x.toNat : Int) < 128 := by omega
          rw [if_neg hb] at ht
          by_cases hp : 0 < i ∧ x.toNat = 0
          · rw [if_pos (.inl hp)] at ht
            simp [rkSt, hik', hil', hx, hp.1, hp.2]
            rw [hr]; refine ret_closed rfl ?_ rfl
            simp [takeV, takeT_eq, ← ht]
          · by_cases hg : i = 9 ∧ 1 < x.toNat
            · rw [if_pos (.inr hg)] at ht
              obtain ⟨rfl, hg⟩ := hg
              have hx0 : ¬ x.toNat = 0 := by omega
              have hg2 : (1 : Int) < (x.toNat : Int) := by omega
              simp at hil'
              simp [rkSt, hil', hx, hb', hx0, hg2]
              rw [hr]; refine ret_closed rfl ?_ rfl
              simp [takeV, takeT_eq, ← ht]
            · rw [if_neg (by omega)] at ht
              have hc : n + x.toNat * 2 ^ (7 * i) < 18446744073709551616 := by
                by_cases h9 : i = 9
                · subst h9
                  have : x.toNat ≤ 1 := by omega
                  have e63 : 2 ^ (7 * 9) = 9223372036854775808 := by decide
                  rw [e63] at hn ⊢
                  have : x.toNat * 9223372036854775808 ≤ 9223372036854775808 := by omega
                  omega
                · exact (pow_bits hn (show i ≤ 8 by omega) (show x.toNat < 128 by omega)).2
              have ho := or_bits hn hc
              generalize n + x.toNat * 2 ^ (7 * i) = m at *
              have m1 : IntKind.i64.wrap ((m : Int) / 2) = (m : Int) / 2 := wrap_i64_in (by omega) (by omega)
              have m2 : IntKind.u64.wrap ((m : Int) / 2) = (m : Int) / 2 := wrap_u64_in (by omega) (by omega)
              have m3 : IntKind.i64.wrap (-((m : Int) / 2)) = -((m : Int) / 2) := wrap_i64_in (by omega) (by omega)
              have m4 : IntKind.i64.wrap (-((m : Int) / 2) - 1) = -((m : Int) / 2) - 1 := wrap_i64_in (by omega) (by omega)
              have hx0 : 0 < i → ¬ x.toNat = 0 := by omega
              by_cases h0 : 0 < i
              · have hx0 := hx0 h0
                by_cases h9 : i = 9
                · have hx1 : ¬ (1 : Int) < (x.toNat : Int) := by omega
                  simp [rkSt, hik', hil', hx, hb', h0, hx0]
                  refine thenG_split (fun g9 => ?_) (fun g9 => absurd h9 (by simp at g9; omega))
                  simp [hx, hx1, g9, w0, w1, w2, w5, w6, ho]
                  refine condV_split (fun hq => ?_) (fun hq => ?_)
                  · rw [Int.ofNat_tmod_two, Int.natCast_eq_zero] at hq
                    simp [m1, m2, w4]
                    rw [hr]; refine ret_closed rfl ?_ rfl
                    simp [decodeN, hq] at ht
                    simp [takeV, takeT_eq, ← ht]
                  · rw [Int.ofNat_tmod_two, Int.natCast_eq_zero] at hq
                    have hq : m % 2 = 1 := by omega
                    simp [m1, m2, m3, m4, w4]
                    rw [hr]; refine ret_closed rfl ?_ rfl
                    simp [decodeN, hq] at ht
                    simp [takeV, takeT_eq, ← ht]
                · have h9' : ¬ (i : Int) = 9 := by omega
                  simp [rkSt, hik', hil', hx, hb', w0, w1, w2, w5, w6, ho, h0, hx0, h9']
                  refine condV_split (fun hq => ?_) (fun hq => ?_)
                  · rw [Int.ofNat_tmod_two, Int.natCast_eq_zero] at hq
                    simp [m1, m2, w4]
                    rw [hr]; refine ret_closed rfl ?_ rfl
                    simp [decodeN, hq] at ht
                    simp [takeV, takeT_eq, ← ht]
                  · rw [Int.ofNat_tmod_two, Int.natCast_eq_zero] at hq
                    have hq : m % 2 = 1 := by omega
                    simp [m1, m2, m3, m4, w4]
                    rw [hr]; refine ret_closed rfl ?_ rfl
                    simp [decodeN, hq] at ht
                    simp [takeV, takeT_eq, ← ht]
              · have h9' : ¬ (i : Int) = 9 := by omega
                simp [rkSt, hik', hil', hx, hb', w0, w1, w2, w5, w6, ho, h0, h9']
                refine condV_split (fun hq => ?_) (fun hq => ?_)
                · rw [Int.ofNat_tmod_two, Int.natCast_eq_zero] at hq
                  simp [m1, m2, w4]
                  rw [hr]; refine ret_closed rfl ?_ rfl
                  simp [decodeN, hq] at ht
                  simp [takeV, takeT_eq, ← ht]
                · rw [Int.ofNat_tmod_two, Int.natCast_eq_zero] at hq
                  have hq : m % 2 = 1 := by omega
                  simp [m1, m2, m3, m4, w4]
                  rw [hr]; refine ret_closed rfl ?_ rfl
                  simp [decodeN, hq] at ht
                  simp [takeV, takeT_eq, ← ht]
    · have : i = 10 := by clear h2; omega
      subst this
      simp [rkSt]
      rw [hr]; refine ret_closed rfl ?_ rfl
      have := h3 rfl
      simp [takeV, takeT_eq, this]
end Go.Proofs.YtlelalnahlpcpaaGreat

