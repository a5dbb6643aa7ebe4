/-
  frame: sums in bytes; what is put.
-/
import Derived.Test.YtgnfgcpolbcaoaaF1
namespace Go.Proofs.Ytgnfgcpolbcaoaa
open Go.Lift

theorem flen_spec : Lift.Spec Try.prog 30 lenSp := by
  refine spec_fam (C := CW) types_ok CW_ok follows Try.func30 (by kernel_rfl) rfl (by kernel_rfl) rfl ?_
  rintro ⟨t, l⟩ _
  refine ⟨by simp, ?_⟩
  intro r hr
  rcases hT : takeT l with ⟨a, b, c⟩
  by_cases hc : c = 0
  · by_cases ha : a < 0
    · have hL : lenT l = (0, 0, 18) := by rw [lenT_eq, lenT0, hT]; simp [hc, ha]
      simp [takeV, hT, hc, ha]
      rw [hr]; refine ret_closed rfl ?_ rfl
      simp [lenV, hL]
    · by_cases hb : 65536 < a
      · have hL : lenT l = (0, 0, 2) := by rw [lenT_eq, lenT0, hT]; simp [hc, ha, hb]
        simp [takeV, hT, hc, ha, hb]
        rw [hr]; refine ret_closed rfl ?_ rfl
        simp [lenV, hL]
      · have hL : lenT l = (a, b, 0) := by rw [lenT_eq, lenT0, hT]; simp [hc, ha, hb]
        simp [takeV, hT, hc, ha, hb]
        rw [hr]; refine ret_closed rfl ?_ rfl
        simp [lenV, hL]
  · have hL : lenT l = (0, 0, c) := by rw [lenT_eq, lenT0, hT]; simp [hc]
    simp [takeV, hT, hc]
    rw [hr]; refine ret_closed rfl ?_ rfl
    simp [lenV, hL]


/-- The bytes of a sum, the lowest first. -/
def sumB (s : Int) (i : Nat) : UInt8 := UInt8.ofNat (s.toNat / 2 ^ (8 * i))
def sumBs (s : Int) : List UInt8 := (List.range 8).map (sumB s)
@[simp] theorem sumBs_length (s : Int) : (sumBs s).length = 8 := by simp [sumBs]
def sumTo (s : Int) (i : Nat) : List UInt8 := (List.range i).map (sumB s)
@[simp] theorem sumTo_length (s : Int) (i : Nat) : (sumTo s i).length = i := by simp [sumTo]
theorem sumTo_succ (s : Int) (i : Nat) : sumTo s (i + 1) = sumTo s i ++ [sumB s i] := by simp [sumTo, List.range_succ]
theorem sumTo_zero (s : Int) : sumTo s 0 = [] := rfl
theorem sumTo_eight (s : Int) : sumTo s 8 = sumBs s := rfl
theorem sumB_eq {s : Int} (h : InU64 s) (i : Nat) : IntKind.u8.wrap (s.fdiv (2 ^ (8 * i))) = ((sumB s i).toNat : Int) := by
  unfold InU64 at h
  obtain ⟨n, rfl⟩ : ∃ n : Nat, s = n := ⟨s.toNat, by omega⟩
  have e : ((n : Int).fdiv (2 ^ (8 * i))) = ((n / 2 ^ (8 * i) : Nat) : Int) := by
    rw [Int.fdiv_eq_ediv_of_nonneg _ (Int.pow_nonneg (by omega))]
    simp
  rw [e, wrap_u8]
  simp [sumB]

noncomputable def apSumSp := fam (fun i : List UInt8 × Int => [V.own 0 0 i.1.length, .int .u64 i.2]) (fun i => [rowOf i.1]) (fun i => InU64 i.2 ∧ (i.1.length : Int) ≤ 140737488355318) (fun i => ⟨.own 1 0 (i.1.length + 8), [kill (rowOf i.1), rowOf (i.1 ++ sumBs i.2)]⟩)
@[simp] theorem apSumSp_eq {l : List UInt8} {n : Int} {k : Nat} (hk : k = l.length) (h : InU64 n) (h0 : (l.length : Int) ≤ 140737488355318) : apSumSp [V.own 0 0 k, .int .u64 n] [⟨5, 1, byteRow l, false, 2, .rw⟩] = some ⟨.own 1 0 (l.length + 8), [kill (rowOf l), rowOf (l ++ sumBs n)]⟩ := by
  subst hk
  exact fam_eq (A := fun i : List UInt8 × Int => [V.own 0 0 i.1.length, .int .u64 i.2]) (O := fun i => [rowOf i.1]) (fun i j h h' => by simp at h h'; rw [h', h.2]) (l, n) ⟨h, h0⟩
@[simp] theorem apSumSp_sl {a b : Nat} {c : List (List V)} {v : V} {os : List AObj} : apSumSp [V.sl a b c, v] os = none := fam_none (fun i h _ => by simp at h)

def apSt (l : List UInt8) (s : Int) (i : Nat) : St :=
  mkSt [(0, .own (if i = 0 then 0 else 1) 0 (l.length + i)), (1, .int .u64 s), (6, .int .i64 i)] (if i = 0 then [(0, rowOf l)] else [(0, kill (rowOf l)), (1, rowOf (l ++ sumTo s i))]) 2

theorem apSum_spec : Lift.Spec Try.prog 23 apSumSp := by
  refine spec_fam (C := C0) types_ok C0_ok follows Try.func23 (by kernel_rfl) rfl (by kernel_rfl) rfl ?_
  rintro ⟨l, s⟩ ⟨hs, hlen⟩
  simp only at hs hlen
  refine ⟨by simp, ?_⟩
  intro r hr
  simp
  refine axwp_loop (apSt l s) (fun i => i ≤ 8) (fun i => 8 - i) 0 ?_ (Nat.zero_le _) ?_
  · refine weak_mk id ?_ ?_ ?_ ?_ <;> simp [rowOf]
  · intro i hi
    by_cases hik : i < 8
    · have w1 : IntKind.i64.wrap (8 * (i : Int)) = 8 * (i : Int) := wrap_i64_in (by omega) (by omega)
      have w2 : (min (8 * (i : Int)).toNat 64) = 8 * i := by omega
      have w0 : ¬ (8 * (i : Int) < 0) := by omega
      have w4 : IntKind.i64.wrap ((i : Int) + 1) = (i : Int) + 1 := wrap_i64_in (by omega) (by omega)
      have w5 : (l.length : Int) + (i : Int) + 1 ≤ 140737488355328 := by omega
      have hik' : (i : Int) < 8 := by omega
      by_cases h0 : i = 0
      · subst h0
        have hb := sumB_eq hs 0
        simp at hb
        have w6 : (l.length : Int) + 1 ≤ 140737488355328 := by omega
        have hsum : sumTo s 1 = [sumB s 0] := rfl
        simp [apSt, rowOf, hb, w6, byteRow_one]
        refine Again.mk 1 ?_ ?_ ?_
        · omega
        · omega
        · refine weak_at [.inl 0, .inr 0] ?_ ?_ ?_ ?_ <;> simp [rowOf, hsum]
      · simp [apSt, rowOf, h0, hik', w0, w1, w2, w5, sumB_eq hs, byteRow_one]
        refine Again.mk (i + 1) ?_ ?_ ?_
        · omega
        · omega
        · refine weak_at [.inl 0, .inr 0] ?_ ?_ ?_ ?_ <;> simp [rowOf, sumTo_succ, w4, Nat.add_assoc]
    · have e : i = 8 := by omega
      subst e
      simp [apSt, rowOf]
      rw [hr, ← sumTo_eight]
      refine ret_at [.inl 0, .inr 4] rfl ?_ ?_ (by simp) ?_ ?_ ?_ ?_ <;> simp [rowOf]

/-- The number that bytes are, the lowest first. -/
def backN : List UInt8 → Nat
  | [] => 0
  | x :: l => x.toNat + 256 * backN l
theorem backN_append : ∀ (a b : List UInt8), backN (a ++ b) = backN a + 2 ^ (8 * a.length) * backN b
  | [], b => by simp [backN]
  | x :: a, b => by
    have : 2 ^ (8 * (a.length + 1)) = 256 * 2 ^ (8 * a.length) := by rw [show 8 * (a.length + 1) = 8 * a.length + 8 by omega, Nat.pow_add]; omega
    simp only [List.cons_append, backN, backN_append a b, List.length_cons, this]
    rw [Nat.mul_add, Nat.mul_assoc]; omega
theorem backN_lt : ∀ l : List UInt8, backN l < 2 ^ (8 * l.length)
  | [] => by simp [backN]
  | x :: l => by
    have := backN_lt l
    have h2 : 2 ^ (8 * (l.length + 1)) = 256 * 2 ^ (8 * l.length) := by rw [show 8 * (l.length + 1) = 8 * l.length + 8 by omega, Nat.pow_add]; omega
    have := x.toNat_lt
    simp only [backN, List.length_cons, h2]
    omega
theorem backN_inj : ∀ {a b : List UInt8}, a.length = b.length → backN a = backN b → a = b
  | [], [], _, _ => rfl
  | x :: a, y :: b, h, e => by
    simp only [backN] at e
    have := x.toNat_lt
    have := y.toNat_lt
    have h1 : x.toNat = y.toNat := by omega
    have h2 : backN a = backN b := by omega
    rw [UInt8.toNat_inj.1 h1, backN_inj (by simpa using h) h2]
  | [], _ :: _, h, _ => by simp at h
  | _ :: _, [], h, _ => by simp at h
theorem backN_sumTo {s : Int} (h : InU64 s) : ∀ i, backN (sumTo s i) = s.toNat % 2 ^ (8 * i)
  | 0 => by simp [sumTo, backN, Nat.mod_one]
  | i + 1 => by
    rw [sumTo_succ, backN_append, backN_sumTo h i, sumTo_length]
    have e : 2 ^ (8 * (i + 1)) = 2 ^ (8 * i) * 256 := by rw [show 8 * (i + 1) = 8 * i + 8 by omega, Nat.pow_add]
    rw [e, Nat.mod_mul]
    simp [backN, sumB]
theorem backN_sumBs {s : Int} (h : InU64 s) : (backN (sumBs s) : Int) = s := by
  rw [← sumTo_eight, backN_sumTo h]
  unfold InU64 at h
  rw [Nat.mod_eq_of_lt (by omega)]
  omega
theorem or_bitsG {c y k : Nat} (hc : c < 2 ^ k) (hy : c + y * 2 ^ k < 18446744073709551616) : iOr .u64 (c : Int) (IntKind.u64.wrap ((y : Int) * 2 ^ k)) = ((c + y * 2 ^ k : Nat) : Int) := by
  have e1 : (y : Int) * 2 ^ k = ((y * 2 ^ k : Nat) : Int) := by simp
  have e2 : y * 2 ^ k < 18446744073709551616 := by omega
  rw [e1, wrap_u64_in (x := ((y * 2 ^ k : Nat) : Int)) (by omega) (by omega)]
  have : (BitVec.ofInt 64 (c : Int) ||| BitVec.ofInt 64 ((y * 2 ^ k : Nat) : Int)).toNat = c + y * 2 ^ k := by
    rw [BitVec.toNat_or, BitVec.ofInt_natCast, BitVec.ofInt_natCast, BitVec.toNat_ofNat, BitVec.toNat_ofNat, Nat.mod_eq_of_lt (by omega), Nat.mod_eq_of_lt (by omega), Nat.or_comm, Nat.mul_comm y, ← Nat.two_pow_add_eq_or_of_lt hc]
    omega
  show IntKind.u64.wrap ((BitVec.ofInt 64 (c : Int) ||| BitVec.ofInt 64 ((y * 2 ^ k : Nat) : Int)).toNat : Int) = _
  rw [this]
  exact wrap_u64_in (by omega) (by omega)
theorem backN_step {l : List UInt8} {i : Nat} {x : UInt8} (hx : l[i]? = some x) (hi : i < 8) : iOr .u64 (backN (l.take i) : Int) (IntKind.u64.wrap ((x.toNat : Int) * 2 ^ (8 * i))) = (backN (l.take (i + 1)) : Int) := by
  have hl : i < l.length := (List.getElem?_eq_some_iff.1 hx).1
  have h1 : (l.take i).length = i := by rw [List.length_take]; omega
  have h2 := backN_lt (l.take i)
  rw [h1] at h2
  have h3 : backN (l.take (i + 1)) = backN (l.take i) + x.toNat * 2 ^ (8 * i) := by
    rw [List.take_add_one, hx, backN_append, h1]
    simp [backN, Nat.mul_comm]
  have h4 := backN_lt (l.take (i + 1))
  have h5 : (l.take (i + 1)).length = i + 1 := by rw [List.length_take]; omega
  rw [h5] at h4
  have h6 : 2 ^ (8 * (i + 1)) ≤ 2 ^ 64 := Nat.pow_le_pow_right (by decide) (by omega)
  have h7 : (2 : Nat) ^ 64 = 18446744073709551616 := by decide
  rw [or_bitsG h2 (by omega), h3]

noncomputable def backSp := fam (fun i : Nat × (List UInt8) => [V.sl i.1 1 (byteRow i.2)]) (fun _ : Nat × (List UInt8) => []) (fun i : Nat × (List UInt8) => (i.2.length ≤ 8)) (fun i : Nat × (List UInt8) => ⟨.int .u64 (backN i.2), []⟩)
@[simp] theorem backSp_eq {t : Nat} {l : List UInt8} (h1 : l.length ≤ 8) : backSp ([V.sl t 1 (byteRow l)]) ([]) = some (⟨.int .u64 (backN l), []⟩) :=
  fam_eq (A := fun i : Nat × (List UInt8) => [V.sl i.1 1 (byteRow i.2)]) (O := fun _ : Nat × (List UInt8) => []) (res := fun i : Nat × (List UInt8) => ⟨.int .u64 (backN i.2), []⟩) (by rintro ⟨a0, a1⟩ ⟨b0, b1⟩ h h' <;> simp at h h' <;> simp_all) (t, l) h1

def bkSt (t : Nat) (l : List UInt8) (i : Nat) : St :=
  mkSt [(0, .sl t 1 (byteRow l)), (3, .int .u64 (backN (l.take i))), (6, .sl t 1 (byteRow l)), (7, .int .i64 l.length), (8, .int .i64 i)] [] 0

theorem back_spec : Lift.Spec Try.prog 31 backSp := by
  refine spec_fam (C := C0) types_ok C0_ok follows Try.func31 (by kernel_rfl) rfl (by kernel_rfl) rfl ?_
  rintro ⟨t, l⟩ hl
  simp only at hl
  refine ⟨by simp, ?_⟩
  intro r hr
  simp
  refine axwp_loop (bkSt t l) (fun i => i ≤ l.length) (fun i => l.length - i) 0 ?_ (Nat.zero_le _) ?_
  · refine weak_mk id ?_ ?_ ?_ ?_ <;> simp [backN]
  · intro i hi
    by_cases hik : i < l.length
    · obtain ⟨x, hx, hx'⟩ : ∃ x, l[i]? = some x ∧ l[i] = x := ⟨_, List.getElem?_eq_getElem hik, rfl⟩
      have w1 : IntKind.i64.wrap (8 * (i : Int)) = 8 * (i : Int) := wrap_i64_in (by omega) (by omega)
      have w2 : (min (8 * (i : Int)).toNat 64) = 8 * i := by omega
      have w0 : ¬ (8 * (i : Int) < 0) := by omega
      have w4 : IntKind.i64.wrap ((i : Int) + 1) = (i : Int) + 1 := wrap_i64_in (by omega) (by omega)
      have w6 : IntKind.u64.wrap (x.toNat : Int) = (x.toNat : Int) := wrap_u64_in (by omega) (by have := x.toNat_lt; omega)
      simp [bkSt, hik, hx', w0, w1, w2, w4, w6, backN_step hx (by omega)]
      refine Again.mk (i + 1) ?_ ?_ ?_
      · omega
      · omega
      · refine weak_mk id ?_ ?_ ?_ ?_ <;> simp
    · have e : i = l.length := by omega
      subst e
      simp [bkSt]
      rw [hr]; refine ret_closed rfl ?_ rfl
      simp

def rbSt (t : Nat) (l : List UInt8) (i : Nat) : St :=
  mkSt [(0, .sl t 1 (byteRow l)), (3, .int .u64 (backN (l.take i))), (4, .int .i64 i)] [] 0

theorem refback_spec : Lift.Spec Try.prog 33 backSp := by
  refine spec_fam (C := C0) types_ok C0_ok follows Try.func33 (by kernel_rfl) rfl (by kernel_rfl) rfl ?_
  rintro ⟨t, l⟩ hl
  simp only at hl
  refine ⟨by simp, ?_⟩
  intro r hr
  simp
  refine axwp_loop (rbSt t l) (fun i => i ≤ l.length) (fun i => l.length - i) 0 ?_ (Nat.zero_le _) ?_
  · refine weak_mk id ?_ ?_ ?_ ?_ <;> simp [backN]
  · intro i hi
    by_cases hik : i < l.length
    · obtain ⟨x, hx, hx'⟩ : ∃ x, l[i]? = some x ∧ l[i] = x := ⟨_, List.getElem?_eq_getElem hik, rfl⟩
      have w1 : IntKind.i64.wrap (8 * (i : Int)) = 8 * (i : Int) := wrap_i64_in (by omega) (by omega)
      have w5 : IntKind.u64.wrap (8 * (i : Int)) = 8 * (i : Int) := wrap_u64_in (by omega) (by omega)
      have w2 : (min (8 * (i : Int)).toNat 64) = 8 * i := by omega
      have w0 : ¬ (8 * (i : Int) < 0) := by omega
      have w4 : IntKind.i64.wrap ((i : Int) + 1) = (i : Int) + 1 := wrap_i64_in (by omega) (by omega)
      have w6 : IntKind.u64.wrap (x.toNat : Int) = (x.toNat : Int) := wrap_u64_in (by omega) (by have := x.toNat_lt; omega)
      have h8 : (i : Int) < 8 := by omega
      simp [rbSt, hik, h8, hx', w0, w1, w2, w4, w5, w6, backN_step hx (by omega)]
      refine Again.mk (i + 1) ?_ ?_ ?_
      · omega
      · omega
      · refine weak_mk id ?_ ?_ ?_ ?_ <;> simp
    · have e : i = l.length := by omega
      subst e
      by_cases h8 : (l.length : Int) < 8
      · simp [rbSt, h8]
        rw [hr]; refine ret_closed rfl ?_ rfl
        simp
      · simp [rbSt, h8]
        rw [hr]; refine ret_closed rfl ?_ rfl
        simp

noncomputable def eightSp := fam (fun i : Nat × (List UInt8) × Int => [V.sl i.1 1 (byteRow i.2.1), .int .u64 i.2.2]) (fun _ : Nat × (List UInt8) × Int => []) (fun i : Nat × (List UInt8) × Int => (InU64 i.2.2) ∧ ((i.2.1.length : Int) ≤ 140737488355318)) (fun i : Nat × (List UInt8) × Int => ⟨.own 0 0 (i.2.1.length + 8), [rowOf (i.2.1 ++ sumBs i.2.2)]⟩)
@[simp] theorem eightSp_eq {t : Nat} {l : List UInt8} {s : Int} (h1 : InU64 s) (h2 : (l.length : Int) ≤ 140737488355318) : eightSp ([V.sl t 1 (byteRow l), .int .u64 s]) ([]) = some (⟨.own 0 0 (l.length + 8), [rowOf (l ++ sumBs s)]⟩) :=
  fam_eq (A := fun i : Nat × (List UInt8) × Int => [V.sl i.1 1 (byteRow i.2.1), .int .u64 i.2.2]) (O := fun _ : Nat × (List UInt8) × Int => []) (res := fun i : Nat × (List UInt8) × Int => ⟨.own 0 0 (i.2.1.length + 8), [rowOf (i.2.1 ++ sumBs i.2.2)]⟩) (by rintro ⟨a0, a1, a2⟩ ⟨b0, b1, b2⟩ h h' <;> simp at h h' <;> simp_all) (t, l, s) ⟨h1, h2⟩

def egSt (l : List UInt8) (s : Int) (i : Nat) : St :=
  mkSt [(1, .int .u64 s), (5, .own 0 0 (l.length + i)), (6, .int .i64 i)] [(0, rowOf (l ++ sumTo s i))] 1

theorem eight_spec : Lift.Spec Try.prog 27 eightSp := by
  refine spec_fam (C := C0) types_ok C0_ok follows Try.func27 (by kernel_rfl) rfl (by kernel_rfl) rfl ?_
  rintro ⟨t, l, s⟩ ⟨hs, hlen⟩
  simp only at hs hlen
  refine ⟨by simp, ?_⟩
  intro r hr
  have hl' : (l.length : Int) ≤ 140737488355328 := by omega
  simp [hl']
  refine axwp_loop (egSt l s) (fun i => i ≤ 8) (fun i => 8 - i) 0 ?_ (Nat.zero_le _) ?_
  · refine weak_at [.inr 5] ?_ ?_ ?_ ?_ <;> simp [rowOf, sumTo_zero]
  · intro i hi
    by_cases hik : i < 8
    · have w1 : IntKind.i64.wrap (8 * (i : Int)) = 8 * (i : Int) := wrap_i64_in (by omega) (by omega)
      have w2 : (min (8 * (i : Int)).toNat 64) = 8 * i := by omega
      have w0 : ¬ (8 * (i : Int) < 0) := by omega
      have w4 : IntKind.i64.wrap ((i : Int) + 1) = (i : Int) + 1 := wrap_i64_in (by omega) (by omega)
      have w6 : IntKind.u64.wrap (8 * (i : Int)) = 8 * (i : Int) := wrap_u64_in (by omega) (by omega)
      have w5 : (l.length : Int) + (i : Int) + 1 ≤ 140737488355328 := by omega
      have hik' : (i : Int) < 8 := by omega
      simp [egSt, rowOf, hik', w0, w1, w2, w5, w6, sumB_eq hs, byteRow_one]
      refine Again.mk (i + 1) ?_ ?_ ?_
      · omega
      · omega
      · refine weak_at [.inr 5] ?_ ?_ ?_ ?_ <;> simp [rowOf, sumTo_succ, w4, Nat.add_assoc]
    · have e : i = 8 := by omega
      subst e
      simp [egSt, rowOf]
      rw [hr, ← sumTo_eight]
      refine ret_at [.inr 4] rfl ?_ ?_ (by simp) ?_ ?_ ?_ ?_ <;> simp [rowOf]
end Go.Proofs.Ytgnfgcpolbcaoaa
