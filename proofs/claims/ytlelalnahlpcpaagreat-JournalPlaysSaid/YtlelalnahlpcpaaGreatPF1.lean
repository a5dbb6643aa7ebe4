/-
  Texts: F1, F2, F3, F4.
-/
import Derived.Test.YtlelalnahlpcpaaGreatPW2
import Derived.Test.YtlelalnahlpcpaaGreatPD
set_option linter.unusedSimpArgs false
set_option linter.unusedVariables false
/-
  frame: copies, sums in bytes.
-/
namespace Go.Proofs.YtlelalnahlpcpaaGreat
open Go.Lift

noncomputable def cloneSp := fam (fun i : Nat × (List UInt8) => [V.sl i.1 1 (byteRow i.2)]) (fun _ : Nat × (List UInt8) => []) (fun i : Nat × (List UInt8) => (NilOk i.1 i.2) ∧ (i.2.length ≤ 140737488355328)) (fun i : Nat × (List UInt8) => ⟨.own 0 0 i.2.length, [rowOf i.2]⟩)
@[simp] theorem cloneSp_eq {t : Nat} {l : List UInt8} (h1 : NilOk t l) (h2 : l.length ≤ 140737488355328) : cloneSp ([V.sl t 1 (byteRow l)]) ([]) = some (⟨.own 0 0 l.length, [rowOf l]⟩) :=
  fam_eq (A := fun i : Nat × (List UInt8) => [V.sl i.1 1 (byteRow i.2)]) (O := fun _ : Nat × (List UInt8) => []) (res := fun i : Nat × (List UInt8) => ⟨.own 0 0 i.2.length, [rowOf i.2]⟩) (by rintro ⟨a0, a1⟩ ⟨b0, b1⟩ h h' <;> simp at h h' <;> simp_all) (t, l) ⟨h1, h2⟩

theorem clone_spec : Lift.Spec Tryz.prog 74 cloneSp := by
  refine spec_fam (C := C0) types_ok C0_ok follows Tryz.func74 (by kernel_rfl) rfl (by kernel_rfl) rfl ?_
  rintro ⟨t, l⟩ ⟨h0, hl⟩
  simp only at h0 hl
  refine ⟨by simp, ?_⟩
  intro r hr
  have hl' : (l.length : Int) ≤ 140737488355328 := by omega
  by_cases ht : t = 0
  · have := h0 ht
    subst this; subst ht
    simp
    rw [hr]
    refine Ret.weak (ret_at [.inr 2] rfl ?_ ?_ (by simp) ?_ ?_ ?_ ?_) (weak_nil (sz := 1) 2 77 (rowOf []) ?_ ?_ ?_) <;> simp [rowOf]
  · by_cases hc : nnB t l.isEmpty = true
    · simp [ht, hc, hl']
      rw [hr]; refine ret_own rfl rfl ?_ (by simp [rowOf])
      simp [rowOf]
    · have : l = [] := by cases l with | nil => rfl | cons a l => exact absurd (by simp) hc
      subst this
      simp at hc
      simp [ht, hc]
      rw [hr]
      refine ⟨?_, ?_⟩
      · refine Ret.weak (ret_at [.inr 2] rfl ?_ ?_ (by simp) ?_ ?_ ?_ ?_) (weak_nil (sz := 1) 2 77 (rowOf []) ?_ ?_ ?_) <;> simp [rowOf]
      · refine ret_own rfl rfl ?_ (by simp [rowOf])
        simp [rowOf]

noncomputable def growSp := fam (fun i : Nat => [V.sl 0 1 [], .int .i64 i]) (fun _ : Nat => []) (fun i : Nat => (i ≤ 140737488355328)) (fun _ : Nat => ⟨.own 0 0 0, [rowOf []]⟩)
@[simp] theorem growSp_eq {n : Nat} (h1 : n ≤ 140737488355328) : growSp ([V.sl 0 1 [], .int .i64 n]) ([]) = some (⟨.own 0 0 0, [rowOf []]⟩) :=
  fam_eq (A := fun i : Nat => [V.sl 0 1 [], .int .i64 i]) (O := fun _ : Nat => []) (res := fun _ : Nat => ⟨.own 0 0 0, [rowOf []]⟩) (by intro a b h h' <;> simp at h h' <;> simp_all) n h1

theorem grow_spec : Lift.Spec Tryz.prog 106 growSp := by
  refine spec_fam (C := C0) types_ok C0_ok follows Tryz.func106 (by kernel_rfl) rfl (by kernel_rfl) rfl ?_
  intro n hn
  refine ⟨by simp, ?_⟩
  intro r hr
  have w1 : IntKind.i64.wrap (n : Int) = (n : Int) := wrap_i64_in (by omega) (by omega)
  have h1 : (n : Int) ≤ 140737488355328 := by omega
  have h0 : ¬ ((n : Int) < 0) := by omega
  by_cases hz : n = 0
  · subst hz
    simp
    rw [hr]
    refine Ret.weak (ret_at [.inr 4] rfl ?_ ?_ (by simp) ?_ ?_ ?_ ?_) (weak_nil (sz := 1) 4 77 (rowOf []) ?_ ?_ ?_) <;> simp [rowOf]
  · have hp : (0 : Int) < (n : Int) := by omega
    have hp' : 0 < n := by omega
    simp [h0, hp', w1, h1]
    rw [hr]
    refine Ret.weak (ret_at [.inr 4] rfl ?_ ?_ (by simp) ?_ ?_ ?_ ?_) (weak_cut 0 144 ⟨5, 1, List.replicate n [.int .u8 0], false, 2, .rw⟩ ?_) <;> simp [rowOf, hp']

/-- Slices that are handed over to be joined. -/
def partRow (ls : List (Nat × List UInt8)) : List (List V) := ls.map fun p => [.sl p.1 1 (byteRow p.2)]
def joinAll (ls : List (Nat × List UInt8)) : List UInt8 := (ls.map (·.2)).flatten
@[simp] theorem partRow_length (l : List (Nat × List UInt8)) : (partRow l).length = l.length := by simp [partRow]
@[simp] theorem partRow_get (l : List (Nat × List UInt8)) (n : Nat) : (partRow l)[n]? = (l[n]?).map fun b => [V.sl b.1 1 (byteRow b.2)] := by simp [partRow]
@[simp] theorem partRow_getElem (l : List (Nat × List UInt8)) (n : Nat) (h : n < (partRow l).length) : (partRow l)[n] = [V.sl (l[n]'(by simpa using h)).1 1 (byteRow (l[n]'(by simpa using h)).2)] := by simp [partRow]
theorem partRow_inj {a b : List (Nat × List UInt8)} (h : partRow a = partRow b) : a = b := by
  induction a generalizing b with
  | nil => cases b with
    | nil => rfl
    | cons => cases h
  | cons x a ih => cases b with
    | nil => cases h
    | cons y b =>
      simp only [partRow, List.map_cons, List.cons.injEq] at h
      obtain ⟨h1, h2⟩ := h
      simp at h1
      rw [ih h2, Prod.ext h1.1 h1.2]
@[simp] theorem partRow_eq {a b : List (Nat × List UInt8)} : partRow a = partRow b ↔ a = b := ⟨partRow_inj, fun h => by rw [h]⟩

noncomputable def joinSp := fam (fun i : Nat × (List (Nat × List UInt8)) => [V.sl i.1 1 (partRow i.2)]) (fun _ : Nat × (List (Nat × List UInt8)) => []) (fun i : Nat × (List (Nat × List UInt8)) => ((joinAll i.2).length ≤ 140737488351232) ∧ (i.2.length ≤ 1000)) (fun i : Nat × (List (Nat × List UInt8)) => ⟨.own 0 0 (joinAll i.2).length, [rowOf (joinAll i.2)]⟩)
theorem joinSp_eq {u : Nat} {ls : List (Nat × List UInt8)} (h1 : (joinAll ls).length ≤ 140737488351232) (h2 : ls.length ≤ 1000) : joinSp ([V.sl u 1 (partRow ls)]) ([]) = some (⟨.own 0 0 (joinAll ls).length, [rowOf (joinAll ls)]⟩) :=
  fam_eq (A := fun i : Nat × (List (Nat × List UInt8)) => [V.sl i.1 1 (partRow i.2)]) (O := fun _ : Nat × (List (Nat × List UInt8)) => []) (res := fun i : Nat × (List (Nat × List UInt8)) => ⟨.own 0 0 (joinAll i.2).length, [rowOf (joinAll i.2)]⟩) (by rintro ⟨a0, a1⟩ ⟨b0, b1⟩ h h' <;> simp at h h' <;> simp_all) (u, ls) ⟨h1, h2⟩

@[simp] theorem joinSp_three {u t1 t2 t3 : Nat} {a b c : List UInt8} (h : a.length + b.length + c.length ≤ 140737488351232) : joinSp [V.sl u 1 [[V.sl t1 1 (byteRow a)], [V.sl t2 1 (byteRow b)], [V.sl t3 1 (byteRow c)]]] [] = some ⟨.own 0 0 (a.length + b.length + c.length), [rowOf (a ++ b ++ c)]⟩ := by
  have := joinSp_eq (u := u) (ls := [(t1, a), (t2, b), (t3, c)]) (by simp [joinAll]; omega) (by simp)
  simp only [partRow, joinAll, List.map_cons, List.map_nil] at this
  rw [this]
  simp [Nat.add_assoc]

noncomputable def CF1 := mkC [(106, growSp)]
theorem CF1_ok : SpecsOk Tryz.prog CF1 := mkC_ok (all_cons grow_spec all_nil)
@[simp] theorem CF1_1 : CF1 106 = growSp := rfl

theorem joinAll_append (a b : List (Nat × List UInt8)) : joinAll (a ++ b) = joinAll a ++ joinAll b := by simp [joinAll]
theorem joinAll_take {ls : List (Nat × List UInt8)} {i : Nat} {x : Nat × List UInt8} (hx : ls[i]? = some x) : joinAll (ls.take (i + 1)) = joinAll (ls.take i) ++ x.2 := by
  simp [joinAll, List.take_add_one, hx]
theorem joinAll_le (ls : List (Nat × List UInt8)) (i : Nat) : (joinAll (ls.take i)).length ≤ (joinAll ls).length := by
  have : joinAll ls = joinAll (ls.take i) ++ joinAll (ls.drop i) := by
    rw [← joinAll_append, List.take_append_drop]
  rw [this]; simp

def jnSt1 (u : Nat) (ls : List (Nat × List UInt8)) (i : Nat) : St :=
  mkSt [(0, .sl u 1 (partRow ls)), (3, .int .i64 (joinAll (ls.take i)).length), (9, .sl u 1 (partRow ls)), (10, .int .i64 ls.length), (11, .int .i64 i)] [] 0
def jnSt2 (u : Nat) (ls : List (Nat × List UInt8)) (i : Nat) : St :=
  mkSt [(0, .sl u 1 (partRow ls)), (6, .own 0 0 (joinAll (ls.take i)).length), (25, .sl u 1 (partRow ls)), (26, .int .i64 ls.length), (27, .int .i64 i)] [(0, rowOf (joinAll (ls.take i)))] 1

theorem join_spec : Lift.Spec Tryz.prog 96 joinSp := by
  refine spec_fam (C := CF1) types_ok CF1_ok follows Tryz.func96 (by kernel_rfl) rfl (by kernel_rfl) rfl ?_
  rintro ⟨u, ls⟩ ⟨h1, h2⟩
  simp only at h1 h2
  refine ⟨by simp, ?_⟩
  intro r hr
  simp
  refine axwp_loop (jnSt1 u ls) (fun i => i ≤ ls.length) (fun i => ls.length - i) 0 ?_ (Nat.zero_le _) ?_
  · refine weak_mk id ?_ ?_ ?_ ?_ <;> simp [joinAll]
  · intro i hi
    by_cases hik : i < ls.length
    · obtain ⟨x, hx, hx'⟩ : ∃ x, ls[i]? = some x ∧ ls[i] = x := ⟨_, List.getElem?_eq_getElem hik, rfl⟩
      have hj := joinAll_take hx
      have hle := joinAll_le ls (i + 1)
      have w4 : IntKind.i64.wrap ((i : Int) + 1) = (i : Int) + 1 := wrap_i64_in (by omega) (by omega)
      have w5 : IntKind.i64.wrap (((joinAll (ls.take i)).length : Int) + (x.2.length : Int)) = ((joinAll (ls.take (i + 1))).length : Int) := by
        rw [hj, List.length_append] at *
        rw [wrap_i64_in (by omega) (by omega)]; omega
      have w6 : ¬ (((joinAll (ls.take (i + 1))).length : Int) < 0) := by omega
      simp [jnSt1, hik, hx', w4, w5, w6]
      refine Again.mk (i + 1) hik ?_ ?_
      · omega
      · refine weak_mk id ?_ ?_ ?_ ?_ <;> simp
    · have e : i = ls.length := by omega
      subst e
      have h3 : (joinAll ls).length ≤ 140737488355328 := by omega
      simp [jnSt1, h3]
      refine axwp_loop (jnSt2 u ls) (fun i => i ≤ ls.length) (fun i => ls.length - i) 0 ?_ (Nat.zero_le _) ?_
      · refine weak_at [.inr 6] ?_ ?_ ?_ ?_ <;> simp [joinAll, rowOf]
      · intro i hi
        by_cases hik : i < ls.length
        · obtain ⟨x, hx, hx'⟩ : ∃ x, ls[i]? = some x ∧ ls[i] = x := ⟨_, List.getElem?_eq_getElem hik, rfl⟩
          have hj := joinAll_take hx
          have hle := joinAll_le ls (i + 1)
          have w4 : IntKind.i64.wrap ((i : Int) + 1) = (i : Int) + 1 := wrap_i64_in (by omega) (by omega)
          have w5 : ((joinAll (ls.take i)).length : Int) + (x.2.length : Int) ≤ 140737488355328 := by
            rw [hj, List.length_append] at hle
            omega
          simp [jnSt2, hik, hx', w4, w5, rowOf]
          refine Again.mk (i + 1) hik ?_ ?_
          · omega
          · refine weak_at [.inr 6] ?_ ?_ ?_ ?_ <;> simp [rowOf, hj]
        · have e : i = ls.length := by omega
          subst e
          simp [jnSt2, rowOf]
          rw [hr]
          refine ret_at [.inr 2] rfl ?_ ?_ (by simp) ?_ ?_ ?_ ?_ <;> simp [rowOf]
end Go.Proofs.YtlelalnahlpcpaaGreat

/-
  frame: sums in bytes; what is put.
-/
namespace Go.Proofs.YtlelalnahlpcpaaGreat
open Go.Lift

theorem flen_spec : Lift.Spec Tryz.prog 71 lenSp := by
  refine spec_fam (C := CW) types_ok CW_ok follows Tryz.func71 (by kernel_rfl) rfl (by kernel_rfl) rfl ?_
  rintro ⟨t, l⟩ _
  refine ⟨by simp, ?_⟩
  intro r hr
  rcases hT : takeT l with ⟨a, b, c⟩
  by_cases hc : c = 0
  · by_cases ha : a < 0
    · have hL : lenT l = (0, 0, 18) := by rw [lenT_eq, lenT0, hT]; simp [hc, ha]
      simp [takeV, hT, hc, ha]
      rw [hr]; refine ret_closed rfl ?_ rfl
      simp [lenV, hL]
    · by_cases hb : 65536 < a
      · have hL : lenT l = (0, 0, 2) := by rw [lenT_eq, lenT0, hT]; simp [hc, ha, hb]
        simp [takeV, hT, hc, ha, hb]
        rw [hr]; refine ret_closed rfl ?_ rfl
        simp [lenV, hL]
      · have hL : lenT l = (a, b, 0) := by rw [lenT_eq, lenT0, hT]; simp [hc, ha, hb]
        simp [takeV, hT, hc, ha, hb]
        rw [hr]; refine ret_closed rfl ?_ rfl
        simp [lenV, hL]
  · have hL : lenT l = (0, 0, c) := by rw [lenT_eq, lenT0, hT]; simp [hc]
    simp [takeV, hT, hc]
    rw [hr]; refine ret_closed rfl ?_ rfl
    simp [lenV, hL]


/-- The bytes of a sum, the lowest first. -/
def sumB (s : Int) (i : Nat) : UInt8 := UInt8.ofNat (s.toNat / 2 ^ (8 * i))
def sumBs (s : Int) : List UInt8 := (List.range 8).map (sumB s)
@[simp] theorem sumBs_length (s : Int) : (sumBs s).length = 8 := by simp [sumBs]
def sumTo (s : Int) (i : Nat) : List UInt8 := (List.range i).map (sumB s)
@[simp] theorem sumTo_length (s : Int) (i : Nat) : (sumTo s i).length = i := by simp [sumTo]
theorem sumTo_succ (s : Int) (i : Nat) : sumTo s (i + 1) = sumTo s i ++ [sumB s i] := by simp [sumTo, List.range_succ]
theorem sumTo_zero (s : Int) : sumTo s 0 = [] := rfl
theorem sumTo_eight (s : Int) : sumTo s 8 = sumBs s := rfl
theorem sumB_eq {s : Int} (h : InU64 s) (i : Nat) : IntKind.u8.wrap (s.fdiv (2 ^ (8 * i))) = ((sumB s i).toNat : Int) := by
  unfold InU64 at h
  obtain ⟨n, rfl⟩ : ∃ n : Nat, s = n := ⟨s.toNat, by omega⟩
  have e : ((n : Int).fdiv (2 ^ (8 * i))) = ((n / 2 ^ (8 * i) : Nat) : Int) := by
    rw [Int.fdiv_eq_ediv_of_nonneg _ (Int.pow_nonneg (by omega))]
    simp
  rw [e, wrap_u8]
  simp [sumB]

noncomputable def apSumSp := fam (fun i : List UInt8 × Int => [V.own 0 0 i.1.length, .int .u64 i.2]) (fun i => [rowOf i.1]) (fun i => InU64 i.2 ∧ (i.1.length : Int) ≤ 140737488355318) (fun i => ⟨.own 1 0 (i.1.length + 8), [kill (rowOf i.1), rowOf (i.1 ++ sumBs i.2)]⟩)
@[simp] theorem apSumSp_eq {l : List UInt8} {n : Int} {k : Nat} (hk : k = l.length) (h : InU64 n) (h0 : (l.length : Int) ≤ 140737488355318) : apSumSp [V.own 0 0 k, .int .u64 n] [⟨5, 1, byteRow l, false, 2, .rw⟩] = some ⟨.own 1 0 (l.length + 8), [kill (rowOf l), rowOf (l ++ sumBs n)]⟩ := by
  subst hk
  exact fam_eq (A := fun i : List UInt8 × Int => [V.own 0 0 i.1.length, .int .u64 i.2]) (O := fun i => [rowOf i.1]) (fun i j h h' => by simp at h h'; rw [h', h.2]) (l, n) ⟨h, h0⟩
@[simp] theorem apSumSp_sl {a b : Nat} {c : List (List V)} {v : V} {os : List AObj} : apSumSp [V.sl a b c, v] os = none := fam_none (fun i h _ => by simp at h)

def apSt (l : List UInt8) (s : Int) (i : Nat) : St :=
  mkSt [(0, .own (if i = 0 then 0 else 1) 0 (l.length + i)), (1, .int .u64 s), (6, .int .i64 i)] (if i = 0 then [(0, rowOf l)] else [(0, kill (rowOf l)), (1, rowOf (l ++ sumTo s i))]) 2

theorem apSum_spec : Lift.Spec Tryz.prog 94 apSumSp := by
  refine spec_fam (C := C0) types_ok C0_ok follows Tryz.func94 (by kernel_rfl) rfl (by kernel_rfl) rfl ?_
  rintro ⟨l, s⟩ ⟨hs, hlen⟩
  simp only at hs hlen
  refine ⟨by simp, ?_⟩
  intro r hr
  simp
  refine axwp_loop (apSt l s) (fun i => i ≤ 8) (fun i => 8 - i) 0 ?_ (Nat.zero_le _) ?_
  · refine weak_mk id ?_ ?_ ?_ ?_ <;> simp [rowOf]
  · intro i hi
    by_cases hik : i < 8
    · have w1 : IntKind.i64.wrap (8 * (i : Int)) = 8 * (i : Int) := wrap_i64_in (by omega) (by omega)
      have w2 : (min (8 * (i : Int)).toNat 64) = 8 * i := by omega
      have w0 : ¬ (8 * (i : Int) < 0) := by omega
      have w4 : IntKind.i64.wrap ((i : Int) + 1) = (i : Int) + 1 := wrap_i64_in (by omega) (by omega)
      have w5 : (l.length : Int) + (i : Int) + 1 ≤ 140737488355328 := by omega
      have hik' : (i : Int) < 8 := by omega
      by_cases h0 : i = 0
      · subst h0
        have hb := sumB_eq hs 0
        simp at hb
        have w6 : (l.length : Int) + 1 ≤ 140737488355328 := by omega
        have hsum : sumTo s 1 = [sumB s 0] := rfl
        simp [apSt, rowOf, hb, w6, byteRow_one]
        refine Again.mk 1 ?_ ?_ ?_
        · omega
        · omega
        · refine weak_at [.inl 0, .inr 0] ?_ ?_ ?_ ?_ <;> simp [rowOf, hsum]
      · simp [apSt, rowOf, h0, hik', w0, w1, w2, w5, sumB_eq hs, byteRow_one]
        refine Again.mk (i + 1) ?_ ?_ ?_
        · omega
        · omega
        · refine weak_at [.inl 0, .inr 0] ?_ ?_ ?_ ?_ <;> simp [rowOf, sumTo_succ, w4, Nat.add_assoc]
    · have e : i = 8 := by omega
      subst e
      simp [apSt, rowOf]
      rw [hr, ← sumTo_eight]
      refine ret_at [.inl 0, .inr 4] rfl ?_ ?_ (by simp) ?_ ?_ ?_ ?_ <;> simp [rowOf]

/-- The number that bytes are, the lowest first. -/
def backN : List UInt8 → Nat
  | [] => 0
  | x :: l => x.toNat + 256 * backN l
theorem backN_append : ∀ (a b : List UInt8), backN (a ++ b) = backN a + 2 ^ (8 * a.length) * backN b
  | [], b => by simp [backN]
  | x :: a, b => by
    have : 2 ^ (8 * (a.length + 1)) = 256 * 2 ^ (8 * a.length) := by rw [show 8 * (a.length + 1) = 8 * a.length + 8 by omega, Nat.pow_add]; omega
    simp only [List.cons_append, backN, backN_append a b, List.length_cons, this]
    rw [Nat.mul_add, Nat.mul_assoc]; omega
theorem backN_lt : ∀ l : List UInt8, backN l < 2 ^ (8 * l.length)
  | [] => by simp [backN]
  | x :: l => by
    have := backN_lt l
    have h2 : 2 ^ (8 * (l.length + 1)) = 256 * 2 ^ (8 * l.length) := by rw [show 8 * (l.length + 1) = 8 * l.length + 8 by omega, Nat.pow_add]; omega
    have := x.toNat_lt
    simp only [backN, List.length_cons, h2]
    omega
theorem backN_inj : ∀ {a b : List UInt8}, a.length = b.length → backN a = backN b → a = b
  | [], [], _, _ => rfl
  | x :: a, y :: b, h, e => by
    simp only [backN] at e
    have := x.toNat_lt
    have := y.toNat_lt
    have h1 : x.toNat = y.toNat := by omega
    have h2 : backN a = backN b := by omega
    rw [UInt8.toNat_inj.1 h1, backN_inj (by simpa using h) h2]
  | [], _ :: _, h, _ => by simp at h
  | _ :: _, [], h, _ => by simp at h
theorem backN_sumTo {s : Int} (h : InU64 s) : ∀ i, backN (sumTo s i) = s.toNat % 2 ^ (8 * i)
  | 0 => by simp [sumTo, backN, Nat.mod_one]
  | i + 1 => by
    rw [sumTo_succ, backN_append, backN_sumTo h i, sumTo_length]
    have e : 2 ^ (8 * (i + 1)) = 2 ^ (8 * i) * 256 := by rw [show 8 * (i + 1) = 8 * i + 8 by omega, Nat.pow_add]
    rw [e, Nat.mod_mul]
    simp [backN, sumB]
theorem backN_sumBs {s : Int} (h : InU64 s) : (backN (sumBs s) : Int) = s := by
  rw [← sumTo_eight, backN_sumTo h]
  unfold InU64 at h
  rw [Nat.mod_eq_of_lt (by omega)]
  omega
theorem or_bitsG {c y k : Nat} (hc : c < 2 ^ k) (hy : c + y * 2 ^ k < 18446744073709551616) : iOr .u64 (c : Int) (IntKind.u64.wrap ((y : Int) * 2 ^ k)) = ((c + y * 2 ^ k : Nat) : Int) := by
  have e1 : (y : Int) * 2 ^ k = ((y * 2 ^ k : Nat) : Int) := by simp
  have e2 : y * 2 ^ k < 18446744073709551616 := by omega
  rw [e1, wrap_u64_in (x := ((y * 2 ^ k : Nat) : Int)) (by omega) (by omega)]
  have : (BitVec.ofInt 64 (c : Int) ||| BitVec.ofInt 64 ((y * 2 ^ k : Nat) : Int)).toNat = c + y * 2 ^ k := by
    rw [BitVec.toNat_or, BitVec.ofInt_natCast, BitVec.ofInt_natCast, BitVec.toNat_ofNat, BitVec.toNat_ofNat, Nat.mod_eq_of_lt (by omega), Nat.mod_eq_of_lt (by omega), Nat.or_comm, Nat.mul_comm y, ← Nat.two_pow_add_eq_or_of_lt hc]
    omega
  show IntKind.u64.wrap ((BitVec.ofInt 64 (c : Int) ||| BitVec.ofInt 64 ((y * 2 ^ k : Nat) : Int)).toNat : Int) = _
  rw [this]
  exact wrap_u64_in (by omega) (by omega)
theorem backN_step {l : List UInt8} {i : Nat} {x : UInt8} (hx : l[i]? = some x) (hi : i < 8) : iOr .u64 (backN (l.take i) : Int) (IntKind.u64.wrap ((x.toNat : Int) * 2 ^ (8 * i))) = (backN (l.take (i + 1)) : Int) := by
  have hl : i < l.length := (List.getElem?_eq_some_iff.1 hx).1
  have h1 : (l.take i).length = i := by rw [List.length_take]; omega
  have h2 := backN_lt (l.take i)
  rw [h1] at h2
  have h3 : backN (l.take (i + 1)) = backN (l.take i) + x.toNat * 2 ^ (8 * i) := by
    rw [List.take_add_one, hx, backN_append, h1]
    simp [backN, Nat.mul_comm]
  have h4 := backN_lt (l.take (i + 1))
  have h5 : (l.take (i + 1)).length = i + 1 := by rw [List.length_take]; omega
  rw [h5] at h4
  have h6 : 2 ^ (8 * (i + 1)) ≤ 2 ^ 64 := Nat.pow_le_pow_right (by decide) (by omega)
  have h7 : (2 : Nat) ^ 64 = 18446744073709551616 := by decide
  rw [or_bitsG h2 (by omega), h3]

noncomputable def backSp := fam (fun i : Nat × (List UInt8) => [V.sl i.1 1 (byteRow i.2)]) (fun _ : Nat × (List UInt8) => []) (fun i : Nat × (List UInt8) => (i.2.length ≤ 8)) (fun i : Nat × (List UInt8) => ⟨.int .u64 (backN i.2), []⟩)
@[simp] theorem backSp_eq {t : Nat} {l : List UInt8} (h1 : l.length ≤ 8) : backSp ([V.sl t 1 (byteRow l)]) ([]) = some (⟨.int .u64 (backN l), []⟩) :=
  fam_eq (A := fun i : Nat × (List UInt8) => [V.sl i.1 1 (byteRow i.2)]) (O := fun _ : Nat × (List UInt8) => []) (res := fun i : Nat × (List UInt8) => ⟨.int .u64 (backN i.2), []⟩) (by rintro ⟨a0, a1⟩ ⟨b0, b1⟩ h h' <;> simp at h h' <;> simp_all) (t, l) h1

def bkSt (t : Nat) (l : List UInt8) (i : Nat) : St :=
  mkSt [(0, .sl t 1 (byteRow l)), (3, .int .u64 (backN (l.take i))), (6, .sl t 1 (byteRow l)), (7, .int .i64 l.length), (8, .int .i64 i)] [] 0

theorem back_spec : Lift.Spec Tryz.prog 72 backSp := by
  refine spec_fam (C := C0) types_ok C0_ok follows Tryz.func72 (by kernel_rfl) rfl (by kernel_rfl) rfl ?_
  rintro ⟨t, l⟩ hl
  simp only at hl
  refine ⟨by simp, ?_⟩
  intro r hr
  simp
  refine axwp_loop (bkSt t l) (fun i => i ≤ l.length) (fun i => l.length - i) 0 ?_ (Nat.zero_le _) ?_
  · refine weak_mk id ?_ ?_ ?_ ?_ <;> simp [backN]
  · intro i hi
    by_cases hik : i < l.length
    · obtain ⟨x, hx, hx'⟩ : ∃ x, l[i]? = some x ∧ l[i] = x := ⟨_, List.getElem?_eq_getElem hik, rfl⟩
      have w1 : IntKind.i64.wrap (8 * (i : Int)) = 8 * (i : Int) := wrap_i64_in (by omega) (by omega)
      have w2 : (min (8 * (i : Int)).toNat 64) = 8 * i := by omega
      have w0 : ¬ (8 * (i : Int) < 0) := by omega
      have w4 : IntKind.i64.wrap ((i : Int) + 1) = (i : Int) + 1 := wrap_i64_in (by omega) (by omega)
      have w6 : IntKind.u64.wrap (x.toNat : Int) = (x.toNat : Int) := wrap_u64_in (by omega) (by have := x.toNat_lt; omega)
      simp [bkSt, hik, hx', w0, w1, w2, w4, w6, backN_step hx (by omega)]
      refine Again.mk (i + 1) ?_ ?_ ?_
      · omega
      · omega
      · refine weak_mk id ?_ ?_ ?_ ?_ <;> simp
    · have e : i = l.length := by omega
      subst e
      simp [bkSt]
      rw [hr]; refine ret_closed rfl ?_ rfl
      simp

def rbSt (t : Nat) (l : List UInt8) (i : Nat) : St :=
  mkSt [(0, .sl t 1 (byteRow l)), (3, .int .u64 (backN (l.take i))), (4, .int .i64 i)] [] 0

theorem refback_spec : Lift.Spec Tryz.prog 81 backSp := by
  refine spec_fam (C := C0) types_ok C0_ok follows Tryz.func81 (by kernel_rfl) rfl (by kernel_rfl) rfl ?_
  rintro ⟨t, l⟩ hl
  simp only at hl
  refine ⟨by simp, ?_⟩
  intro r hr
  simp
  refine axwp_loop (rbSt t l) (fun i => i ≤ l.length) (fun i => l.length - i) 0 ?_ (Nat.zero_le _) ?_
  · refine weak_mk id ?_ ?_ ?_ ?_ <;> simp [backN]
  · intro i hi
    by_cases hik : i < l.length
    · obtain ⟨x, hx, hx'⟩ : ∃ x, l[i]? = some x ∧ l[i] = x := ⟨_, List.getElem?_eq_getElem hik, rfl⟩
      have w1 : IntKind.i64.wrap (8 * (i : Int)) = 8 * (i : Int) := wrap_i64_in (by omega) (by omega)
      have w5 : IntKind.u64.wrap (8 * (i : Int)) = 8 * (i : Int) := wrap_u64_in (by omega) (by omega)
      have w2 : (min (8 * (i : Int)).toNat 64) = 8 * i := by omega
      have w0 : ¬ (8 * (i : Int) < 0) := by omega
      have w4 : IntKind.i64.wrap ((i : Int) + 1) = (i : Int) + 1 := wrap_i64_in (by omega) (by omega)
      have w6 : IntKind.u64.wrap (x.toNat : Int) = (x.toNat : Int) := wrap_u64_in (by omega) (by have := x.toNat_lt; omega)
      have h8 : (i : Int) < 8 := by omega
      simp [rbSt, hik, h8, hx', w0, w1, w2, w4, w5, w6, backN_step hx (by omega)]
      refine Again.mk (i + 1) ?_ ?_ ?_
      · omega
      · omega
      · refine weak_mk id ?_ ?_ ?_ ?_ <;> simp
    · have e : i = l.length := by omega
      subst e
      by_cases h8 : (l.length : Int) < 8
      · simp [rbSt, h8]
        rw [hr]; refine ret_closed rfl ?_ rfl
        simp
      · simp [rbSt, h8]
        rw [hr]; refine ret_closed rfl ?_ rfl
        simp

noncomputable def eightSp := fam (fun i : Nat × (List UInt8) × Int => [V.sl i.1 1 (byteRow i.2.1), .int .u64 i.2.2]) (fun _ : Nat × (List UInt8) × Int => []) (fun i : Nat × (List UInt8) × Int => (InU64 i.2.2) ∧ ((i.2.1.length : Int) ≤ 140737488355318)) (fun i : Nat × (List UInt8) × Int => ⟨.own 0 0 (i.2.1.length + 8), [rowOf (i.2.1 ++ sumBs i.2.2)]⟩)
@[simp] theorem eightSp_eq {t : Nat} {l : List UInt8} {s : Int} (h1 : InU64 s) (h2 : (l.length : Int) ≤ 140737488355318) : eightSp ([V.sl t 1 (byteRow l), .int .u64 s]) ([]) = some (⟨.own 0 0 (l.length + 8), [rowOf (l ++ sumBs s)]⟩) :=
  fam_eq (A := fun i : Nat × (List UInt8) × Int => [V.sl i.1 1 (byteRow i.2.1), .int .u64 i.2.2]) (O := fun _ : Nat × (List UInt8) × Int => []) (res := fun i : Nat × (List UInt8) × Int => ⟨.own 0 0 (i.2.1.length + 8), [rowOf (i.2.1 ++ sumBs i.2.2)]⟩) (by rintro ⟨a0, a1, a2⟩ ⟨b0, b1, b2⟩ h h' <;> simp at h h' <;> simp_all) (t, l, s) ⟨h1, h2⟩

def egSt (l : List UInt8) (s : Int) (i : Nat) : St :=
  mkSt [(1, .int .u64 s), (5, .own 0 0 (l.length + i)), (6, .int .i64 i)] [(0, rowOf (l ++ sumTo s i))] 1

theorem eight_spec : Lift.Spec Tryz.prog 67 eightSp := by
  refine spec_fam (C := C0) types_ok C0_ok follows Tryz.func67 (by kernel_rfl) rfl (by kernel_rfl) rfl ?_
  rintro ⟨t, l, s⟩ ⟨hs, hlen⟩
  simp only at hs hlen
  refine ⟨by simp, ?_⟩
  intro r hr
  have hl' : (l.length : Int) ≤ 140737488355328 := by omega
  simp [hl']
  refine axwp_loop (egSt l s) (fun i => i ≤ 8) (fun i => 8 - i) 0 ?_ (Nat.zero_le _) ?_
  · refine weak_at [.inr 5] ?_ ?_ ?_ ?_ <;> simp [rowOf, sumTo_zero]
  · intro i hi
    by_cases hik : i < 8
    · have w1 : IntKind.i64.wrap (8 * (i : Int)) = 8 * (i : Int) := wrap_i64_in (by omega) (by omega)
      have w2 : (min (8 * (i : Int)).toNat 64) = 8 * i := by omega
      have w0 : ¬ (8 * (i : Int) < 0) := by omega
      have w4 : IntKind.i64.wrap ((i : Int) + 1) = (i : Int) + 1 := wrap_i64_in (by omega) (by omega)
      have w6 : IntKind.u64.wrap (8 * (i : Int)) = 8 * (i : Int) := wrap_u64_in (by omega) (by omega)
      have w5 : (l.length : Int) + (i : Int) + 1 ≤ 140737488355328 := by omega
      have hik' : (i : Int) < 8 := by omega
      simp [egSt, rowOf, hik', w0, w1, w2, w5, w6, sumB_eq hs, byteRow_one]
      refine Again.mk (i + 1) ?_ ?_ ?_
      · omega
      · omega
      · refine weak_at [.inr 5] ?_ ?_ ?_ ?_ <;> simp [rowOf, sumTo_succ, w4, Nat.add_assoc]
    · have e : i = 8 := by omega
      subst e
      simp [egSt, rowOf]
      rw [hr, ← sumTo_eight]
      refine ret_at [.inr 4] rfl ?_ ?_ (by simp) ?_ ?_ ?_ ?_ <;> simp [rowOf]
end Go.Proofs.YtlelalnahlpcpaaGreat

/-
  frame: what is put and taken.
-/
namespace Go.Proofs.YtlelalnahlpcpaaGreat
open Go.Lift

theorem allI_in (h : Int) (l : List UInt8) : InU64 (allI h l) := mixI_in _ _
theorem sumI_in (key : Int) (l : List UInt8) : InU64 (sumI key l) := by rw [sumI_eq]; exact allI_in _ _
attribute [simp] sumI_in

/-- The frame of a byte string. -/
noncomputable def frB : Int → List UInt8 → List UInt8 := hush fun key p => enc (code p.length) ++ sumBs (sumI key p) ++ p
theorem frB_eq (key : Int) (p : List UInt8) : frB key p = enc (code p.length) ++ sumBs (sumI key p) ++ p := by unfold frB; rw [hush_eq]
noncomputable def putB (key : Int) (b p : List UInt8) : List UInt8 := if 65536 < p.length then b else b ++ frB key p

noncomputable def CF3 := mkC [(74, cloneSp), (96, joinSp), (94, apSumSp), (95, intSp), (73, sumSp), (34, intSp), (68, sumSp), (67, eightSp)]
theorem CF3_ok : SpecsOk Tryz.prog CF3 := mkC_ok (all_cons clone_spec (all_cons join_spec (all_cons apSum_spec (all_cons int_spec (all_cons sum_spec (all_cons refint_spec (all_cons refsum_spec (all_cons eight_spec all_nil))))))))
@[simp] theorem CF3_1 : CF3 74 = cloneSp := rfl
@[simp] theorem CF3_2 : CF3 96 = joinSp := rfl
@[simp] theorem CF3_3 : CF3 94 = apSumSp := rfl
@[simp] theorem CF3_4 : CF3 95 = intSp := rfl
@[simp] theorem CF3_5 : CF3 73 = sumSp := rfl
@[simp] theorem CF3_6 : CF3 34 = intSp := rfl
@[simp] theorem CF3_7 : CF3 68 = sumSp := rfl
@[simp] theorem CF3_8 : CF3 67 = eightSp := rfl

noncomputable def putSp := fam (fun i : Nat × (List UInt8) × Int × Nat × (List UInt8) => [V.sl i.1 1 (byteRow i.2.1), .int .i64 i.2.2.1, .sl i.2.2.2.1 1 (byteRow i.2.2.2.2)]) (fun _ : Nat × (List UInt8) × Int × Nat × (List UInt8) => []) (fun i : Nat × (List UInt8) × Int × Nat × (List UInt8) => (NilOk i.1 i.2.1) ∧ (In64 i.2.2.1) ∧ (i.2.1.length ≤ 140737488200000) ∧ (i.2.2.2.2.length ≤ 9223372036854775807)) (fun i : Nat × (List UInt8) × Int × Nat × (List UInt8) => ⟨.own 0 0 (putB i.2.2.1 i.2.1 i.2.2.2.2).length, [rowOf (putB i.2.2.1 i.2.1 i.2.2.2.2)]⟩)
@[simp] theorem putSp_eq {t : Nat} {b : List UInt8} {key : Int} {u : Nat} {p : List UInt8} (h1 : NilOk t b) (h2 : In64 key) (h3 : b.length ≤ 140737488200000) (h4 : p.length ≤ 9223372036854775807) : putSp ([V.sl t 1 (byteRow b), .int .i64 key, .sl u 1 (byteRow p)]) ([]) = some (⟨.own 0 0 (putB key b p).length, [rowOf (putB key b p)]⟩) :=
  fam_eq (A := fun i : Nat × (List UInt8) × Int × Nat × (List UInt8) => [V.sl i.1 1 (byteRow i.2.1), .int .i64 i.2.2.1, .sl i.2.2.2.1 1 (byteRow i.2.2.2.2)]) (O := fun _ : Nat × (List UInt8) × Int × Nat × (List UInt8) => []) (res := fun i : Nat × (List UInt8) × Int × Nat × (List UInt8) => ⟨.own 0 0 (putB i.2.2.1 i.2.1 i.2.2.2.2).length, [rowOf (putB i.2.2.1 i.2.1 i.2.2.2.2)]⟩) (by rintro ⟨a0, a1, a2, a3, a4⟩ ⟨b0, b1, b2, b3, b4⟩ h h' <;> simp at h h' <;> simp_all) (t, b, key, u, p) ⟨h1, h2, h3, h4⟩

theorem put_spec : Lift.Spec Tryz.prog 79 putSp := by
  refine spec_fam (C := CF3) types_ok CF3_ok follows Tryz.func79 (by kernel_rfl) rfl (by kernel_rfl) rfl ?_
  rintro ⟨t, b, key, u, p⟩ ⟨h0, hk, hb, hp⟩
  simp only at h0 hk hb hp
  refine ⟨by simp, ?_⟩
  intro r hr
  have hp' : (p.length : Int) ≤ 9223372036854775807 := by omega
  by_cases hbig : 65536 < p.length
  · have h1 : putB key b p = b := by simp [putB, hbig]
    have h2 : b.length ≤ 140737488355328 := by omega
    have h3 : (65536 : Int) < (p.length : Int) := by omega
    simp [h3, h0, h2]
    simp only [h1] at hr
    rw [hr]
    refine ret_at [.inr 6] rfl ?_ ?_ (by simp) ?_ ?_ ?_ ?_ <;> simp [rowOf]
  · have h1 : putB key b p = b ++ frB key p := by simp [putB, hbig]
    have h3 : ¬ (65536 : Int) < (p.length : Int) := by omega
    have hn : In64 (p.length : Int) := by unfold In64; omega
    have he := enc_ten _ (code_lt hn)
    have h4 : ((enc (code (p.length : Int))).length : Int) ≤ 140737488355318 := by omega
    have h5 : b.length + ((enc (code (p.length : Int))).length + 8) + p.length ≤ 140737488351232 := by omega
    simp [h3, intSp_nil hn, hk, hp', h4, h5, rowOf]
    have h6 : (b ++ (enc (code (p.length : Int)) ++ (sumBs (sumI key p) ++ p))) = putB key b p := by rw [h1, frB_eq]; simp
    have h7 : b.length + ((enc (code (p.length : Int))).length + 8) + p.length = (putB key b p).length := by rw [← h6]; simp; omega
    rw [hr]
    have h8 : ((enc (code (p.length : Int))) ++ sumBs (sumI key p)).take ((enc (code (p.length : Int))).length + 8) = enc (code (p.length : Int)) ++ sumBs (sumI key p) := List.take_of_length_le (by simp)
    refine ret_at [.inr 6] rfl ?_ ?_ (by simp) ?_ ?_ ?_ ?_ <;> simp [rowOf, h6, h7, h8]

theorem refput_spec : Lift.Spec Tryz.prog 53 putSp := by
  refine spec_fam (C := CF3) types_ok CF3_ok follows Tryz.func53 (by kernel_rfl) rfl (by kernel_rfl) rfl ?_
  rintro ⟨t, b, key, u, p⟩ ⟨h0, hk, hb, hp⟩
  simp only at h0 hk hb hp
  refine ⟨by simp, ?_⟩
  intro r hr
  have hp' : (p.length : Int) ≤ 9223372036854775807 := by omega
  by_cases hbig : 65536 < p.length
  · have h1 : putB key b p = b := by simp [putB, hbig]
    have h2 : (b.length : Int) ≤ 140737488355328 := by omega
    have h3 : (65536 : Int) < (p.length : Int) := by omega
    simp [h3, h2]
    simp only [h1] at hr
    rw [hr]
    refine ret_at [.inr 6] rfl ?_ ?_ (by simp) ?_ ?_ ?_ ?_ <;> simp [rowOf]
  · have h1 : putB key b p = b ++ frB key p := by simp [putB, hbig]
    have h3 : ¬ (65536 : Int) < (p.length : Int) := by omega
    have hn : In64 (p.length : Int) := by unfold In64; omega
    have he := enc_ten _ (code_lt hn)
    have h2 : (b.length : Int) ≤ 140737488351222 := by omega
    have h4 : (b.length : Int) + ((enc (code (p.length : Int))).length : Int) ≤ 140737488355318 := by omega
    have h5 : (b.length : Int) + ((enc (code (p.length : Int))).length : Int) + 8 + (p.length : Int) ≤ 140737488355328 := by omega
    simp [h2, h3, hn, hk, hp', h4, h5, rowOf]
    have h6 : (b ++ (enc (code (p.length : Int)) ++ (sumBs (sumI key p) ++ p))) = putB key b p := by rw [h1, frB_eq]; simp
    have h7 : b.length + (enc (code (p.length : Int))).length + 8 + p.length = (putB key b p).length := by rw [← h6]; simp; omega
    rw [hr]
    have h8 : (b ++ enc (code (p.length : Int))).take (b.length + (enc (code (p.length : Int))).length) = b ++ enc (code (p.length : Int)) := List.take_of_length_le (by simp)
    have h9 : b ++ enc (code (p.length : Int)) ++ (sumBs (sumI key p) ++ p) = putB key b p := by rw [← h6]; simp
    refine ret_at [.inr 6] rfl ?_ ?_ (by simp) ?_ ?_ ?_ ?_ <;> simp [rowOf, h6, h7, h8]

/-- What Take returns. -/
noncomputable def frT0 (key : Int) (b : List UInt8) : List UInt8 × Int × Int :=
  if (lenT b).2.2 = 0 then
    (if b.length < (lenT b).2.1.toNat + 8 + (lenT b).1.toNat then ([], 0, 17)
    else if (backN ((b.drop (lenT b).2.1.toNat).take 8) : Int) = sumI key ((b.drop ((lenT b).2.1.toNat + 8)).take (lenT b).1.toNat) then ((b.drop ((lenT b).2.1.toNat + 8)).take (lenT b).1.toNat, (lenT b).2.1 + 8 + (lenT b).1, 0) else ([], 0, 18))
  else ([], 0, (lenT b).2.2)
noncomputable def frT : Int → List UInt8 → List UInt8 × Int × Int := hush frT0
theorem frT_eq (key : Int) (b : List UInt8) : frT key b = frT0 key b := by unfold frT; rw [hush_eq]
def frRes (x : List UInt8 × Int × Int) : CRes := if x.2.2 = 0 then ⟨.tup [.own 0 0 x.1.length, .int .i64 x.2.1, .int .i64 0], [rowOf x.1]⟩ else ⟨.tup [.sl 0 1 [], .int .i64 0, .int .i64 x.2.2], []⟩
theorem frRes_ok (p : List UInt8) (n : Int) : frRes (p, n, 0) = ⟨.tup [.own 0 0 p.length, .int .i64 n, .int .i64 0], [rowOf p]⟩ := by simp [frRes]
theorem frRes_err (p : List UInt8) (n e : Int) (h : ¬ e = 0) : frRes (p, n, e) = ⟨.tup [.sl 0 1 [], .int .i64 0, .int .i64 e], []⟩ := by simp [frRes, h]

/-- What Take returns, case by case. -/
theorem frT_cases (key : Int) (b : List UInt8) : (∃ e, ¬ e = 0 ∧ frT key b = ([], 0, e) ∧ lenT b = (0, 0, e)) ∨ ∃ n k : Nat, lenT b = ((n : Int), (k : Int), 0) ∧ n ≤ 65536 ∧ 1 ≤ k ∧ k ≤ 10 ∧ k ≤ b.length ∧ (∃ rest, b = enc (code (n : Int)) ++ rest ∧ k = (enc (code (n : Int))).length) ∧
    ((b.length < k + 8 + n ∧ frT key b = ([], 0, 17)) ∨ (k + 8 + n ≤ b.length ∧ ¬ (backN ((b.drop k).take 8) : Int) = sumI key ((b.drop (k + 8)).take n) ∧ frT key b = ([], 0, 18)) ∨
      (k + 8 + n ≤ b.length ∧ (backN ((b.drop k).take 8) : Int) = sumI key ((b.drop (k + 8)).take n) ∧ frT key b = ((b.drop (k + 8)).take n, (k : Int) + 8 + n, 0))) := by
  rcases lenT_cases b with ⟨e, he, hL⟩ | ⟨n, k, hL, hn, hk, hk1, hk2, hr⟩
  · exact .inl ⟨e, he, by rw [frT_eq, frT0, hL]; simp [he], hL⟩
  · refine .inr ⟨n, k, hL, hn, hk1, hk2, hk, hr, ?_⟩
    by_cases hs : b.length < k + 8 + n
    · exact .inl ⟨hs, by rw [frT_eq, frT0, hL]; simp [hs]⟩
    · by_cases hq : (backN ((b.drop k).take 8) : Int) = sumI key ((b.drop (k + 8)).take n)
      · exact .inr (.inr ⟨by omega, hq, by rw [frT_eq, frT0, hL]; simp [hs, hq]⟩)
      · exact .inr (.inl ⟨by omega, hq, by rw [frT_eq, frT0, hL]; simp [hs, hq]⟩)

noncomputable def frTakeSp := fam (fun i : Nat × (List UInt8) × Int => [V.sl i.1 1 (byteRow i.2.1), .int .i64 i.2.2]) (fun _ : Nat × (List UInt8) × Int => []) (fun i : Nat × (List UInt8) × Int => (NilOk i.1 i.2.1) ∧ (In64 i.2.2) ∧ (i.2.1.length ≤ 140737488355328)) (fun i : Nat × (List UInt8) × Int => frRes (frT i.2.2 i.2.1))
@[simp] theorem frTakeSp_eq {t : Nat} {b : List UInt8} {key : Int} (h1 : NilOk t b) (h2 : In64 key) (h3 : b.length ≤ 140737488355328) : frTakeSp ([V.sl t 1 (byteRow b), .int .i64 key]) ([]) = some (frRes (frT key b)) :=
  fam_eq (A := fun i : Nat × (List UInt8) × Int => [V.sl i.1 1 (byteRow i.2.1), .int .i64 i.2.2]) (O := fun _ : Nat × (List UInt8) × Int => []) (res := fun i : Nat × (List UInt8) × Int => frRes (frT i.2.2 i.2.1)) (by rintro ⟨a0, a1, a2⟩ ⟨b0, b1, b2⟩ h h' <;> simp at h h' <;> simp_all) (t, b, key) ⟨h1, h2, h3⟩

noncomputable def CF4 := mkC [(74, cloneSp), (71, lenSp), (72, backSp), (73, sumSp), (65, takeSp), (68, sumSp), (81, backSp)]
theorem CF4_ok : SpecsOk Tryz.prog CF4 := mkC_ok (all_cons clone_spec (all_cons flen_spec (all_cons back_spec (all_cons sum_spec (all_cons reftake_spec (all_cons refsum_spec (all_cons refback_spec all_nil)))))))
@[simp] theorem CF4_1 : CF4 74 = cloneSp := rfl
@[simp] theorem CF4_2 : CF4 71 = lenSp := rfl
@[simp] theorem CF4_3 : CF4 72 = backSp := rfl
@[simp] theorem CF4_4 : CF4 73 = sumSp := rfl
@[simp] theorem CF4_5 : CF4 65 = takeSp := rfl
@[simp] theorem CF4_6 : CF4 68 = sumSp := rfl
@[simp] theorem CF4_7 : CF4 81 = backSp := rfl

theorem frTake_spec : Lift.Spec Tryz.prog 59 frTakeSp := by
  refine spec_fam (C := CF4) types_ok CF4_ok follows Tryz.func59 (by kernel_rfl) rfl (by kernel_rfl) rfl ?_
  rintro ⟨t, b, key⟩ ⟨h0, hkey, hb⟩
  simp only at h0 hkey hb
  refine ⟨by simp, ?_⟩
  intro r hr
  rcases frT_cases key b with ⟨e, he, hT, hL⟩ | ⟨n, k, hL, hn, hk1, hk2, hk, _, hc⟩
  · simp [lenV, hL, he]
    rw [hr]
    simp only [hT, frRes_err _ _ _ he]
    refine ret_closed rfl ?_ rfl
    simp
  · have w1 : IntKind.i64.wrap ((k : Int) + 8) = (k : Int) + 8 := wrap_i64_in (by omega) (by omega)
    have w2 : IntKind.i64.wrap ((k : Int) + 8 + (n : Int)) = (k : Int) + 8 + (n : Int) := wrap_i64_in (by omega) (by omega)
    have ht0 : t ≠ 0 := fun h => by rw [h0 h] at hk; simp at hk; omega
    rcases hc with ⟨hs, hT⟩ | hc
    · have hs' : (b.length : Int) < (k : Int) + 8 + (n : Int) := by omega
      simp [lenV, hL, w1, w2, hs']
      rw [hr]
      simp only [hT]
      rw [frRes_err _ _ _ (by decide)]
      refine ret_closed rfl ?_ rfl
      simp
    · have hs : k + 8 + n ≤ b.length := by rcases hc with hc | hc <;> exact hc.1
      have hs' : ¬ (b.length : Int) < (k : Int) + 8 + (n : Int) := by omega
      have q1 : (k : Int) + 8 + (n : Int) ≤ (b.length : Int) := by omega
      have q2 : (k : Int) + 8 ≤ (k : Int) + 8 + (n : Int) := by omega
      have q3 : (k : Int) ≤ (k : Int) + 8 := by omega
      have q4 : (k : Int) + 8 ≤ (b.length : Int) := by omega
      have e1 : ((k : Int) + 8).toNat = k + 8 := by omega
      have e2 : ((k : Int) + 8 + (n : Int)).toNat - (k + 8) = n := by omega
      have q0 : (0 : Int) ≤ (k : Int) + 8 := by omega
      have q5 : ((b.drop k).take 8).length ≤ 8 := by rw [List.length_take]; omega
      have q6 : (((b.drop (k + 8)).take n).length : Int) ≤ 9223372036854775807 := by rw [List.length_take]; omega
      have q7 : ((b.drop (k + 8)).take n).length ≤ 140737488355328 := by rw [List.length_take]; omega
      have e3 : k + 8 - k = 8 := by omega
      have q8 : ((b.drop (k + 8)).take n).length = n := by rw [List.length_take, List.length_drop]; omega
      have hnil : ∀ c, NilOk (cutTag t c) ((b.drop (k + 8)).take n) := fun c => nilOk_cut ht0
      simp only [List.length_take, List.length_drop] at q5 q6 q7 q8
      simp [lenV, hL, w1, w2, hs', q0, q1, q2, q3, q4, q5, q6, e1, e2, e3, hkey]
      rcases hc with ⟨_, hq, hT⟩ | ⟨_, hq, hT⟩
      · simp [hq]
        rw [hr]
        simp only [hT]
        rw [frRes_err _ _ _ (by decide)]
        refine ret_closed rfl ?_ rfl
        simp
      · simp [hq, hnil, q7]
        rw [hr]
        simp only [hT]
        rw [frRes_ok]
        refine ret_at [.inr 4] rfl ?_ ?_ (by simp) ?_ ?_ ?_ ?_ <;> simp [rowOf, q8]

theorem refFrTake_spec : Lift.Spec Tryz.prog 64 frTakeSp := by
  refine spec_fam (C := CF4) types_ok CF4_ok follows Tryz.func64 (by kernel_rfl) rfl (by kernel_rfl) rfl ?_
  rintro ⟨t, b, key⟩ ⟨h0, hkey, hb⟩
  simp only at h0 hkey hb
  refine ⟨by simp, ?_⟩
  intro r hr
  rcases frT_cases key b with ⟨e, he, hT, hL⟩ | ⟨n, k, hL, hn, hk1, hk2, hk, _, hc⟩
  · rcases hTk : takeT b with ⟨a, c, d⟩
    rw [lenT_eq, lenT0, hTk] at hL
    simp only at hL
    have hr2 : r = ⟨.tup [.sl 0 1 [], .int .i64 0, .int .i64 e], []⟩ := by rw [hr]; simp only [hT, frRes_err _ _ _ he]
    by_cases hd : d = 0
    · subst hd
      by_cases ha : a < 0
      · simp [ha] at hL
        simp [takeV, hTk, ha]
        rw [hr2, ← hL]; refine ret_closed rfl ?_ rfl
        simp
      · by_cases hb : 65536 < a
        · simp [ha, hb] at hL
          simp [takeV, hTk, ha, hb]
          rw [hr2, ← hL]; refine ret_closed rfl ?_ rfl
          simp
        · simp [ha, hb] at hL
          exact absurd hL.2.2.symm he
    · simp [hd] at hL
      simp [takeV, hTk, hd]
      rw [hr2, ← hL]; refine ret_closed rfl ?_ rfl
      simp
  · have hTk : takeT b = ((n : Int), (k : Int), 0) := by
      rcases hTk : takeT b with ⟨a, c, d⟩
      rw [lenT_eq, lenT0, hTk] at hL
      simp only at hL
      by_cases hd : d = 0
      · rw [if_pos hd] at hL
        by_cases ha : a < 0
        · rw [if_pos ha] at hL; simp at hL
        · rw [if_neg ha] at hL
          by_cases hb : 65536 < a
          · rw [if_pos hb] at hL; simp at hL
          · rw [if_neg hb] at hL; rw [hd]; exact hL
      · rw [if_neg hd] at hL; simp at hL; exact absurd hL.2.2 hd
    have w0 : IntKind.i64.wrap ((b.length : Int) - (k : Int)) = (b.length : Int) - (k : Int) := wrap_i64_in (by omega) (by omega)
    have w1 : IntKind.i64.wrap ((k : Int) + 8) = (k : Int) + 8 := wrap_i64_in (by omega) (by omega)
    have w2 : IntKind.i64.wrap ((k : Int) + 8 + (n : Int)) = (k : Int) + 8 + (n : Int) := wrap_i64_in (by omega) (by omega)
    have w3 : IntKind.i64.wrap ((n : Int) + 8) = (n : Int) + 8 := wrap_i64_in (by omega) (by omega)
    have hn2 : ¬ (65536 : Int) < (n : Int) := by omega
    have hn3 : ¬ (n : Int) < 0 := by omega
    rcases hc with ⟨hs, hT⟩ | hc
    · have hs' : (b.length : Int) - (k : Int) < (n : Int) + 8 := by omega
      simp [takeV, hTk, hn2, hn3, w0, w3, hs']
      rw [hr]
      simp only [hT]
      rw [frRes_err _ _ _ (by decide)]
      refine ret_closed rfl ?_ rfl
      simp
    · have hs : k + 8 + n ≤ b.length := by rcases hc with hc | hc <;> exact hc.1
      have hs' : ¬ (b.length : Int) - (k : Int) < (n : Int) + 8 := by omega
      have q1 : (k : Int) + 8 + (n : Int) ≤ (b.length : Int) := by omega
      have q2 : (k : Int) + 8 ≤ (k : Int) + 8 + (n : Int) := by omega
      have q3 : (k : Int) ≤ (k : Int) + 8 := by omega
      have q4 : (k : Int) + 8 ≤ (b.length : Int) := by omega
      have e1 : ((k : Int) + 8).toNat = k + 8 := by omega
      have e2 : ((k : Int) + 8 + (n : Int)).toNat - (k + 8) = n := by omega
      have q0 : (0 : Int) ≤ (k : Int) + 8 := by omega
      have q5 : ((b.drop k).take 8).length ≤ 8 := by rw [List.length_take]; omega
      have q8 : ((b.drop (k + 8)).take n).length = n := by rw [List.length_take, List.length_drop]; omega
      have q6 : ((((b.drop (k + 8)).take n).length : Nat) : Int) ≤ 9223372036854775807 := by omega
      have q7 : ((((b.drop (k + 8)).take n).length : Nat) : Int) ≤ 140737488355328 := by omega
      have e3 : k + 8 - k = 8 := by omega
      have e4 : min n (b.length - (k + 8)) = n := by omega
      have q9 : (n : Int) ≤ 140737488355328 := by omega
      have q10 : (n : Int) ≤ 9223372036854775807 := by omega
      simp only [List.length_take, List.length_drop] at q5 q6 q7 q8
      have e5 : ((b.drop (k + 8)).take n).take n = (b.drop (k + 8)).take n := by rw [List.take_take, Nat.min_self]
      simp [takeV, hTk, hn2, hn3, w0, w1, w2, w3, hs', q0, q1, q2, q3, q4, q5, q9, q10, e1, e2, e3, e4, hkey]
      refine ⟨⟨by kernel_rfl, by kernel_rfl⟩, ?_⟩
      rw [e5]
      rcases hc with ⟨_, hq, hT⟩ | ⟨_, hq, hT⟩
      · have hq' : ¬ sumI key ((b.drop (k + 8)).take n) = (backN ((b.drop k).take 8) : Int) := fun h => hq h.symm
        simp [hq']
        rw [hr]
        simp only [hT]
        rw [frRes_err _ _ _ (by decide)]
        refine ret_closed rfl ?_ rfl
        simp
      · simp [hq, w1, w2]
        rw [hr]
        simp only [hT]
        rw [frRes_ok]
        refine ret_at [.inr 4] rfl ?_ ?_ (by simp) ?_ ?_ ?_ ?_ <;> simp [rowOf, e4]
end Go.Proofs.YtlelalnahlpcpaaGreat

/-
  frame: all records.
-/
namespace Go.Proofs.YtlelalnahlpcpaaGreat
open Go.Lift

theorem frT_two (key : Int) (b : List UInt8) : (∃ e, ¬ e = 0 ∧ frT key b = ([], 0, e)) ∨ ∃ (p : List UInt8) (n : Nat), frT key b = (p, (n : Int), 0) ∧ 9 ≤ n ∧ n ≤ b.length ∧ p.length ≤ 65536 := by
  rcases frT_cases key b with ⟨e, he, hT, hL⟩ | ⟨n, k, hL, hn, hk1, hk2, hk, _, hc⟩
  · exact .inl ⟨e, he, hT⟩
  · rcases hc with ⟨_, hT⟩ | ⟨_, _, hT⟩ | ⟨hs, _, hT⟩
    · exact .inl ⟨17, by decide, hT⟩
    · exact .inl ⟨18, by decide, hT⟩
    · exact .inr ⟨(b.drop (k + 8)).take n, k + 8 + n, by rw [hT]; simp, by omega, hs, by rw [List.length_take]; omega⟩
theorem frT_nil (key : Int) : frT key [] = ([], 0, 17) := by
  rw [frT_eq, frT0, lenT_eq, lenT0, takeT_eq]
  simp [takeAt]

noncomputable def allGo (key : Int) : Nat → List UInt8 → Nat → List (List UInt8) → List (List UInt8) × Nat
  | 0, _, at_, acc => (acc, at_)
  | f + 1, b, at_, acc => if (frT key (b.drop at_)).2.2 = 0 then allGo key f b (at_ + (frT key (b.drop at_)).2.1.toNat) (acc ++ [(frT key (b.drop at_)).1]) else (acc, at_)
theorem allGo_more (key : Int) (b : List UInt8) : ∀ (f at_ : Nat) (acc : List (List UInt8)), b.length + 1 ≤ f + at_ → at_ ≤ b.length → allGo key (f + 1) b at_ acc = allGo key f b at_ acc
  | 0, at_, acc, h, h2 => by omega
  | f + 1, at_, acc, h, h2 => by
    rw [allGo]
    conv => rhs; rw [allGo]
    rcases frT_two key (b.drop at_) with ⟨e, he, hT⟩ | ⟨p, n, hT, h9, hle, _⟩
    · rw [hT, if_neg he, if_neg he]
    · rw [hT, if_pos rfl, if_pos rfl]
      simp only [Int.toNat_natCast]
      rw [List.length_drop] at hle
      exact allGo_more key b f _ _ (by omega) (by omega)
theorem allGo_any (key : Int) (b : List UInt8) (at_ : Nat) (acc : List (List UInt8)) (h2 : at_ ≤ b.length) : ∀ d, allGo key (b.length + 1 - at_ + d) b at_ acc = allGo key (b.length + 1 - at_) b at_ acc
  | 0 => rfl
  | d + 1 => by rw [← Nat.add_assoc, allGo_more key b _ _ _ (by omega) h2, allGo_any key b at_ acc h2 d]
noncomputable def allAt (key : Int) (b : List UInt8) (at_ : Nat) (acc : List (List UInt8)) : List (List UInt8) × Nat := allGo key (b.length + 1 - at_) b at_ acc
theorem allAt_err {key : Int} {b : List UInt8} {at_ : Nat} {acc : List (List UInt8)} (h : at_ ≤ b.length) {e : Int} (he : ¬ e = 0) (hT : frT key (b.drop at_) = ([], 0, e)) : allAt key b at_ acc = (acc, at_) := by
  unfold allAt
  rw [show b.length + 1 - at_ = (b.length - at_) + 1 by omega, allGo, hT, if_neg he]
theorem allAt_ok {key : Int} {b : List UInt8} {at_ : Nat} {acc : List (List UInt8)} (h : at_ ≤ b.length) {p : List UInt8} {n : Nat} (hn : 1 ≤ n) (hle : at_ + n ≤ b.length) (hT : frT key (b.drop at_) = (p, (n : Int), 0)) : allAt key b at_ acc = allAt key b (at_ + n) (acc ++ [p]) := by
  unfold allAt
  rw [show b.length + 1 - at_ = (b.length - at_) + 1 by omega, allGo, hT, if_pos rfl]
  simp only [Int.toNat_natCast]
  have := allGo_any key b (at_ + n) (acc ++ [p]) hle (n - 1)
  rw [← this]
  congr 1
  omega
noncomputable def allT : Int → List UInt8 → List (List UInt8) × Nat := hush fun key b => allAt key b 0 []
theorem allT_eq (key : Int) (b : List UInt8) : allT key b = allAt key b 0 [] := by unfold allT; rw [hush_eq]

/-- Records in new memory. -/
def recOf (ls : List (List UInt8)) : AObj := ⟨32, 1, listRow ls, false, 1, .rw⟩
def allRes (x : List (List UInt8) × Nat) : CRes := ⟨.tup [.own 0 0 x.1.length, .int .i64 x.2], [recOf x.1]⟩

noncomputable def allSp := fam (fun i : Nat × (List UInt8) × Int => [V.sl i.1 1 (byteRow i.2.1), .int .i64 i.2.2]) (fun _ : Nat × (List UInt8) × Int => []) (fun i : Nat × (List UInt8) × Int => (NilOk i.1 i.2.1) ∧ (In64 i.2.2) ∧ (i.2.1.length ≤ 40000000000000)) (fun i : Nat × (List UInt8) × Int => allRes (allT i.2.2 i.2.1))
@[simp] theorem allSp_eq {t : Nat} {b : List UInt8} {key : Int} (h1 : NilOk t b) (h2 : In64 key) (h3 : b.length ≤ 40000000000000) : allSp ([V.sl t 1 (byteRow b), .int .i64 key]) ([]) = some (allRes (allT key b)) :=
  fam_eq (A := fun i : Nat × (List UInt8) × Int => [V.sl i.1 1 (byteRow i.2.1), .int .i64 i.2.2]) (O := fun _ : Nat × (List UInt8) × Int => []) (res := fun i : Nat × (List UInt8) × Int => allRes (allT i.2.2 i.2.1)) (by rintro ⟨a0, a1, a2⟩ ⟨b0, b1, b2⟩ h h' <;> simp at h h' <;> simp_all) (t, b, key) ⟨h1, h2, h3⟩

noncomputable def CF5 := mkC [(59, frTakeSp), (64, frTakeSp)]
theorem CF5_ok : SpecsOk Tryz.prog CF5 := mkC_ok (all_cons frTake_spec (all_cons refFrTake_spec all_nil))
@[simp] theorem CF5_1 : CF5 59 = frTakeSp := rfl
@[simp] theorem CF5_2 : CF5 64 = frTakeSp := rfl

def alSt (t : Nat) (b : List UInt8) (key : Int) (i : Nat × List (List UInt8)) : St :=
  mkSt [(0, .sl t 1 (byteRow b)), (1, .int .i64 key), (6, .own 0 0 i.2.length), (7, .int .i64 i.1)] [(0, recOf i.2)] 1

theorem refall_spec2 : Lift.Spec Tryz.prog 51 allSp := by
  refine spec_fam (C := CF5) types_ok CF5_ok follows Tryz.func51 (by kernel_rfl) rfl (by kernel_rfl) rfl ?_
  rintro ⟨t, b, key⟩ ⟨h0, hkey, hb⟩
  simp only at h0 hkey hb
  refine ⟨by simp, ?_⟩
  intro r hr
  simp
  refine axwp_loop (alSt t b key) (fun i => i.1 ≤ b.length ∧ 9 * i.2.length ≤ i.1 ∧ allAt key b i.1 i.2 = allT key b) (fun i => b.length - i.1) (0, []) ?_ ⟨Nat.zero_le _, Nat.le_refl _, (allT_eq key b).symm⟩ ?_
  · refine weak_nil_mk 6 77 (sz := 1) (recOf []) (fun _ => 77) ?_ ?_ ?_ ?_ ?_ ?_ <;> simp [recOf]
  · rintro ⟨a, acc⟩ ⟨ha, hacc, hall⟩
    simp only at ha hacc hall
    have hd : (b.drop a).take (b.length - a) = b.drop a := List.take_of_length_le (by simp)
    have hnil : ∀ c, NilOk (cutTag t c) (b.drop a) := fun c h => by rw [h0 (cutTag_ne.1 h)]; simp
    have ha' : (a : Int) ≤ (b.length : Int) := by omega
    have hl : b.length - a ≤ 140737488355328 := by omega
    by_cases hal : a < b.length
    · rcases frT_two key (b.drop a) with ⟨e, he, hT⟩ | ⟨p, n, hT, h9, hle, hp⟩
      · simp [alSt, recOf, ha', hal, hd, hnil, hkey, hl, hT, frRes_err _ _ _ he, he]
        rw [hr]
        simp only [← hall, allAt_err ha he hT, allRes]
        refine ret_at [.inr 4] rfl ?_ ?_ (by simp) ?_ ?_ ?_ ?_ <;> simp [recOf]
      · rw [List.length_drop] at hle
        have q1 : ((acc.length : Int) + 1) * 24 ≤ 140737488355328 := by omega
        have q2 : (acc.length : Int) + 1 ≤ 140737488355328 := by omega
        have w1 : IntKind.i64.wrap ((a : Int) + (n : Int)) = ((a + n : Nat) : Int) := by rw [wrap_i64_in (by omega) (by omega)]; omega
        simp [alSt, recOf, ha', hal, hd, hnil, hkey, hl, hT, frRes_ok, q1, q2]
        refine Again.mk (a + n, acc ++ [p]) ⟨?_, ?_, ?_⟩ ?_ ?_
        · show a + n ≤ b.length; omega
        · show 9 * (acc ++ [p]).length ≤ a + n; simp; omega
        · rw [← hall]; exact (allAt_ok ha (by omega) (by omega) hT).symm
        · show b.length - (a + n) < b.length - a; omega
        · refine (weak_fzS [8] ?_).trans (weak_at [.inr 6] ?_ ?_ ?_ ?_) <;> simp [recOf, rowOf, w1, listRow_one]
    · have e : a = b.length := by omega
      subst e
      have hT : frT key (b.drop b.length) = ([], 0, 17) := by rw [List.drop_length]; exact frT_nil key
      simp [alSt, recOf]
      rw [hr]
      simp only [← hall, allAt_err ha (by decide) hT, allRes]
      refine ret_at [.inr 4] rfl ?_ ?_ (by simp) ?_ ?_ ?_ ?_ <;> simp [recOf]

noncomputable def sameLSp := fam (fun i : Nat × Nat × (List (List UInt8)) × (List (List UInt8)) => [V.sl i.1 1 (listRow i.2.2.1), .sl i.2.1 1 (listRow i.2.2.2)]) (fun _ : Nat × Nat × (List (List UInt8)) × (List (List UInt8)) => []) (fun i : Nat × Nat × (List (List UInt8)) × (List (List UInt8)) => (i.2.2.1.length ≤ 9223372036854775807)) (fun i : Nat × Nat × (List (List UInt8)) × (List (List UInt8)) => ⟨.bool (decide (i.2.2.1 = i.2.2.2)), []⟩)
@[simp] theorem sameLSp_eq {t : Nat} {u : Nat} {a : List (List UInt8)} {b : List (List UInt8)} (h1 : a.length ≤ 9223372036854775807) : sameLSp ([V.sl t 1 (listRow a), .sl u 1 (listRow b)]) ([]) = some (⟨.bool (decide (a = b)), []⟩) :=
  fam_eq (A := fun i : Nat × Nat × (List (List UInt8)) × (List (List UInt8)) => [V.sl i.1 1 (listRow i.2.2.1), .sl i.2.1 1 (listRow i.2.2.2)]) (O := fun _ : Nat × Nat × (List (List UInt8)) × (List (List UInt8)) => []) (res := fun i : Nat × Nat × (List (List UInt8)) × (List (List UInt8)) => ⟨.bool (decide (i.2.2.1 = i.2.2.2)), []⟩) (by rintro ⟨a0, a1, a2, a3⟩ ⟨b0, b1, b2, b3⟩ h h' <;> simp at h h' <;> simp_all) (t, u, a, b) h1

noncomputable def CF6 := mkC [(41, sameSp), (53, putSp)]
theorem CF6_ok : SpecsOk Tryz.prog CF6 := mkC_ok (all_cons same_spec (all_cons refput_spec all_nil))
@[simp] theorem CF6_1 : CF6 41 = sameSp := rfl
@[simp] theorem CF6_2 : CF6 53 = putSp := rfl

def slSt (t u : Nat) (a b : List (List UInt8)) (i : Nat) : St :=
  mkSt [(0, .sl t 1 (listRow a)), (1, .sl u 1 (listRow b)), (5, .int .i64 i)] [] 0

end Go.Proofs.YtlelalnahlpcpaaGreat

