/-
  frame: copies, sums in bytes.
-/
import Derived.Test.YtgnfgcpolbcaoaaW9
import Derived.Test.YtgnfgcpolbcaoaaD2
namespace Go.Proofs.Ytgnfgcpolbcaoaa
open Go.Lift

noncomputable def cloneSp := fam (fun i : Nat × (List UInt8) => [V.sl i.1 1 (byteRow i.2)]) (fun _ : Nat × (List UInt8) => []) (fun i : Nat × (List UInt8) => (NilOk i.1 i.2) ∧ (i.2.length ≤ 140737488355328)) (fun i : Nat × (List UInt8) => ⟨.own 0 0 i.2.length, [rowOf i.2]⟩)
@[simp] theorem cloneSp_eq {t : Nat} {l : List UInt8} (h1 : NilOk t l) (h2 : l.length ≤ 140737488355328) : cloneSp ([V.sl t 1 (byteRow l)]) ([]) = some (⟨.own 0 0 l.length, [rowOf l]⟩) :=
  fam_eq (A := fun i : Nat × (List UInt8) => [V.sl i.1 1 (byteRow i.2)]) (O := fun _ : Nat × (List UInt8) => []) (res := fun i : Nat × (List UInt8) => ⟨.own 0 0 i.2.length, [rowOf i.2]⟩) (by rintro ⟨a0, a1⟩ ⟨b0, b1⟩ h h' <;> simp at h h' <;> simp_all) (t, l) ⟨h1, h2⟩

theorem clone_spec : Lift.Spec Try.prog 22 cloneSp := by
  refine spec_fam (C := C0) types_ok C0_ok follows Try.func22 (by kernel_rfl) rfl (by kernel_rfl) rfl ?_
  rintro ⟨t, l⟩ ⟨h0, hl⟩
  simp only at h0 hl
  refine ⟨by simp, ?_⟩
  intro r hr
  have hl' : (l.length : Int) ≤ 140737488355328 := by omega
  by_cases ht : t = 0
  · have := h0 ht
    subst this; subst ht
    simp
    rw [hr]
    refine Ret.weak (ret_at [.inr 2] rfl ?_ ?_ (by simp) ?_ ?_ ?_ ?_) (weak_nil (sz := 1) 2 77 (rowOf []) ?_ ?_ ?_) <;> simp [rowOf]
  · by_cases hc : nnB t l.isEmpty = true
    · simp [ht, hc, hl']
      rw [hr]; refine ret_own rfl rfl ?_ (by simp [rowOf])
      simp [rowOf]
    · have : l = [] := by cases l with | nil => rfl | cons a l => exact absurd (by simp) hc
      subst this
      simp at hc
      simp [ht, hc]
      rw [hr]
      refine ⟨?_, ?_⟩
      · refine Ret.weak (ret_at [.inr 2] rfl ?_ ?_ (by simp) ?_ ?_ ?_ ?_) (weak_nil (sz := 1) 2 77 (rowOf []) ?_ ?_ ?_) <;> simp [rowOf]
      · refine ret_own rfl rfl ?_ (by simp [rowOf])
        simp [rowOf]

noncomputable def growSp := fam (fun i : Nat => [V.sl 0 1 [], .int .i64 i]) (fun _ : Nat => []) (fun i : Nat => (i ≤ 140737488355328)) (fun _ : Nat => ⟨.own 0 0 0, [rowOf []]⟩)
@[simp] theorem growSp_eq {n : Nat} (h1 : n ≤ 140737488355328) : growSp ([V.sl 0 1 [], .int .i64 n]) ([]) = some (⟨.own 0 0 0, [rowOf []]⟩) :=
  fam_eq (A := fun i : Nat => [V.sl 0 1 [], .int .i64 i]) (O := fun _ : Nat => []) (res := fun _ : Nat => ⟨.own 0 0 0, [rowOf []]⟩) (by intro a b h h' <;> simp at h h' <;> simp_all) n h1

theorem grow_spec : Lift.Spec Try.prog 38 growSp := by
  refine spec_fam (C := C0) types_ok C0_ok follows Try.func38 (by kernel_rfl) rfl (by kernel_rfl) rfl ?_
  intro n hn
  refine ⟨by simp, ?_⟩
  intro r hr
  have w1 : IntKind.i64.wrap (n : Int) = (n : Int) := wrap_i64_in (by omega) (by omega)
  have h1 : (n : Int) ≤ 140737488355328 := by omega
  have h0 : ¬ ((n : Int) < 0) := by omega
  by_cases hz : n = 0
  · subst hz
    simp
    rw [hr]
    refine Ret.weak (ret_at [.inr 4] rfl ?_ ?_ (by simp) ?_ ?_ ?_ ?_) (weak_nil (sz := 1) 4 77 (rowOf []) ?_ ?_ ?_) <;> simp [rowOf]
  · have hp : (0 : Int) < (n : Int) := by omega
    have hp' : 0 < n := by omega
    simp [h0, hp', w1, h1]
    rw [hr]
    refine Ret.weak (ret_at [.inr 4] rfl ?_ ?_ (by simp) ?_ ?_ ?_ ?_) (weak_cut 0 144 ⟨5, 1, List.replicate n [.int .u8 0], false, 2, .rw⟩ ?_) <;> simp [rowOf, hp']

/-- Slices that are handed over to be joined. -/
def partRow (ls : List (Nat × List UInt8)) : List (List V) := ls.map fun p => [.sl p.1 1 (byteRow p.2)]
def joinAll (ls : List (Nat × List UInt8)) : List UInt8 := (ls.map (·.2)).flatten
@[simp] theorem partRow_length (l : List (Nat × List UInt8)) : (partRow l).length = l.length := by simp [partRow]
@[simp] theorem partRow_get (l : List (Nat × List UInt8)) (n : Nat) : (partRow l)[n]? = (l[n]?).map fun b => [V.sl b.1 1 (byteRow b.2)] := by simp [partRow]
@[simp] theorem partRow_getElem (l : List (Nat × List UInt8)) (n : Nat) (h : n < (partRow l).length) : (partRow l)[n] = [V.sl (l[n]'(by simpa using h)).1 1 (byteRow (l[n]'(by simpa using h)).2)] := by simp [partRow]
theorem partRow_inj {a b : List (Nat × List UInt8)} (h : partRow a = partRow b) : a = b := by
  induction a generalizing b with
  | nil => cases b with
    | nil => rfl
    | cons => cases h
  | cons x a ih => cases b with
    | nil => cases h
    | cons y b =>
      simp only [partRow, List.map_cons, List.cons.injEq] at h
      obtain ⟨h1, h2⟩ := h
      simp at h1
      rw [ih h2, Prod.ext h1.1 h1.2]
@[simp] theorem partRow_eq {a b : List (Nat × List UInt8)} : partRow a = partRow b ↔ a = b := ⟨partRow_inj, fun h => by rw [h]⟩

noncomputable def joinSp := fam (fun i : Nat × (List (Nat × List UInt8)) => [V.sl i.1 1 (partRow i.2)]) (fun _ : Nat × (List (Nat × List UInt8)) => []) (fun i : Nat × (List (Nat × List UInt8)) => ((joinAll i.2).length ≤ 140737488351232) ∧ (i.2.length ≤ 1000)) (fun i : Nat × (List (Nat × List UInt8)) => ⟨.own 0 0 (joinAll i.2).length, [rowOf (joinAll i.2)]⟩)
theorem joinSp_eq {u : Nat} {ls : List (Nat × List UInt8)} (h1 : (joinAll ls).length ≤ 140737488351232) (h2 : ls.length ≤ 1000) : joinSp ([V.sl u 1 (partRow ls)]) ([]) = some (⟨.own 0 0 (joinAll ls).length, [rowOf (joinAll ls)]⟩) :=
  fam_eq (A := fun i : Nat × (List (Nat × List UInt8)) => [V.sl i.1 1 (partRow i.2)]) (O := fun _ : Nat × (List (Nat × List UInt8)) => []) (res := fun i : Nat × (List (Nat × List UInt8)) => ⟨.own 0 0 (joinAll i.2).length, [rowOf (joinAll i.2)]⟩) (by rintro ⟨a0, a1⟩ ⟨b0, b1⟩ h h' <;> simp at h h' <;> simp_all) (u, ls) ⟨h1, h2⟩

@[simp] theorem joinSp_three {u t1 t2 t3 : Nat} {a b c : List UInt8} (h : a.length + b.length + c.length ≤ 140737488351232) : joinSp [V.sl u 1 [[V.sl t1 1 (byteRow a)], [V.sl t2 1 (byteRow b)], [V.sl t3 1 (byteRow c)]]] [] = some ⟨.own 0 0 (a.length + b.length + c.length), [rowOf (a ++ b ++ c)]⟩ := by
  have := joinSp_eq (u := u) (ls := [(t1, a), (t2, b), (t3, c)]) (by simp [joinAll]; omega) (by simp)
  simp only [partRow, joinAll, List.map_cons, List.map_nil] at this
  rw [this]
  simp [Nat.add_assoc]

noncomputable def CF1 := mkC [(38, growSp)]
theorem CF1_ok : SpecsOk Try.prog CF1 := mkC_ok (all_cons grow_spec all_nil)
@[simp] theorem CF1_1 : CF1 38 = growSp := rfl

theorem joinAll_append (a b : List (Nat × List UInt8)) : joinAll (a ++ b) = joinAll a ++ joinAll b := by simp [joinAll]
theorem joinAll_take {ls : List (Nat × List UInt8)} {i : Nat} {x : Nat × List UInt8} (hx : ls[i]? = some x) : joinAll (ls.take (i + 1)) = joinAll (ls.take i) ++ x.2 := by
  simp [joinAll, List.take_add_one, hx]
theorem joinAll_le (ls : List (Nat × List UInt8)) (i : Nat) : (joinAll (ls.take i)).length ≤ (joinAll ls).length := by
  have : joinAll ls = joinAll (ls.take i) ++ joinAll (ls.drop i) := by
    rw [← joinAll_append, List.take_append_drop]
  rw [this]; simp

def jnSt1 (u : Nat) (ls : List (Nat × List UInt8)) (i : Nat) : St :=
  mkSt [(0, .sl u 1 (partRow ls)), (3, .int .i64 (joinAll (ls.take i)).length), (9, .sl u 1 (partRow ls)), (10, .int .i64 ls.length), (11, .int .i64 i)] [] 0
def jnSt2 (u : Nat) (ls : List (Nat × List UInt8)) (i : Nat) : St :=
  mkSt [(0, .sl u 1 (partRow ls)), (6, .own 0 0 (joinAll (ls.take i)).length), (25, .sl u 1 (partRow ls)), (26, .int .i64 ls.length), (27, .int .i64 i)] [(0, rowOf (joinAll (ls.take i)))] 1

theorem join_spec : Lift.Spec Try.prog 26 joinSp := by
  refine spec_fam (C := CF1) types_ok CF1_ok follows Try.func26 (by kernel_rfl) rfl (by kernel_rfl) rfl ?_
  rintro ⟨u, ls⟩ ⟨h1, h2⟩
  simp only at h1 h2
  refine ⟨by simp, ?_⟩
  intro r hr
  simp
  refine axwp_loop (jnSt1 u ls) (fun i => i ≤ ls.length) (fun i => ls.length - i) 0 ?_ (Nat.zero_le _) ?_
  · refine weak_mk id ?_ ?_ ?_ ?_ <;> simp [joinAll]
  · intro i hi
    by_cases hik : i < ls.length
    · obtain ⟨x, hx, hx'⟩ : ∃ x, ls[i]? = some x ∧ ls[i] = x := ⟨_, List.getElem?_eq_getElem hik, rfl⟩
      have hj := joinAll_take hx
      have hle := joinAll_le ls (i + 1)
      have w4 : IntKind.i64.wrap ((i : Int) + 1) = (i : Int) + 1 := wrap_i64_in (by omega) (by omega)
      have w5 : IntKind.i64.wrap (((joinAll (ls.take i)).length : Int) + (x.2.length : Int)) = ((joinAll (ls.take (i + 1))).length : Int) := by
        rw [hj, List.length_append] at *
        rw [wrap_i64_in (by omega) (by omega)]; omega
      have w6 : ¬ (((joinAll (ls.take (i + 1))).length : Int) < 0) := by omega
      simp [jnSt1, hik, hx', w4, w5, w6]
      refine Again.mk (i + 1) hik ?_ ?_
      · omega
      · refine weak_mk id ?_ ?_ ?_ ?_ <;> simp
    · have e : i = ls.length := by omega
      subst e
      have h3 : (joinAll ls).length ≤ 140737488355328 := by omega
      simp [jnSt1, h3]
      refine axwp_loop (jnSt2 u ls) (fun i => i ≤ ls.length) (fun i => ls.length - i) 0 ?_ (Nat.zero_le _) ?_
      · refine weak_at [.inr 6] ?_ ?_ ?_ ?_ <;> simp [joinAll, rowOf]
      · intro i hi
        by_cases hik : i < ls.length
        · obtain ⟨x, hx, hx'⟩ : ∃ x, ls[i]? = some x ∧ ls[i] = x := ⟨_, List.getElem?_eq_getElem hik, rfl⟩
          have hj := joinAll_take hx
          have hle := joinAll_le ls (i + 1)
          have w4 : IntKind.i64.wrap ((i : Int) + 1) = (i : Int) + 1 := wrap_i64_in (by omega) (by omega)
          have w5 : ((joinAll (ls.take i)).length : Int) + (x.2.length : Int) ≤ 140737488355328 := by
            rw [hj, List.length_append] at hle
            omega
          simp [jnSt2, hik, hx', w4, w5, rowOf]
          refine Again.mk (i + 1) hik ?_ ?_
          · omega
          · refine weak_at [.inr 6] ?_ ?_ ?_ ?_ <;> simp [rowOf, hj]
        · have e : i = ls.length := by omega
          subst e
          simp [jnSt2, rowOf]
          rw [hr]
          refine ret_at [.inr 2] rfl ?_ ?_ (by simp) ?_ ?_ ?_ ?_ <;> simp [rowOf]
end Go.Proofs.Ytgnfgcpolbcaoaa
