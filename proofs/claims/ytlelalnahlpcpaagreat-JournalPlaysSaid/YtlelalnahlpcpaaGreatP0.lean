/-
  Lists, numbers and loops over them.
-/
import Derived.Test.YtlelalnahlpcpaaGreatM1
set_option linter.unusedSimpArgs false
set_option linter.unusedVariables false
namespace Go.Proofs.YtlelalnahlpcpaaGreat
open Go.Lift

@[simp] theorem natInt_neg (n : Nat) : ((n : Int) < 0) = False := by simp

theorem iAnd_one (a : Int) : iAnd .i64 a 1 = a % 2 := by
  have h : (BitVec.ofInt 64 a &&& BitVec.ofInt 64 1).toNat = (a % 2).toNat := by
    rw [BitVec.toNat_and, BitVec.toNat_ofInt]
    have : (BitVec.ofInt 64 1).toNat = 1 := rfl
    rw [this, Nat.and_one_is_mod]
    omega
  show IntKind.i64.wrap ((BitVec.ofInt 64 a &&& BitVec.ofInt 64 1).toNat : Int) = a % 2
  rw [h, wrap_i64_in (by omega) (by omega)]; omega
theorem tmod_two (a : Int) : a.tmod 2 = 0 ↔ ¬ a % 2 = 1 := by
  rw [← Int.dvd_iff_tmod_eq_zero]; omega

/-! A comparison of which simp sees the name alone. -/
def inB (n lo hi : Int) : Bool := decide (lo ≤ n ∧ n ≤ hi)
def exB (n m : Int) : Bool := decide (0 ≤ n ∧ n < m)
theorem inB_iff {n lo hi : Int} : inB n lo hi = true ↔ lo ≤ n ∧ n ≤ hi := by simp [inB]
theorem exB_iff {n m : Int} : exB n m = true ↔ 0 ≤ n ∧ n < m := by simp [exB]

theorem all_take_succ {α : Type} {p : α → Bool} {l : List α} {i : Nat} {x : α} (hx : l[i]? = some x) (h : (l.take i).all p = true) (hp : p x = true) : (l.take (i + 1)).all p = true := by
  rw [List.take_add_one, hx, List.all_append, h]; simp [hp]
theorem all_at_false {α : Type} {p : α → Bool} {l : List α} {i : Nat} {x : α} (hx : l[i]? = some x) (hp : p x = false) : l.all p = false := by
  rw [List.all_eq_false]; exact ⟨x, List.mem_of_getElem? hx, by simp [hp]⟩

/-- All elements ahead of a place. -/
def AllTo {α : Type} (p : α → Bool) (l : List α) (i : Nat) : Prop := (l.take i).all p = true
theorem AllTo.zero {α : Type} (p : α → Bool) (l : List α) : AllTo p l 0 := by simp [AllTo]
theorem AllTo.succ {α : Type} {p : α → Bool} {l : List α} {i : Nat} {x : α} (h : AllTo p l i) (hx : l[i]? = some x) (hp : p x = true) : AllTo p l (i + 1) := all_take_succ hx h hp
theorem AllTo.whole {α : Type} {p : α → Bool} {l : List α} (h : AllTo p l l.length) : l.all p = true := by unfold AllTo at h; rwa [List.take_length] at h

/-- The numbers below n for which something holds. -/
def idxTo (p : Nat → Bool) (n : Nat) : List Int := ((List.range n).filter p).map fun (k : Nat) => (k : Int)
theorem idxTo_t {p : Nat → Bool} {n : Nat} (h : p n = true) : idxTo p (n + 1) = idxTo p n ++ [(n : Int)] := by simp [idxTo, List.range_succ, h]
theorem idxTo_f {p : Nat → Bool} {n : Nat} (h : p n = false) : idxTo p (n + 1) = idxTo p n := by simp [idxTo, List.range_succ, h]
theorem idxTo_zero (p : Nat → Bool) : idxTo p 0 = [] := rfl
theorem idxTo_len (p : Nat → Bool) (n : Nat) : (idxTo p n).length ≤ n := by
  have := List.length_filter_le p (List.range n)
  simpa [idxTo] using this
theorem idxTo_mem {p : Nat → Bool} {n : Nat} {x : Int} (h : x ∈ idxTo p n) : ∃ k : Nat, x = (k : Int) ∧ k < n ∧ p k = true := by
  simp only [idxTo, List.mem_map, List.mem_filter, List.mem_range] at h
  obtain ⟨k, ⟨h1, h2⟩, rfl⟩ := h
  exact ⟨k, rfl, h1, h2⟩
theorem idxTo_congr {p q : Nat → Bool} {n : Nat} (h : ∀ k, k < n → p k = q k) : idxTo p n = idxTo q n := by
  unfold idxTo; congr 1
  exact List.filter_congr fun k hk => h k (List.mem_range.1 hk)
theorem get_of_lt {α : Type} {l : List α} {k : Nat} (h : k < l.length) : ∃ x, l[k]? = some x ∧ l[k] = x ∧ x ∈ l := ⟨_, List.getElem?_eq_getElem h, rfl, List.getElem_mem h⟩
theorem byteRow_put (l : List UInt8) (k : Nat) (x : UInt8) : (byteRow l).set k [V.int .u8 x.toNat] = byteRow (l.set k x) := by simp [byteRow, List.map_set]
end Go.Proofs.YtlelalnahlpcpaaGreat
