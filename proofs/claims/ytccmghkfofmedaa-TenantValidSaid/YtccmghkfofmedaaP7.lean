/-
  topo: sums over zones and regions; sets of regions.
-/
import Derived.Test.YtccmghkfofmedaaP6
namespace Go.Proofs.Ytccmghkfofmedaa
open Go.Lift

theorem idx_split {p q r : Nat → Bool} (h : ∀ k, r k = (p k || q k)) (hd : ∀ k, p k = true → q k = false) : ∀ n, (idxTo r n).length = (idxTo p n).length + (idxTo q n).length
  | 0 => rfl
  | n + 1 => by
    have ih := idx_split h hd n
    cases hp : p n with
    | true =>
      have hq := hd n hp
      rw [idxTo_t hp, idxTo_f hq, idxTo_t (by rw [h, hp]; rfl)]
      simp; omega
    | false =>
      cases hq : q n with
      | true => rw [idxTo_f hp, idxTo_t hq, idxTo_t (by rw [h, hp, hq]; rfl)]; simp; omega
      | false => rw [idxTo_f hp, idxTo_f hq, idxTo_f (by rw [h, hp, hq]; rfl)]; omega
theorem idx_all {p : Nat → Bool} : ∀ {n : Nat}, (∀ k, k < n → p k = true) → (idxTo p n).length = n
  | 0, _ => rfl
  | n + 1, h => by rw [idxTo_t (h n (by omega)), List.length_append, idx_all (fun k hk => h k (by omega))]; rfl
theorem idx_none {p : Nat → Bool} : ∀ {n : Nat}, (∀ k, k < n → p k = false) → (idxTo p n).length = 0
  | 0, _ => rfl
  | n + 1, h => by rw [idxTo_f (h n (by omega))]; exact idx_none (fun k hk => h k (by omega))
theorem idx_lt (p : Nat → Bool) (n : Nat) : (idxTo p n).Pairwise (· < ·) := by
  unfold idxTo
  rw [List.pairwise_map]
  refine (List.Pairwise.filter _ List.pairwise_lt_range).imp ?_
  intro a b h; omega
theorem pair_lt {l : List Int} (h : l.Pairwise (· < ·)) {i : Nat} {x y : Int} (hx : l[i]? = some x) (hy : l[i + 1]? = some y) : x < y := by
  obtain ⟨h1, rfl⟩ := List.getElem?_eq_some_iff.1 hx
  obtain ⟨h2, rfl⟩ := List.getElem?_eq_some_iff.1 hy
  exact List.pairwise_iff_getElem.1 h i (i + 1) h1 h2 (by omega)

/-- How many numbers below n go to a number below m. -/
def cntTo (f : Nat → Int) (n : Nat) : Nat → Nat
  | 0 => 0
  | m + 1 => cntTo f n m + (idxTo (fun k => decide (f k = (m : Int))) n).length
theorem cntTo_lt (f : Nat → Int) (n : Nat) : ∀ m, cntTo f n m = (idxTo (fun k => decide (0 ≤ f k ∧ f k < (m : Int))) n).length
  | 0 => by
    rw [idx_none]
    · rfl
    · intro k _; exact decide_eq_false (by omega)
  | m + 1 => by
    rw [cntTo, cntTo_lt f n m]
    refine (idx_split ?_ ?_ n).symm
    · intro k
      rw [← Bool.decide_or]
      congr 1
      apply propext; omega
    · intro k h
      simp at h ⊢; omega
theorem cntTo_eq {f : Nat → Int} {n m : Nat} (h : ∀ k, k < n → 0 ≤ f k ∧ f k < (m : Int)) : cntTo f n m = n := by
  rw [cntTo_lt]; exact idx_all fun k hk => decide_eq_true (h k hk)

/-- The capacities of the regions below m, of cells below n. -/
def csum (C : GConfig) (n : Nat) : Nat → Int
  | 0 => 0
  | m + 1 => csum C n m + capTo C m n
def ksum (C : GConfig) : Nat → Int
  | 0 => 0
  | n + 1 => ksum C n + capK C n
theorem csum_succ (C : GConfig) (n : Nat) : ∀ m : Nat, csum C (n + 1) m = csum C n m + if 0 ≤ regionAt C n ∧ regionAt C n < (m : Int) then capK C n else 0
  | 0 => by simp [csum]; omega
  | m + 1 => by
    simp only [csum, capTo, csum_succ C n m]
    by_cases h : regionAt C n = (m : Int)
    · rw [if_pos h, if_neg (by omega), if_pos (by omega)]; omega
    · rw [if_neg h]
      by_cases h2 : 0 ≤ regionAt C n ∧ regionAt C n < (m : Int)
      · rw [if_pos h2, if_pos (by omega)]; omega
      · rw [if_neg h2, if_neg (by omega)]; omega
theorem csum_zero (C : GConfig) : ∀ m, csum C 0 m = 0
  | 0 => rfl
  | m + 1 => by simp [csum, csum_zero C m, capTo]
theorem csum_eq {C : GConfig} {m : Nat} : ∀ {n : Nat}, (∀ k, k < n → 0 ≤ regionAt C k ∧ regionAt C k < (m : Int)) → csum C n m = ksum C n
  | 0, _ => csum_zero C m
  | n + 1, h => by rw [csum_succ, if_pos (h n (by omega)), csum_eq (fun k hk => h k (by omega)), ksum]
theorem csum_bound {C : GConfig} (h : TopoOk C) : ∀ m : Nat, 0 ≤ csum C C.Cells.length m ∧ csum C C.Cells.length m ≤ 67108864 * m
  | 0 => by simp [csum]
  | m + 1 => by
    have h1 := csum_bound h m
    have h2 := h.tcap m C.Cells.length (Nat.le_refl _)
    have h3 := h.N
    simp only [csum]; omega
theorem ksum_bound {C : GConfig} (h : TopoOk C) : ∀ n : Nat, n ≤ C.Cells.length → 0 ≤ ksum C n ∧ ksum C n ≤ 4194304 * n
  | 0, _ => by simp [ksum]
  | n + 1, hn => by
    have h1 := ksum_bound h n (by omega)
    have h2 := h.kcap (show n < C.Cells.length by omega)
    simp only [ksum]; omega

theorem TopoOk.regionC {C : GConfig} (h : TopoOk C) {k : Nat} (hk : k < C.Cells.length) : 0 ≤ regionAt C k ∧ regionAt C k < C.Regions := by
  obtain ⟨z, hz, hzl⟩ := h.zone hk
  unfold regionAt; rw [hz]; exact h.regZ hzl

/-! ### Sets of regions -/
/-- What the regions of a set below m have, of cells. -/
def lsum (C : GConfig) (s : Int) : Nat → Nat
  | 0 => 0
  | m + 1 => if hasB s m = true then lsum C s m + (inRegionL C m).length else lsum C s m
theorem lsum_lt (C : GConfig) (s : Int) : ∀ m, lsum C s m = (idxTo (fun k => hasB s (regionAt C k) && decide (0 ≤ regionAt C k ∧ regionAt C k < (m : Int))) C.Cells.length).length
  | 0 => by
    rw [idx_none]
    · rfl
    · intro k _; simp only [decide_eq_false (show ¬ (0 ≤ regionAt C k ∧ regionAt C k < ((0 : Nat) : Int)) by omega), Bool.and_false]
  | m + 1 => by
    rw [lsum, lsum_lt C s m]
    cases hs : hasB s m with
    | true =>
      rw [if_pos rfl]
      refine (idx_split ?_ ?_ _).symm
      · intro k
        by_cases h : regionAt C k = (m : Int)
        · simp [h, hs]; omega
        · have : (0 ≤ regionAt C k ∧ regionAt C k < ((m + 1 : Nat) : Int)) ↔ (0 ≤ regionAt C k ∧ regionAt C k < (m : Int)) := by omega
          have e : decide (0 ≤ regionAt C k ∧ regionAt C k < ((m + 1 : Nat) : Int)) = decide (0 ≤ regionAt C k ∧ regionAt C k < (m : Int)) := decide_eq_decide.2 this
          simp only [e, decide_eq_false h, Bool.or_false]
      · intro k h
        simp at h ⊢; omega
    | false =>
      rw [if_neg (by simp)]
      congr 1
      refine idxTo_congr fun k _ => ?_
      by_cases h : regionAt C k = (m : Int)
      · simp [h, hs]
      · have : (0 ≤ regionAt C k ∧ regionAt C k < ((m + 1 : Nat) : Int)) ↔ (0 ≤ regionAt C k ∧ regionAt C k < (m : Int)) := by omega
        have e : decide (0 ≤ regionAt C k ∧ regionAt C k < ((m + 1 : Nat) : Int)) = decide (0 ≤ regionAt C k ∧ regionAt C k < (m : Int)) := decide_eq_decide.2 this
        simp only [e]
theorem alive_lsum {C : GConfig} (h : TopoOk C) (s : Int) : (aliveL C s).length + lsum C s C.Regions.toNat = C.Cells.length := by
  have hR := h.R
  rw [lsum_lt]
  have := idx_split (p := fun k => !(lostZ C (zoneAt C k) s)) (q := fun k => lostZ C (zoneAt C k) s) (r := fun _ => true) (fun k => by cases lostZ C (zoneAt C k) s <;> rfl) (fun k h => by simpa using h) C.Cells.length
  rw [idx_all (fun _ _ => rfl)] at this
  have e : idxTo (fun k => hasB s (regionAt C k) && decide (0 ≤ regionAt C k ∧ regionAt C k < ((C.Regions.toNat : Nat) : Int))) C.Cells.length = idxTo (fun k => lostZ C (zoneAt C k) s) C.Cells.length := by
    refine idxTo_congr fun k hk => ?_
    have hr := h.regionC hk
    have : decide (0 ≤ regionAt C k ∧ regionAt C k < ((C.Regions.toNat : Nat) : Int)) = true := decide_eq_true (by omega)
    rw [this, Bool.and_true]
    rfl
  rw [e]
  unfold aliveL
  omega
theorem lsum_le (C : GConfig) (s : Int) (m : Nat) : lsum C s m ≤ C.Cells.length := by rw [lsum_lt]; exact idxTo_len _ _

theorem stand_mono {C : GConfig} {a b : Int} (h : ∀ z ∈ C.Replicas, lostZ C z a = true → lostZ C z b = true) : ∀ n, standTo C b n ≤ standTo C a n := by
  intro n
  unfold standTo
  have h' : ∀ z ∈ C.Replicas.take n, lostZ C z a = true → lostZ C z b = true := fun z hz => h z (List.mem_of_mem_take hz)
  generalize C.Replicas.take n = l at h'
  induction l with
  | nil => simp
  | cons x l ih =>
    have ih := ih (fun z hz => h' z (List.mem_cons_of_mem _ hz))
    have hx := h' x (List.mem_cons_self ..)
    cases ha : lostZ C x a <;> cases hb : lostZ C x b <;> simp [ha, hb] at hx ⊢ <;> omega
theorem stand_add {C : GConfig} {a b : Int} (h : ∀ z ∈ C.Replicas, lostZ C z b = !lostZ C z a) : standTo C a C.Replicas.length + standTo C b C.Replicas.length = C.Replicas.length := by
  unfold standTo
  rw [List.take_length]
  generalize C.Replicas = l at h
  induction l with
  | nil => simp
  | cons x l ih =>
    have ih := ih (fun z hz => h z (List.mem_cons_of_mem _ hz))
    have hx := h x (List.mem_cons_self ..)
    cases ha : lostZ C x a <;> simp [ha] at hx <;> simp [ha, hx] <;> omega
theorem maj_mono {C : GConfig} {a b : Int} (h : ∀ z ∈ C.Replicas, lostZ C z a = true → lostZ C z b = true) (hb : majB C b = true) : majB C a = true := by
  have := stand_mono h C.Replicas.length
  simp only [majB, decide_eq_true_eq] at *
  omega
theorem maj_not {C : GConfig} (hC : TopoOk C) {a b : Int} (h : ∀ z ∈ C.Replicas, lostZ C z b = !lostZ C z a) : majB C b = !majB C a := by
  have := stand_add h
  have := hC.odd
  by_cases h1 : majB C a = true
  · simp only [majB, decide_eq_true_eq] at h1
    have : majB C a = true := by simp only [majB, decide_eq_true_eq]; exact h1
    rw [this]
    simp only [majB, Bool.not_true, decide_eq_false_iff_not]; omega
  · have h1' : majB C a = false := by simpa using h1
    rw [h1']
    simp only [majB, decide_eq_false_iff_not] at h1'
    simp only [majB, Bool.not_false, decide_eq_true_eq]; omega
theorem TopoOk.regR {C : GConfig} (h : TopoOk C) {z : Int} (hz : z ∈ C.Replicas) : 0 ≤ regionZ C z ∧ regionZ C z < C.Regions := by
  have h1 := h.pz z hz
  obtain ⟨k, rfl⟩ := Int.eq_ofNat_of_zero_le h1.1
  exact h.regZ (by omega)
theorem has_zero (i : Int) : hasB 0 i = false := by
  unfold hasB; simp
theorem bits_all : ∀ R : Fin 4, ∀ r : Fin 4, r.val < R.val → hasB ((2 : Int) ^ R.val - 1) (r.val : Int) = true := by decide
theorem bits_sub : ∀ R : Fin 4, ∀ a : Fin 8, ∀ r : Fin 4, a.val < 2 ^ R.val → r.val < R.val → hasB ((2 : Int) ^ R.val - 1 - (a.val : Int)) (r.val : Int) = !hasB (a.val : Int) (r.val : Int) := by decide
theorem bits_or : ∀ a b : Fin 8, ∀ r : Fin 4, hasB (a.val : Int) (r.val : Int) = true → hasB (iOr .i64 (a.val : Int) (b.val : Int)) (r.val : Int) = true := by decide
end Go.Proofs.Ytccmghkfofmedaa
