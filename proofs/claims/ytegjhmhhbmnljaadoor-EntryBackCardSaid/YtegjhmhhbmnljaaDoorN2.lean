/-
  tenant: the order of tenants, and the sort that makes it.
-/
import Derived.Test.YtegjhmhhbmnljaaDoorN1
import Derived.Test.YtegjhmhhbmnljaaDoorL28
namespace Go.Proofs.YtegjhmhhbmnljaaDoor
open Go.Lift

/-! ### The order -/
def tnP (C : GConfig) (k : Nat) : Int := (C.Tenants.getD k zeroT).Priority
def tnL (C : GConfig) (k : Nat) : Int := (C.Tenants.getD k zeroT).Load
theorem tnP_at {C : GConfig} {k : Nat} {x : GTenant} (hx : C.Tenants[k]? = some x) : tnP C k = x.Priority := by simp [tnP, List.getD, hx]
theorem tnL_at {C : GConfig} {k : Nat} {x : GTenant} (hx : C.Tenants[k]? = some x) : tnL C k = x.Load := by simp [tnL, List.getD, hx]
def bef (C : GConfig) (a b : Nat) : Bool := decide (tnP C b < tnP C a ∨ tnP C a = tnP C b ∧ (tnL C b < tnL C a ∨ tnL C a = tnL C b ∧ a < b))
theorem bef_iff {C : GConfig} {a b : Nat} : bef C a b = true ↔ tnP C b < tnP C a ∨ tnP C a = tnP C b ∧ (tnL C b < tnL C a ∨ tnL C a = tnL C b ∧ a < b) := by simp [bef]
theorem bef_trans {C : GConfig} {a b c : Nat} (h1 : bef C a b = true) (h2 : bef C b c = true) : bef C a c = true := by rw [bef_iff] at *; omega
theorem bef_total {C : GConfig} {a b : Nat} (h : a ≠ b) (h1 : bef C a b = false) : bef C b a = true := by
  have : ¬ bef C a b = true := by simp [h1]
  rw [bef_iff] at *; omega
theorem bef_irrefl {C : GConfig} {a : Nat} : bef C a a = false := by simp [bef]
theorem bef_asymm {C : GConfig} {a b : Nat} (h1 : bef C a b = true) : bef C b a = false := by
  cases h : bef C b a with
  | false => rfl
  | true => rw [bef_iff] at *; omega

def insN (C : GConfig) (x : Nat) (l : List Nat) : List Nat := l.takeWhile (fun y => bef C y x) ++ x :: l.dropWhile (fun y => bef C y x)
def ordN (C : GConfig) : Nat → List Nat
  | 0 => []
  | n + 1 => insN C n (ordN C n)
theorem insN_perm (C : GConfig) (x : Nat) (l : List Nat) : (insN C x l).Perm (x :: l) := by
  unfold insN
  refine List.perm_middle.trans ?_
  rw [List.takeWhile_append_dropWhile]
theorem ordN_perm (C : GConfig) : ∀ n, (ordN C n).Perm (List.range n)
  | 0 => .refl _
  | n + 1 => by
    rw [List.range_succ]
    exact ((insN_perm C n _).trans ((ordN_perm C n).cons n)).trans (List.perm_append_singleton n _).symm
theorem ordN_len (C : GConfig) (n : Nat) : (ordN C n).length = n := by rw [(ordN_perm C n).length_eq, List.length_range]
theorem ordN_mem {C : GConfig} {n k : Nat} (h : k ∈ ordN C n) : k < n := by rw [(ordN_perm C n).mem_iff] at h; exact List.mem_range.1 h
def Sorted (C : GConfig) (l : List Nat) : Prop := l.Pairwise fun a b => bef C a b = true
theorem insN_split {C : GConfig} {x : Nat} {A B : List Nat} (hA : ∀ y ∈ A, bef C y x = true) (hB : ∀ y, B.head? = some y → bef C y x = false) : insN C x (A ++ B) = A ++ x :: B := by
  induction A with
  | nil =>
    unfold insN
    cases B with
    | nil => rfl
    | cons b B => simp [hB b rfl]
  | cons a A ih =>
    have h1 := hA a (List.mem_cons_self ..)
    have h2 := ih (fun y hy => hA y (List.mem_cons_of_mem _ hy))
    unfold insN at h2 ⊢
    simp only [List.cons_append, List.takeWhile_cons, List.dropWhile_cons, h1, if_true]
    rw [h2]
theorem sorted_at {C : GConfig} {l : List Nat} {x : Nat} (hs : Sorted C l) (hx : x ∉ l) : ∃ A B, l = A ++ B ∧ (∀ y ∈ A, bef C y x = true) ∧ (∀ y ∈ B, bef C x y = true) := by
  induction l with
  | nil => exact ⟨[], [], rfl, by simp, by simp⟩
  | cons a l ih =>
    have h1 := List.pairwise_cons.1 hs
    obtain ⟨A, B, e, hA, hB⟩ := ih h1.2 (fun h => hx (List.mem_cons_of_mem _ h))
    cases h : bef C a x with
    | true => exact ⟨a :: A, B, by rw [e]; rfl, fun y hy => by rcases List.mem_cons.1 hy with rfl | hy; exact h; exact hA y hy, hB⟩
    | false =>
      have h2 : bef C x a = true := bef_total (fun e => hx (by rw [e]; exact List.mem_cons_self ..)) h
      exact ⟨[], a :: l, rfl, by simp, fun y hy => by
        rcases List.mem_cons.1 hy with rfl | hy
        · exact h2
        · exact bef_trans h2 (h1.1 y hy)⟩
theorem insN_sorted {C : GConfig} {l : List Nat} {x : Nat} (hs : Sorted C l) (hx : x ∉ l) : Sorted C (insN C x l) := by
  obtain ⟨A, B, rfl, hA, hB⟩ := sorted_at hs hx
  rw [insN_split hA (fun y hy => bef_asymm (hB y (List.mem_of_mem_head? hy)))]
  unfold Sorted at *
  rw [List.pairwise_append] at hs ⊢
  refine ⟨hs.1, List.pairwise_cons.2 ⟨hB, hs.2.1⟩, fun a ha b hb => ?_⟩
  rcases List.mem_cons.1 hb with rfl | hb
  · exact hA a ha
  · exact hs.2.2 a ha b hb
theorem ordN_sorted (C : GConfig) : ∀ n, Sorted C (ordN C n)
  | 0 => .nil
  | n + 1 => insN_sorted (ordN_sorted C n) (fun h => by have := ordN_mem h; omega)

/-! ### The comparison -/
def cmpI (a b : Int) : Int := if a < b then -1 else if b < a then 1 else 0
def or3 (x y z : Int) : Int := if ¬ x = 0 then x else if ¬ y = 0 then y else z
def cmpV (C : GConfig) (a b : Nat) : Int := or3 (cmpI (tnP C b) (tnP C a)) (cmpI (tnL C b) (tnL C a)) (cmpI a b)
theorem cmpV_neg {C : GConfig} {a b : Nat} : cmpV C a b < 0 ↔ bef C a b = true := by
  rw [bef_iff]
  unfold cmpV or3 cmpI
  have : (a : Int) < (b : Int) ↔ a < b := Int.ofNat_lt
  repeat' split
  all_goals omega

noncomputable def nanSp := fam (fun i : Int => [V.int .i64 i]) (fun _ : Int => []) (fun _ : Int => True) (fun _ : Int => ⟨.bool false, []⟩)
@[simp] theorem nanSp_eq {a : Int}  : nanSp ([V.int .i64 a]) ([]) = some (⟨.bool false, []⟩) :=
  fam_eq (A := fun i : Int => [V.int .i64 i]) (O := fun _ : Int => []) (res := fun _ : Int => ⟨.bool false, []⟩) (by intro a b h h' <;> simp at h h' <;> simp_all) a trivial

noncomputable def CS1 := mkC []
theorem CS1_ok : SpecsOk Tryd.prog CS1 := mkC_ok all_nil

noncomputable def cmpSp := fam (fun i : Int × Int => [V.int .i64 i.1, .int .i64 i.2]) (fun _ : Int × Int => []) (fun _ : Int × Int => True) (fun i : Int × Int => ⟨.int .i64 (cmpI i.1 i.2), []⟩)
@[simp] theorem cmpSp_eq {a : Int} {b : Int}  : cmpSp ([V.int .i64 a, .int .i64 b]) ([]) = some (⟨.int .i64 (cmpI a b), []⟩) :=
  fam_eq (A := fun i : Int × Int => [V.int .i64 i.1, .int .i64 i.2]) (O := fun _ : Int × Int => []) (res := fun i : Int × Int => ⟨.int .i64 (cmpI i.1 i.2), []⟩) (by rintro ⟨a0, a1⟩ ⟨b0, b1⟩ h h' <;> simp at h h' <;> simp_all) (a, b) trivial

noncomputable def or3Sp := fam (fun i : Int × Int × Int => [V.sl 2 1 [[.int .i64 i.1], [.int .i64 i.2.1], [.int .i64 i.2.2]]]) (fun _ : Int × Int × Int => []) (fun _ : Int × Int × Int => True) (fun i : Int × Int × Int => ⟨.int .i64 (or3 i.1 i.2.1 i.2.2), []⟩)
@[simp] theorem or3Sp_eq {x : Int} {y : Int} {z : Int}  : or3Sp ([V.sl 2 1 [[.int .i64 x], [.int .i64 y], [.int .i64 z]]]) ([]) = some (⟨.int .i64 (or3 x y z), []⟩) :=
  fam_eq (A := fun i : Int × Int × Int => [V.sl 2 1 [[.int .i64 i.1], [.int .i64 i.2.1], [.int .i64 i.2.2]]]) (O := fun _ : Int × Int × Int => []) (res := fun i : Int × Int × Int => ⟨.int .i64 (or3 i.1 i.2.1 i.2.2), []⟩) (by rintro ⟨a0, a1, a2⟩ ⟨b0, b1, b2⟩ h h' <;> simp at h h' <;> simp_all) (x, y, z) trivial

def orSt (x y z : Int) (i : Nat) : St := mkSt [(3, .int .i64 0), (6, .sl 2 1 (intRow [x, y, z])), (7, .int .i64 3), (8, .int .i64 i)] [] 0
noncomputable def CS2 := mkC []
theorem CS2_ok : SpecsOk Tryd.prog CS2 := mkC_ok all_nil

noncomputable def ordCmpSp := fam (fun i : GConfig × Nat × Nat => [V.int .i64 i.2.1, .int .i64 i.2.2, .pp i.1.cells]) (fun _ : GConfig × Nat × Nat => []) (fun i : GConfig × Nat × Nat => (i.2.1 < i.1.Tenants.length) ∧ (i.2.2 < i.1.Tenants.length)) (fun i : GConfig × Nat × Nat => ⟨.int .i64 (cmpV i.1 i.2.1 i.2.2), []⟩)
@[simp] theorem ordCmpSp_eq {C : GConfig} {a : Nat} {b : Nat} (h1 : a < C.Tenants.length) (h2 : b < C.Tenants.length) : ordCmpSp ([V.int .i64 a, .int .i64 b, .pp C.cells]) ([]) = some (⟨.int .i64 (cmpV C a b), []⟩) :=
  fam_eq (A := fun i : GConfig × Nat × Nat => [V.int .i64 i.2.1, .int .i64 i.2.2, .pp i.1.cells]) (O := fun _ : GConfig × Nat × Nat => []) (res := fun i : GConfig × Nat × Nat => ⟨.int .i64 (cmpV i.1 i.2.1 i.2.2), []⟩) (by rintro ⟨C, a, b⟩ ⟨C', a', b'⟩ h _; simp at h; obtain ⟨h1, h2, h3⟩ := h; rw [GConfig.cells_inj h3, show a = a' by omega, show b = b' by omega]) (C, a, b) ⟨h1, h2⟩

end Go.Proofs.YtegjhmhhbmnljaaDoor
