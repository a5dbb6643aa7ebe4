/-
  entry: by the reference, on.
-/
import Derived.Test.YtegjhmhhbmnljaaDoorE5
namespace Go.Proofs.YtegjhmhhbmnljaaDoor
open Go.Lift

/-! ### Names -/
def kindNames : List ByteArray := [⟨#[]⟩, ⟨#[112, 108, 97, 99, 101]⟩, ⟨#[103, 114, 97, 110, 116]⟩, ⟨#[99, 117, 116]⟩, ⟨#[115, 116, 97, 110, 100, 98, 121]⟩, ⟨#[114, 101, 97, 100, 121]⟩, ⟨#[109, 105, 103, 114, 97, 116, 101]⟩, ⟨#[97, 98, 97, 110, 100, 111, 110]⟩, ⟨#[115, 104, 101, 100]⟩, ⟨#[109, 111, 100, 101]⟩, ⟨#[119, 97, 110, 116]⟩, ⟨#[114, 117, 110, 115]⟩, ⟨#[112, 114, 111, 118, 101]⟩, ⟨#[101, 118, 97, 99, 117, 97, 116, 101]⟩, ⟨#[101, 120, 112, 97, 110, 100]⟩, ⟨#[99, 111, 110, 116, 114, 97, 99, 116]⟩, ⟨#[110, 111, 116, 101]⟩]
def kindName (k : Int) : ByteArray := if 1 ≤ k ∧ k < 17 then kindNames.getD k.toNat ⟨#[]⟩ else ⟨#[]⟩
noncomputable def nameSp := fam (fun i : Int => [V.int .i64 i]) (fun _ : Int => []) (fun _ : Int => True) (fun i : Int => ⟨.str (kindName i), []⟩)
@[simp] theorem nameSp_eq {k : Int}  : nameSp ([V.int .i64 k]) ([]) = some (⟨.str (kindName k), []⟩) :=
  fam_eq (A := fun i : Int => [V.int .i64 i]) (O := fun _ : Int => []) (res := fun i : Int => ⟨.str (kindName i), []⟩) (by intro a b h h' <;> simp at h h' <;> simp_all) k trivial

set_option maxRecDepth 100000 in
theorem refname_spec : Lift.Spec Tryd.prog 26 nameSp := by
  refine spec_fam (C := C0) types_ok C0_ok follows Tryd.func26 (by kernel_rfl) rfl (by kernel_rfl) rfl ?_
  rintro k _
  refine ⟨by simp, ?_⟩
  intro r hr
  by_cases h1 : k < 1
  · simp [h1]
    ((repeat refine ⟨⟨by kernel_rfl, by kernel_rfl⟩, ?_⟩); rw [hr]; refine ret_closed rfl ?_ rfl; simp [kindName, show ¬ (1 ≤ k ∧ k < 17) by omega])
  · by_cases h2 : 17 ≤ k
    · simp [h1, h2]
      ((repeat refine ⟨⟨by kernel_rfl, by kernel_rfl⟩, ?_⟩); rw [hr]; refine ret_closed rfl ?_ rfl; simp [kindName, show ¬ (1 ≤ k ∧ k < 17) by omega])
    · rcases kinds (k := k) (by omega) with rfl | rfl | rfl | rfl | rfl | rfl | rfl | rfl | rfl | rfl | rfl | rfl | rfl | rfl | rfl | rfl
      all_goals
        simp
        ((repeat refine ⟨⟨by kernel_rfl, by kernel_rfl⟩, ?_⟩); rw [hr]; refine ret_closed rfl ?_ rfl; simp [kindName, kindNames])
theorem glb_names : GLB 0 = some (kindNames.map V.str) := rfl
theorem ev_names (st : St) : st.ev (.global 0) = .pp (kindNames.map V.str) := by
  show (match GLB 0 with | some cs => V.pp cs | none => .junk) = _
  rw [glb_names]
attribute [simp] ev_names
set_option maxRecDepth 100000 in
theorem name_spec : Lift.Spec Tryd.prog 25 nameSp := by
  refine spec_fam (C := C0) types_ok C0_ok follows Tryd.func25 (by kernel_rfl) rfl (by kernel_rfl) rfl ?_
  rintro k _
  refine ⟨by simp, ?_⟩
  intro r hr
  by_cases h1 : k < 0
  · simp [h1]
    ((repeat refine ⟨⟨by kernel_rfl, by kernel_rfl⟩, ?_⟩); rw [hr]; refine ret_closed rfl ?_ rfl; simp [kindName, show ¬ (1 ≤ k ∧ k < 17) by omega])
  · by_cases h2 : 17 ≤ k
    · simp [h1, h2]
      ((repeat refine ⟨⟨by kernel_rfl, by kernel_rfl⟩, ?_⟩); rw [hr]; refine ret_closed rfl ?_ rfl; simp [kindName, show ¬ (1 ≤ k ∧ k < 17) by omega])
    · by_cases h0 : k = 0
      · subst h0
        simp [kindNames]
        ((repeat refine ⟨⟨by kernel_rfl, by kernel_rfl⟩, ?_⟩); rw [hr]; refine ret_closed rfl ?_ rfl; simp [kindName])
      rcases kinds (k := k) (by omega) with rfl | rfl | rfl | rfl | rfl | rfl | rfl | rfl | rfl | rfl | rfl | rfl | rfl | rfl | rfl | rfl
      all_goals
        simp [kindNames]
        ((repeat refine ⟨⟨by kernel_rfl, by kernel_rfl⟩, ?_⟩); rw [hr]; refine ret_closed rfl ?_ rfl; simp [kindName, kindNames])
end Go.Proofs.YtegjhmhhbmnljaaDoor
