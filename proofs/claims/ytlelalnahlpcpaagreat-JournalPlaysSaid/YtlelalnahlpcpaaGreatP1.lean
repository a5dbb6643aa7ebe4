/-
  topo: cells, zones and regions of a configuration.
-/
import Derived.Test.YtlelalnahlpcpaaGreatP0
set_option linter.unusedSimpArgs false
set_option linter.unusedVariables false
namespace Go.Proofs.YtlelalnahlpcpaaGreat
open Go.Lift

/-! ### What a configuration says -/
def hasB (set i : Int) : Bool := decide (0 ≤ i ∧ i < 62 ∧ set.fdiv (2 ^ i.toNat) % 2 = 1)
theorem exB_out {n m : Int} (h : n < 0) : exB n m = false := by unfold exB; simp; omega
theorem ex_cases (n : Int) (m : Nat) : (∃ k : Nat, n = (k : Int) ∧ k < m ∧ exB n m = true) ∨ exB n m = false := by
  by_cases h : 0 ≤ n ∧ n < (m : Int)
  · exact .inl ⟨n.toNat, by omega, by omega, exB_iff.2 h⟩
  · right; unfold exB; simp; omega
noncomputable def betweenPSp := fam (fun i : Int × Int × Int => [V.int .i64 i.1, .int .i64 i.2.1, .int .i64 i.2.2]) (fun _ : Int × Int × Int => []) (fun _ : Int × Int × Int => True) (fun i : Int × Int × Int => ⟨.bool (inB i.1 i.2.1 i.2.2), []⟩)
@[simp] theorem betweenPSp_eq {n : Int} {low : Int} {high : Int}  : betweenPSp ([V.int .i64 n, .int .i64 low, .int .i64 high]) ([]) = some (⟨.bool (inB n low high), []⟩) :=
  fam_eq (A := fun i : Int × Int × Int => [V.int .i64 i.1, .int .i64 i.2.1, .int .i64 i.2.2]) (O := fun _ : Int × Int × Int => []) (res := fun i : Int × Int × Int => ⟨.bool (inB i.1 i.2.1 i.2.2), []⟩) (by rintro ⟨a0, a1, a2⟩ ⟨b0, b1, b2⟩ h h' <;> simp at h h' <;> simp_all) (n, low, high) trivial

noncomputable def existsSp := fam (fun i : Int × Int => [V.int .i64 i.1, .int .i64 i.2]) (fun _ : Int × Int => []) (fun _ : Int × Int => True) (fun i : Int × Int => ⟨.bool (exB i.1 i.2), []⟩)
@[simp] theorem existsSp_eq {n : Int} {m : Int}  : existsSp ([V.int .i64 n, .int .i64 m]) ([]) = some (⟨.bool (exB n m), []⟩) :=
  fam_eq (A := fun i : Int × Int => [V.int .i64 i.1, .int .i64 i.2]) (O := fun _ : Int × Int => []) (res := fun i : Int × Int => ⟨.bool (exB i.1 i.2), []⟩) (by rintro ⟨a0, a1⟩ ⟨b0, b1⟩ h h' <;> simp at h h' <;> simp_all) (n, m) trivial

noncomputable def CP1 := mkC []
theorem CP1_ok : SpecsOk Tryz.prog CP1 := mkC_ok all_nil

noncomputable def CP2 := mkC []
theorem CP2_ok : SpecsOk Tryz.prog CP2 := mkC_ok all_nil

noncomputable def hasSp := fam (fun i : Int × Int => [V.int .i64 i.1, .int .i64 i.2]) (fun _ : Int × Int => []) (fun _ : Int × Int => True) (fun i : Int × Int => ⟨.bool (hasB i.1 i.2), []⟩)
@[simp] theorem hasSp_eq {s : Int} {i : Int}  : hasSp ([V.int .i64 s, .int .i64 i]) ([]) = some (⟨.bool (hasB s i), []⟩) :=
  fam_eq (A := fun i : Int × Int => [V.int .i64 i.1, .int .i64 i.2]) (O := fun _ : Int × Int => []) (res := fun i : Int × Int => ⟨.bool (hasB i.1 i.2), []⟩) (by rintro ⟨a0, a1⟩ ⟨b0, b1⟩ h h' <;> simp at h h' <;> simp_all) (s, i) trivial

noncomputable def CP3 := mkC []
theorem CP3_ok : SpecsOk Tryz.prog CP3 := mkC_ok all_nil

/-! ### Lists of cells -/
theorem push_ok {l : List Int} {n : Nat} (h : l.length ≤ n) (hn : n ≤ 16) : (l.length : Int) + 1 ≤ 140737488355328 ∧ ((l.length : Int) + 1) * 8 ≤ 140737488355328 := by omega
theorem intRow_push (l : List Int) (x : Int) : intRow (l ++ [x]) = intRow l ++ [[.int .i64 x]] := by simp [intRow]

end Go.Proofs.YtlelalnahlpcpaaGreat
