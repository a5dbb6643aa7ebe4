/-
  wire: laws on what is written.
-/
import Derived.Test.YtgnfgcpolbcaoaaW7
namespace Go.Proofs.Ytgnfgcpolbcaoaa
open Go.Lift

noncomputable def C9 := mkC [(12, sameSp), (24, intSp)]
theorem C9_ok : SpecsOk Try.prog C9 := mkC_ok (all_cons same_spec (all_cons int_spec all_nil))
@[simp] theorem C9_1 : C9 12 = sameSp := rfl
@[simp] theorem C9_2 : C9 24 = intSp := rfl

theorem intRow_set (l : List Int) (k : Nat) (x : Int) : (intRow l).set k [V.int .i64 x] = intRow (l.set k x) := by
  simp [intRow, List.map_set]
theorem wrapIx {a n : Int} (hn : 0 < n) (hm : n ≤ 140737488355328) : ∃ k : Nat, (IntKind.i64.wrap (a.tmod n + n)).tmod n = (k : Int) ∧ (k : Int) < n := by
  have h1 := Int.tmod_lt_of_pos a hn
  have h2 := Int.lt_tmod_of_pos a hn
  rw [wrap_i64_in (by omega) (by omega)]
  have h3 : 0 ≤ (a.tmod n + n).tmod n := Int.tmod_nonneg _ (by omega)
  have h4 := Int.tmod_lt_of_pos (a.tmod n + n) hn
  exact ⟨((a.tmod n + n).tmod n).toNat, by omega, by omega⟩

end Go.Proofs.Ytgnfgcpolbcaoaa
