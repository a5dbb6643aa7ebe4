/-
  entry: by the reference, on.
-/
import Derived.Test.YtlelalnahlpcpaaGreatE5
set_option linter.unusedSimpArgs false
set_option linter.unusedVariables false
namespace Go.Proofs.YtlelalnahlpcpaaGreat
open Go.Lift

/-! ### Names -/
def kindNames : List ByteArray := [⟨#[]⟩, ⟨#[112, 108, 97, 99, 101]⟩, ⟨#[103, 114, 97, 110, 116]⟩, ⟨#[99, 117, 116]⟩, ⟨#[115, 116, 97, 110, 100, 98, 121]⟩, ⟨#[114, 101, 97, 100, 121]⟩, ⟨#[109, 105, 103, 114, 97, 116, 101]⟩, ⟨#[97, 98, 97, 110, 100, 111, 110]⟩, ⟨#[115, 104, 101, 100]⟩, ⟨#[109, 111, 100, 101]⟩, ⟨#[119, 97, 110, 116]⟩, ⟨#[114, 117, 110, 115]⟩, ⟨#[112, 114, 111, 118, 101]⟩, ⟨#[101, 118, 97, 99, 117, 97, 116, 101]⟩, ⟨#[101, 120, 112, 97, 110, 100]⟩, ⟨#[99, 111, 110, 116, 114, 97, 99, 116]⟩, ⟨#[110, 111, 116, 101]⟩]
def kindName (k : Int) : ByteArray := if 1 ≤ k ∧ k < 17 then kindNames.getD k.toNat ⟨#[]⟩ else ⟨#[]⟩
noncomputable def nameSp := fam (fun i : Int => [V.int .i64 i]) (fun _ : Int => []) (fun _ : Int => True) (fun i : Int => ⟨.str (kindName i), []⟩)
@[simp] theorem nameSp_eq {k : Int}  : nameSp ([V.int .i64 k]) ([]) = some (⟨.str (kindName k), []⟩) :=
  fam_eq (A := fun i : Int => [V.int .i64 i]) (O := fun _ : Int => []) (res := fun i : Int => ⟨.str (kindName i), []⟩) (by intro a b h h' <;> simp at h h' <;> simp_all) k trivial

end Go.Proofs.YtlelalnahlpcpaaGreat
