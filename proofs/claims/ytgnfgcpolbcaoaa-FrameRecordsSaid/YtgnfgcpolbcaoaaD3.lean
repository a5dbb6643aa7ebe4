/-
  digest: the laws without the reference.
-/
import Derived.Test.YtgnfgcpolbcaoaaD1
namespace Go.Proofs.Ytgnfgcpolbcaoaa
open Go.Lift

noncomputable def fewSp := fam (fun n : Int => [V.int .i64 n]) (fun _ => []) (fun _ => True) (fun n => ⟨.bool (decide (n ≤ 300)), []⟩)
@[simp] theorem fewSp_eq {n : Int} : fewSp [V.int .i64 n] [] = some ⟨.bool (decide (n ≤ 300)), []⟩ :=
  fam_eq (A := fun n : Int => [V.int .i64 n]) (fun i j h _ => by simp at h; rw [h]) n trivial
noncomputable def CE := mkC [(37, mixSp), (25, sumSp)]
theorem CE_ok : SpecsOk Try.prog CE := mkC_ok (all_cons mix_spec (all_cons sum_spec all_nil))
@[simp] theorem CE_1 : CE 37 = mixSp := rfl
@[simp] theorem CE_2 : CE 25 = sumSp := rfl

noncomputable def stepSt (k : Int) (l : List UInt8) (i : Nat) : St :=
  mkSt [(0, .int .i64 k), (1, .sl 2 1 (byteRow l)), (5, .int .u64 (foldI (mixI 14695981039346656037 k) (l.take i))), (6, .int .i64 i)] [] 0

noncomputable def chainSt (k p q : Int) (l : List UInt8) (i : Nat) : St :=
  mkSt [(0, .int .i64 k), (1, .int .u64 p), (2, .int .u64 q), (3, .sl 2 1 (byteRow l)), (9, .int .u64 (foldI (mixI (mixI 14695981039346656037 k) p) (l.take i))), (10, .int .i64 i)] [] 0

end Go.Proofs.Ytgnfgcpolbcaoaa
