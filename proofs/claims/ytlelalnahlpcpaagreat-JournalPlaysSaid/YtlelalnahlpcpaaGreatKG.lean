/-
  journal: the law Order.
-/
import Derived.Test.YtlelalnahlpcpaaGreatKF
set_option linter.unusedSimpArgs false
set_option linter.unusedVariables false
namespace Go.Proofs.YtlelalnahlpcpaaGreat
open Go.Lift
set_option maxRecDepth 100000

def orSt (l : List GL08Act) (i : Nat × JN) : St := mkSt [(0, .sl 2 3 (GL08Act.row l)), (3, .ptr 0 0 0), (4, .int .i64 i.1)] [(0, jnO i.2)] 1
def orSt2 (l : List GL08Act) (i : Nat) (K : JN) (k : Nat) : St := mkSt [(0, .sl 2 3 (GL08Act.row l)), (3, .ptr 0 0 0), (4, .int .i64 i), (7, .int .i64 k)] [(0, jnO K)] 1
end Go.Proofs.YtlelalnahlpcpaaGreat
