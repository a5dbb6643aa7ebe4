/-
  disk: the reference.
-/
import Derived.Test.YtlelalnahlpcpaaK1
import Derived.Test.YtlelalnahlpcpaaPW1
set_option linter.unusedSimpArgs false
set_option linter.unusedVariables false
namespace Go.Proofs.Ytlelalnahlpcpaa
open Go.Lift

end Go.Proofs.Ytlelalnahlpcpaa
