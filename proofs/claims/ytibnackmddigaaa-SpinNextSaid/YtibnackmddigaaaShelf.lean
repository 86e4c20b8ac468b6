import Derived.Test.YtibnackmddigaaaProg
import Derived.Lib.BitFns
set_option linter.unusedVariables false
set_option linter.unusedSimpArgs false
set_option linter.unusedSectionVars false
namespace Go.Proofs.Ytibnackmddigaaa
end Go.Proofs.Ytibnackmddigaaa
