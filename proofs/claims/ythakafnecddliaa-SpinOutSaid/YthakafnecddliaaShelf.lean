import Derived.Test.YthakafnecddliaaProg
import Derived.Lib.BitFns
set_option linter.unusedVariables false
set_option linter.unusedSimpArgs false
namespace Go.Proofs.Ythakafnecddliaa
end Go.Proofs.Ythakafnecddliaa
