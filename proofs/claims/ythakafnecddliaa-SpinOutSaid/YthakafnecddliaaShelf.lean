/- The library's facts that this seat's texts want: none beyond those of bits. -/
import Derived.Test.YthakafnecddliaaProg
import Derived.Lib.BitFns
namespace Go.Proofs.Ythakafnecddliaa
end Go.Proofs.Ythakafnecddliaa
