/- The library's facts that this seat's texts want: none beyond those of bits. -/
import Derived.Test.YtibnackmddigaaaProg
import Derived.Lib.BitFns
namespace Go.Proofs.Ytibnackmddigaaa
end Go.Proofs.Ytibnackmddigaaa
