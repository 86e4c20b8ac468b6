/- The library's contracts that this seat wants: none. -/
import Derived.Test.YtdkmclaihojknaaProg
import Derived.Lib.BitFns
namespace Go.Proofs.Ytdkmclaihojknaa
end Go.Proofs.Ytdkmclaihojknaa
