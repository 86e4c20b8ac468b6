
/- The contract of strings.Clone. Condition: a text of at most 1000000 bytes. -/
import Derived.Test.YtmincpmkiheofaaBase
import Derived.Test.YtmincpmkiheofaaShelf
import Derived.Below
namespace Go.Proofs.Ytmincpmkiheofaa
open Go.ChangeShapes Go.WideShapes Go.ChangeAt Go.RowKit
set_option linter.unusedVariables false
theorem clone_any (s : ByteArray) (w : World) (hs : s.size ≤ 1000000) :
    Calls Try.prog 61 #[.string s] w fun e w' => e = .returned (.string s) ∧ Below w.heap.size w w' := by
  go_enter Try.func61, Try.ntmps61
  go_wp2_with (go_at_call 68; refine (Try.stringslite_Clone s w (by omega)).mono ?_; rintro e w' ⟨rfl, hb⟩)
  go_ret
  exact ⟨rfl, hb⟩
end Go.Proofs.Ytmincpmkiheofaa
