/-
  DERIVED. GIVEN WITH THE SEED: THE CARDS: each row of YtfgamdhhdiogjaaDoorRows.lean that lists a variable, with what it lists TIED to the program's text (the seventh form; the later family's looks); each row that meets fmt, with fmt's text TOLD by the authors' own Lean function (tested against real Go, not proved from fmt's source: count such statements apart). THE CARD IS WHAT COUNTS. Prove the row's statement (the work); the ties are given (YtfgamdhhdiogjaaDoorTie.lean); close each card by the builder's one call (the guide's Derived/Test/ToyasCard.lean, 'card_holds'). Laid BY PROGRAM, IN A SANDBOX (cutbox-door.mjs). By AI agents, Wed Nov 11 2026. No macro, syntax, notation, axiom, sorry.
-/
import Derived.Test.YtfgamdhhdiogjaaDoorRows
import GoSem.ClaimSeven
namespace Go.Proofs.YtfgamdhhdiogjaaDoor
namespace Rows

/-- THE TIED CARD OF 'croftlaw03.WideRings'. -/
def wideRingsCard : Claim7 := { stood := { row := wideRingsRow, standIns := [], harness := (true, "47736ff30275cea319144992b9be9eacce67dcf5cce1ba0c7c9b132f2de78be1"), looks := false }, kinds := [], alts := [], laidByText := true, laidKinds := [.data, .data, .data], laidTests := true, laidLooks := .later }
def WideRingsCardSaid : Prop := Claim7.holds Tryd.pinned (.plain (OpenSpec.ofChange wideRingsSpec)) wideRingsCard

/-- THE TIED CARD OF 'croftlaw03.WideDivides'. -/
def wideDividesCard : Claim7 := { stood := { row := wideDividesRow, standIns := [], harness := (true, "47736ff30275cea319144992b9be9eacce67dcf5cce1ba0c7c9b132f2de78be1"), looks := false }, kinds := [], alts := [], laidByText := true, laidKinds := [.data, .data, .data], laidTests := true, laidLooks := .later }
def WideDividesCardSaid : Prop := Claim7.holds Tryd.pinned (.plain (OpenSpec.ofChange wideDividesSpec)) wideDividesCard

/-- THE TIED CARD OF 'croftlaw03.WideShares'. -/
def wideSharesCard : Claim7 := { stood := { row := wideSharesRow, standIns := [], harness := (true, "47736ff30275cea319144992b9be9eacce67dcf5cce1ba0c7c9b132f2de78be1"), looks := false }, kinds := [], alts := [], laidByText := true, laidKinds := [.data, .data, .data], laidTests := true, laidLooks := .later }
def WideSharesCardSaid : Prop := Claim7.holds Tryd.pinned (.plain (OpenSpec.ofChange wideSharesSpec)) wideSharesCard

/-- THE TIED CARD OF 'croftlaw03.WideSums'. -/
def wideSumsCard : Claim7 := { stood := { row := wideSumsRow, standIns := [], harness := (true, "47736ff30275cea319144992b9be9eacce67dcf5cce1ba0c7c9b132f2de78be1"), looks := false }, kinds := [], alts := [], laidByText := true, laidKinds := [.data, .data, .data], laidTests := true, laidLooks := .later }
def WideSumsCardSaid : Prop := Claim7.holds Tryd.pinned (.plain (OpenSpec.ofChange wideSumsSpec)) wideSumsCard

/-- THE TIED CARD OF 'croftlaw03.WideProducts'. -/
def wideProductsCard : Claim7 := { stood := { row := wideProductsRow, standIns := [], harness := (true, "47736ff30275cea319144992b9be9eacce67dcf5cce1ba0c7c9b132f2de78be1"), looks := false }, kinds := [], alts := [], laidByText := true, laidKinds := [.data, .data, .data], laidTests := true, laidLooks := .later }
def WideProductsCardSaid : Prop := Claim7.holds Tryd.pinned (.plain (OpenSpec.ofChange wideProductsSpec)) wideProductsCard

/-- THE TIED CARD OF 'croftlaw03.WideQuotients'. -/
def wideQuotientsCard : Claim7 := { stood := { row := wideQuotientsRow, standIns := [], harness := (true, "47736ff30275cea319144992b9be9eacce67dcf5cce1ba0c7c9b132f2de78be1"), looks := false }, kinds := [], alts := [], laidByText := true, laidKinds := [.data, .data, .data], laidTests := true, laidLooks := .later }
def WideQuotientsCardSaid : Prop := Claim7.holds Tryd.pinned (.plain (OpenSpec.ofChange wideQuotientsSpec)) wideQuotientsCard

/-- THE TIED CARD OF 'croftlaw03.WideGcds'. -/
def wideGcdsCard : Claim7 := { stood := { row := wideGcdsRow, standIns := [], harness := (true, "47736ff30275cea319144992b9be9eacce67dcf5cce1ba0c7c9b132f2de78be1"), looks := false }, kinds := [], alts := [], laidByText := true, laidKinds := [.data, .data, .data], laidTests := true, laidLooks := .later }
def WideGcdsCardSaid : Prop := Claim7.holds Tryd.pinned (.plain (OpenSpec.ofChange wideGcdsSpec)) wideGcdsCard

/-- THE TIED CARD OF 'croftlaw03.WideOrders'. -/
def wideOrdersCard : Claim7 := { stood := { row := wideOrdersRow, standIns := [], harness := (true, "47736ff30275cea319144992b9be9eacce67dcf5cce1ba0c7c9b132f2de78be1"), looks := false }, kinds := [], alts := [], laidByText := true, laidKinds := [.data, .data, .data], laidTests := true, laidLooks := .later }
def WideOrdersCardSaid : Prop := Claim7.holds Tryd.pinned (.plain (OpenSpec.ofChange wideOrdersSpec)) wideOrdersCard

/-- THE TIED CARD OF 'croftlaw03.WideMoves'. -/
def wideMovesCard : Claim7 := { stood := { row := wideMovesRow, standIns := [], harness := (true, "47736ff30275cea319144992b9be9eacce67dcf5cce1ba0c7c9b132f2de78be1"), looks := false }, kinds := [], alts := [], laidByText := true, laidKinds := [.data, .data, .data], laidTests := true, laidLooks := .later }
def WideMovesCardSaid : Prop := Claim7.holds Tryd.pinned (.plain (OpenSpec.ofChange wideMovesSpec)) wideMovesCard

/-- THE TIED CARD OF 'croftlaw03.WideHolds'. -/
def wideHoldsCard : Claim7 := { stood := { row := wideHoldsRow, standIns := [], harness := (true, "47736ff30275cea319144992b9be9eacce67dcf5cce1ba0c7c9b132f2de78be1"), looks := false }, kinds := [], alts := [], laidByText := true, laidKinds := [.data, .data, .data], laidTests := true, laidLooks := .later }
def WideHoldsCardSaid : Prop := Claim7.holds Tryd.pinned (.plain (OpenSpec.ofChange wideHoldsSpec)) wideHoldsCard

/-- THE TIED CARD OF 'croftlaw03.WideTexts'. -/
def wideTextsCard : Claim7 := { stood := { row := wideTextsRow, standIns := [], harness := (true, "47736ff30275cea319144992b9be9eacce67dcf5cce1ba0c7c9b132f2de78be1"), looks := false }, kinds := [], alts := [], laidByText := true, laidKinds := [.data, .data, .data], laidTests := true, laidLooks := .later }
def WideTextsCardSaid : Prop := Claim7.holds Tryd.pinned (.plain (OpenSpec.ofChange wideTextsSpec)) wideTextsCard

/-- THE TIED CARD OF 'croftlaw03.WideNegs'. -/
def wideNegsCard : Claim7 := { stood := { row := wideNegsRow, standIns := [], harness := (true, "47736ff30275cea319144992b9be9eacce67dcf5cce1ba0c7c9b132f2de78be1"), looks := false }, kinds := [], alts := [], laidByText := true, laidKinds := [.data, .data, .data], laidTests := true, laidLooks := .later }
def WideNegsCardSaid : Prop := Claim7.holds Tryd.pinned (.plain (OpenSpec.ofChange wideNegsSpec)) wideNegsCard

/-- THE TIED CARD OF 'croftlaw03.WideSmalls'. -/
def wideSmallsCard : Claim7 := { stood := { row := wideSmallsRow, standIns := [], harness := (true, "47736ff30275cea319144992b9be9eacce67dcf5cce1ba0c7c9b132f2de78be1"), looks := false }, kinds := [], alts := [], laidByText := true, laidKinds := [.data, .data, .data], laidTests := true, laidLooks := .later }
def WideSmallsCardSaid : Prop := Claim7.holds Tryd.pinned (.plain (OpenSpec.ofChange wideSmallsSpec)) wideSmallsCard

/-- THE SECOND FORM's CARD OF 'croftlaw03.WideRings'. -/
def wideRingsUptoCard : Claim7 := { stood := { row := wideRingsUptoRow, standIns := [], harness := (true, "47736ff30275cea319144992b9be9eacce67dcf5cce1ba0c7c9b132f2de78be1"), looks := false }, kinds := [], alts := [], laidByText := true, laidKinds := [.data, .data, .data], laidTests := true, laidLooks := .later }
def WideRingsUptoCardSaid : Prop := Claim7.holds Tryd.pinned (.plain (OpenSpec.upto wideRingsSpec)) wideRingsUptoCard

/-- THE SECOND FORM's CARD OF 'croftlaw03.WideDivides'. -/
def wideDividesUptoCard : Claim7 := { stood := { row := wideDividesUptoRow, standIns := [], harness := (true, "47736ff30275cea319144992b9be9eacce67dcf5cce1ba0c7c9b132f2de78be1"), looks := false }, kinds := [], alts := [], laidByText := true, laidKinds := [.data, .data, .data], laidTests := true, laidLooks := .later }
def WideDividesUptoCardSaid : Prop := Claim7.holds Tryd.pinned (.plain (OpenSpec.upto wideDividesSpec)) wideDividesUptoCard

/-- THE SECOND FORM's CARD OF 'croftlaw03.WideShares'. -/
def wideSharesUptoCard : Claim7 := { stood := { row := wideSharesUptoRow, standIns := [], harness := (true, "47736ff30275cea319144992b9be9eacce67dcf5cce1ba0c7c9b132f2de78be1"), looks := false }, kinds := [], alts := [], laidByText := true, laidKinds := [.data, .data, .data], laidTests := true, laidLooks := .later }
def WideSharesUptoCardSaid : Prop := Claim7.holds Tryd.pinned (.plain (OpenSpec.upto wideSharesSpec)) wideSharesUptoCard

/-- THE SECOND FORM's CARD OF 'croftlaw03.WideSums'. -/
def wideSumsUptoCard : Claim7 := { stood := { row := wideSumsUptoRow, standIns := [], harness := (true, "47736ff30275cea319144992b9be9eacce67dcf5cce1ba0c7c9b132f2de78be1"), looks := false }, kinds := [], alts := [], laidByText := true, laidKinds := [.data, .data, .data], laidTests := true, laidLooks := .later }
def WideSumsUptoCardSaid : Prop := Claim7.holds Tryd.pinned (.plain (OpenSpec.upto wideSumsSpec)) wideSumsUptoCard

/-- THE SECOND FORM's CARD OF 'croftlaw03.WideProducts'. -/
def wideProductsUptoCard : Claim7 := { stood := { row := wideProductsUptoRow, standIns := [], harness := (true, "47736ff30275cea319144992b9be9eacce67dcf5cce1ba0c7c9b132f2de78be1"), looks := false }, kinds := [], alts := [], laidByText := true, laidKinds := [.data, .data, .data], laidTests := true, laidLooks := .later }
def WideProductsUptoCardSaid : Prop := Claim7.holds Tryd.pinned (.plain (OpenSpec.upto wideProductsSpec)) wideProductsUptoCard

/-- THE SECOND FORM's CARD OF 'croftlaw03.WideQuotients'. -/
def wideQuotientsUptoCard : Claim7 := { stood := { row := wideQuotientsUptoRow, standIns := [], harness := (true, "47736ff30275cea319144992b9be9eacce67dcf5cce1ba0c7c9b132f2de78be1"), looks := false }, kinds := [], alts := [], laidByText := true, laidKinds := [.data, .data, .data], laidTests := true, laidLooks := .later }
def WideQuotientsUptoCardSaid : Prop := Claim7.holds Tryd.pinned (.plain (OpenSpec.upto wideQuotientsSpec)) wideQuotientsUptoCard

/-- THE SECOND FORM's CARD OF 'croftlaw03.WideGcds'. -/
def wideGcdsUptoCard : Claim7 := { stood := { row := wideGcdsUptoRow, standIns := [], harness := (true, "47736ff30275cea319144992b9be9eacce67dcf5cce1ba0c7c9b132f2de78be1"), looks := false }, kinds := [], alts := [], laidByText := true, laidKinds := [.data, .data, .data], laidTests := true, laidLooks := .later }
def WideGcdsUptoCardSaid : Prop := Claim7.holds Tryd.pinned (.plain (OpenSpec.upto wideGcdsSpec)) wideGcdsUptoCard

/-- THE SECOND FORM's CARD OF 'croftlaw03.WideOrders'. -/
def wideOrdersUptoCard : Claim7 := { stood := { row := wideOrdersUptoRow, standIns := [], harness := (true, "47736ff30275cea319144992b9be9eacce67dcf5cce1ba0c7c9b132f2de78be1"), looks := false }, kinds := [], alts := [], laidByText := true, laidKinds := [.data, .data, .data], laidTests := true, laidLooks := .later }
def WideOrdersUptoCardSaid : Prop := Claim7.holds Tryd.pinned (.plain (OpenSpec.upto wideOrdersSpec)) wideOrdersUptoCard

/-- THE SECOND FORM's CARD OF 'croftlaw03.WideMoves'. -/
def wideMovesUptoCard : Claim7 := { stood := { row := wideMovesUptoRow, standIns := [], harness := (true, "47736ff30275cea319144992b9be9eacce67dcf5cce1ba0c7c9b132f2de78be1"), looks := false }, kinds := [], alts := [], laidByText := true, laidKinds := [.data, .data, .data], laidTests := true, laidLooks := .later }
def WideMovesUptoCardSaid : Prop := Claim7.holds Tryd.pinned (.plain (OpenSpec.upto wideMovesSpec)) wideMovesUptoCard

/-- THE SECOND FORM's CARD OF 'croftlaw03.WideHolds'. -/
def wideHoldsUptoCard : Claim7 := { stood := { row := wideHoldsUptoRow, standIns := [], harness := (true, "47736ff30275cea319144992b9be9eacce67dcf5cce1ba0c7c9b132f2de78be1"), looks := false }, kinds := [], alts := [], laidByText := true, laidKinds := [.data, .data, .data], laidTests := true, laidLooks := .later }
def WideHoldsUptoCardSaid : Prop := Claim7.holds Tryd.pinned (.plain (OpenSpec.upto wideHoldsSpec)) wideHoldsUptoCard

/-- THE SECOND FORM's CARD OF 'croftlaw03.WideTexts'. -/
def wideTextsUptoCard : Claim7 := { stood := { row := wideTextsUptoRow, standIns := [], harness := (true, "47736ff30275cea319144992b9be9eacce67dcf5cce1ba0c7c9b132f2de78be1"), looks := false }, kinds := [], alts := [], laidByText := true, laidKinds := [.data, .data, .data], laidTests := true, laidLooks := .later }
def WideTextsUptoCardSaid : Prop := Claim7.holds Tryd.pinned (.plain (OpenSpec.upto wideTextsSpec)) wideTextsUptoCard

/-- THE SECOND FORM's CARD OF 'croftlaw03.WideNegs'. -/
def wideNegsUptoCard : Claim7 := { stood := { row := wideNegsUptoRow, standIns := [], harness := (true, "47736ff30275cea319144992b9be9eacce67dcf5cce1ba0c7c9b132f2de78be1"), looks := false }, kinds := [], alts := [], laidByText := true, laidKinds := [.data, .data, .data], laidTests := true, laidLooks := .later }
def WideNegsUptoCardSaid : Prop := Claim7.holds Tryd.pinned (.plain (OpenSpec.upto wideNegsSpec)) wideNegsUptoCard

/-- THE SECOND FORM's CARD OF 'croftlaw03.WideSmalls'. -/
def wideSmallsUptoCard : Claim7 := { stood := { row := wideSmallsUptoRow, standIns := [], harness := (true, "47736ff30275cea319144992b9be9eacce67dcf5cce1ba0c7c9b132f2de78be1"), looks := false }, kinds := [], alts := [], laidByText := true, laidKinds := [.data, .data, .data], laidTests := true, laidLooks := .later }
def WideSmallsUptoCardSaid : Prop := Claim7.holds Tryd.pinned (.plain (OpenSpec.upto wideSmallsSpec)) wideSmallsUptoCard
end Rows
end Go.Proofs.YtfgamdhhdiogjaaDoor
