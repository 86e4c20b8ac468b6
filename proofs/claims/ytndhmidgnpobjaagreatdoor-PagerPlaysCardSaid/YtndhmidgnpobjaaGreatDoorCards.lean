/-
  DERIVED. GIVEN WITH THE SEED: THE CARDS: each row of YtndhmidgnpobjaaGreatDoorRows.lean that lists a variable, with what it lists TIED to the program's text (the seventh form; the later family's looks); each row that meets fmt, with fmt's text TOLD by the authors' own Lean function (tested against real Go, not proved from fmt's source: count such statements apart). THE CARD IS WHAT COUNTS. Prove the row's statement (the work); the ties are given (YtndhmidgnpobjaaGreatDoorTie.lean); close each card by the builder's one call (the guide's Derived/Test/ToyasCard.lean, 'card_holds'). Laid BY PROGRAM, IN A SANDBOX (cutbox-door.mjs). By AI agents, Wed Nov 11 2026. No macro, syntax, notation, axiom, sorry.
-/
import Derived.Test.YtndhmidgnpobjaaGreatDoorRows
import GoSem.ClaimSeven
namespace Go.Proofs.YtndhmidgnpobjaaGreatDoor
namespace Rows

/-- THE TIED CARD OF 'croftlaw11.PagerCrash'. -/
def pagerCrashCard : Claim7 := { stood := { row := pagerCrashRow, standIns := [], harness := (true, "28874e39ba8c8f9497e939afab2c54ff5b30085821baa06210cd2432478f5838"), looks := false }, kinds := [], alts := [], laidByText := true, laidKinds := [.data, .pinned], laidTests := true, laidLooks := .later }
def PagerCrashCardSaid : Prop := Claim7.holds Tryz.pinned (.plain (OpenSpec.ofChange pagerCrashSpec)) pagerCrashCard

/-- THE TIED CARD OF 'croftlaw11.PagerPlays'. -/
def pagerPlaysCard : Claim7 := { stood := { row := pagerPlaysRow, standIns := [], harness := (true, "28874e39ba8c8f9497e939afab2c54ff5b30085821baa06210cd2432478f5838"), looks := false }, kinds := [], alts := [], laidByText := true, laidKinds := [.data, .pinned], laidTests := true, laidLooks := .later }
def PagerPlaysCardSaid : Prop := Claim7.holds Tryz.pinned (.plain (OpenSpec.ofChange pagerPlaysSpec)) pagerPlaysCard

/-- THE TIED CARD OF 'croftlaw11.PagerFormats'. -/
def pagerFormatsCard : Claim7 := { stood := { row := pagerFormatsRow, standIns := [], harness := (true, "28874e39ba8c8f9497e939afab2c54ff5b30085821baa06210cd2432478f5838"), looks := false }, kinds := [], alts := [], laidByText := true, laidKinds := [.data, .pinned], laidTests := true, laidLooks := .later }
def PagerFormatsCardSaid : Prop := Claim7.holds Tryz.pinned (.plain (OpenSpec.ofChange pagerFormatsSpec)) pagerFormatsCard

/-- THE TIED CARD OF 'croftlaw13.BtreePlays'. -/
def btreePlaysCard : Claim7 := { stood := { row := btreePlaysRow, standIns := [], harness := (true, "28874e39ba8c8f9497e939afab2c54ff5b30085821baa06210cd2432478f5838"), looks := false }, kinds := [], alts := [], laidByText := true, laidKinds := [.data, .pinned], laidTests := true, laidLooks := .later }
def BtreePlaysCardSaid : Prop := Claim7.holds Tryz.pinned (.plain (OpenSpec.ofChange btreePlaysSpec)) btreePlaysCard

/-- THE TIED CARD OF 'croftlaw13.BtreeFlat'. -/
def btreeFlatCard : Claim7 := { stood := { row := btreeFlatRow, standIns := [], harness := (true, "28874e39ba8c8f9497e939afab2c54ff5b30085821baa06210cd2432478f5838"), looks := false }, kinds := [], alts := [], laidByText := true, laidKinds := [.data, .pinned], laidTests := true, laidLooks := .later }
def BtreeFlatCardSaid : Prop := Claim7.holds Tryz.pinned (.plain (OpenSpec.ofChange btreeFlatSpec)) btreeFlatCard

/-- THE TIED CARD OF 'croftlaw13.BtreeAgain'. -/
def btreeAgainCard : Claim7 := { stood := { row := btreeAgainRow, standIns := [], harness := (true, "28874e39ba8c8f9497e939afab2c54ff5b30085821baa06210cd2432478f5838"), looks := false }, kinds := [], alts := [], laidByText := true, laidKinds := [.data, .pinned], laidTests := true, laidLooks := .later }
def BtreeAgainCardSaid : Prop := Claim7.holds Tryz.pinned (.plain (OpenSpec.ofChange btreeAgainSpec)) btreeAgainCard

/-- THE TIED CARD OF 'croftlaw13.BtreeBad'. -/
def btreeBadCard : Claim7 := { stood := { row := btreeBadRow, standIns := [], harness := (true, "28874e39ba8c8f9497e939afab2c54ff5b30085821baa06210cd2432478f5838"), looks := false }, kinds := [], alts := [], laidByText := true, laidKinds := [.data, .pinned], laidTests := true, laidLooks := .later }
def BtreeBadCardSaid : Prop := Claim7.holds Tryz.pinned (.plain (OpenSpec.ofChange btreeBadSpec)) btreeBadCard

/-- THE TIED CARD OF 'croftlaw13.BtreeNil'. -/
def btreeNilCard : Claim7 := { stood := { row := btreeNilRow, standIns := [], harness := (true, "28874e39ba8c8f9497e939afab2c54ff5b30085821baa06210cd2432478f5838"), looks := false }, kinds := [], alts := [], laidByText := true, laidKinds := [.data, .pinned], laidTests := true, laidLooks := .later }
def BtreeNilCardSaid : Prop := Claim7.holds Tryz.pinned (.plain (OpenSpec.ofChange btreeNilSpec)) btreeNilCard

/-- THE SECOND FORM's CARD OF 'croftlaw11.PagerCrash'. -/
def pagerCrashUptoCard : Claim7 := { stood := { row := pagerCrashUptoRow, standIns := [], harness := (true, "28874e39ba8c8f9497e939afab2c54ff5b30085821baa06210cd2432478f5838"), looks := false }, kinds := [], alts := [], laidByText := true, laidKinds := [.data, .pinned], laidTests := true, laidLooks := .later }
def PagerCrashUptoCardSaid : Prop := Claim7.holds Tryz.pinned (.plain (OpenSpec.upto pagerCrashSpec)) pagerCrashUptoCard

/-- THE SECOND FORM's CARD OF 'croftlaw11.PagerPlays'. -/
def pagerPlaysUptoCard : Claim7 := { stood := { row := pagerPlaysUptoRow, standIns := [], harness := (true, "28874e39ba8c8f9497e939afab2c54ff5b30085821baa06210cd2432478f5838"), looks := false }, kinds := [], alts := [], laidByText := true, laidKinds := [.data, .pinned], laidTests := true, laidLooks := .later }
def PagerPlaysUptoCardSaid : Prop := Claim7.holds Tryz.pinned (.plain (OpenSpec.upto pagerPlaysSpec)) pagerPlaysUptoCard

/-- THE SECOND FORM's CARD OF 'croftlaw11.PagerFormats'. -/
def pagerFormatsUptoCard : Claim7 := { stood := { row := pagerFormatsUptoRow, standIns := [], harness := (true, "28874e39ba8c8f9497e939afab2c54ff5b30085821baa06210cd2432478f5838"), looks := false }, kinds := [], alts := [], laidByText := true, laidKinds := [.data, .pinned], laidTests := true, laidLooks := .later }
def PagerFormatsUptoCardSaid : Prop := Claim7.holds Tryz.pinned (.plain (OpenSpec.upto pagerFormatsSpec)) pagerFormatsUptoCard

/-- THE SECOND FORM's CARD OF 'croftlaw13.BtreePlays'. -/
def btreePlaysUptoCard : Claim7 := { stood := { row := btreePlaysUptoRow, standIns := [], harness := (true, "28874e39ba8c8f9497e939afab2c54ff5b30085821baa06210cd2432478f5838"), looks := false }, kinds := [], alts := [], laidByText := true, laidKinds := [.data, .pinned], laidTests := true, laidLooks := .later }
def BtreePlaysUptoCardSaid : Prop := Claim7.holds Tryz.pinned (.plain (OpenSpec.upto btreePlaysSpec)) btreePlaysUptoCard

/-- THE SECOND FORM's CARD OF 'croftlaw13.BtreeFlat'. -/
def btreeFlatUptoCard : Claim7 := { stood := { row := btreeFlatUptoRow, standIns := [], harness := (true, "28874e39ba8c8f9497e939afab2c54ff5b30085821baa06210cd2432478f5838"), looks := false }, kinds := [], alts := [], laidByText := true, laidKinds := [.data, .pinned], laidTests := true, laidLooks := .later }
def BtreeFlatUptoCardSaid : Prop := Claim7.holds Tryz.pinned (.plain (OpenSpec.upto btreeFlatSpec)) btreeFlatUptoCard

/-- THE SECOND FORM's CARD OF 'croftlaw13.BtreeAgain'. -/
def btreeAgainUptoCard : Claim7 := { stood := { row := btreeAgainUptoRow, standIns := [], harness := (true, "28874e39ba8c8f9497e939afab2c54ff5b30085821baa06210cd2432478f5838"), looks := false }, kinds := [], alts := [], laidByText := true, laidKinds := [.data, .pinned], laidTests := true, laidLooks := .later }
def BtreeAgainUptoCardSaid : Prop := Claim7.holds Tryz.pinned (.plain (OpenSpec.upto btreeAgainSpec)) btreeAgainUptoCard

/-- THE SECOND FORM's CARD OF 'croftlaw13.BtreeBad'. -/
def btreeBadUptoCard : Claim7 := { stood := { row := btreeBadUptoRow, standIns := [], harness := (true, "28874e39ba8c8f9497e939afab2c54ff5b30085821baa06210cd2432478f5838"), looks := false }, kinds := [], alts := [], laidByText := true, laidKinds := [.data, .pinned], laidTests := true, laidLooks := .later }
def BtreeBadUptoCardSaid : Prop := Claim7.holds Tryz.pinned (.plain (OpenSpec.upto btreeBadSpec)) btreeBadUptoCard

/-- THE SECOND FORM's CARD OF 'croftlaw13.BtreeNil'. -/
def btreeNilUptoCard : Claim7 := { stood := { row := btreeNilUptoRow, standIns := [], harness := (true, "28874e39ba8c8f9497e939afab2c54ff5b30085821baa06210cd2432478f5838"), looks := false }, kinds := [], alts := [], laidByText := true, laidKinds := [.data, .pinned], laidTests := true, laidLooks := .later }
def BtreeNilUptoCardSaid : Prop := Claim7.holds Tryz.pinned (.plain (OpenSpec.upto btreeNilSpec)) btreeNilUptoCard
end Rows
end Go.Proofs.YtndhmidgnpobjaaGreatDoor
