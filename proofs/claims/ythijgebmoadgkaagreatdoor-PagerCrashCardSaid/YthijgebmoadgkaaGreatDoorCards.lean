/-
  DERIVED. GIVEN WITH THE SEED: THE CARDS: each row of YthijgebmoadgkaaGreatDoorRows.lean that lists a variable, with what it lists TIED to the program's text (the seventh form; the later family's looks); each row that meets fmt, with fmt's text TOLD by the authors' own Lean function (tested against real Go, not proved from fmt's source: count such statements apart). THE CARD IS WHAT COUNTS. Prove the row's statement (the work); the ties are given (YthijgebmoadgkaaGreatDoorTie.lean); close each card by the builder's one call (the guide's Derived/Test/ToyasCard.lean, 'card_holds'). Laid BY PROGRAM, IN A SANDBOX (cutbox-door.mjs). By AI agents, Wed Nov 11 2026. No macro, syntax, notation, axiom, sorry.
-/
import Derived.Test.YthijgebmoadgkaaGreatDoorRows
import GoSem.ClaimSeven
namespace Go.Proofs.YthijgebmoadgkaaGreatDoor
namespace Rows

/-- THE TIED CARD OF 'croftlaw11.PagerCrash'. -/
def pagerCrashCard : Claim7 := { stood := { row := pagerCrashRow, standIns := [], harness := (true, "673bd4e3efe16e8793697ca2fc5ec0090b00ce2e33ba935a1ec2bfd81fe99cb8"), looks := true }, kinds := [], alts := [], laidByText := true, laidKinds := [.data, .pinned], laidTests := true, laidLooks := .later }
def PagerCrashCardSaid : Prop := Claim7.holds Tryz.pinned (.plain (OpenSpec.ofChange pagerCrashSpec)) pagerCrashCard

/-- THE TIED CARD OF 'croftlaw13.BtreePlays'. -/
def btreePlaysCard : Claim7 := { stood := { row := btreePlaysRow, standIns := [], harness := (true, "673bd4e3efe16e8793697ca2fc5ec0090b00ce2e33ba935a1ec2bfd81fe99cb8"), looks := true }, kinds := [], alts := [], laidByText := true, laidKinds := [.data, .pinned], laidTests := true, laidLooks := .later }
def BtreePlaysCardSaid : Prop := Claim7.holds Tryz.pinned (.plain (OpenSpec.ofChange btreePlaysSpec)) btreePlaysCard

/-- THE TIED CARD OF 'croftlaw13.BtreeFlat'. -/
def btreeFlatCard : Claim7 := { stood := { row := btreeFlatRow, standIns := [], harness := (true, "673bd4e3efe16e8793697ca2fc5ec0090b00ce2e33ba935a1ec2bfd81fe99cb8"), looks := true }, kinds := [], alts := [], laidByText := true, laidKinds := [.data, .pinned], laidTests := true, laidLooks := .later }
def BtreeFlatCardSaid : Prop := Claim7.holds Tryz.pinned (.plain (OpenSpec.ofChange btreeFlatSpec)) btreeFlatCard

/-- THE TIED CARD OF 'croftlaw13.BtreeAgain'. -/
def btreeAgainCard : Claim7 := { stood := { row := btreeAgainRow, standIns := [], harness := (true, "673bd4e3efe16e8793697ca2fc5ec0090b00ce2e33ba935a1ec2bfd81fe99cb8"), looks := true }, kinds := [], alts := [], laidByText := true, laidKinds := [.data, .pinned], laidTests := true, laidLooks := .later }
def BtreeAgainCardSaid : Prop := Claim7.holds Tryz.pinned (.plain (OpenSpec.ofChange btreeAgainSpec)) btreeAgainCard

/-- THE TIED CARD OF 'croftlaw13.BtreeBad'. -/
def btreeBadCard : Claim7 := { stood := { row := btreeBadRow, standIns := [], harness := (true, "673bd4e3efe16e8793697ca2fc5ec0090b00ce2e33ba935a1ec2bfd81fe99cb8"), looks := true }, kinds := [], alts := [], laidByText := true, laidKinds := [.data, .pinned], laidTests := true, laidLooks := .later }
def BtreeBadCardSaid : Prop := Claim7.holds Tryz.pinned (.plain (OpenSpec.ofChange btreeBadSpec)) btreeBadCard

/-- THE TIED CARD OF 'croftlaw13.BtreeNil'. -/
def btreeNilCard : Claim7 := { stood := { row := btreeNilRow, standIns := [], harness := (true, "673bd4e3efe16e8793697ca2fc5ec0090b00ce2e33ba935a1ec2bfd81fe99cb8"), looks := true }, kinds := [], alts := [], laidByText := true, laidKinds := [.data, .pinned], laidTests := true, laidLooks := .later }
def BtreeNilCardSaid : Prop := Claim7.holds Tryz.pinned (.plain (OpenSpec.ofChange btreeNilSpec)) btreeNilCard

/-- THE TIED CARD OF 'croftlaw14.RecsPlays'. -/
def recsPlaysCard : Claim7 := { stood := { row := recsPlaysRow, standIns := [], harness := (true, "673bd4e3efe16e8793697ca2fc5ec0090b00ce2e33ba935a1ec2bfd81fe99cb8"), looks := true }, kinds := [], alts := [], laidByText := true, laidKinds := [.data, .pinned], laidTests := true, laidLooks := .later }
def RecsPlaysCardSaid : Prop := Claim7.holds Tryz.pinned (.plain (OpenSpec.ofChange recsPlaysSpec)) recsPlaysCard

/-- THE TIED CARD OF 'croftlaw14.RecsCrash'. -/
def recsCrashCard : Claim7 := { stood := { row := recsCrashRow, standIns := [], harness := (true, "673bd4e3efe16e8793697ca2fc5ec0090b00ce2e33ba935a1ec2bfd81fe99cb8"), looks := true }, kinds := [], alts := [], laidByText := true, laidKinds := [.data, .pinned], laidTests := true, laidLooks := .later }
def RecsCrashCardSaid : Prop := Claim7.holds Tryz.pinned (.plain (OpenSpec.ofChange recsCrashSpec)) recsCrashCard

/-- THE TIED CARD OF 'croftlaw14.RecsEmpty'. -/
def recsEmptyCard : Claim7 := { stood := { row := recsEmptyRow, standIns := [], harness := (true, "673bd4e3efe16e8793697ca2fc5ec0090b00ce2e33ba935a1ec2bfd81fe99cb8"), looks := true }, kinds := [], alts := [], laidByText := true, laidKinds := [.data, .pinned], laidTests := true, laidLooks := .later }
def RecsEmptyCardSaid : Prop := Claim7.holds Tryz.pinned (.plain (OpenSpec.ofChange recsEmptySpec)) recsEmptyCard

/-- THE TIED CARD OF 'croftlaw14.RecsBad'. -/
def recsBadCard : Claim7 := { stood := { row := recsBadRow, standIns := [], harness := (true, "673bd4e3efe16e8793697ca2fc5ec0090b00ce2e33ba935a1ec2bfd81fe99cb8"), looks := true }, kinds := [], alts := [], laidByText := true, laidKinds := [.data, .pinned], laidTests := true, laidLooks := .later }
def RecsBadCardSaid : Prop := Claim7.holds Tryz.pinned (.plain (OpenSpec.ofChange recsBadSpec)) recsBadCard

/-- THE TIED CARD OF 'croftlaw14.RecsNil'. -/
def recsNilCard : Claim7 := { stood := { row := recsNilRow, standIns := [], harness := (true, "673bd4e3efe16e8793697ca2fc5ec0090b00ce2e33ba935a1ec2bfd81fe99cb8"), looks := true }, kinds := [], alts := [], laidByText := true, laidKinds := [.data, .pinned], laidTests := true, laidLooks := .later }
def RecsNilCardSaid : Prop := Claim7.holds Tryz.pinned (.plain (OpenSpec.ofChange recsNilSpec)) recsNilCard

/-- THE SECOND FORM's CARD OF 'croftlaw11.PagerCrash'. -/
def pagerCrashUptoCard : Claim7 := { stood := { row := pagerCrashUptoRow, standIns := [], harness := (true, "673bd4e3efe16e8793697ca2fc5ec0090b00ce2e33ba935a1ec2bfd81fe99cb8"), looks := true }, kinds := [], alts := [], laidByText := true, laidKinds := [.data, .pinned], laidTests := true, laidLooks := .later }
def PagerCrashUptoCardSaid : Prop := Claim7.holds Tryz.pinned (.plain (OpenSpec.upto pagerCrashSpec)) pagerCrashUptoCard

/-- THE SECOND FORM's CARD OF 'croftlaw13.BtreePlays'. -/
def btreePlaysUptoCard : Claim7 := { stood := { row := btreePlaysUptoRow, standIns := [], harness := (true, "673bd4e3efe16e8793697ca2fc5ec0090b00ce2e33ba935a1ec2bfd81fe99cb8"), looks := true }, kinds := [], alts := [], laidByText := true, laidKinds := [.data, .pinned], laidTests := true, laidLooks := .later }
def BtreePlaysUptoCardSaid : Prop := Claim7.holds Tryz.pinned (.plain (OpenSpec.upto btreePlaysSpec)) btreePlaysUptoCard

/-- THE SECOND FORM's CARD OF 'croftlaw13.BtreeFlat'. -/
def btreeFlatUptoCard : Claim7 := { stood := { row := btreeFlatUptoRow, standIns := [], harness := (true, "673bd4e3efe16e8793697ca2fc5ec0090b00ce2e33ba935a1ec2bfd81fe99cb8"), looks := true }, kinds := [], alts := [], laidByText := true, laidKinds := [.data, .pinned], laidTests := true, laidLooks := .later }
def BtreeFlatUptoCardSaid : Prop := Claim7.holds Tryz.pinned (.plain (OpenSpec.upto btreeFlatSpec)) btreeFlatUptoCard

/-- THE SECOND FORM's CARD OF 'croftlaw13.BtreeAgain'. -/
def btreeAgainUptoCard : Claim7 := { stood := { row := btreeAgainUptoRow, standIns := [], harness := (true, "673bd4e3efe16e8793697ca2fc5ec0090b00ce2e33ba935a1ec2bfd81fe99cb8"), looks := true }, kinds := [], alts := [], laidByText := true, laidKinds := [.data, .pinned], laidTests := true, laidLooks := .later }
def BtreeAgainUptoCardSaid : Prop := Claim7.holds Tryz.pinned (.plain (OpenSpec.upto btreeAgainSpec)) btreeAgainUptoCard

/-- THE SECOND FORM's CARD OF 'croftlaw13.BtreeBad'. -/
def btreeBadUptoCard : Claim7 := { stood := { row := btreeBadUptoRow, standIns := [], harness := (true, "673bd4e3efe16e8793697ca2fc5ec0090b00ce2e33ba935a1ec2bfd81fe99cb8"), looks := true }, kinds := [], alts := [], laidByText := true, laidKinds := [.data, .pinned], laidTests := true, laidLooks := .later }
def BtreeBadUptoCardSaid : Prop := Claim7.holds Tryz.pinned (.plain (OpenSpec.upto btreeBadSpec)) btreeBadUptoCard

/-- THE SECOND FORM's CARD OF 'croftlaw13.BtreeNil'. -/
def btreeNilUptoCard : Claim7 := { stood := { row := btreeNilUptoRow, standIns := [], harness := (true, "673bd4e3efe16e8793697ca2fc5ec0090b00ce2e33ba935a1ec2bfd81fe99cb8"), looks := true }, kinds := [], alts := [], laidByText := true, laidKinds := [.data, .pinned], laidTests := true, laidLooks := .later }
def BtreeNilUptoCardSaid : Prop := Claim7.holds Tryz.pinned (.plain (OpenSpec.upto btreeNilSpec)) btreeNilUptoCard

/-- THE SECOND FORM's CARD OF 'croftlaw14.RecsPlays'. -/
def recsPlaysUptoCard : Claim7 := { stood := { row := recsPlaysUptoRow, standIns := [], harness := (true, "673bd4e3efe16e8793697ca2fc5ec0090b00ce2e33ba935a1ec2bfd81fe99cb8"), looks := true }, kinds := [], alts := [], laidByText := true, laidKinds := [.data, .pinned], laidTests := true, laidLooks := .later }
def RecsPlaysUptoCardSaid : Prop := Claim7.holds Tryz.pinned (.plain (OpenSpec.upto recsPlaysSpec)) recsPlaysUptoCard

/-- THE SECOND FORM's CARD OF 'croftlaw14.RecsCrash'. -/
def recsCrashUptoCard : Claim7 := { stood := { row := recsCrashUptoRow, standIns := [], harness := (true, "673bd4e3efe16e8793697ca2fc5ec0090b00ce2e33ba935a1ec2bfd81fe99cb8"), looks := true }, kinds := [], alts := [], laidByText := true, laidKinds := [.data, .pinned], laidTests := true, laidLooks := .later }
def RecsCrashUptoCardSaid : Prop := Claim7.holds Tryz.pinned (.plain (OpenSpec.upto recsCrashSpec)) recsCrashUptoCard

/-- THE SECOND FORM's CARD OF 'croftlaw14.RecsEmpty'. -/
def recsEmptyUptoCard : Claim7 := { stood := { row := recsEmptyUptoRow, standIns := [], harness := (true, "673bd4e3efe16e8793697ca2fc5ec0090b00ce2e33ba935a1ec2bfd81fe99cb8"), looks := true }, kinds := [], alts := [], laidByText := true, laidKinds := [.data, .pinned], laidTests := true, laidLooks := .later }
def RecsEmptyUptoCardSaid : Prop := Claim7.holds Tryz.pinned (.plain (OpenSpec.upto recsEmptySpec)) recsEmptyUptoCard

/-- THE SECOND FORM's CARD OF 'croftlaw14.RecsBad'. -/
def recsBadUptoCard : Claim7 := { stood := { row := recsBadUptoRow, standIns := [], harness := (true, "673bd4e3efe16e8793697ca2fc5ec0090b00ce2e33ba935a1ec2bfd81fe99cb8"), looks := true }, kinds := [], alts := [], laidByText := true, laidKinds := [.data, .pinned], laidTests := true, laidLooks := .later }
def RecsBadUptoCardSaid : Prop := Claim7.holds Tryz.pinned (.plain (OpenSpec.upto recsBadSpec)) recsBadUptoCard

/-- THE SECOND FORM's CARD OF 'croftlaw14.RecsNil'. -/
def recsNilUptoCard : Claim7 := { stood := { row := recsNilUptoRow, standIns := [], harness := (true, "673bd4e3efe16e8793697ca2fc5ec0090b00ce2e33ba935a1ec2bfd81fe99cb8"), looks := true }, kinds := [], alts := [], laidByText := true, laidKinds := [.data, .pinned], laidTests := true, laidLooks := .later }
def RecsNilUptoCardSaid : Prop := Claim7.holds Tryz.pinned (.plain (OpenSpec.upto recsNilSpec)) recsNilUptoCard
end Rows
end Go.Proofs.YthijgebmoadgkaaGreatDoor
