/-
  DERIVED. GIVEN WITH THE SEED: THE CARDS: each row of YtgfccjijbhoefaaGreatDoorRows.lean that lists a variable, with what it lists TIED to the program's text (the seventh form; the later family's looks); each row that meets fmt, with fmt's text TOLD by the authors' own Lean function (tested against real Go, not proved from fmt's source: count such statements apart). THE CARD IS WHAT COUNTS. Prove the row's statement (the work); the ties are given (YtgfccjijbhoefaaGreatDoorTie.lean); close each card by the builder's one call (the guide's Derived/Test/ToyasCard.lean, 'card_holds'). Laid BY PROGRAM, IN A SANDBOX (cutbox-door.mjs). By AI agents, Wed Nov 11 2026. No macro, syntax, notation, axiom, sorry.
-/
import Derived.Test.YtgfccjijbhoefaaGreatDoorRows
import GoSem.ClaimSeven
namespace Go.Proofs.YtgfccjijbhoefaaGreatDoor
namespace Rows

/-- THE TIED CARD OF 'croftlaw11.PagerCrash'. -/
def pagerCrashCard : Claim7 := { stood := { row := pagerCrashRow, standIns := [], harness := (true, "08d11d8e5219d0446b8e6d056b0c86cd1ca55044131476e0a14d1667fe677d17"), looks := false }, kinds := [], alts := [], laidByText := true, laidKinds := [.data, .pinned], laidTests := true, laidLooks := .later }
def PagerCrashCardSaid : Prop := Claim7.holds Tryz.pinned (.plain (OpenSpec.ofChange pagerCrashSpec)) pagerCrashCard

/-- THE TIED CARD OF 'croftlaw11.PagerPlays'. -/
def pagerPlaysCard : Claim7 := { stood := { row := pagerPlaysRow, standIns := [], harness := (true, "08d11d8e5219d0446b8e6d056b0c86cd1ca55044131476e0a14d1667fe677d17"), looks := false }, kinds := [], alts := [], laidByText := true, laidKinds := [.data, .pinned], laidTests := true, laidLooks := .later }
def PagerPlaysCardSaid : Prop := Claim7.holds Tryz.pinned (.plain (OpenSpec.ofChange pagerPlaysSpec)) pagerPlaysCard

/-- THE TIED CARD OF 'croftlaw11.PagerOpens'. -/
def pagerOpensCard : Claim7 := { stood := { row := pagerOpensRow, standIns := [], harness := (true, "08d11d8e5219d0446b8e6d056b0c86cd1ca55044131476e0a14d1667fe677d17"), looks := false }, kinds := [], alts := [], laidByText := true, laidKinds := [.data, .pinned], laidTests := true, laidLooks := .later }
def PagerOpensCardSaid : Prop := Claim7.holds Tryz.pinned (.plain (OpenSpec.ofChange pagerOpensSpec)) pagerOpensCard

/-- THE TIED CARD OF 'croftlaw11.PagerFormats'. -/
def pagerFormatsCard : Claim7 := { stood := { row := pagerFormatsRow, standIns := [], harness := (true, "08d11d8e5219d0446b8e6d056b0c86cd1ca55044131476e0a14d1667fe677d17"), looks := false }, kinds := [], alts := [], laidByText := true, laidKinds := [.data, .pinned], laidTests := true, laidLooks := .later }
def PagerFormatsCardSaid : Prop := Claim7.holds Tryz.pinned (.plain (OpenSpec.ofChange pagerFormatsSpec)) pagerFormatsCard

/-- THE TIED CARD OF 'croftlaw11.PagerNil'. -/
def pagerNilCard : Claim7 := { stood := { row := pagerNilRow, standIns := [], harness := (true, "08d11d8e5219d0446b8e6d056b0c86cd1ca55044131476e0a14d1667fe677d17"), looks := false }, kinds := [], alts := [], laidByText := true, laidKinds := [.data, .pinned], laidTests := true, laidLooks := .later }
def PagerNilCardSaid : Prop := Claim7.holds Tryz.pinned (.plain (OpenSpec.ofChange pagerNilSpec)) pagerNilCard

/-- THE SECOND FORM's CARD OF 'croftlaw11.PagerCrash'. -/
def pagerCrashUptoCard : Claim7 := { stood := { row := pagerCrashUptoRow, standIns := [], harness := (true, "08d11d8e5219d0446b8e6d056b0c86cd1ca55044131476e0a14d1667fe677d17"), looks := false }, kinds := [], alts := [], laidByText := true, laidKinds := [.data, .pinned], laidTests := true, laidLooks := .later }
def PagerCrashUptoCardSaid : Prop := Claim7.holds Tryz.pinned (.plain (OpenSpec.upto pagerCrashSpec)) pagerCrashUptoCard

/-- THE SECOND FORM's CARD OF 'croftlaw11.PagerPlays'. -/
def pagerPlaysUptoCard : Claim7 := { stood := { row := pagerPlaysUptoRow, standIns := [], harness := (true, "08d11d8e5219d0446b8e6d056b0c86cd1ca55044131476e0a14d1667fe677d17"), looks := false }, kinds := [], alts := [], laidByText := true, laidKinds := [.data, .pinned], laidTests := true, laidLooks := .later }
def PagerPlaysUptoCardSaid : Prop := Claim7.holds Tryz.pinned (.plain (OpenSpec.upto pagerPlaysSpec)) pagerPlaysUptoCard

/-- THE SECOND FORM's CARD OF 'croftlaw11.PagerOpens'. -/
def pagerOpensUptoCard : Claim7 := { stood := { row := pagerOpensUptoRow, standIns := [], harness := (true, "08d11d8e5219d0446b8e6d056b0c86cd1ca55044131476e0a14d1667fe677d17"), looks := false }, kinds := [], alts := [], laidByText := true, laidKinds := [.data, .pinned], laidTests := true, laidLooks := .later }
def PagerOpensUptoCardSaid : Prop := Claim7.holds Tryz.pinned (.plain (OpenSpec.upto pagerOpensSpec)) pagerOpensUptoCard

/-- THE SECOND FORM's CARD OF 'croftlaw11.PagerFormats'. -/
def pagerFormatsUptoCard : Claim7 := { stood := { row := pagerFormatsUptoRow, standIns := [], harness := (true, "08d11d8e5219d0446b8e6d056b0c86cd1ca55044131476e0a14d1667fe677d17"), looks := false }, kinds := [], alts := [], laidByText := true, laidKinds := [.data, .pinned], laidTests := true, laidLooks := .later }
def PagerFormatsUptoCardSaid : Prop := Claim7.holds Tryz.pinned (.plain (OpenSpec.upto pagerFormatsSpec)) pagerFormatsUptoCard

/-- THE SECOND FORM's CARD OF 'croftlaw11.PagerNil'. -/
def pagerNilUptoCard : Claim7 := { stood := { row := pagerNilUptoRow, standIns := [], harness := (true, "08d11d8e5219d0446b8e6d056b0c86cd1ca55044131476e0a14d1667fe677d17"), looks := false }, kinds := [], alts := [], laidByText := true, laidKinds := [.data, .pinned], laidTests := true, laidLooks := .later }
def PagerNilUptoCardSaid : Prop := Claim7.holds Tryz.pinned (.plain (OpenSpec.upto pagerNilSpec)) pagerNilUptoCard
end Rows
end Go.Proofs.YtgfccjijbhoefaaGreatDoor
