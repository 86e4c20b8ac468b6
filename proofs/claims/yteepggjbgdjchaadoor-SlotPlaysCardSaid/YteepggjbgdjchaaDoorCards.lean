/-
  DERIVED. GIVEN WITH THE SEED: THE CARDS: each row of YteepggjbgdjchaaDoorRows.lean that lists a variable, with what it lists TIED to the program's text (the seventh form; the later family's looks); each row that meets fmt, with fmt's text TOLD by the authors' own Lean function (tested against real Go, not proved from fmt's source: count such statements apart). THE CARD IS WHAT COUNTS. Prove the row's statement (the work); the ties are given (YteepggjbgdjchaaDoorTie.lean); close each card by the builder's one call (the guide's Derived/Test/ToyasCard.lean, 'card_holds'). Laid BY PROGRAM, IN A SANDBOX (cutbox-door.mjs). By AI agents, Wed Nov 11 2026. No macro, syntax, notation, axiom, sorry.
-/
import Derived.Test.YteepggjbgdjchaaDoorRows
import GoSem.ClaimSeven
namespace Go.Proofs.YteepggjbgdjchaaDoor
namespace Rows

/-- THE TIED CARD OF 'croftlaw12.SlotKeeps'. -/
def slotKeepsCard : Claim7 := { stood := { row := slotKeepsRow, standIns := [], harness := (true, "9eaec38af16a29111749254a14b513b99c2338bab31c6b9716e2014fd8d54f3d"), looks := false }, kinds := [], alts := [], laidByText := true, laidKinds := [.data, .pinned], laidTests := true, laidLooks := .later }
def SlotKeepsCardSaid : Prop := Claim7.holds Tryd.pinned (.plain (OpenSpec.ofChange slotKeepsSpec)) slotKeepsCard

/-- THE TIED CARD OF 'croftlaw12.SlotPlays'. -/
def slotPlaysCard : Claim7 := { stood := { row := slotPlaysRow, standIns := [], harness := (true, "9eaec38af16a29111749254a14b513b99c2338bab31c6b9716e2014fd8d54f3d"), looks := false }, kinds := [], alts := [], laidByText := true, laidKinds := [.data, .pinned], laidTests := true, laidLooks := .later }
def SlotPlaysCardSaid : Prop := Claim7.holds Tryd.pinned (.plain (OpenSpec.ofChange slotPlaysSpec)) slotPlaysCard

/-- THE TIED CARD OF 'croftlaw12.SlotReads'. -/
def slotReadsCard : Claim7 := { stood := { row := slotReadsRow, standIns := [], harness := (true, "9eaec38af16a29111749254a14b513b99c2338bab31c6b9716e2014fd8d54f3d"), looks := false }, kinds := [], alts := [], laidByText := true, laidKinds := [.data, .pinned], laidTests := true, laidLooks := .later }
def SlotReadsCardSaid : Prop := Claim7.holds Tryd.pinned (.plain (OpenSpec.ofChange slotReadsSpec)) slotReadsCard

/-- THE TIED CARD OF 'croftlaw12.SlotPacks'. -/
def slotPacksCard : Claim7 := { stood := { row := slotPacksRow, standIns := [], harness := (true, "9eaec38af16a29111749254a14b513b99c2338bab31c6b9716e2014fd8d54f3d"), looks := false }, kinds := [], alts := [], laidByText := true, laidKinds := [.data, .pinned], laidTests := true, laidLooks := .later }
def SlotPacksCardSaid : Prop := Claim7.holds Tryd.pinned (.plain (OpenSpec.ofChange slotPacksSpec)) slotPacksCard

/-- THE TIED CARD OF 'croftlaw12.SlotGets'. -/
def slotGetsCard : Claim7 := { stood := { row := slotGetsRow, standIns := [], harness := (true, "9eaec38af16a29111749254a14b513b99c2338bab31c6b9716e2014fd8d54f3d"), looks := false }, kinds := [], alts := [], laidByText := true, laidKinds := [.data, .pinned], laidTests := true, laidLooks := .later }
def SlotGetsCardSaid : Prop := Claim7.holds Tryd.pinned (.plain (OpenSpec.ofChange slotGetsSpec)) slotGetsCard

/-- THE TIED CARD OF 'croftlaw12.SlotLefts'. -/
def slotLeftsCard : Claim7 := { stood := { row := slotLeftsRow, standIns := [], harness := (true, "9eaec38af16a29111749254a14b513b99c2338bab31c6b9716e2014fd8d54f3d"), looks := false }, kinds := [], alts := [], laidByText := true, laidKinds := [.data, .pinned], laidTests := true, laidLooks := .later }
def SlotLeftsCardSaid : Prop := Claim7.holds Tryd.pinned (.plain (OpenSpec.ofChange slotLeftsSpec)) slotLeftsCard

/-- THE SECOND FORM's CARD OF 'croftlaw12.SlotKeeps'. -/
def slotKeepsUptoCard : Claim7 := { stood := { row := slotKeepsUptoRow, standIns := [], harness := (true, "9eaec38af16a29111749254a14b513b99c2338bab31c6b9716e2014fd8d54f3d"), looks := false }, kinds := [], alts := [], laidByText := true, laidKinds := [.data, .pinned], laidTests := true, laidLooks := .later }
def SlotKeepsUptoCardSaid : Prop := Claim7.holds Tryd.pinned (.plain (OpenSpec.upto slotKeepsSpec)) slotKeepsUptoCard

/-- THE SECOND FORM's CARD OF 'croftlaw12.SlotPlays'. -/
def slotPlaysUptoCard : Claim7 := { stood := { row := slotPlaysUptoRow, standIns := [], harness := (true, "9eaec38af16a29111749254a14b513b99c2338bab31c6b9716e2014fd8d54f3d"), looks := false }, kinds := [], alts := [], laidByText := true, laidKinds := [.data, .pinned], laidTests := true, laidLooks := .later }
def SlotPlaysUptoCardSaid : Prop := Claim7.holds Tryd.pinned (.plain (OpenSpec.upto slotPlaysSpec)) slotPlaysUptoCard

/-- THE SECOND FORM's CARD OF 'croftlaw12.SlotReads'. -/
def slotReadsUptoCard : Claim7 := { stood := { row := slotReadsUptoRow, standIns := [], harness := (true, "9eaec38af16a29111749254a14b513b99c2338bab31c6b9716e2014fd8d54f3d"), looks := false }, kinds := [], alts := [], laidByText := true, laidKinds := [.data, .pinned], laidTests := true, laidLooks := .later }
def SlotReadsUptoCardSaid : Prop := Claim7.holds Tryd.pinned (.plain (OpenSpec.upto slotReadsSpec)) slotReadsUptoCard

/-- THE SECOND FORM's CARD OF 'croftlaw12.SlotPacks'. -/
def slotPacksUptoCard : Claim7 := { stood := { row := slotPacksUptoRow, standIns := [], harness := (true, "9eaec38af16a29111749254a14b513b99c2338bab31c6b9716e2014fd8d54f3d"), looks := false }, kinds := [], alts := [], laidByText := true, laidKinds := [.data, .pinned], laidTests := true, laidLooks := .later }
def SlotPacksUptoCardSaid : Prop := Claim7.holds Tryd.pinned (.plain (OpenSpec.upto slotPacksSpec)) slotPacksUptoCard

/-- THE SECOND FORM's CARD OF 'croftlaw12.SlotGets'. -/
def slotGetsUptoCard : Claim7 := { stood := { row := slotGetsUptoRow, standIns := [], harness := (true, "9eaec38af16a29111749254a14b513b99c2338bab31c6b9716e2014fd8d54f3d"), looks := false }, kinds := [], alts := [], laidByText := true, laidKinds := [.data, .pinned], laidTests := true, laidLooks := .later }
def SlotGetsUptoCardSaid : Prop := Claim7.holds Tryd.pinned (.plain (OpenSpec.upto slotGetsSpec)) slotGetsUptoCard

/-- THE SECOND FORM's CARD OF 'croftlaw12.SlotLefts'. -/
def slotLeftsUptoCard : Claim7 := { stood := { row := slotLeftsUptoRow, standIns := [], harness := (true, "9eaec38af16a29111749254a14b513b99c2338bab31c6b9716e2014fd8d54f3d"), looks := false }, kinds := [], alts := [], laidByText := true, laidKinds := [.data, .pinned], laidTests := true, laidLooks := .later }
def SlotLeftsUptoCardSaid : Prop := Claim7.holds Tryd.pinned (.plain (OpenSpec.upto slotLeftsSpec)) slotLeftsUptoCard
end Rows
end Go.Proofs.YteepggjbgdjchaaDoor
