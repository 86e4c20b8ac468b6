/-
  No cell of these rows narrows 'for every input' (looked for: loops, veiled, ifaces, maps, wideKeys, modest, calm, conditions, laid).
  DERIVED. THE GIVEN ROWS OF THIS SEAT. 4 by the template 'for every input the law returns true; each argument reads behind the call as it read before'; 0 by the template 'total and deterministic' (their statements: YtidkdmdfbmjpnaaTotals.lean).
  GIVEN WITH THE SEED: the statements are not yours to turn. If you find one false, say at which input.
  Laid BY PROGRAM, IN A SANDBOX (cutbox-rows.mjs): the forced cells as the released guide's own fill.sh prints them over the translation ead1185855f0ba7d… (all of the seat's roots in one cut). By AI agents, Wed Nov 11 2026. No macro, syntax, notation, axiom, sorry.
-/
import Derived.Test.YtidkdmdfbmjpnaaChecked
import GoSem.Claim
import GoSem.ClaimJoined
import GoSem.ClaimMapViews
import Derived.JoinedTies
import Derived.KernelRfl
namespace Go.Proofs.Ytidkdmdfbmjpnaa
/- THE CELL 'sum', in the pinned program and in every row, IS THE sha256 OF THE DUMP (.gsa) THAT YtidkdmdfbmjpnaaProg.lean LOADS. Nothing in Lean hashes anything: it is a label: what it is worth is what the hold of that sum in a sandbox is worth. -/
noncomputable def Try.pinned : Pinned := { name := "ytidkdmdfbmjpnaa", sum := "ead1185855f0ba7d9c8c65d6cff192a52f919c6db9d5806aed8126f7d7ef1a84", checked := Try.checked }
namespace Rows
def none {H : Type} : Left H := { results := [], args := [] }

/-- 'croftlaw07.MarkTorn': WHATEVER THE INPUT: true; the input reads as it did. -/
def markTornSpec : ChangeSpec := { name := "markTorn", fn := fun _ => fun
  | [d1, d2, d3, d4, d5] => { results := [.lit (.bool true)], args := [d1, d2, d3, d4, d5] }
  | _ => none }
def markTornRow : OpenClaim := { program := "ytidkdmdfbmjpnaa", sum := "ead1185855f0ba7d9c8c65d6cff192a52f919c6db9d5806aed8126f7d7ef1a84", func := "croft/croftlaw07.MarkTorn", spec := "markTorn", inPlace := ["internal/abi.NoEscape", "internal/bytealg.MakeNoZero"], apart := false }
def MarkTornSaid : Prop := markTornRow.holds Try.pinned (OpenSpec.ofChange markTornSpec)

/-- ITS FALSE NEIGHBOUR: 'it returns false'. Refute it at one input. -/
def markTornWrong : ChangeSpec := { name := "markTorn", fn := fun _ => fun
  | [d1, d2, d3, d4, d5] => { results := [.lit (.bool false)], args := [d1, d2, d3, d4, d5] }
  | _ => none }
def MarkTornWrongFalsely : Prop := markTornRow.holds Try.pinned (OpenSpec.ofChange markTornWrong)

/-- 'croftlaw07.MarkBack': WHATEVER THE INPUT: true; the input reads as it did. -/
def markBackSpec : ChangeSpec := { name := "markBack", fn := fun _ => fun
  | [d1, d2] => { results := [.lit (.bool true)], args := [d1, d2] }
  | _ => none }
def markBackRow : OpenClaim := { program := "ytidkdmdfbmjpnaa", sum := "ead1185855f0ba7d9c8c65d6cff192a52f919c6db9d5806aed8126f7d7ef1a84", func := "croft/croftlaw07.MarkBack", spec := "markBack", inPlace := ["internal/abi.NoEscape", "internal/bytealg.MakeNoZero"], apart := false }
def MarkBackSaid : Prop := markBackRow.holds Try.pinned (OpenSpec.ofChange markBackSpec)

/-- ITS FALSE NEIGHBOUR: 'it returns false'. Refute it at one input. -/
def markBackWrong : ChangeSpec := { name := "markBack", fn := fun _ => fun
  | [d1, d2] => { results := [.lit (.bool false)], args := [d1, d2] }
  | _ => none }
def MarkBackWrongFalsely : Prop := markBackRow.holds Try.pinned (OpenSpec.ofChange markBackWrong)

/-- 'croftlaw07.MarkGets': WHATEVER THE INPUT: true; the input reads as it did. -/
def markGetsSpec : ChangeSpec := { name := "markGets", fn := fun _ => fun
  | [d] => { results := [.lit (.bool true)], args := [d] }
  | _ => none }
def markGetsRow : OpenClaim := { program := "ytidkdmdfbmjpnaa", sum := "ead1185855f0ba7d9c8c65d6cff192a52f919c6db9d5806aed8126f7d7ef1a84", func := "croft/croftlaw07.MarkGets", spec := "markGets", inPlace := ["internal/abi.NoEscape", "internal/bytealg.MakeNoZero"], apart := false }
def MarkGetsSaid : Prop := markGetsRow.holds Try.pinned (OpenSpec.ofChange markGetsSpec)

/-- ITS FALSE NEIGHBOUR: 'it returns false'. Refute it at one input. -/
def markGetsWrong : ChangeSpec := { name := "markGets", fn := fun _ => fun
  | [d] => { results := [.lit (.bool false)], args := [d] }
  | _ => none }
def MarkGetsWrongFalsely : Prop := markGetsRow.holds Try.pinned (OpenSpec.ofChange markGetsWrong)

/-- 'croftlaw07.MarkBest': WHATEVER THE INPUT: true; the input reads as it did. -/
def markBestSpec : ChangeSpec := { name := "markBest", fn := fun _ => fun
  | [d1, d2] => { results := [.lit (.bool true)], args := [d1, d2] }
  | _ => none }
def markBestRow : OpenClaim := { program := "ytidkdmdfbmjpnaa", sum := "ead1185855f0ba7d9c8c65d6cff192a52f919c6db9d5806aed8126f7d7ef1a84", func := "croft/croftlaw07.MarkBest", spec := "markBest", inPlace := ["internal/abi.NoEscape", "internal/bytealg.MakeNoZero"], apart := false }
def MarkBestSaid : Prop := markBestRow.holds Try.pinned (OpenSpec.ofChange markBestSpec)

/-- ITS FALSE NEIGHBOUR: 'it returns false'. Refute it at one input. -/
def markBestWrong : ChangeSpec := { name := "markBest", fn := fun _ => fun
  | [d1, d2] => { results := [.lit (.bool false)], args := [d1, d2] }
  | _ => none }
def MarkBestWrongFalsely : Prop := markBestRow.holds Try.pinned (OpenSpec.ofChange markBestWrong)

/- THE SECOND FORM. 'bulk': how many values and letters a reading holds, each counted each time it is reached (what is shared counts as often as it is met; a slice's spare places count too). A statement '..UptoSaid' is the law's where the arguments, and the package variables that the reading takes, are together of bulk at most 1048576: NARROWER than '..Said'. Prove '..Said' where nothing that the law and all that it calls make is longer than what came in: it says more and counts as full. Else prove '..UptoSaid'. A law counts once. -/
mutual
def uptoBulk {H : Type} : DataW H → Nat
  | .lit (.string bytes) => bytes.length + 1
  | .lit _ => 1
  | .nil => 1
  | .ptr d => uptoBulk d + 1
  | .slice elems spare => uptoBulkAll elems + uptoBulkAll spare + 1
  | .agg parts => uptoBulkAll parts + 1
  | .iface _ d => uptoBulk d + 1
  | .map entries => uptoBulkEntries entries + 1
  | .held _ => 1
def uptoBulkAll {H : Type} : List (DataW H) → Nat
  | [] => 0
  | d :: r => uptoBulk d + uptoBulkAll r
def uptoBulkEntries {H : Type} : List (Lit × DataW H) → Nat
  | [] => 0
  | x :: r => uptoBulkEntry x + uptoBulkEntries r
def uptoBulkEntry {H : Type} : Lit × DataW H → Nat
  | (.string bytes, d) => bytes.length + uptoBulk d + 1
  | (_, d) => uptoBulk d + 1
 end
def uptoSmall : (H : Type) → List (DataW H) → Bool := fun _ ds => decide (uptoBulkAll ds ≤ 1048576)
def OpenSpec.upto (s : _root_.Go.ChangeSpec) : _root_.Go.OpenSpec := { _root_.Go.OpenSpec.ofChange s with cond := some uptoSmall }

/-- 'croftlaw07.MarkTorn', WHERE WHAT IT READS IS OF BULK AT MOST 1048576: true; the input reads as it did. -/
def markTornUptoRow : OpenClaim := { program := "ytidkdmdfbmjpnaa", sum := "ead1185855f0ba7d9c8c65d6cff192a52f919c6db9d5806aed8126f7d7ef1a84", func := "croft/croftlaw07.MarkTorn", spec := "markTorn", inPlace := ["internal/abi.NoEscape", "internal/bytealg.MakeNoZero"], apart := false, narrowed := true }
def MarkTornUptoSaid : Prop := markTornUptoRow.holds Try.pinned (OpenSpec.upto markTornSpec)

/-- 'croftlaw07.MarkBack', WHERE WHAT IT READS IS OF BULK AT MOST 1048576: true; the input reads as it did. -/
def markBackUptoRow : OpenClaim := { program := "ytidkdmdfbmjpnaa", sum := "ead1185855f0ba7d9c8c65d6cff192a52f919c6db9d5806aed8126f7d7ef1a84", func := "croft/croftlaw07.MarkBack", spec := "markBack", inPlace := ["internal/abi.NoEscape", "internal/bytealg.MakeNoZero"], apart := false, narrowed := true }
def MarkBackUptoSaid : Prop := markBackUptoRow.holds Try.pinned (OpenSpec.upto markBackSpec)

/-- 'croftlaw07.MarkGets', WHERE WHAT IT READS IS OF BULK AT MOST 1048576: true; the input reads as it did. -/
def markGetsUptoRow : OpenClaim := { program := "ytidkdmdfbmjpnaa", sum := "ead1185855f0ba7d9c8c65d6cff192a52f919c6db9d5806aed8126f7d7ef1a84", func := "croft/croftlaw07.MarkGets", spec := "markGets", inPlace := ["internal/abi.NoEscape", "internal/bytealg.MakeNoZero"], apart := false, narrowed := true }
def MarkGetsUptoSaid : Prop := markGetsUptoRow.holds Try.pinned (OpenSpec.upto markGetsSpec)

/-- 'croftlaw07.MarkBest', WHERE WHAT IT READS IS OF BULK AT MOST 1048576: true; the input reads as it did. -/
def markBestUptoRow : OpenClaim := { program := "ytidkdmdfbmjpnaa", sum := "ead1185855f0ba7d9c8c65d6cff192a52f919c6db9d5806aed8126f7d7ef1a84", func := "croft/croftlaw07.MarkBest", spec := "markBest", inPlace := ["internal/abi.NoEscape", "internal/bytealg.MakeNoZero"], apart := false, narrowed := true }
def MarkBestUptoSaid : Prop := markBestUptoRow.holds Try.pinned (OpenSpec.upto markBestSpec)

end Rows
end Go.Proofs.Ytidkdmdfbmjpnaa
