/-
  No cell of these rows narrows 'for every input' (looked for: loops, veiled, ifaces, maps, wideKeys, modest, calm, conditions, laid).
  DERIVED. THE GIVEN ROWS OF THIS SEAT. 4 by the template 'for every input the law returns true; each argument reads behind the call as it read before'; 0 by the template 'total and deterministic' (their statements: YtmincpmkiheofaaTotals.lean).
  GIVEN WITH THE SEED: the statements are not yours to turn. If you find one false, say at which input.
  Laid BY PROGRAM, IN A SANDBOX (cutbox-rows.mjs): the forced cells as the released guide's own fill.sh prints them over the translation dc3d8295341d9f6e… (all of the seat's roots in one cut). By AI agents, Wed Nov 11 2026. No macro, syntax, notation, axiom, sorry.
-/
import Derived.Test.YtmincpmkiheofaaChecked
import GoSem.Claim
import GoSem.ClaimJoined
import GoSem.ClaimMapViews
import Derived.JoinedTies
import Derived.KernelRfl
namespace Go.Proofs.Ytmincpmkiheofaa
/- THE CELL 'sum', in the pinned program and in every row, IS THE sha256 OF THE DUMP (.gsa) THAT YtmincpmkiheofaaProg.lean LOADS. Nothing in Lean hashes anything: it is a label: what it is worth is what the hold of that sum in a sandbox is worth. -/
noncomputable def Try.pinned : Pinned := { name := "ytmincpmkiheofaa", sum := "dc3d8295341d9f6e12fb69d4a7db2b2ca1e6dc6fd2b3ff813ab0735f741caf4c", checked := Try.checked }
namespace Rows
def none {H : Type} : Left H := { results := [], args := [] }

/-- 'croftlaw09.RedoCrash': WHATEVER THE INPUT: true; the input reads as it did. -/
def redoCrashSpec : ChangeSpec := { name := "redoCrash", fn := fun _ => fun
  | [d1, d2, d3] => { results := [.lit (.bool true)], args := [d1, d2, d3] }
  | _ => none }
def redoCrashRow : OpenClaim := { program := "ytmincpmkiheofaa", sum := "dc3d8295341d9f6e12fb69d4a7db2b2ca1e6dc6fd2b3ff813ab0735f741caf4c", func := "croft/croftlaw09.RedoCrash", spec := "redoCrash", inPlace := ["internal/abi.NoEscape", "internal/bytealg.MakeNoZero"], unfollowed := true, recurses := true, apart := false }
def RedoCrashSaid : Prop := redoCrashRow.holds Try.pinned (OpenSpec.ofChange redoCrashSpec)

/-- ITS FALSE NEIGHBOUR: 'it returns false'. Refute it at one input. -/
def redoCrashWrong : ChangeSpec := { name := "redoCrash", fn := fun _ => fun
  | [d1, d2, d3] => { results := [.lit (.bool false)], args := [d1, d2, d3] }
  | _ => none }
def RedoCrashWrongFalsely : Prop := redoCrashRow.holds Try.pinned (OpenSpec.ofChange redoCrashWrong)

/-- 'croftlaw09.RedoPlays': WHATEVER THE INPUT: true; the input reads as it did. -/
def redoPlaysSpec : ChangeSpec := { name := "redoPlays", fn := fun _ => fun
  | [d1, d2] => { results := [.lit (.bool true)], args := [d1, d2] }
  | _ => none }
def redoPlaysRow : OpenClaim := { program := "ytmincpmkiheofaa", sum := "dc3d8295341d9f6e12fb69d4a7db2b2ca1e6dc6fd2b3ff813ab0735f741caf4c", func := "croft/croftlaw09.RedoPlays", spec := "redoPlays", inPlace := ["internal/abi.NoEscape", "internal/bytealg.MakeNoZero"], unfollowed := true, recurses := true, apart := false }
def RedoPlaysSaid : Prop := redoPlaysRow.holds Try.pinned (OpenSpec.ofChange redoPlaysSpec)

/-- ITS FALSE NEIGHBOUR: 'it returns false'. Refute it at one input. -/
def redoPlaysWrong : ChangeSpec := { name := "redoPlays", fn := fun _ => fun
  | [d1, d2] => { results := [.lit (.bool false)], args := [d1, d2] }
  | _ => none }
def RedoPlaysWrongFalsely : Prop := redoPlaysRow.holds Try.pinned (OpenSpec.ofChange redoPlaysWrong)

/-- 'croftlaw09.RedoOpens': WHATEVER THE INPUT: true; the input reads as it did. -/
def redoOpensSpec : ChangeSpec := { name := "redoOpens", fn := fun _ => fun
  | [d1, d2, d3, d4] => { results := [.lit (.bool true)], args := [d1, d2, d3, d4] }
  | _ => none }
def redoOpensRow : OpenClaim := { program := "ytmincpmkiheofaa", sum := "dc3d8295341d9f6e12fb69d4a7db2b2ca1e6dc6fd2b3ff813ab0735f741caf4c", func := "croft/croftlaw09.RedoOpens", spec := "redoOpens", inPlace := ["internal/abi.NoEscape", "internal/bytealg.MakeNoZero"], unfollowed := true, recurses := true, apart := false }
def RedoOpensSaid : Prop := redoOpensRow.holds Try.pinned (OpenSpec.ofChange redoOpensSpec)

/-- ITS FALSE NEIGHBOUR: 'it returns false'. Refute it at one input. -/
def redoOpensWrong : ChangeSpec := { name := "redoOpens", fn := fun _ => fun
  | [d1, d2, d3, d4] => { results := [.lit (.bool false)], args := [d1, d2, d3, d4] }
  | _ => none }
def RedoOpensWrongFalsely : Prop := redoOpensRow.holds Try.pinned (OpenSpec.ofChange redoOpensWrong)

/-- 'croftlaw09.RedoRefuses': WHATEVER THE INPUT: true; the input reads as it did. -/
def redoRefusesSpec : ChangeSpec := { name := "redoRefuses", fn := fun _ => fun
  | [d1, d2] => { results := [.lit (.bool true)], args := [d1, d2] }
  | _ => none }
def redoRefusesRow : OpenClaim := { program := "ytmincpmkiheofaa", sum := "dc3d8295341d9f6e12fb69d4a7db2b2ca1e6dc6fd2b3ff813ab0735f741caf4c", func := "croft/croftlaw09.RedoRefuses", spec := "redoRefuses", inPlace := ["internal/abi.NoEscape", "internal/bytealg.MakeNoZero"], unfollowed := true, recurses := true, apart := false }
def RedoRefusesSaid : Prop := redoRefusesRow.holds Try.pinned (OpenSpec.ofChange redoRefusesSpec)

/-- ITS FALSE NEIGHBOUR: 'it returns false'. Refute it at one input. -/
def redoRefusesWrong : ChangeSpec := { name := "redoRefuses", fn := fun _ => fun
  | [d1, d2] => { results := [.lit (.bool false)], args := [d1, d2] }
  | _ => none }
def RedoRefusesWrongFalsely : Prop := redoRefusesRow.holds Try.pinned (OpenSpec.ofChange redoRefusesWrong)

/- THE SECOND FORM. 'bulk': how many values and letters a reading holds, each counted each time it is reached (what is shared counts as often as it is met; a slice's spare places count too). A statement '..UptoSaid' is the law's where the arguments, and the package variables that the reading takes, are together of bulk at most 1048576: NARROWER than '..Said'. Prove '..Said' where nothing that the law and all that it calls make is longer than what came in: it says more and counts as full. Else prove '..UptoSaid'. A law counts once. -/
mutual
def uptoBulk {H : Type} : DataW H → Nat
  | .lit (.string bytes) => bytes.length + 1
  | .lit _ => 1
  | .nil => 1
  | .ptr d => uptoBulk d + 1
  | .slice elems spare => uptoBulkAll elems + uptoBulkAll spare + 1
  | .agg parts => uptoBulkAll parts + 1
  | .iface _ d => uptoBulk d + 1
  | .map entries => uptoBulkEntries entries + 1
  | .held _ => 1
def uptoBulkAll {H : Type} : List (DataW H) → Nat
  | [] => 0
  | d :: r => uptoBulk d + uptoBulkAll r
def uptoBulkEntries {H : Type} : List (Lit × DataW H) → Nat
  | [] => 0
  | x :: r => uptoBulkEntry x + uptoBulkEntries r
def uptoBulkEntry {H : Type} : Lit × DataW H → Nat
  | (.string bytes, d) => bytes.length + uptoBulk d + 1
  | (_, d) => uptoBulk d + 1
 end
def uptoSmall : (H : Type) → List (DataW H) → Bool := fun _ ds => decide (uptoBulkAll ds ≤ 1048576)
def OpenSpec.upto (s : _root_.Go.ChangeSpec) : _root_.Go.OpenSpec := { _root_.Go.OpenSpec.ofChange s with cond := some uptoSmall }

/-- 'croftlaw09.RedoCrash', WHERE WHAT IT READS IS OF BULK AT MOST 1048576: true; the input reads as it did. -/
def redoCrashUptoRow : OpenClaim := { program := "ytmincpmkiheofaa", sum := "dc3d8295341d9f6e12fb69d4a7db2b2ca1e6dc6fd2b3ff813ab0735f741caf4c", func := "croft/croftlaw09.RedoCrash", spec := "redoCrash", inPlace := ["internal/abi.NoEscape", "internal/bytealg.MakeNoZero"], unfollowed := true, recurses := true, apart := false, narrowed := true }
def RedoCrashUptoSaid : Prop := redoCrashUptoRow.holds Try.pinned (OpenSpec.upto redoCrashSpec)

/-- 'croftlaw09.RedoPlays', WHERE WHAT IT READS IS OF BULK AT MOST 1048576: true; the input reads as it did. -/
def redoPlaysUptoRow : OpenClaim := { program := "ytmincpmkiheofaa", sum := "dc3d8295341d9f6e12fb69d4a7db2b2ca1e6dc6fd2b3ff813ab0735f741caf4c", func := "croft/croftlaw09.RedoPlays", spec := "redoPlays", inPlace := ["internal/abi.NoEscape", "internal/bytealg.MakeNoZero"], unfollowed := true, recurses := true, apart := false, narrowed := true }
def RedoPlaysUptoSaid : Prop := redoPlaysUptoRow.holds Try.pinned (OpenSpec.upto redoPlaysSpec)

/-- 'croftlaw09.RedoOpens', WHERE WHAT IT READS IS OF BULK AT MOST 1048576: true; the input reads as it did. -/
def redoOpensUptoRow : OpenClaim := { program := "ytmincpmkiheofaa", sum := "dc3d8295341d9f6e12fb69d4a7db2b2ca1e6dc6fd2b3ff813ab0735f741caf4c", func := "croft/croftlaw09.RedoOpens", spec := "redoOpens", inPlace := ["internal/abi.NoEscape", "internal/bytealg.MakeNoZero"], unfollowed := true, recurses := true, apart := false, narrowed := true }
def RedoOpensUptoSaid : Prop := redoOpensUptoRow.holds Try.pinned (OpenSpec.upto redoOpensSpec)

/-- 'croftlaw09.RedoRefuses', WHERE WHAT IT READS IS OF BULK AT MOST 1048576: true; the input reads as it did. -/
def redoRefusesUptoRow : OpenClaim := { program := "ytmincpmkiheofaa", sum := "dc3d8295341d9f6e12fb69d4a7db2b2ca1e6dc6fd2b3ff813ab0735f741caf4c", func := "croft/croftlaw09.RedoRefuses", spec := "redoRefuses", inPlace := ["internal/abi.NoEscape", "internal/bytealg.MakeNoZero"], unfollowed := true, recurses := true, apart := false, narrowed := true }
def RedoRefusesUptoSaid : Prop := redoRefusesUptoRow.holds Try.pinned (OpenSpec.upto redoRefusesSpec)

end Rows
end Go.Proofs.Ytmincpmkiheofaa
