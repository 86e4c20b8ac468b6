/-
  No cell of these rows narrows 'for every input' (looked for: loops, veiled, ifaces, maps, wideKeys, modest, calm, conditions, laid).
  DERIVED. THE GIVEN ROWS OF THIS SEAT. 8 by the template 'for every input the law returns true; each argument reads behind the call as it read before'; 0 by the template 'total and deterministic' (their statements: YtlifghecgpibfaaTotals.lean).
  GIVEN WITH THE SEED: the statements are not yours to turn. If you find one false, say at which input.
  Laid BY PROGRAM, IN A SANDBOX (cutbox-rows.mjs): the forced cells as the released guide's own fill.sh prints them over the translation 914e427b67206040… (all of the seat's roots in one cut). By AI agents, Wed Nov 11 2026. No macro, syntax, notation, axiom, sorry.
-/
import Derived.Test.YtlifghecgpibfaaChecked
import GoSem.Claim
import GoSem.ClaimJoined
import GoSem.ClaimMapViews
import Derived.JoinedTies
import Derived.KernelRfl
namespace Go.Proofs.Ytlifghecgpibfaa
/- THE CELL 'sum', in the pinned program and in every row, IS THE sha256 OF THE DUMP (.gsa) THAT YtlifghecgpibfaaProg.lean LOADS. Nothing in Lean hashes anything: it is a label: what it is worth is what the hold of that sum in a sandbox is worth. -/
noncomputable def Try.pinned : Pinned := { name := "ytlifghecgpibfaa", sum := "914e427b67206040835ac8bccbd9d9f73e5254a1c3a0a4b3223018791e4ef315", checked := Try.checked }
namespace Rows
def none {H : Type} : Left H := { results := [], args := [] }

/-- 'croftlaw05.GeomMirrors': WHATEVER THE INPUT: true; the input reads as it did. -/
def geomMirrorsSpec : ChangeSpec := { name := "geomMirrors", fn := fun _ => fun
  | [d1, d2, d3, d4, d5] => { results := [.lit (.bool true)], args := [d1, d2, d3, d4, d5] }
  | _ => none }
def geomMirrorsRow : OpenClaim := { program := "ytlifghecgpibfaa", sum := "914e427b67206040835ac8bccbd9d9f73e5254a1c3a0a4b3223018791e4ef315", func := "croft/croftlaw05.GeomMirrors", spec := "geomMirrors", inPlace := ["math/bits.Sub64", "math/bits.Add64"], unfollowed := true, recurses := true, apart := false }
def GeomMirrorsSaid : Prop := geomMirrorsRow.holds Try.pinned (OpenSpec.ofChange geomMirrorsSpec)

/-- ITS FALSE NEIGHBOUR: 'it returns false'. Refute it at one input. -/
def geomMirrorsWrong : ChangeSpec := { name := "geomMirrors", fn := fun _ => fun
  | [d1, d2, d3, d4, d5] => { results := [.lit (.bool false)], args := [d1, d2, d3, d4, d5] }
  | _ => none }
def GeomMirrorsWrongFalsely : Prop := geomMirrorsRow.holds Try.pinned (OpenSpec.ofChange geomMirrorsWrong)

/-- 'croftlaw05.GeomRounds': WHATEVER THE INPUT: true; the input reads as it did. -/
def geomRoundsSpec : ChangeSpec := { name := "geomRounds", fn := fun _ => fun
  | [d1, d2, d3, d4] => { results := [.lit (.bool true)], args := [d1, d2, d3, d4] }
  | _ => none }
def geomRoundsRow : OpenClaim := { program := "ytlifghecgpibfaa", sum := "914e427b67206040835ac8bccbd9d9f73e5254a1c3a0a4b3223018791e4ef315", func := "croft/croftlaw05.GeomRounds", spec := "geomRounds", inPlace := ["math/bits.Sub64", "math/bits.Add64"], unfollowed := true, recurses := true, apart := false }
def GeomRoundsSaid : Prop := geomRoundsRow.holds Try.pinned (OpenSpec.ofChange geomRoundsSpec)

/-- ITS FALSE NEIGHBOUR: 'it returns false'. Refute it at one input. -/
def geomRoundsWrong : ChangeSpec := { name := "geomRounds", fn := fun _ => fun
  | [d1, d2, d3, d4] => { results := [.lit (.bool false)], args := [d1, d2, d3, d4] }
  | _ => none }
def GeomRoundsWrongFalsely : Prop := geomRoundsRow.holds Try.pinned (OpenSpec.ofChange geomRoundsWrong)

/-- 'croftlaw05.GeomEnds': WHATEVER THE INPUT: true; the input reads as it did. -/
def geomEndsSpec : ChangeSpec := { name := "geomEnds", fn := fun _ => fun
  | [d1, d2, d3] => { results := [.lit (.bool true)], args := [d1, d2, d3] }
  | _ => none }
def geomEndsRow : OpenClaim := { program := "ytlifghecgpibfaa", sum := "914e427b67206040835ac8bccbd9d9f73e5254a1c3a0a4b3223018791e4ef315", func := "croft/croftlaw05.GeomEnds", spec := "geomEnds", inPlace := ["math/bits.Sub64", "math/bits.Add64"], unfollowed := true, recurses := true, apart := false }
def GeomEndsSaid : Prop := geomEndsRow.holds Try.pinned (OpenSpec.ofChange geomEndsSpec)

/-- ITS FALSE NEIGHBOUR: 'it returns false'. Refute it at one input. -/
def geomEndsWrong : ChangeSpec := { name := "geomEnds", fn := fun _ => fun
  | [d1, d2, d3] => { results := [.lit (.bool false)], args := [d1, d2, d3] }
  | _ => none }
def GeomEndsWrongFalsely : Prop := geomEndsRow.holds Try.pinned (OpenSpec.ofChange geomEndsWrong)

/-- 'croftlaw05.GeomTurns': WHATEVER THE INPUT: true; the input reads as it did. -/
def geomTurnsSpec : ChangeSpec := { name := "geomTurns", fn := fun _ => fun
  | [d1, d2, d3] => { results := [.lit (.bool true)], args := [d1, d2, d3] }
  | _ => none }
def geomTurnsRow : OpenClaim := { program := "ytlifghecgpibfaa", sum := "914e427b67206040835ac8bccbd9d9f73e5254a1c3a0a4b3223018791e4ef315", func := "croft/croftlaw05.GeomTurns", spec := "geomTurns", inPlace := ["math/bits.Sub64", "math/bits.Add64"], unfollowed := true, recurses := true, apart := false }
def GeomTurnsSaid : Prop := geomTurnsRow.holds Try.pinned (OpenSpec.ofChange geomTurnsSpec)

/-- ITS FALSE NEIGHBOUR: 'it returns false'. Refute it at one input. -/
def geomTurnsWrong : ChangeSpec := { name := "geomTurns", fn := fun _ => fun
  | [d1, d2, d3] => { results := [.lit (.bool false)], args := [d1, d2, d3] }
  | _ => none }
def GeomTurnsWrongFalsely : Prop := geomTurnsRow.holds Try.pinned (OpenSpec.ofChange geomTurnsWrong)

/-- 'croftlaw05.GeomOn': WHATEVER THE INPUT: true; the input reads as it did. -/
def geomOnSpec : ChangeSpec := { name := "geomOn", fn := fun _ => fun
  | [d1, d2, d3] => { results := [.lit (.bool true)], args := [d1, d2, d3] }
  | _ => none }
def geomOnRow : OpenClaim := { program := "ytlifghecgpibfaa", sum := "914e427b67206040835ac8bccbd9d9f73e5254a1c3a0a4b3223018791e4ef315", func := "croft/croftlaw05.GeomOn", spec := "geomOn", inPlace := ["math/bits.Sub64", "math/bits.Add64"], unfollowed := true, recurses := true, apart := false }
def GeomOnSaid : Prop := geomOnRow.holds Try.pinned (OpenSpec.ofChange geomOnSpec)

/-- ITS FALSE NEIGHBOUR: 'it returns false'. Refute it at one input. -/
def geomOnWrong : ChangeSpec := { name := "geomOn", fn := fun _ => fun
  | [d1, d2, d3] => { results := [.lit (.bool false)], args := [d1, d2, d3] }
  | _ => none }
def GeomOnWrongFalsely : Prop := geomOnRow.holds Try.pinned (OpenSpec.ofChange geomOnWrong)

/-- 'croftlaw05.GeomMeets': WHATEVER THE INPUT: true; the input reads as it did. -/
def geomMeetsSpec : ChangeSpec := { name := "geomMeets", fn := fun _ => fun
  | [d1, d2, d3, d4] => { results := [.lit (.bool true)], args := [d1, d2, d3, d4] }
  | _ => none }
def geomMeetsRow : OpenClaim := { program := "ytlifghecgpibfaa", sum := "914e427b67206040835ac8bccbd9d9f73e5254a1c3a0a4b3223018791e4ef315", func := "croft/croftlaw05.GeomMeets", spec := "geomMeets", inPlace := ["math/bits.Sub64", "math/bits.Add64"], unfollowed := true, recurses := true, apart := false }
def GeomMeetsSaid : Prop := geomMeetsRow.holds Try.pinned (OpenSpec.ofChange geomMeetsSpec)

/-- ITS FALSE NEIGHBOUR: 'it returns false'. Refute it at one input. -/
def geomMeetsWrong : ChangeSpec := { name := "geomMeets", fn := fun _ => fun
  | [d1, d2, d3, d4] => { results := [.lit (.bool false)], args := [d1, d2, d3, d4] }
  | _ => none }
def GeomMeetsWrongFalsely : Prop := geomMeetsRow.holds Try.pinned (OpenSpec.ofChange geomMeetsWrong)

/-- 'croftlaw05.GeomAround': WHATEVER THE INPUT: true; the input reads as it did. -/
def geomAroundSpec : ChangeSpec := { name := "geomAround", fn := fun _ => fun
  | [d1, d2, d3] => { results := [.lit (.bool true)], args := [d1, d2, d3] }
  | _ => none }
def geomAroundRow : OpenClaim := { program := "ytlifghecgpibfaa", sum := "914e427b67206040835ac8bccbd9d9f73e5254a1c3a0a4b3223018791e4ef315", func := "croft/croftlaw05.GeomAround", spec := "geomAround", inPlace := ["math/bits.Sub64", "math/bits.Add64"], unfollowed := true, recurses := true, apart := false }
def GeomAroundSaid : Prop := geomAroundRow.holds Try.pinned (OpenSpec.ofChange geomAroundSpec)

/-- ITS FALSE NEIGHBOUR: 'it returns false'. Refute it at one input. -/
def geomAroundWrong : ChangeSpec := { name := "geomAround", fn := fun _ => fun
  | [d1, d2, d3] => { results := [.lit (.bool false)], args := [d1, d2, d3] }
  | _ => none }
def GeomAroundWrongFalsely : Prop := geomAroundRow.holds Try.pinned (OpenSpec.ofChange geomAroundWrong)

/-- 'croftlaw05.GeomRange': WHATEVER THE INPUT: true; the input reads as it did. -/
def geomRangeSpec : ChangeSpec := { name := "geomRange", fn := fun _ => fun
  | [d1, d2] => { results := [.lit (.bool true)], args := [d1, d2] }
  | _ => none }
def geomRangeRow : OpenClaim := { program := "ytlifghecgpibfaa", sum := "914e427b67206040835ac8bccbd9d9f73e5254a1c3a0a4b3223018791e4ef315", func := "croft/croftlaw05.GeomRange", spec := "geomRange", inPlace := ["math/bits.Sub64", "math/bits.Add64"], unfollowed := true, recurses := true, apart := false }
def GeomRangeSaid : Prop := geomRangeRow.holds Try.pinned (OpenSpec.ofChange geomRangeSpec)

/-- ITS FALSE NEIGHBOUR: 'it returns false'. Refute it at one input. -/
def geomRangeWrong : ChangeSpec := { name := "geomRange", fn := fun _ => fun
  | [d1, d2] => { results := [.lit (.bool false)], args := [d1, d2] }
  | _ => none }
def GeomRangeWrongFalsely : Prop := geomRangeRow.holds Try.pinned (OpenSpec.ofChange geomRangeWrong)

/- THE SECOND FORM. 'bulk': how many values and letters a reading holds, each counted each time it is reached (what is shared counts as often as it is met; a slice's spare places count too). A statement '..UptoSaid' is the law's where the arguments, and the package variables that the reading takes, are together of bulk at most 1048576: NARROWER than '..Said'. Prove '..Said' where nothing that the law and all that it calls make is longer than what came in: it says more and counts as full. Else prove '..UptoSaid'. A law counts once. -/
mutual
def uptoBulk {H : Type} : DataW H → Nat
  | .lit (.string bytes) => bytes.length + 1
  | .lit _ => 1
  | .nil => 1
  | .ptr d => uptoBulk d + 1
  | .slice elems spare => uptoBulkAll elems + uptoBulkAll spare + 1
  | .agg parts => uptoBulkAll parts + 1
  | .iface _ d => uptoBulk d + 1
  | .map entries => uptoBulkEntries entries + 1
  | .held _ => 1
def uptoBulkAll {H : Type} : List (DataW H) → Nat
  | [] => 0
  | d :: r => uptoBulk d + uptoBulkAll r
def uptoBulkEntries {H : Type} : List (Lit × DataW H) → Nat
  | [] => 0
  | x :: r => uptoBulkEntry x + uptoBulkEntries r
def uptoBulkEntry {H : Type} : Lit × DataW H → Nat
  | (.string bytes, d) => bytes.length + uptoBulk d + 1
  | (_, d) => uptoBulk d + 1
 end
def uptoSmall : (H : Type) → List (DataW H) → Bool := fun _ ds => decide (uptoBulkAll ds ≤ 1048576)
def OpenSpec.upto (s : _root_.Go.ChangeSpec) : _root_.Go.OpenSpec := { _root_.Go.OpenSpec.ofChange s with cond := some uptoSmall }

/-- 'croftlaw05.GeomMirrors', WHERE WHAT IT READS IS OF BULK AT MOST 1048576: true; the input reads as it did. -/
def geomMirrorsUptoRow : OpenClaim := { program := "ytlifghecgpibfaa", sum := "914e427b67206040835ac8bccbd9d9f73e5254a1c3a0a4b3223018791e4ef315", func := "croft/croftlaw05.GeomMirrors", spec := "geomMirrors", inPlace := ["math/bits.Sub64", "math/bits.Add64"], unfollowed := true, recurses := true, apart := false, narrowed := true }
def GeomMirrorsUptoSaid : Prop := geomMirrorsUptoRow.holds Try.pinned (OpenSpec.upto geomMirrorsSpec)

/-- 'croftlaw05.GeomRounds', WHERE WHAT IT READS IS OF BULK AT MOST 1048576: true; the input reads as it did. -/
def geomRoundsUptoRow : OpenClaim := { program := "ytlifghecgpibfaa", sum := "914e427b67206040835ac8bccbd9d9f73e5254a1c3a0a4b3223018791e4ef315", func := "croft/croftlaw05.GeomRounds", spec := "geomRounds", inPlace := ["math/bits.Sub64", "math/bits.Add64"], unfollowed := true, recurses := true, apart := false, narrowed := true }
def GeomRoundsUptoSaid : Prop := geomRoundsUptoRow.holds Try.pinned (OpenSpec.upto geomRoundsSpec)

/-- 'croftlaw05.GeomEnds', WHERE WHAT IT READS IS OF BULK AT MOST 1048576: true; the input reads as it did. -/
def geomEndsUptoRow : OpenClaim := { program := "ytlifghecgpibfaa", sum := "914e427b67206040835ac8bccbd9d9f73e5254a1c3a0a4b3223018791e4ef315", func := "croft/croftlaw05.GeomEnds", spec := "geomEnds", inPlace := ["math/bits.Sub64", "math/bits.Add64"], unfollowed := true, recurses := true, apart := false, narrowed := true }
def GeomEndsUptoSaid : Prop := geomEndsUptoRow.holds Try.pinned (OpenSpec.upto geomEndsSpec)

/-- 'croftlaw05.GeomTurns', WHERE WHAT IT READS IS OF BULK AT MOST 1048576: true; the input reads as it did. -/
def geomTurnsUptoRow : OpenClaim := { program := "ytlifghecgpibfaa", sum := "914e427b67206040835ac8bccbd9d9f73e5254a1c3a0a4b3223018791e4ef315", func := "croft/croftlaw05.GeomTurns", spec := "geomTurns", inPlace := ["math/bits.Sub64", "math/bits.Add64"], unfollowed := true, recurses := true, apart := false, narrowed := true }
def GeomTurnsUptoSaid : Prop := geomTurnsUptoRow.holds Try.pinned (OpenSpec.upto geomTurnsSpec)

/-- 'croftlaw05.GeomOn', WHERE WHAT IT READS IS OF BULK AT MOST 1048576: true; the input reads as it did. -/
def geomOnUptoRow : OpenClaim := { program := "ytlifghecgpibfaa", sum := "914e427b67206040835ac8bccbd9d9f73e5254a1c3a0a4b3223018791e4ef315", func := "croft/croftlaw05.GeomOn", spec := "geomOn", inPlace := ["math/bits.Sub64", "math/bits.Add64"], unfollowed := true, recurses := true, apart := false, narrowed := true }
def GeomOnUptoSaid : Prop := geomOnUptoRow.holds Try.pinned (OpenSpec.upto geomOnSpec)

/-- 'croftlaw05.GeomMeets', WHERE WHAT IT READS IS OF BULK AT MOST 1048576: true; the input reads as it did. -/
def geomMeetsUptoRow : OpenClaim := { program := "ytlifghecgpibfaa", sum := "914e427b67206040835ac8bccbd9d9f73e5254a1c3a0a4b3223018791e4ef315", func := "croft/croftlaw05.GeomMeets", spec := "geomMeets", inPlace := ["math/bits.Sub64", "math/bits.Add64"], unfollowed := true, recurses := true, apart := false, narrowed := true }
def GeomMeetsUptoSaid : Prop := geomMeetsUptoRow.holds Try.pinned (OpenSpec.upto geomMeetsSpec)

/-- 'croftlaw05.GeomAround', WHERE WHAT IT READS IS OF BULK AT MOST 1048576: true; the input reads as it did. -/
def geomAroundUptoRow : OpenClaim := { program := "ytlifghecgpibfaa", sum := "914e427b67206040835ac8bccbd9d9f73e5254a1c3a0a4b3223018791e4ef315", func := "croft/croftlaw05.GeomAround", spec := "geomAround", inPlace := ["math/bits.Sub64", "math/bits.Add64"], unfollowed := true, recurses := true, apart := false, narrowed := true }
def GeomAroundUptoSaid : Prop := geomAroundUptoRow.holds Try.pinned (OpenSpec.upto geomAroundSpec)

/-- 'croftlaw05.GeomRange', WHERE WHAT IT READS IS OF BULK AT MOST 1048576: true; the input reads as it did. -/
def geomRangeUptoRow : OpenClaim := { program := "ytlifghecgpibfaa", sum := "914e427b67206040835ac8bccbd9d9f73e5254a1c3a0a4b3223018791e4ef315", func := "croft/croftlaw05.GeomRange", spec := "geomRange", inPlace := ["math/bits.Sub64", "math/bits.Add64"], unfollowed := true, recurses := true, apart := false, narrowed := true }
def GeomRangeUptoSaid : Prop := geomRangeUptoRow.holds Try.pinned (OpenSpec.upto geomRangeSpec)

end Rows
end Go.Proofs.Ytlifghecgpibfaa
