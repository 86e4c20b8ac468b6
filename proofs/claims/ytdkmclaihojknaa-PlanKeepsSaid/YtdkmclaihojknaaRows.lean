/-
  No cell of these rows narrows 'for every input' (looked for: loops, veiled, ifaces, maps, wideKeys, modest, calm, conditions, laid).
  DERIVED. THE GIVEN ROWS OF THIS SEAT. 8 by the template 'for every input the law returns true; each argument reads behind the call as it read before'; 0 by the template 'total and deterministic' (their statements: YtdkmclaihojknaaTotals.lean).
  GIVEN WITH THE SEED: the statements are not yours to turn. If you find one false, say at which input.
  Laid BY PROGRAM, IN A SANDBOX (cutbox-rows.mjs): the forced cells as the released guide's own fill.sh prints them over the translation 118194033c2bf638… (all of the seat's roots in one cut). By AI agents, Wed Nov 11 2026. No macro, syntax, notation, axiom, sorry.
-/
import Derived.Test.YtdkmclaihojknaaChecked
import GoSem.Claim
import GoSem.ClaimJoined
import GoSem.ClaimMapViews
import Derived.JoinedTies
import Derived.KernelRfl
namespace Go.Proofs.Ytdkmclaihojknaa
/- THE CELL 'sum', in the pinned program and in every row, IS THE sha256 OF THE DUMP (.gsa) THAT YtdkmclaihojknaaProg.lean LOADS. Nothing in Lean hashes anything: it is a label: what it is worth is what the hold of that sum in a sandbox is worth. -/
noncomputable def Try.pinned : Pinned := { name := "ytdkmclaihojknaa", sum := "118194033c2bf63869e9cf382a595acab43a49f82de95f455c75cfc8d540ec5f", checked := Try.checked }
namespace Rows
def none {H : Type} : Left H := { results := [], args := [] }

/-- 'croftlaw15.PlanKeeps': WHATEVER THE INPUT: true; the input reads as it did. -/
def planKeepsSpec : ChangeSpec := { name := "planKeeps", fn := fun _ => fun
  | [d1, d2, d3, d4] => { results := [.lit (.bool true)], args := [d1, d2, d3, d4] }
  | _ => none }
def planKeepsRow : OpenClaim := { program := "ytdkmclaihojknaa", sum := "118194033c2bf63869e9cf382a595acab43a49f82de95f455c75cfc8d540ec5f", func := "croft/croftlaw15.PlanKeeps", spec := "planKeeps", inPlace := ["math/bits.Sub64", "math/bits.Add64"], unfollowed := true, recurses := true, plainKeys := false, apart := false }
def PlanKeepsSaid : Prop := planKeepsRow.holds Try.pinned (OpenSpec.ofChange planKeepsSpec)

/-- ITS FALSE NEIGHBOUR: 'it returns false'. Refute it at one input. -/
def planKeepsWrong : ChangeSpec := { name := "planKeeps", fn := fun _ => fun
  | [d1, d2, d3, d4] => { results := [.lit (.bool false)], args := [d1, d2, d3, d4] }
  | _ => none }
def PlanKeepsWrongFalsely : Prop := planKeepsRow.holds Try.pinned (OpenSpec.ofChange planKeepsWrong)

/-- 'croftlaw15.PlanRights': WHATEVER THE INPUT: true; the input reads as it did. -/
def planRightsSpec : ChangeSpec := { name := "planRights", fn := fun _ => fun
  | [d] => { results := [.lit (.bool true)], args := [d] }
  | _ => none }
def planRightsRow : OpenClaim := { program := "ytdkmclaihojknaa", sum := "118194033c2bf63869e9cf382a595acab43a49f82de95f455c75cfc8d540ec5f", func := "croft/croftlaw15.PlanRights", spec := "planRights", inPlace := ["math/bits.Sub64", "math/bits.Add64"], unfollowed := true, recurses := true, plainKeys := false, apart := false }
def PlanRightsSaid : Prop := planRightsRow.holds Try.pinned (OpenSpec.ofChange planRightsSpec)

/-- ITS FALSE NEIGHBOUR: 'it returns false'. Refute it at one input. -/
def planRightsWrong : ChangeSpec := { name := "planRights", fn := fun _ => fun
  | [d] => { results := [.lit (.bool false)], args := [d] }
  | _ => none }
def PlanRightsWrongFalsely : Prop := planRightsRow.holds Try.pinned (OpenSpec.ofChange planRightsWrong)

/-- 'croftlaw15.PlanFinds': WHATEVER THE INPUT: true; the input reads as it did. -/
def planFindsSpec : ChangeSpec := { name := "planFinds", fn := fun _ => fun
  | [d1, d2] => { results := [.lit (.bool true)], args := [d1, d2] }
  | _ => none }
def planFindsRow : OpenClaim := { program := "ytdkmclaihojknaa", sum := "118194033c2bf63869e9cf382a595acab43a49f82de95f455c75cfc8d540ec5f", func := "croft/croftlaw15.PlanFinds", spec := "planFinds", inPlace := ["math/bits.Sub64", "math/bits.Add64"], unfollowed := true, recurses := true, plainKeys := false, apart := false }
def PlanFindsSaid : Prop := planFindsRow.holds Try.pinned (OpenSpec.ofChange planFindsSpec)

/-- ITS FALSE NEIGHBOUR: 'it returns false'. Refute it at one input. -/
def planFindsWrong : ChangeSpec := { name := "planFinds", fn := fun _ => fun
  | [d1, d2] => { results := [.lit (.bool false)], args := [d1, d2] }
  | _ => none }
def PlanFindsWrongFalsely : Prop := planFindsRow.holds Try.pinned (OpenSpec.ofChange planFindsWrong)

/-- 'croftlaw15.PlanAdds': WHATEVER THE INPUT: true; the input reads as it did. -/
def planAddsSpec : ChangeSpec := { name := "planAdds", fn := fun _ => fun
  | [d1, d2] => { results := [.lit (.bool true)], args := [d1, d2] }
  | _ => none }
def planAddsRow : OpenClaim := { program := "ytdkmclaihojknaa", sum := "118194033c2bf63869e9cf382a595acab43a49f82de95f455c75cfc8d540ec5f", func := "croft/croftlaw15.PlanAdds", spec := "planAdds", inPlace := ["math/bits.Sub64", "math/bits.Add64"], unfollowed := true, recurses := true, plainKeys := false, apart := false }
def PlanAddsSaid : Prop := planAddsRow.holds Try.pinned (OpenSpec.ofChange planAddsSpec)

/-- ITS FALSE NEIGHBOUR: 'it returns false'. Refute it at one input. -/
def planAddsWrong : ChangeSpec := { name := "planAdds", fn := fun _ => fun
  | [d1, d2] => { results := [.lit (.bool false)], args := [d1, d2] }
  | _ => none }
def PlanAddsWrongFalsely : Prop := planAddsRow.holds Try.pinned (OpenSpec.ofChange planAddsWrong)

/-- 'croftlaw15.PlanLinks': WHATEVER THE INPUT: true; the input reads as it did. -/
def planLinksSpec : ChangeSpec := { name := "planLinks", fn := fun _ => fun
  | [d1, d2, d3] => { results := [.lit (.bool true)], args := [d1, d2, d3] }
  | _ => none }
def planLinksRow : OpenClaim := { program := "ytdkmclaihojknaa", sum := "118194033c2bf63869e9cf382a595acab43a49f82de95f455c75cfc8d540ec5f", func := "croft/croftlaw15.PlanLinks", spec := "planLinks", inPlace := ["math/bits.Sub64", "math/bits.Add64"], unfollowed := true, recurses := true, plainKeys := false, apart := false }
def PlanLinksSaid : Prop := planLinksRow.holds Try.pinned (OpenSpec.ofChange planLinksSpec)

/-- ITS FALSE NEIGHBOUR: 'it returns false'. Refute it at one input. -/
def planLinksWrong : ChangeSpec := { name := "planLinks", fn := fun _ => fun
  | [d1, d2, d3] => { results := [.lit (.bool false)], args := [d1, d2, d3] }
  | _ => none }
def PlanLinksWrongFalsely : Prop := planLinksRow.holds Try.pinned (OpenSpec.ofChange planLinksWrong)

/-- 'croftlaw15.PlanSplits': WHATEVER THE INPUT: true; the input reads as it did. -/
def planSplitsSpec : ChangeSpec := { name := "planSplits", fn := fun _ => fun
  | [d1, d2, d3] => { results := [.lit (.bool true)], args := [d1, d2, d3] }
  | _ => none }
def planSplitsRow : OpenClaim := { program := "ytdkmclaihojknaa", sum := "118194033c2bf63869e9cf382a595acab43a49f82de95f455c75cfc8d540ec5f", func := "croft/croftlaw15.PlanSplits", spec := "planSplits", inPlace := ["math/bits.Sub64", "math/bits.Add64"], unfollowed := true, recurses := true, plainKeys := false, apart := false }
def PlanSplitsSaid : Prop := planSplitsRow.holds Try.pinned (OpenSpec.ofChange planSplitsSpec)

/-- ITS FALSE NEIGHBOUR: 'it returns false'. Refute it at one input. -/
def planSplitsWrong : ChangeSpec := { name := "planSplits", fn := fun _ => fun
  | [d1, d2, d3] => { results := [.lit (.bool false)], args := [d1, d2, d3] }
  | _ => none }
def PlanSplitsWrongFalsely : Prop := planSplitsRow.holds Try.pinned (OpenSpec.ofChange planSplitsWrong)

/-- 'croftlaw15.PlanDrops': WHATEVER THE INPUT: true; the input reads as it did. -/
def planDropsSpec : ChangeSpec := { name := "planDrops", fn := fun _ => fun
  | [d1, d2] => { results := [.lit (.bool true)], args := [d1, d2] }
  | _ => none }
def planDropsRow : OpenClaim := { program := "ytdkmclaihojknaa", sum := "118194033c2bf63869e9cf382a595acab43a49f82de95f455c75cfc8d540ec5f", func := "croft/croftlaw15.PlanDrops", spec := "planDrops", inPlace := ["math/bits.Sub64", "math/bits.Add64"], unfollowed := true, recurses := true, plainKeys := false, apart := false }
def PlanDropsSaid : Prop := planDropsRow.holds Try.pinned (OpenSpec.ofChange planDropsSpec)

/-- ITS FALSE NEIGHBOUR: 'it returns false'. Refute it at one input. -/
def planDropsWrong : ChangeSpec := { name := "planDrops", fn := fun _ => fun
  | [d1, d2] => { results := [.lit (.bool false)], args := [d1, d2] }
  | _ => none }
def PlanDropsWrongFalsely : Prop := planDropsRow.holds Try.pinned (OpenSpec.ofChange planDropsWrong)

/-- 'croftlaw15.PlanDegrees': WHATEVER THE INPUT: true; the input reads as it did. -/
def planDegreesSpec : ChangeSpec := { name := "planDegrees", fn := fun _ => fun
  | [d1, d2] => { results := [.lit (.bool true)], args := [d1, d2] }
  | _ => none }
def planDegreesRow : OpenClaim := { program := "ytdkmclaihojknaa", sum := "118194033c2bf63869e9cf382a595acab43a49f82de95f455c75cfc8d540ec5f", func := "croft/croftlaw15.PlanDegrees", spec := "planDegrees", inPlace := ["math/bits.Sub64", "math/bits.Add64"], unfollowed := true, recurses := true, plainKeys := false, apart := false }
def PlanDegreesSaid : Prop := planDegreesRow.holds Try.pinned (OpenSpec.ofChange planDegreesSpec)

/-- ITS FALSE NEIGHBOUR: 'it returns false'. Refute it at one input. -/
def planDegreesWrong : ChangeSpec := { name := "planDegrees", fn := fun _ => fun
  | [d1, d2] => { results := [.lit (.bool false)], args := [d1, d2] }
  | _ => none }
def PlanDegreesWrongFalsely : Prop := planDegreesRow.holds Try.pinned (OpenSpec.ofChange planDegreesWrong)

/- THE SECOND FORM. 'bulk': how many values and letters a reading holds, each counted each time it is reached (what is shared counts as often as it is met; a slice's spare places count too). A statement '..UptoSaid' is the law's where the arguments, and the package variables that the reading takes, are together of bulk at most 1048576: NARROWER than '..Said'. Prove '..Said' where nothing that the law and all that it calls make is longer than what came in: it says more and counts as full. Else prove '..UptoSaid'. A law counts once. -/
mutual
def uptoBulk {H : Type} : DataW H → Nat
  | .lit (.string bytes) => bytes.length + 1
  | .lit _ => 1
  | .nil => 1
  | .ptr d => uptoBulk d + 1
  | .slice elems spare => uptoBulkAll elems + uptoBulkAll spare + 1
  | .agg parts => uptoBulkAll parts + 1
  | .iface _ d => uptoBulk d + 1
  | .map entries => uptoBulkEntries entries + 1
  | .held _ => 1
def uptoBulkAll {H : Type} : List (DataW H) → Nat
  | [] => 0
  | d :: r => uptoBulk d + uptoBulkAll r
def uptoBulkEntries {H : Type} : List (Lit × DataW H) → Nat
  | [] => 0
  | x :: r => uptoBulkEntry x + uptoBulkEntries r
def uptoBulkEntry {H : Type} : Lit × DataW H → Nat
  | (.string bytes, d) => bytes.length + uptoBulk d + 1
  | (_, d) => uptoBulk d + 1
 end
def uptoSmall : (H : Type) → List (DataW H) → Bool := fun _ ds => decide (uptoBulkAll ds ≤ 1048576)
def OpenSpec.upto (s : _root_.Go.ChangeSpec) : _root_.Go.OpenSpec := { _root_.Go.OpenSpec.ofChange s with cond := some uptoSmall }

/-- 'croftlaw15.PlanKeeps', WHERE WHAT IT READS IS OF BULK AT MOST 1048576: true; the input reads as it did. -/
def planKeepsUptoRow : OpenClaim := { program := "ytdkmclaihojknaa", sum := "118194033c2bf63869e9cf382a595acab43a49f82de95f455c75cfc8d540ec5f", func := "croft/croftlaw15.PlanKeeps", spec := "planKeeps", inPlace := ["math/bits.Sub64", "math/bits.Add64"], unfollowed := true, recurses := true, plainKeys := false, apart := false, narrowed := true }
def PlanKeepsUptoSaid : Prop := planKeepsUptoRow.holds Try.pinned (OpenSpec.upto planKeepsSpec)

/-- 'croftlaw15.PlanRights', WHERE WHAT IT READS IS OF BULK AT MOST 1048576: true; the input reads as it did. -/
def planRightsUptoRow : OpenClaim := { program := "ytdkmclaihojknaa", sum := "118194033c2bf63869e9cf382a595acab43a49f82de95f455c75cfc8d540ec5f", func := "croft/croftlaw15.PlanRights", spec := "planRights", inPlace := ["math/bits.Sub64", "math/bits.Add64"], unfollowed := true, recurses := true, plainKeys := false, apart := false, narrowed := true }
def PlanRightsUptoSaid : Prop := planRightsUptoRow.holds Try.pinned (OpenSpec.upto planRightsSpec)

/-- 'croftlaw15.PlanFinds', WHERE WHAT IT READS IS OF BULK AT MOST 1048576: true; the input reads as it did. -/
def planFindsUptoRow : OpenClaim := { program := "ytdkmclaihojknaa", sum := "118194033c2bf63869e9cf382a595acab43a49f82de95f455c75cfc8d540ec5f", func := "croft/croftlaw15.PlanFinds", spec := "planFinds", inPlace := ["math/bits.Sub64", "math/bits.Add64"], unfollowed := true, recurses := true, plainKeys := false, apart := false, narrowed := true }
def PlanFindsUptoSaid : Prop := planFindsUptoRow.holds Try.pinned (OpenSpec.upto planFindsSpec)

/-- 'croftlaw15.PlanAdds', WHERE WHAT IT READS IS OF BULK AT MOST 1048576: true; the input reads as it did. -/
def planAddsUptoRow : OpenClaim := { program := "ytdkmclaihojknaa", sum := "118194033c2bf63869e9cf382a595acab43a49f82de95f455c75cfc8d540ec5f", func := "croft/croftlaw15.PlanAdds", spec := "planAdds", inPlace := ["math/bits.Sub64", "math/bits.Add64"], unfollowed := true, recurses := true, plainKeys := false, apart := false, narrowed := true }
def PlanAddsUptoSaid : Prop := planAddsUptoRow.holds Try.pinned (OpenSpec.upto planAddsSpec)

/-- 'croftlaw15.PlanLinks', WHERE WHAT IT READS IS OF BULK AT MOST 1048576: true; the input reads as it did. -/
def planLinksUptoRow : OpenClaim := { program := "ytdkmclaihojknaa", sum := "118194033c2bf63869e9cf382a595acab43a49f82de95f455c75cfc8d540ec5f", func := "croft/croftlaw15.PlanLinks", spec := "planLinks", inPlace := ["math/bits.Sub64", "math/bits.Add64"], unfollowed := true, recurses := true, plainKeys := false, apart := false, narrowed := true }
def PlanLinksUptoSaid : Prop := planLinksUptoRow.holds Try.pinned (OpenSpec.upto planLinksSpec)

/-- 'croftlaw15.PlanSplits', WHERE WHAT IT READS IS OF BULK AT MOST 1048576: true; the input reads as it did. -/
def planSplitsUptoRow : OpenClaim := { program := "ytdkmclaihojknaa", sum := "118194033c2bf63869e9cf382a595acab43a49f82de95f455c75cfc8d540ec5f", func := "croft/croftlaw15.PlanSplits", spec := "planSplits", inPlace := ["math/bits.Sub64", "math/bits.Add64"], unfollowed := true, recurses := true, plainKeys := false, apart := false, narrowed := true }
def PlanSplitsUptoSaid : Prop := planSplitsUptoRow.holds Try.pinned (OpenSpec.upto planSplitsSpec)

/-- 'croftlaw15.PlanDrops', WHERE WHAT IT READS IS OF BULK AT MOST 1048576: true; the input reads as it did. -/
def planDropsUptoRow : OpenClaim := { program := "ytdkmclaihojknaa", sum := "118194033c2bf63869e9cf382a595acab43a49f82de95f455c75cfc8d540ec5f", func := "croft/croftlaw15.PlanDrops", spec := "planDrops", inPlace := ["math/bits.Sub64", "math/bits.Add64"], unfollowed := true, recurses := true, plainKeys := false, apart := false, narrowed := true }
def PlanDropsUptoSaid : Prop := planDropsUptoRow.holds Try.pinned (OpenSpec.upto planDropsSpec)

/-- 'croftlaw15.PlanDegrees', WHERE WHAT IT READS IS OF BULK AT MOST 1048576: true; the input reads as it did. -/
def planDegreesUptoRow : OpenClaim := { program := "ytdkmclaihojknaa", sum := "118194033c2bf63869e9cf382a595acab43a49f82de95f455c75cfc8d540ec5f", func := "croft/croftlaw15.PlanDegrees", spec := "planDegrees", inPlace := ["math/bits.Sub64", "math/bits.Add64"], unfollowed := true, recurses := true, plainKeys := false, apart := false, narrowed := true }
def PlanDegreesUptoSaid : Prop := planDegreesUptoRow.holds Try.pinned (OpenSpec.upto planDegreesSpec)

end Rows
end Go.Proofs.Ytdkmclaihojknaa
