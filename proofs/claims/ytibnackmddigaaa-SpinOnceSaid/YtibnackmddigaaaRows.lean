/-
  No cell of these rows narrows 'for every input' (looked for: loops, veiled, ifaces, maps, wideKeys, modest, calm, conditions, laid).
  DERIVED. THE GIVEN ROWS OF THIS SEAT. 5 by the template 'for every input the law returns true; each argument reads behind the call as it read before'; 0 by the template 'total and deterministic' (their statements: YtibnackmddigaaaTotals.lean).
  GIVEN WITH THE SEED: the statements are not yours to turn. If you find one false, say at which input.
  Laid BY PROGRAM, IN A SANDBOX (cutbox-rows.mjs): the forced cells as the released guide's own fill.sh prints them over the translation df6be1d60c9f97f6… (all of the seat's roots in one cut). By AI agents, Wed Nov 11 2026. No macro, syntax, notation, axiom, sorry.
-/
import Derived.Test.YtibnackmddigaaaChecked
import GoSem.Claim
import GoSem.ClaimJoined
import GoSem.ClaimMapViews
import Derived.JoinedTies
import Derived.KernelRfl
namespace Go.Proofs.Ytibnackmddigaaa
/- THE CELL 'sum', in the pinned program and in every row, IS THE sha256 OF THE DUMP (.gsa) THAT YtibnackmddigaaaProg.lean LOADS. Nothing in Lean hashes anything: it is a label: what it is worth is what the hold of that sum in a sandbox is worth. -/
noncomputable def Try.pinned : Pinned := { name := "ytibnackmddigaaa", sum := "df6be1d60c9f97f6032ae970a9cdf1d202d32e95c7d202f42f3dcace7c0e6880", checked := Try.checked }
namespace Rows
def none {H : Type} : Left H := { results := [], args := [] }

/-- 'croftlaw16.SpinCounts': WHATEVER THE INPUT: true; the input reads as it did. -/
def spinCountsSpec : ChangeSpec := { name := "spinCounts", fn := fun _ => fun
  | [d] => { results := [.lit (.bool true)], args := [d] }
  | _ => none }
def spinCountsRow : OpenClaim := { program := "ytibnackmddigaaa", sum := "df6be1d60c9f97f6032ae970a9cdf1d202d32e95c7d202f42f3dcace7c0e6880", func := "croft/croftlaw16.SpinCounts", spec := "spinCounts", inPlace := ["math/bits.Sub64", "math/bits.Add64"], unfollowed := true, recurses := true, plainKeys := false, apart := false }
def SpinCountsSaid : Prop := spinCountsRow.holds Try.pinned (OpenSpec.ofChange spinCountsSpec)

/-- ITS FALSE NEIGHBOUR: 'it returns false'. Refute it at one input. -/
def spinCountsWrong : ChangeSpec := { name := "spinCounts", fn := fun _ => fun
  | [d] => { results := [.lit (.bool false)], args := [d] }
  | _ => none }
def SpinCountsWrongFalsely : Prop := spinCountsRow.holds Try.pinned (OpenSpec.ofChange spinCountsWrong)

/-- 'croftlaw16.SpinOnce': WHATEVER THE INPUT: true; the input reads as it did. -/
def spinOnceSpec : ChangeSpec := { name := "spinOnce", fn := fun _ => fun
  | [d] => { results := [.lit (.bool true)], args := [d] }
  | _ => none }
def spinOnceRow : OpenClaim := { program := "ytibnackmddigaaa", sum := "df6be1d60c9f97f6032ae970a9cdf1d202d32e95c7d202f42f3dcace7c0e6880", func := "croft/croftlaw16.SpinOnce", spec := "spinOnce", inPlace := ["math/bits.Sub64", "math/bits.Add64"], unfollowed := true, recurses := true, plainKeys := false, apart := false }
def SpinOnceSaid : Prop := spinOnceRow.holds Try.pinned (OpenSpec.ofChange spinOnceSpec)

/-- ITS FALSE NEIGHBOUR: 'it returns false'. Refute it at one input. -/
def spinOnceWrong : ChangeSpec := { name := "spinOnce", fn := fun _ => fun
  | [d] => { results := [.lit (.bool false)], args := [d] }
  | _ => none }
def SpinOnceWrongFalsely : Prop := spinOnceRow.holds Try.pinned (OpenSpec.ofChange spinOnceWrong)

/-- 'croftlaw16.SpinNext': WHATEVER THE INPUT: true; the input reads as it did. -/
def spinNextSpec : ChangeSpec := { name := "spinNext", fn := fun _ => fun
  | [d1, d2] => { results := [.lit (.bool true)], args := [d1, d2] }
  | _ => none }
def spinNextRow : OpenClaim := { program := "ytibnackmddigaaa", sum := "df6be1d60c9f97f6032ae970a9cdf1d202d32e95c7d202f42f3dcace7c0e6880", func := "croft/croftlaw16.SpinNext", spec := "spinNext", inPlace := ["math/bits.Sub64", "math/bits.Add64"], unfollowed := true, recurses := true, plainKeys := false, apart := false }
def SpinNextSaid : Prop := spinNextRow.holds Try.pinned (OpenSpec.ofChange spinNextSpec)

/-- ITS FALSE NEIGHBOUR: 'it returns false'. Refute it at one input. -/
def spinNextWrong : ChangeSpec := { name := "spinNext", fn := fun _ => fun
  | [d1, d2] => { results := [.lit (.bool false)], args := [d1, d2] }
  | _ => none }
def SpinNextWrongFalsely : Prop := spinNextRow.holds Try.pinned (OpenSpec.ofChange spinNextWrong)

/-- 'croftlaw16.SpinRings': WHATEVER THE INPUT: true; the input reads as it did. -/
def spinRingsSpec : ChangeSpec := { name := "spinRings", fn := fun _ => fun
  | [d] => { results := [.lit (.bool true)], args := [d] }
  | _ => none }
def spinRingsRow : OpenClaim := { program := "ytibnackmddigaaa", sum := "df6be1d60c9f97f6032ae970a9cdf1d202d32e95c7d202f42f3dcace7c0e6880", func := "croft/croftlaw16.SpinRings", spec := "spinRings", inPlace := ["math/bits.Sub64", "math/bits.Add64"], unfollowed := true, recurses := true, plainKeys := false, apart := false }
def SpinRingsSaid : Prop := spinRingsRow.holds Try.pinned (OpenSpec.ofChange spinRingsSpec)

/-- ITS FALSE NEIGHBOUR: 'it returns false'. Refute it at one input. -/
def spinRingsWrong : ChangeSpec := { name := "spinRings", fn := fun _ => fun
  | [d] => { results := [.lit (.bool false)], args := [d] }
  | _ => none }
def SpinRingsWrongFalsely : Prop := spinRingsRow.holds Try.pinned (OpenSpec.ofChange spinRingsWrong)

/-- 'croftlaw17.RealmOnce': WHATEVER THE INPUT: true; the input reads as it did. -/
def realmOnceSpec : ChangeSpec := { name := "realmOnce", fn := fun _ => fun
  | [d] => { results := [.lit (.bool true)], args := [d] }
  | _ => none }
def realmOnceRow : OpenClaim := { program := "ytibnackmddigaaa", sum := "df6be1d60c9f97f6032ae970a9cdf1d202d32e95c7d202f42f3dcace7c0e6880", func := "croft/croftlaw17.RealmOnce", spec := "realmOnce", inPlace := ["math/bits.Sub64", "math/bits.Add64"], unfollowed := true, recurses := true, plainKeys := false, apart := false }
def RealmOnceSaid : Prop := realmOnceRow.holds Try.pinned (OpenSpec.ofChange realmOnceSpec)

/-- ITS FALSE NEIGHBOUR: 'it returns false'. Refute it at one input. -/
def realmOnceWrong : ChangeSpec := { name := "realmOnce", fn := fun _ => fun
  | [d] => { results := [.lit (.bool false)], args := [d] }
  | _ => none }
def RealmOnceWrongFalsely : Prop := realmOnceRow.holds Try.pinned (OpenSpec.ofChange realmOnceWrong)

/- THE SECOND FORM. 'bulk': how many values and letters a reading holds, each counted each time it is reached (what is shared counts as often as it is met; a slice's spare places count too). A statement '..UptoSaid' is the law's where the arguments, and the package variables that the reading takes, are together of bulk at most 1048576: NARROWER than '..Said'. Prove '..Said' where nothing that the law and all that it calls make is longer than what came in: it says more and counts as full. Else prove '..UptoSaid'. A law counts once. -/
mutual
def uptoBulk {H : Type} : DataW H → Nat
  | .lit (.string bytes) => bytes.length + 1
  | .lit _ => 1
  | .nil => 1
  | .ptr d => uptoBulk d + 1
  | .slice elems spare => uptoBulkAll elems + uptoBulkAll spare + 1
  | .agg parts => uptoBulkAll parts + 1
  | .iface _ d => uptoBulk d + 1
  | .map entries => uptoBulkEntries entries + 1
  | .held _ => 1
def uptoBulkAll {H : Type} : List (DataW H) → Nat
  | [] => 0
  | d :: r => uptoBulk d + uptoBulkAll r
def uptoBulkEntries {H : Type} : List (Lit × DataW H) → Nat
  | [] => 0
  | x :: r => uptoBulkEntry x + uptoBulkEntries r
def uptoBulkEntry {H : Type} : Lit × DataW H → Nat
  | (.string bytes, d) => bytes.length + uptoBulk d + 1
  | (_, d) => uptoBulk d + 1
 end
def uptoSmall : (H : Type) → List (DataW H) → Bool := fun _ ds => decide (uptoBulkAll ds ≤ 1048576)
def OpenSpec.upto (s : _root_.Go.ChangeSpec) : _root_.Go.OpenSpec := { _root_.Go.OpenSpec.ofChange s with cond := some uptoSmall }

/-- 'croftlaw16.SpinCounts', WHERE WHAT IT READS IS OF BULK AT MOST 1048576: true; the input reads as it did. -/
def spinCountsUptoRow : OpenClaim := { program := "ytibnackmddigaaa", sum := "df6be1d60c9f97f6032ae970a9cdf1d202d32e95c7d202f42f3dcace7c0e6880", func := "croft/croftlaw16.SpinCounts", spec := "spinCounts", inPlace := ["math/bits.Sub64", "math/bits.Add64"], unfollowed := true, recurses := true, plainKeys := false, apart := false, narrowed := true }
def SpinCountsUptoSaid : Prop := spinCountsUptoRow.holds Try.pinned (OpenSpec.upto spinCountsSpec)

/-- 'croftlaw16.SpinOnce', WHERE WHAT IT READS IS OF BULK AT MOST 1048576: true; the input reads as it did. -/
def spinOnceUptoRow : OpenClaim := { program := "ytibnackmddigaaa", sum := "df6be1d60c9f97f6032ae970a9cdf1d202d32e95c7d202f42f3dcace7c0e6880", func := "croft/croftlaw16.SpinOnce", spec := "spinOnce", inPlace := ["math/bits.Sub64", "math/bits.Add64"], unfollowed := true, recurses := true, plainKeys := false, apart := false, narrowed := true }
def SpinOnceUptoSaid : Prop := spinOnceUptoRow.holds Try.pinned (OpenSpec.upto spinOnceSpec)

/-- 'croftlaw16.SpinNext', WHERE WHAT IT READS IS OF BULK AT MOST 1048576: true; the input reads as it did. -/
def spinNextUptoRow : OpenClaim := { program := "ytibnackmddigaaa", sum := "df6be1d60c9f97f6032ae970a9cdf1d202d32e95c7d202f42f3dcace7c0e6880", func := "croft/croftlaw16.SpinNext", spec := "spinNext", inPlace := ["math/bits.Sub64", "math/bits.Add64"], unfollowed := true, recurses := true, plainKeys := false, apart := false, narrowed := true }
def SpinNextUptoSaid : Prop := spinNextUptoRow.holds Try.pinned (OpenSpec.upto spinNextSpec)

/-- 'croftlaw16.SpinRings', WHERE WHAT IT READS IS OF BULK AT MOST 1048576: true; the input reads as it did. -/
def spinRingsUptoRow : OpenClaim := { program := "ytibnackmddigaaa", sum := "df6be1d60c9f97f6032ae970a9cdf1d202d32e95c7d202f42f3dcace7c0e6880", func := "croft/croftlaw16.SpinRings", spec := "spinRings", inPlace := ["math/bits.Sub64", "math/bits.Add64"], unfollowed := true, recurses := true, plainKeys := false, apart := false, narrowed := true }
def SpinRingsUptoSaid : Prop := spinRingsUptoRow.holds Try.pinned (OpenSpec.upto spinRingsSpec)

/-- 'croftlaw17.RealmOnce', WHERE WHAT IT READS IS OF BULK AT MOST 1048576: true; the input reads as it did. -/
def realmOnceUptoRow : OpenClaim := { program := "ytibnackmddigaaa", sum := "df6be1d60c9f97f6032ae970a9cdf1d202d32e95c7d202f42f3dcace7c0e6880", func := "croft/croftlaw17.RealmOnce", spec := "realmOnce", inPlace := ["math/bits.Sub64", "math/bits.Add64"], unfollowed := true, recurses := true, plainKeys := false, apart := false, narrowed := true }
def RealmOnceUptoSaid : Prop := realmOnceUptoRow.holds Try.pinned (OpenSpec.upto realmOnceSpec)

end Rows
end Go.Proofs.Ytibnackmddigaaa
