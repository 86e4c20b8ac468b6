/-
  NARROWER THAN 'FOR EVERY INPUT', by the rows' own cells (each row's printed sentence says how): PagerCrash: laid · BtreePlays: laid · BtreeFlat: laid · BtreeAgain: laid · BtreeBad: laid · BtreeNil: laid · RecsPlays: laid · RecsCrash: laid · RecsEmpty: laid · RecsBad: laid · RecsNil: laid.
  DERIVED. THE GIVEN ROWS OF THIS SEAT. 11 by the template 'for every input the law returns true; each argument reads behind the call as it read before'; 0 by the template 'total and deterministic' (their statements: YthijgebmoadgkaaGreatDoorTotals.lean).
  GIVEN WITH THE SEED: the statements are not yours to turn. If you find one false, say at which input.
  Laid BY PROGRAM, IN A SANDBOX (cutbox-rows.mjs): the forced cells as the released guide's own fill.sh prints them over the translation 1f3068c0aafff062… (all of the seat's roots in one cut). By AI agents, Wed Nov 11 2026. No macro, syntax, notation, axiom, sorry.
-/
import Derived.Test.YthijgebmoadgkaaGreatDoorChecked
import GoSem.PinnedTables
import GoSem.Claim
import GoSem.ClaimJoined
import GoSem.ClaimMapViews
import Derived.JoinedTies
import Derived.KernelRfl
namespace Go.Proofs.YthijgebmoadgkaaGreatDoor
/- THE CELL 'sum', in the pinned program and in every row, IS THE sha256 OF THE DUMP (.gsa) THAT YthijgebmoadgkaaGreatDoorProg.lean LOADS. Nothing in Lean hashes anything: it is a label: what it is worth is what the hold of that sum in a sandbox is worth. -/
noncomputable def Tryz.pinned : Pinned := { name := "ythijgebmoadgkaagreatdoor", sum := "1f3068c0aafff062b9c5087454dbf122c3b99d82f1a1d031ef64dd768c801f7b", checked := Tryz.checked }
namespace Rows
def none {H : Type} : Left H := { results := [], args := [] }

/- WHAT THE LISTED PACKAGE-LEVEL VARIABLES READ AS WHEN THE CALL BEGINS. Each datum BY PROGRAM (the guide's laid-datum.mjs) off the statement by which the dump's own 'gosem.cut.vars' lays the variable. In a bare row this is a premise. The card (YthijgebmoadgkaaGreatDoorCards.lean) ties it to the program's text. -/
def laid_unicode_utf8_acceptRanges {H : Type} : DataW H := .agg [.agg [.lit (.int .u8 128), .lit (.int .u8 191)], .agg [.lit (.int .u8 160), .lit (.int .u8 191)], .agg [.lit (.int .u8 128), .lit (.int .u8 159)], .agg [.lit (.int .u8 144), .lit (.int .u8 191)], .agg [.lit (.int .u8 128), .lit (.int .u8 143)], .agg [.lit (.int .u8 0), .lit (.int .u8 0)], .agg [.lit (.int .u8 0), .lit (.int .u8 0)], .agg [.lit (.int .u8 0), .lit (.int .u8 0)], .agg [.lit (.int .u8 0), .lit (.int .u8 0)], .agg [.lit (.int .u8 0), .lit (.int .u8 0)], .agg [.lit (.int .u8 0), .lit (.int .u8 0)], .agg [.lit (.int .u8 0), .lit (.int .u8 0)], .agg [.lit (.int .u8 0), .lit (.int .u8 0)], .agg [.lit (.int .u8 0), .lit (.int .u8 0)], .agg [.lit (.int .u8 0), .lit (.int .u8 0)], .agg [.lit (.int .u8 0), .lit (.int .u8 0)]]
/-- One of Go's own tables, pinned by name: the form's constant. -/
def laid_unicode_utf8_first : DataW Unit := Go.Pinned.utf8First

/-- 'croftlaw11.PagerCrash': WHATEVER THE INPUT: true; the input reads as it did. -/
def pagerCrashSpec : ChangeSpec := { name := "pagerCrash", fn := fun _ => fun
  | [d] => { results := [.lit (.bool true)], args := [d] }
  | _ => none }
def pagerCrashRow : OpenClaim := { program := "ythijgebmoadgkaagreatdoor", sum := "1f3068c0aafff062b9c5087454dbf122c3b99d82f1a1d031ef64dd768c801f7b", func := "croft/croftlaw11.PagerCrash", spec := "pagerCrash", inPlace := ["internal/abi.NoEscape", "internal/bytealg.MakeNoZero", "internal/bytealg.IndexByteString", "internal/bytealg.IndexString"], unfollowed := true, recurses := true, named := ["unicode/utf8.first", "unicode/utf8.acceptRanges", "internal/bytealg.MaxLen"], apart := false, laid := [("unicode/utf8.acceptRanges", laid_unicode_utf8_acceptRanges), ("unicode/utf8.first", laid_unicode_utf8_first)] }
def PagerCrashSaid : Prop := pagerCrashRow.holds Tryz.pinned (OpenSpec.ofChange pagerCrashSpec)

/-- ITS FALSE NEIGHBOUR: 'it returns false'. Refute it at one input. -/
def pagerCrashWrong : ChangeSpec := { name := "pagerCrash", fn := fun _ => fun
  | [d] => { results := [.lit (.bool false)], args := [d] }
  | _ => none }
def PagerCrashWrongFalsely : Prop := pagerCrashRow.holds Tryz.pinned (OpenSpec.ofChange pagerCrashWrong)

/-- 'croftlaw13.BtreePlays': WHATEVER THE INPUT: true; the input reads as it did. -/
def btreePlaysSpec : ChangeSpec := { name := "btreePlays", fn := fun _ => fun
  | [d] => { results := [.lit (.bool true)], args := [d] }
  | _ => none }
def btreePlaysRow : OpenClaim := { program := "ythijgebmoadgkaagreatdoor", sum := "1f3068c0aafff062b9c5087454dbf122c3b99d82f1a1d031ef64dd768c801f7b", func := "croft/croftlaw13.BtreePlays", spec := "btreePlays", inPlace := ["internal/abi.NoEscape", "internal/bytealg.MakeNoZero", "internal/bytealg.IndexByteString", "internal/bytealg.IndexString", "slices.overlaps[croft/btree.Pair]"], unfollowed := true, recurses := true, named := ["unicode/utf8.first", "unicode/utf8.acceptRanges", "internal/bytealg.MaxLen"], apart := false, laid := [("unicode/utf8.acceptRanges", laid_unicode_utf8_acceptRanges), ("unicode/utf8.first", laid_unicode_utf8_first)] }
def BtreePlaysSaid : Prop := btreePlaysRow.holds Tryz.pinned (OpenSpec.ofChange btreePlaysSpec)

/-- ITS FALSE NEIGHBOUR: 'it returns false'. Refute it at one input. -/
def btreePlaysWrong : ChangeSpec := { name := "btreePlays", fn := fun _ => fun
  | [d] => { results := [.lit (.bool false)], args := [d] }
  | _ => none }
def BtreePlaysWrongFalsely : Prop := btreePlaysRow.holds Tryz.pinned (OpenSpec.ofChange btreePlaysWrong)

/-- 'croftlaw13.BtreeFlat': WHATEVER THE INPUT: true; the input reads as it did. -/
def btreeFlatSpec : ChangeSpec := { name := "btreeFlat", fn := fun _ => fun
  | [d] => { results := [.lit (.bool true)], args := [d] }
  | _ => none }
def btreeFlatRow : OpenClaim := { program := "ythijgebmoadgkaagreatdoor", sum := "1f3068c0aafff062b9c5087454dbf122c3b99d82f1a1d031ef64dd768c801f7b", func := "croft/croftlaw13.BtreeFlat", spec := "btreeFlat", inPlace := ["internal/abi.NoEscape", "internal/bytealg.MakeNoZero", "internal/bytealg.IndexByteString", "internal/bytealg.IndexString", "slices.overlaps[croft/btree.Pair]"], unfollowed := true, recurses := true, named := ["unicode/utf8.first", "unicode/utf8.acceptRanges", "internal/bytealg.MaxLen"], apart := false, laid := [("unicode/utf8.acceptRanges", laid_unicode_utf8_acceptRanges), ("unicode/utf8.first", laid_unicode_utf8_first)] }
def BtreeFlatSaid : Prop := btreeFlatRow.holds Tryz.pinned (OpenSpec.ofChange btreeFlatSpec)

/-- ITS FALSE NEIGHBOUR: 'it returns false'. Refute it at one input. -/
def btreeFlatWrong : ChangeSpec := { name := "btreeFlat", fn := fun _ => fun
  | [d] => { results := [.lit (.bool false)], args := [d] }
  | _ => none }
def BtreeFlatWrongFalsely : Prop := btreeFlatRow.holds Tryz.pinned (OpenSpec.ofChange btreeFlatWrong)

/-- 'croftlaw13.BtreeAgain': WHATEVER THE INPUT: true; the input reads as it did. -/
def btreeAgainSpec : ChangeSpec := { name := "btreeAgain", fn := fun _ => fun
  | [d] => { results := [.lit (.bool true)], args := [d] }
  | _ => none }
def btreeAgainRow : OpenClaim := { program := "ythijgebmoadgkaagreatdoor", sum := "1f3068c0aafff062b9c5087454dbf122c3b99d82f1a1d031ef64dd768c801f7b", func := "croft/croftlaw13.BtreeAgain", spec := "btreeAgain", inPlace := ["internal/abi.NoEscape", "internal/bytealg.MakeNoZero", "internal/bytealg.IndexByteString", "internal/bytealg.IndexString", "slices.overlaps[croft/btree.Pair]"], unfollowed := true, recurses := true, named := ["unicode/utf8.first", "unicode/utf8.acceptRanges", "internal/bytealg.MaxLen"], apart := false, laid := [("unicode/utf8.acceptRanges", laid_unicode_utf8_acceptRanges), ("unicode/utf8.first", laid_unicode_utf8_first)] }
def BtreeAgainSaid : Prop := btreeAgainRow.holds Tryz.pinned (OpenSpec.ofChange btreeAgainSpec)

/-- ITS FALSE NEIGHBOUR: 'it returns false'. Refute it at one input. -/
def btreeAgainWrong : ChangeSpec := { name := "btreeAgain", fn := fun _ => fun
  | [d] => { results := [.lit (.bool false)], args := [d] }
  | _ => none }
def BtreeAgainWrongFalsely : Prop := btreeAgainRow.holds Tryz.pinned (OpenSpec.ofChange btreeAgainWrong)

/-- 'croftlaw13.BtreeBad': WHATEVER THE INPUT: true; the input reads as it did. -/
def btreeBadSpec : ChangeSpec := { name := "btreeBad", fn := fun _ => fun
  | [d1, d2, d3, d4] => { results := [.lit (.bool true)], args := [d1, d2, d3, d4] }
  | _ => none }
def btreeBadRow : OpenClaim := { program := "ythijgebmoadgkaagreatdoor", sum := "1f3068c0aafff062b9c5087454dbf122c3b99d82f1a1d031ef64dd768c801f7b", func := "croft/croftlaw13.BtreeBad", spec := "btreeBad", inPlace := ["internal/abi.NoEscape", "internal/bytealg.MakeNoZero", "internal/bytealg.IndexByteString", "internal/bytealg.IndexString", "slices.overlaps[croft/btree.Pair]"], unfollowed := true, recurses := true, named := ["unicode/utf8.first", "unicode/utf8.acceptRanges", "internal/bytealg.MaxLen"], apart := false, laid := [("unicode/utf8.acceptRanges", laid_unicode_utf8_acceptRanges), ("unicode/utf8.first", laid_unicode_utf8_first)] }
def BtreeBadSaid : Prop := btreeBadRow.holds Tryz.pinned (OpenSpec.ofChange btreeBadSpec)

/-- ITS FALSE NEIGHBOUR: 'it returns false'. Refute it at one input. -/
def btreeBadWrong : ChangeSpec := { name := "btreeBad", fn := fun _ => fun
  | [d1, d2, d3, d4] => { results := [.lit (.bool false)], args := [d1, d2, d3, d4] }
  | _ => none }
def BtreeBadWrongFalsely : Prop := btreeBadRow.holds Tryz.pinned (OpenSpec.ofChange btreeBadWrong)

/-- 'croftlaw13.BtreeNil': WHATEVER THE INPUT: true; the input reads as it did. -/
def btreeNilSpec : ChangeSpec := { name := "btreeNil", fn := fun _ => fun
  | [d1, d2, d3] => { results := [.lit (.bool true)], args := [d1, d2, d3] }
  | _ => none }
def btreeNilRow : OpenClaim := { program := "ythijgebmoadgkaagreatdoor", sum := "1f3068c0aafff062b9c5087454dbf122c3b99d82f1a1d031ef64dd768c801f7b", func := "croft/croftlaw13.BtreeNil", spec := "btreeNil", inPlace := ["internal/abi.NoEscape", "internal/bytealg.MakeNoZero", "internal/bytealg.IndexByteString", "internal/bytealg.IndexString", "slices.overlaps[croft/btree.Pair]"], unfollowed := true, recurses := true, named := ["unicode/utf8.first", "unicode/utf8.acceptRanges", "internal/bytealg.MaxLen"], apart := false, laid := [("unicode/utf8.acceptRanges", laid_unicode_utf8_acceptRanges), ("unicode/utf8.first", laid_unicode_utf8_first)] }
def BtreeNilSaid : Prop := btreeNilRow.holds Tryz.pinned (OpenSpec.ofChange btreeNilSpec)

/-- ITS FALSE NEIGHBOUR: 'it returns false'. Refute it at one input. -/
def btreeNilWrong : ChangeSpec := { name := "btreeNil", fn := fun _ => fun
  | [d1, d2, d3] => { results := [.lit (.bool false)], args := [d1, d2, d3] }
  | _ => none }
def BtreeNilWrongFalsely : Prop := btreeNilRow.holds Tryz.pinned (OpenSpec.ofChange btreeNilWrong)

/-- 'croftlaw14.RecsPlays': WHATEVER THE INPUT: true; the input reads as it did. -/
def recsPlaysSpec : ChangeSpec := { name := "recsPlays", fn := fun _ => fun
  | [d] => { results := [.lit (.bool true)], args := [d] }
  | _ => none }
def recsPlaysRow : OpenClaim := { program := "ythijgebmoadgkaagreatdoor", sum := "1f3068c0aafff062b9c5087454dbf122c3b99d82f1a1d031ef64dd768c801f7b", func := "croft/croftlaw14.RecsPlays", spec := "recsPlays", inPlace := ["internal/abi.NoEscape", "internal/bytealg.MakeNoZero", "internal/bytealg.IndexByteString", "internal/bytealg.IndexString", "slices.overlaps[croft/btree.Pair]"], unfollowed := true, recurses := true, named := ["unicode/utf8.first", "unicode/utf8.acceptRanges", "internal/bytealg.MaxLen"], apart := false, laid := [("unicode/utf8.acceptRanges", laid_unicode_utf8_acceptRanges), ("unicode/utf8.first", laid_unicode_utf8_first)] }
def RecsPlaysSaid : Prop := recsPlaysRow.holds Tryz.pinned (OpenSpec.ofChange recsPlaysSpec)

/-- ITS FALSE NEIGHBOUR: 'it returns false'. Refute it at one input. -/
def recsPlaysWrong : ChangeSpec := { name := "recsPlays", fn := fun _ => fun
  | [d] => { results := [.lit (.bool false)], args := [d] }
  | _ => none }
def RecsPlaysWrongFalsely : Prop := recsPlaysRow.holds Tryz.pinned (OpenSpec.ofChange recsPlaysWrong)

/-- 'croftlaw14.RecsCrash': WHATEVER THE INPUT: true; the input reads as it did. -/
def recsCrashSpec : ChangeSpec := { name := "recsCrash", fn := fun _ => fun
  | [d] => { results := [.lit (.bool true)], args := [d] }
  | _ => none }
def recsCrashRow : OpenClaim := { program := "ythijgebmoadgkaagreatdoor", sum := "1f3068c0aafff062b9c5087454dbf122c3b99d82f1a1d031ef64dd768c801f7b", func := "croft/croftlaw14.RecsCrash", spec := "recsCrash", inPlace := ["internal/abi.NoEscape", "internal/bytealg.MakeNoZero", "internal/bytealg.IndexByteString", "internal/bytealg.IndexString", "slices.overlaps[croft/btree.Pair]"], unfollowed := true, recurses := true, named := ["unicode/utf8.first", "unicode/utf8.acceptRanges", "internal/bytealg.MaxLen"], apart := false, laid := [("unicode/utf8.acceptRanges", laid_unicode_utf8_acceptRanges), ("unicode/utf8.first", laid_unicode_utf8_first)] }
def RecsCrashSaid : Prop := recsCrashRow.holds Tryz.pinned (OpenSpec.ofChange recsCrashSpec)

/-- ITS FALSE NEIGHBOUR: 'it returns false'. Refute it at one input. -/
def recsCrashWrong : ChangeSpec := { name := "recsCrash", fn := fun _ => fun
  | [d] => { results := [.lit (.bool false)], args := [d] }
  | _ => none }
def RecsCrashWrongFalsely : Prop := recsCrashRow.holds Tryz.pinned (OpenSpec.ofChange recsCrashWrong)

/-- 'croftlaw14.RecsEmpty': WHATEVER THE INPUT: true; the input reads as it did. -/
def recsEmptySpec : ChangeSpec := { name := "recsEmpty", fn := fun _ => fun
  | [d] => { results := [.lit (.bool true)], args := [d] }
  | _ => none }
def recsEmptyRow : OpenClaim := { program := "ythijgebmoadgkaagreatdoor", sum := "1f3068c0aafff062b9c5087454dbf122c3b99d82f1a1d031ef64dd768c801f7b", func := "croft/croftlaw14.RecsEmpty", spec := "recsEmpty", inPlace := ["internal/abi.NoEscape", "internal/bytealg.MakeNoZero", "internal/bytealg.IndexByteString", "internal/bytealg.IndexString", "slices.overlaps[croft/btree.Pair]"], unfollowed := true, recurses := true, named := ["unicode/utf8.first", "unicode/utf8.acceptRanges", "internal/bytealg.MaxLen"], apart := false, laid := [("unicode/utf8.acceptRanges", laid_unicode_utf8_acceptRanges), ("unicode/utf8.first", laid_unicode_utf8_first)] }
def RecsEmptySaid : Prop := recsEmptyRow.holds Tryz.pinned (OpenSpec.ofChange recsEmptySpec)

/-- ITS FALSE NEIGHBOUR: 'it returns false'. Refute it at one input. -/
def recsEmptyWrong : ChangeSpec := { name := "recsEmpty", fn := fun _ => fun
  | [d] => { results := [.lit (.bool false)], args := [d] }
  | _ => none }
def RecsEmptyWrongFalsely : Prop := recsEmptyRow.holds Tryz.pinned (OpenSpec.ofChange recsEmptyWrong)

/-- 'croftlaw14.RecsBad': WHATEVER THE INPUT: true; the input reads as it did. -/
def recsBadSpec : ChangeSpec := { name := "recsBad", fn := fun _ => fun
  | [d1, d2, d3, d4, d5, d6] => { results := [.lit (.bool true)], args := [d1, d2, d3, d4, d5, d6] }
  | _ => none }
def recsBadRow : OpenClaim := { program := "ythijgebmoadgkaagreatdoor", sum := "1f3068c0aafff062b9c5087454dbf122c3b99d82f1a1d031ef64dd768c801f7b", func := "croft/croftlaw14.RecsBad", spec := "recsBad", inPlace := ["internal/abi.NoEscape", "internal/bytealg.MakeNoZero", "internal/bytealg.IndexByteString", "internal/bytealg.IndexString", "slices.overlaps[croft/btree.Pair]"], unfollowed := true, recurses := true, named := ["unicode/utf8.first", "unicode/utf8.acceptRanges", "internal/bytealg.MaxLen"], apart := false, laid := [("unicode/utf8.acceptRanges", laid_unicode_utf8_acceptRanges), ("unicode/utf8.first", laid_unicode_utf8_first)] }
def RecsBadSaid : Prop := recsBadRow.holds Tryz.pinned (OpenSpec.ofChange recsBadSpec)

/-- ITS FALSE NEIGHBOUR: 'it returns false'. Refute it at one input. -/
def recsBadWrong : ChangeSpec := { name := "recsBad", fn := fun _ => fun
  | [d1, d2, d3, d4, d5, d6] => { results := [.lit (.bool false)], args := [d1, d2, d3, d4, d5, d6] }
  | _ => none }
def RecsBadWrongFalsely : Prop := recsBadRow.holds Tryz.pinned (OpenSpec.ofChange recsBadWrong)

/-- 'croftlaw14.RecsNil': WHATEVER THE INPUT: true; the input reads as it did. -/
def recsNilSpec : ChangeSpec := { name := "recsNil", fn := fun _ => fun
  | [d1, d2] => { results := [.lit (.bool true)], args := [d1, d2] }
  | _ => none }
def recsNilRow : OpenClaim := { program := "ythijgebmoadgkaagreatdoor", sum := "1f3068c0aafff062b9c5087454dbf122c3b99d82f1a1d031ef64dd768c801f7b", func := "croft/croftlaw14.RecsNil", spec := "recsNil", inPlace := ["internal/abi.NoEscape", "internal/bytealg.MakeNoZero", "internal/bytealg.IndexByteString", "internal/bytealg.IndexString", "slices.overlaps[croft/btree.Pair]"], unfollowed := true, recurses := true, named := ["unicode/utf8.first", "unicode/utf8.acceptRanges", "internal/bytealg.MaxLen"], apart := false, laid := [("unicode/utf8.acceptRanges", laid_unicode_utf8_acceptRanges), ("unicode/utf8.first", laid_unicode_utf8_first)] }
def RecsNilSaid : Prop := recsNilRow.holds Tryz.pinned (OpenSpec.ofChange recsNilSpec)

/-- ITS FALSE NEIGHBOUR: 'it returns false'. Refute it at one input. -/
def recsNilWrong : ChangeSpec := { name := "recsNil", fn := fun _ => fun
  | [d1, d2] => { results := [.lit (.bool false)], args := [d1, d2] }
  | _ => none }
def RecsNilWrongFalsely : Prop := recsNilRow.holds Tryz.pinned (OpenSpec.ofChange recsNilWrong)

/- THE SECOND FORM. 'bulk': how many values and letters a reading holds, each counted each time it is reached (what is shared counts as often as it is met; a slice's spare places count too). A statement '..UptoSaid' is the law's where the arguments, and the package variables that the reading takes, are together of bulk at most 1048576: NARROWER than '..Said'. Prove '..Said' where nothing that the law and all that it calls make is longer than what came in: it says more and counts as full. Else prove '..UptoSaid'. A law counts once. -/
mutual
def uptoBulk {H : Type} : DataW H → Nat
  | .lit (.string bytes) => bytes.length + 1
  | .lit _ => 1
  | .nil => 1
  | .ptr d => uptoBulk d + 1
  | .slice elems spare => uptoBulkAll elems + uptoBulkAll spare + 1
  | .agg parts => uptoBulkAll parts + 1
  | .iface _ d => uptoBulk d + 1
  | .map entries => uptoBulkEntries entries + 1
  | .held _ => 1
def uptoBulkAll {H : Type} : List (DataW H) → Nat
  | [] => 0
  | d :: r => uptoBulk d + uptoBulkAll r
def uptoBulkEntries {H : Type} : List (Lit × DataW H) → Nat
  | [] => 0
  | x :: r => uptoBulkEntry x + uptoBulkEntries r
def uptoBulkEntry {H : Type} : Lit × DataW H → Nat
  | (.string bytes, d) => bytes.length + uptoBulk d + 1
  | (_, d) => uptoBulk d + 1
 end
def uptoSmall : (H : Type) → List (DataW H) → Bool := fun _ ds => decide (uptoBulkAll ds ≤ 1048576)
def OpenSpec.upto (s : _root_.Go.ChangeSpec) : _root_.Go.OpenSpec := { _root_.Go.OpenSpec.ofChange s with cond := some uptoSmall }

/-- 'croftlaw11.PagerCrash', WHERE WHAT IT READS IS OF BULK AT MOST 1048576: true; the input reads as it did. -/
def pagerCrashUptoRow : OpenClaim := { program := "ythijgebmoadgkaagreatdoor", sum := "1f3068c0aafff062b9c5087454dbf122c3b99d82f1a1d031ef64dd768c801f7b", func := "croft/croftlaw11.PagerCrash", spec := "pagerCrash", inPlace := ["internal/abi.NoEscape", "internal/bytealg.MakeNoZero", "internal/bytealg.IndexByteString", "internal/bytealg.IndexString"], unfollowed := true, recurses := true, named := ["unicode/utf8.first", "unicode/utf8.acceptRanges", "internal/bytealg.MaxLen"], apart := false, laid := [("unicode/utf8.acceptRanges", laid_unicode_utf8_acceptRanges), ("unicode/utf8.first", laid_unicode_utf8_first)], narrowed := true }
def PagerCrashUptoSaid : Prop := pagerCrashUptoRow.holds Tryz.pinned (OpenSpec.upto pagerCrashSpec)

/-- 'croftlaw13.BtreePlays', WHERE WHAT IT READS IS OF BULK AT MOST 1048576: true; the input reads as it did. -/
def btreePlaysUptoRow : OpenClaim := { program := "ythijgebmoadgkaagreatdoor", sum := "1f3068c0aafff062b9c5087454dbf122c3b99d82f1a1d031ef64dd768c801f7b", func := "croft/croftlaw13.BtreePlays", spec := "btreePlays", inPlace := ["internal/abi.NoEscape", "internal/bytealg.MakeNoZero", "internal/bytealg.IndexByteString", "internal/bytealg.IndexString", "slices.overlaps[croft/btree.Pair]"], unfollowed := true, recurses := true, named := ["unicode/utf8.first", "unicode/utf8.acceptRanges", "internal/bytealg.MaxLen"], apart := false, laid := [("unicode/utf8.acceptRanges", laid_unicode_utf8_acceptRanges), ("unicode/utf8.first", laid_unicode_utf8_first)], narrowed := true }
def BtreePlaysUptoSaid : Prop := btreePlaysUptoRow.holds Tryz.pinned (OpenSpec.upto btreePlaysSpec)

/-- 'croftlaw13.BtreeFlat', WHERE WHAT IT READS IS OF BULK AT MOST 1048576: true; the input reads as it did. -/
def btreeFlatUptoRow : OpenClaim := { program := "ythijgebmoadgkaagreatdoor", sum := "1f3068c0aafff062b9c5087454dbf122c3b99d82f1a1d031ef64dd768c801f7b", func := "croft/croftlaw13.BtreeFlat", spec := "btreeFlat", inPlace := ["internal/abi.NoEscape", "internal/bytealg.MakeNoZero", "internal/bytealg.IndexByteString", "internal/bytealg.IndexString", "slices.overlaps[croft/btree.Pair]"], unfollowed := true, recurses := true, named := ["unicode/utf8.first", "unicode/utf8.acceptRanges", "internal/bytealg.MaxLen"], apart := false, laid := [("unicode/utf8.acceptRanges", laid_unicode_utf8_acceptRanges), ("unicode/utf8.first", laid_unicode_utf8_first)], narrowed := true }
def BtreeFlatUptoSaid : Prop := btreeFlatUptoRow.holds Tryz.pinned (OpenSpec.upto btreeFlatSpec)

/-- 'croftlaw13.BtreeAgain', WHERE WHAT IT READS IS OF BULK AT MOST 1048576: true; the input reads as it did. -/
def btreeAgainUptoRow : OpenClaim := { program := "ythijgebmoadgkaagreatdoor", sum := "1f3068c0aafff062b9c5087454dbf122c3b99d82f1a1d031ef64dd768c801f7b", func := "croft/croftlaw13.BtreeAgain", spec := "btreeAgain", inPlace := ["internal/abi.NoEscape", "internal/bytealg.MakeNoZero", "internal/bytealg.IndexByteString", "internal/bytealg.IndexString", "slices.overlaps[croft/btree.Pair]"], unfollowed := true, recurses := true, named := ["unicode/utf8.first", "unicode/utf8.acceptRanges", "internal/bytealg.MaxLen"], apart := false, laid := [("unicode/utf8.acceptRanges", laid_unicode_utf8_acceptRanges), ("unicode/utf8.first", laid_unicode_utf8_first)], narrowed := true }
def BtreeAgainUptoSaid : Prop := btreeAgainUptoRow.holds Tryz.pinned (OpenSpec.upto btreeAgainSpec)

/-- 'croftlaw13.BtreeBad', WHERE WHAT IT READS IS OF BULK AT MOST 1048576: true; the input reads as it did. -/
def btreeBadUptoRow : OpenClaim := { program := "ythijgebmoadgkaagreatdoor", sum := "1f3068c0aafff062b9c5087454dbf122c3b99d82f1a1d031ef64dd768c801f7b", func := "croft/croftlaw13.BtreeBad", spec := "btreeBad", inPlace := ["internal/abi.NoEscape", "internal/bytealg.MakeNoZero", "internal/bytealg.IndexByteString", "internal/bytealg.IndexString", "slices.overlaps[croft/btree.Pair]"], unfollowed := true, recurses := true, named := ["unicode/utf8.first", "unicode/utf8.acceptRanges", "internal/bytealg.MaxLen"], apart := false, laid := [("unicode/utf8.acceptRanges", laid_unicode_utf8_acceptRanges), ("unicode/utf8.first", laid_unicode_utf8_first)], narrowed := true }
def BtreeBadUptoSaid : Prop := btreeBadUptoRow.holds Tryz.pinned (OpenSpec.upto btreeBadSpec)

/-- 'croftlaw13.BtreeNil', WHERE WHAT IT READS IS OF BULK AT MOST 1048576: true; the input reads as it did. -/
def btreeNilUptoRow : OpenClaim := { program := "ythijgebmoadgkaagreatdoor", sum := "1f3068c0aafff062b9c5087454dbf122c3b99d82f1a1d031ef64dd768c801f7b", func := "croft/croftlaw13.BtreeNil", spec := "btreeNil", inPlace := ["internal/abi.NoEscape", "internal/bytealg.MakeNoZero", "internal/bytealg.IndexByteString", "internal/bytealg.IndexString", "slices.overlaps[croft/btree.Pair]"], unfollowed := true, recurses := true, named := ["unicode/utf8.first", "unicode/utf8.acceptRanges", "internal/bytealg.MaxLen"], apart := false, laid := [("unicode/utf8.acceptRanges", laid_unicode_utf8_acceptRanges), ("unicode/utf8.first", laid_unicode_utf8_first)], narrowed := true }
def BtreeNilUptoSaid : Prop := btreeNilUptoRow.holds Tryz.pinned (OpenSpec.upto btreeNilSpec)

/-- 'croftlaw14.RecsPlays', WHERE WHAT IT READS IS OF BULK AT MOST 1048576: true; the input reads as it did. -/
def recsPlaysUptoRow : OpenClaim := { program := "ythijgebmoadgkaagreatdoor", sum := "1f3068c0aafff062b9c5087454dbf122c3b99d82f1a1d031ef64dd768c801f7b", func := "croft/croftlaw14.RecsPlays", spec := "recsPlays", inPlace := ["internal/abi.NoEscape", "internal/bytealg.MakeNoZero", "internal/bytealg.IndexByteString", "internal/bytealg.IndexString", "slices.overlaps[croft/btree.Pair]"], unfollowed := true, recurses := true, named := ["unicode/utf8.first", "unicode/utf8.acceptRanges", "internal/bytealg.MaxLen"], apart := false, laid := [("unicode/utf8.acceptRanges", laid_unicode_utf8_acceptRanges), ("unicode/utf8.first", laid_unicode_utf8_first)], narrowed := true }
def RecsPlaysUptoSaid : Prop := recsPlaysUptoRow.holds Tryz.pinned (OpenSpec.upto recsPlaysSpec)

/-- 'croftlaw14.RecsCrash', WHERE WHAT IT READS IS OF BULK AT MOST 1048576: true; the input reads as it did. -/
def recsCrashUptoRow : OpenClaim := { program := "ythijgebmoadgkaagreatdoor", sum := "1f3068c0aafff062b9c5087454dbf122c3b99d82f1a1d031ef64dd768c801f7b", func := "croft/croftlaw14.RecsCrash", spec := "recsCrash", inPlace := ["internal/abi.NoEscape", "internal/bytealg.MakeNoZero", "internal/bytealg.IndexByteString", "internal/bytealg.IndexString", "slices.overlaps[croft/btree.Pair]"], unfollowed := true, recurses := true, named := ["unicode/utf8.first", "unicode/utf8.acceptRanges", "internal/bytealg.MaxLen"], apart := false, laid := [("unicode/utf8.acceptRanges", laid_unicode_utf8_acceptRanges), ("unicode/utf8.first", laid_unicode_utf8_first)], narrowed := true }
def RecsCrashUptoSaid : Prop := recsCrashUptoRow.holds Tryz.pinned (OpenSpec.upto recsCrashSpec)

/-- 'croftlaw14.RecsEmpty', WHERE WHAT IT READS IS OF BULK AT MOST 1048576: true; the input reads as it did. -/
def recsEmptyUptoRow : OpenClaim := { program := "ythijgebmoadgkaagreatdoor", sum := "1f3068c0aafff062b9c5087454dbf122c3b99d82f1a1d031ef64dd768c801f7b", func := "croft/croftlaw14.RecsEmpty", spec := "recsEmpty", inPlace := ["internal/abi.NoEscape", "internal/bytealg.MakeNoZero", "internal/bytealg.IndexByteString", "internal/bytealg.IndexString", "slices.overlaps[croft/btree.Pair]"], unfollowed := true, recurses := true, named := ["unicode/utf8.first", "unicode/utf8.acceptRanges", "internal/bytealg.MaxLen"], apart := false, laid := [("unicode/utf8.acceptRanges", laid_unicode_utf8_acceptRanges), ("unicode/utf8.first", laid_unicode_utf8_first)], narrowed := true }
def RecsEmptyUptoSaid : Prop := recsEmptyUptoRow.holds Tryz.pinned (OpenSpec.upto recsEmptySpec)

/-- 'croftlaw14.RecsBad', WHERE WHAT IT READS IS OF BULK AT MOST 1048576: true; the input reads as it did. -/
def recsBadUptoRow : OpenClaim := { program := "ythijgebmoadgkaagreatdoor", sum := "1f3068c0aafff062b9c5087454dbf122c3b99d82f1a1d031ef64dd768c801f7b", func := "croft/croftlaw14.RecsBad", spec := "recsBad", inPlace := ["internal/abi.NoEscape", "internal/bytealg.MakeNoZero", "internal/bytealg.IndexByteString", "internal/bytealg.IndexString", "slices.overlaps[croft/btree.Pair]"], unfollowed := true, recurses := true, named := ["unicode/utf8.first", "unicode/utf8.acceptRanges", "internal/bytealg.MaxLen"], apart := false, laid := [("unicode/utf8.acceptRanges", laid_unicode_utf8_acceptRanges), ("unicode/utf8.first", laid_unicode_utf8_first)], narrowed := true }
def RecsBadUptoSaid : Prop := recsBadUptoRow.holds Tryz.pinned (OpenSpec.upto recsBadSpec)

/-- 'croftlaw14.RecsNil', WHERE WHAT IT READS IS OF BULK AT MOST 1048576: true; the input reads as it did. -/
def recsNilUptoRow : OpenClaim := { program := "ythijgebmoadgkaagreatdoor", sum := "1f3068c0aafff062b9c5087454dbf122c3b99d82f1a1d031ef64dd768c801f7b", func := "croft/croftlaw14.RecsNil", spec := "recsNil", inPlace := ["internal/abi.NoEscape", "internal/bytealg.MakeNoZero", "internal/bytealg.IndexByteString", "internal/bytealg.IndexString", "slices.overlaps[croft/btree.Pair]"], unfollowed := true, recurses := true, named := ["unicode/utf8.first", "unicode/utf8.acceptRanges", "internal/bytealg.MaxLen"], apart := false, laid := [("unicode/utf8.acceptRanges", laid_unicode_utf8_acceptRanges), ("unicode/utf8.first", laid_unicode_utf8_first)], narrowed := true }
def RecsNilUptoSaid : Prop := recsNilUptoRow.holds Tryz.pinned (OpenSpec.upto recsNilSpec)

end Rows
end Go.Proofs.YthijgebmoadgkaaGreatDoor
