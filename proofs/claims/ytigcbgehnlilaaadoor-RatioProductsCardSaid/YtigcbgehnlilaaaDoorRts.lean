/- merged: What the rows' condition on the listed tables gives: the table uint64pow10 holds what it holds; the door's own heap meets the condition. A fraction that came in as an argument: two numbers that a wide.Int can be. It speaks of no function. -/
import Derived.Test.YtigcbgehnlilaaaDoorFmt
import Derived.Test.YtigcbgehnlilaaaDoorNum
import Derived.Laws.IdiomArrays
import Derived.ProofKit
import Derived.LaidMore
import Derived.OpenShut
import Derived.Stop.Joined
import Derived.MakeChecks
import Derived.ChangeSame
section
namespace Go.Proofs.YtigcbgehnlilaaaDoor
open Go.ChangeShapes Go.WideShapes Go.ChangeAt Go.RowKit
set_option linter.unusedVariables false
set_option maxRecDepth 20000

def lay3 : List (String × DataW Unit) := [("math/bits.deBruijn32tab", Rows.laid_math_bits_deBruijn32tab), ("math/bits.deBruijn64tab", Rows.laid_math_bits_deBruijn64tab), ("internal/strconv.uint64pow10", Rows.laid_internal_strconv_uint64pow10)]
theorem pow_is : (Rows.laid_internal_strconv_uint64pow10 : DataW Unit) = Lib.tabData .u64 Lib.pow10Tab := by rfl
set_option maxRecDepth 100000 in
theorem door_met (os : Os) (args : Array Value) : laidMetH Tryd.prog lay3 ((World.doorLaid Tryd.prog 400 os).forCall (fun _ _ => 0) ⟨#[], args, []⟩).memory :=
  laidMetH_of_parts3 (fuel := 8) (laidMet_of_run' 8 (by kernel_rfl) (by kernel_rfl)) (by kernel_rfl) (by kernel_rfl)
theorem pow_of {W : World} (h : laidMetH Tryd.prog lay3 W) : Pow10 W := by
  rw [MakeChecks.laidMetH_plain _ _ _ (by kernel_rfl)] at h
  obtain ⟨ps, ⟨g0, t0, cs0, f0, p0, q0, hg0, ht0, hv0, hd0, ⟨g1, t1, cs1, f1, p1, q1, hg1, ht1, hv1, hd1, ⟨g2, t2, cs2, f2, p2, q2, hg2, ht2, hv2, hd2, _, _⟩, _⟩, _⟩, _, _⟩ := h
  have hg : Tryd.prog.globalNamed "internal/strconv.uint64pow10" = some 0 := by kernel_rfl
  have ht : (Tryd.prog.globals[0]?).map (·.type) = some 128 := by kernel_rfl
  obtain rfl := Option.some.inj (hg.symm.trans hg2)
  obtain rfl := Option.some.inj (ht.symm.trans ht2)
  unfold Pow10 Lib.TabIs
  rw [pow_is] at hd2
  rw [hv2, ← Lib.cells_of_tab Tryd.underlying128 Tryd.underlying22 (by kernel_rfl) (by kernel_rfl) hd2]

section
variable {H : Type} {enc : TypeId × Value → H} {W : World} {base : Nat} {spare : Nat → Bool} {held : Bool}
theorem of_wf {x : Int} (h : (Lit.int .u64 x).wf = true) : 0 ≤ x ∧ x ≤ 18446744073709551615 := by
  have h' : (decide ((0 : Int) ≤ x) && decide (x ≤ 18446744073709551615)) = true := h
  simpa using h'
theorem c24 : Tryd.prog.cellsOf 24 = 4 := by kernel_rfl
theorem c22 : Tryd.prog.cellsOf 22 = 1 := by kernel_rfl
end
end Go.Proofs.YtigcbgehnlilaaaDoor
end
section
namespace Go.Proofs.YtigcbgehnlilaaaDoor
open Go.ChangeShapes Go.WideShapes Go.ChangeAt Go.RowKit
set_option linter.unusedVariables false
section
variable {H : Type} {enc : TypeId × Value → H} {W : World} {base : Nat} {spare : Nat → Bool} {held : Bool}
theorem c26 : Tryd.prog.cellsOf 26 = 8 := by kernel_rfl
theorem open4 {m : Nat} {c0 c1 c2 c3 : Value} {x : DataW H × List MemPlace} (hf : DataW.trod enc Tryd.prog W base spare held m 24 [c0, c1, c2, c3] = some x) :
    ∃ z : Int, c0 = .int .u64 (L0 z) ∧ c1 = .int .u64 (L1 z) ∧ c2 = .int .u64 (L2 z) ∧ c3 = .int .u64 (L3 z) ∧ x.2 = [] ∧ Fit z := by
  obtain ⟨y0, y1, y2, y3, m, hx, hy0, hy1, hy2, hy3⟩ := trod_array4 Tryd.underlying24 c22 hf
  obtain ⟨x0, e0, rfl, w0⟩ := DataW.trod_int Tryd.underlying22 hy0
  obtain ⟨x1, e1, rfl, w1⟩ := DataW.trod_int Tryd.underlying22 hy1
  obtain ⟨x2, e2, rfl, w2⟩ := DataW.trod_int Tryd.underlying22 hy2
  obtain ⟨x3, e3, rfl, w3⟩ := DataW.trod_int Tryd.underlying22 hy3
  simp at e0 e1 e2 e3
  subst e0 e1 e2 e3
  replace w0 := of_wf w0
  replace w1 := of_wf w1
  replace w2 := of_wf w2
  replace w3 := of_wf w3
  have hw : W4 x0 x1 x2 x3 := ⟨by omega, by omega, by omega, by omega, by omega, by omega, by omega, by omega⟩
  obtain ⟨l0, l1, l2, l3⟩ := sg4_L hw
  refine ⟨sg4 x0 x1 x2 x3, by rw [l0], by rw [l1], by rw [l2], by rw [l3], ?_, sg4_fit hw⟩
  rw [hx]; simp
set_option maxRecDepth 100000 in
/-- a ratio.Ratio that came in -/
theorem open_rat {r : Reach} {b0 : Nat} {v : Value} {d : DataW H} {ps : List MemPlace} (hval : Value.okWide Tryd.prog W r b0 26 v) (hd : DataW.Trod enc Tryd.prog W base spare held 26 v d ps) :
    ∃ p q : Int, v = .agg #[.int .u64 (L0 p), .int .u64 (L1 p), .int .u64 (L2 p), .int .u64 (L3 p), .int .u64 (L0 q), .int .u64 (L1 q), .int .u64 (L2 q), .int .u64 (L3 q)] ∧ ps = [] ∧ Fit p ∧ Fit q := by
  obtain ⟨cs, rfl, hsz, _⟩ : ∃ cs, v = .agg cs ∧ cs.size = Tryd.prog.cellsOf 26 ∧ Row.okWide Tryd.prog W r b0 26 cs := by
    simp only [Value.okWide, Tryd.underlying26] at hval
    exact hval
  rw [c26] at hsz
  obtain ⟨l⟩ := cs
  have hl : l.length = 8 := hsz
  obtain ⟨c0, l, rfl⟩ := List.exists_cons_of_length_eq_add_one hl
  replace hl : l.length = 7 := by simpa using hl
  obtain ⟨c1, l, rfl⟩ := List.exists_cons_of_length_eq_add_one hl
  replace hl : l.length = 6 := by simpa using hl
  obtain ⟨c2, l, rfl⟩ := List.exists_cons_of_length_eq_add_one hl
  replace hl : l.length = 5 := by simpa using hl
  obtain ⟨c3, l, rfl⟩ := List.exists_cons_of_length_eq_add_one hl
  replace hl : l.length = 4 := by simpa using hl
  obtain ⟨c4, l, rfl⟩ := List.exists_cons_of_length_eq_add_one hl
  replace hl : l.length = 3 := by simpa using hl
  obtain ⟨c5, l, rfl⟩ := List.exists_cons_of_length_eq_add_one hl
  replace hl : l.length = 2 := by simpa using hl
  obtain ⟨c6, l, rfl⟩ := List.exists_cons_of_length_eq_add_one hl
  replace hl : l.length = 1 := by simpa using hl
  obtain ⟨c7, l, rfl⟩ := List.exists_cons_of_length_eq_add_one hl
  replace hl : l.length = 0 := by simpa using hl
  obtain rfl := List.length_eq_zero_iff.1 hl
  obtain ⟨fuel, hf⟩ := hd
  obtain ⟨y0, y1, m, hx, _, hy0, hy1⟩ := trod_struct2 Tryd.underlying26 hf
  simp only [c24, Value.cells] at hy0 hy1
  obtain ⟨p, e0, e1, e2, e3, n0, fp⟩ := open4 hy0
  obtain ⟨q, e4, e5, e6, e7, n1, fq⟩ := open4 hy1
  subst e0 e1 e2 e3 e4 e5 e6 e7
  simp only [Prod.mk.injEq] at hx
  refine ⟨p, q, rfl, ?_, fp, fq⟩
  rw [hx.2, n0, n1]; rfl
end
end Go.Proofs.YtigcbgehnlilaaaDoor
end
