/- merged: Steps of operations in a region (XMemo), those of XOps that merge.py's shaking had left out for another law. They speak of no function. A fraction that came in as an argument: two numbers that a wide.Int can be. It speaks of no function. -/
import Derived.Test.YtoondjildbanhaaDoorOps
import Derived.Test.YtoondjildbanhaaDoorLaid
import Derived.ChangeSame
import Derived.MakeChecks
section
namespace Go.Proofs.YtoondjildbanhaaDoor
open Go.ChangeShapes Go.WideShapes Go.ChangeAt Go.RowKit
set_option linter.unusedVariables false
set_option linter.unusedSimpArgs false
section
variable {a : Act} {w w0 : World} {af : Array Edge} {pos : String} {t : TypeId} {gd : Option (Nat × Bool)}
theorem negi {s d : Nat} {x z : Int} (h : a.tmps[s]? = some (.int .i64 x)) (hz : IntKind.i64.wrap (-x) = z) : Step Tryd.prog w0 { dst := some d, op := .unOp .neg 3 (.tmp s), type := t, pos := pos, after := af, guard := gd } (.val (.int .i64 z)) a w :=
  .inl (by simp [go_sem, execOp, h, ← hz])
theorem c_neq_tt {s s' d T : Nat} {k : IntKind} {x y : Int} {b : Bool} (h : a.tmps[s]? = some (.int k x)) (h' : a.tmps[s']? = some (.int k y)) (hT : Tryd.prog.underlying T = some (.int k)) (hb : (!(x == y)) = b) : Step Tryd.prog w0 { dst := some d, op := .binOp .neq T (.tmp s) (.tmp s') T, type := t, pos := pos, after := af, guard := gd } (.val (.bool b)) a w :=
  .inl (by subst hb; simp [go_sem, execOp, hT, bne, h, h'])
theorem c_gtr_tk {s d T : Nat} {k : IntKind} {x y : Int} {b : Bool} (h : a.tmps[s]? = some (.int k x)) (hT : Tryd.prog.underlying T = some (.int k)) (hb : decide (y < x) = b) : Step Tryd.prog w0 { dst := some d, op := .binOp .gtr T (.tmp s) (.const (.int k y)) T, type := t, pos := pos, after := af, guard := gd } (.val (.bool b)) a w :=
  .inl (by subst hb; simp [go_sem, execOp, hT, bne, h])
theorem cb_eql_tt {s s' d : Nat} {x y b : Bool} (h : a.tmps[s]? = some (.bool x)) (h' : a.tmps[s']? = some (.bool y)) (hb : (x == y) = b) : Step Tryd.prog w0 { dst := some d, op := .binOp .eql 4 (.tmp s) (.tmp s') 4, type := t, pos := pos, after := af, guard := gd } (.val (.bool b)) a w :=
  .inl (by subst hb; simp [go_sem, execOp, bne, h, h'])
theorem e_eql_R {s s' d : Nat} {v0 v1 v2 v3 v4 v5 v6 v7 u0 u1 u2 u3 u4 u5 u6 u7 : Value} {b : Bool} (h : a.tmps[s]? = some (.agg #[v0, v1, v2, v3, v4, v5, v6, v7])) (h' : a.tmps[s']? = some (.agg #[u0, u1, u2, u3, u4, u5, u6, u7])) (E : ∀ w, (Op.equalIn 10000 26 (.agg #[v0, v1, v2, v3, v4, v5, v6, v7]) (.agg #[u0, u1, u2, u3, u4, u5, u6, u7])).run Tryd.prog w = .ok b w) : Step Tryd.prog w0 { dst := some d, op := .binOp .eql 26 (.tmp s) (.tmp s') 26, type := t, pos := pos, after := af, guard := gd } (.val (.bool b)) a w :=
  .inl (by simp [go_sem, execOp, h, h', E])
end
end Go.Proofs.YtoondjildbanhaaDoor
end
section
namespace Go.Proofs.YtoondjildbanhaaDoor
open Go.ChangeShapes Go.WideShapes Go.ChangeAt Go.RowKit
set_option linter.unusedVariables false
section
variable {H : Type} {enc : TypeId × Value → H} {W : World} {base : Nat} {spare : Nat → Bool} {held : Bool}
theorem c26 : Tryd.prog.cellsOf 26 = 8 := by kernel_rfl
theorem open4 {m : Nat} {c0 c1 c2 c3 : Value} {x : DataW H × List MemPlace} (hf : DataW.trod enc Tryd.prog W base spare held m 24 [c0, c1, c2, c3] = some x) :
    ∃ z : Int, c0 = .int .u64 (L0 z) ∧ c1 = .int .u64 (L1 z) ∧ c2 = .int .u64 (L2 z) ∧ c3 = .int .u64 (L3 z) ∧ x.2 = [] ∧ Fit z := by
  obtain ⟨y0, y1, y2, y3, m, hx, hy0, hy1, hy2, hy3⟩ := trod_array4 Tryd.underlying24 c22 hf
  obtain ⟨x0, e0, rfl, w0⟩ := DataW.trod_int Tryd.underlying22 hy0
  obtain ⟨x1, e1, rfl, w1⟩ := DataW.trod_int Tryd.underlying22 hy1
  obtain ⟨x2, e2, rfl, w2⟩ := DataW.trod_int Tryd.underlying22 hy2
  obtain ⟨x3, e3, rfl, w3⟩ := DataW.trod_int Tryd.underlying22 hy3
  simp at e0 e1 e2 e3
  subst e0 e1 e2 e3
  replace w0 := of_wf w0
  replace w1 := of_wf w1
  replace w2 := of_wf w2
  replace w3 := of_wf w3
  have hw : W4 x0 x1 x2 x3 := ⟨by omega, by omega, by omega, by omega, by omega, by omega, by omega, by omega⟩
  obtain ⟨l0, l1, l2, l3⟩ := sg4_L hw
  refine ⟨sg4 x0 x1 x2 x3, by rw [l0], by rw [l1], by rw [l2], by rw [l3], ?_, sg4_fit hw⟩
  rw [hx]; simp
set_option maxRecDepth 100000 in
/-- a ratio.Ratio that came in -/
theorem open_rat {r : Reach} {b0 : Nat} {v : Value} {d : DataW H} {ps : List MemPlace} (hval : Value.okWide Tryd.prog W r b0 26 v) (hd : DataW.Trod enc Tryd.prog W base spare held 26 v d ps) :
    ∃ p q : Int, v = .agg #[.int .u64 (L0 p), .int .u64 (L1 p), .int .u64 (L2 p), .int .u64 (L3 p), .int .u64 (L0 q), .int .u64 (L1 q), .int .u64 (L2 q), .int .u64 (L3 q)] ∧ ps = [] ∧ Fit p ∧ Fit q := by
  obtain ⟨cs, rfl, hsz, _⟩ : ∃ cs, v = .agg cs ∧ cs.size = Tryd.prog.cellsOf 26 ∧ Row.okWide Tryd.prog W r b0 26 cs := by
    simp only [Value.okWide, Tryd.underlying26] at hval
    exact hval
  rw [c26] at hsz
  obtain ⟨l⟩ := cs
  have hl : l.length = 8 := hsz
  obtain ⟨c0, l, rfl⟩ := List.exists_cons_of_length_eq_add_one hl
  replace hl : l.length = 7 := by simpa using hl
  obtain ⟨c1, l, rfl⟩ := List.exists_cons_of_length_eq_add_one hl
  replace hl : l.length = 6 := by simpa using hl
  obtain ⟨c2, l, rfl⟩ := List.exists_cons_of_length_eq_add_one hl
  replace hl : l.length = 5 := by simpa using hl
  obtain ⟨c3, l, rfl⟩ := List.exists_cons_of_length_eq_add_one hl
  replace hl : l.length = 4 := by simpa using hl
  obtain ⟨c4, l, rfl⟩ := List.exists_cons_of_length_eq_add_one hl
  replace hl : l.length = 3 := by simpa using hl
  obtain ⟨c5, l, rfl⟩ := List.exists_cons_of_length_eq_add_one hl
  replace hl : l.length = 2 := by simpa using hl
  obtain ⟨c6, l, rfl⟩ := List.exists_cons_of_length_eq_add_one hl
  replace hl : l.length = 1 := by simpa using hl
  obtain ⟨c7, l, rfl⟩ := List.exists_cons_of_length_eq_add_one hl
  replace hl : l.length = 0 := by simpa using hl
  obtain rfl := List.length_eq_zero_iff.1 hl
  obtain ⟨fuel, hf⟩ := hd
  obtain ⟨y0, y1, m, hx, _, hy0, hy1⟩ := trod_struct2 Tryd.underlying26 hf
  simp only [c24, Value.cells] at hy0 hy1
  obtain ⟨p, e0, e1, e2, e3, n0, fp⟩ := open4 hy0
  obtain ⟨q, e4, e5, e6, e7, n1, fq⟩ := open4 hy1
  subst e0 e1 e2 e3 e4 e5 e6 e7
  simp only [Prod.mk.injEq] at hx
  refine ⟨p, q, rfl, ?_, fp, fq⟩
  rw [hx.2, n0, n1]; rfl
end
end Go.Proofs.YtoondjildbanhaaDoor
end
