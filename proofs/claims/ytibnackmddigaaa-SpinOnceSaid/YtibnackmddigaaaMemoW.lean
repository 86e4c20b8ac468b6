
/- The steps of wide's operations in a region that draws its order (XMemo). -/
import Derived.Test.YtibnackmddigaaaWideC
import Derived.Test.YtibnackmddigaaaWideA
import Derived.Test.YtibnackmddigaaaMemo
namespace Go.Proofs.Ytibnackmddigaaa
open Go.ChangeShapes Go.WideShapes Go.ChangeAt Go.RowKit
set_option linter.unusedVariables false
set_option linter.unusedSimpArgs false
section
variable {a : Act} {w w0 : World} {af : Array Edge} {pos : String} {t : TypeId} {gd : Option (Nat × Bool)}

theorem ld24 {s p d : Nat} {x0 x1 x2 x3 : Int} (h : a.tmps[s]? = some (.pointer (some ⟨p, 0, none⟩))) (ho : Own w p 61 #[.int .u64 x0, .int .u64 x1, .int .u64 x2, .int .u64 x3]) :
    Step Try.prog w0 { dst := some d, op := .load 61 (.tmp s), type := t, pos := pos, after := af, guard := gd } (.val (.agg #[.int .u64 x0, .int .u64 x1, .int .u64 x2, .int .u64 x3])) a w := by
  obtain ⟨h1, h2, h3⟩ := ho.at_
  refine .inl ?_
  simp [go_sem, execOp, h, h1]
theorem al65 {d : Nat} : Step Try.prog w0 { dst := some d, op := .alloc 189, type := t, pos := pos, after := af, guard := gd } (.blk 189 8) a w :=
  ⟨d, #[.int .u64 0, .int .u64 0, .int .u64 0, .int .u64 0, .int .u64 0, .int .u64 0, .int .u64 0, .int .u64 0], rfl, rfl, by simp [go_sem, execOp]⟩
theorem only65 {p : Nat} {x0 x1 x2 x3 x4 x5 x6 x7 : Int} {cs : Array Value} (ho : Own w p 189 cs) (hc : cs.size = 8) :
    Own ((((((((w.setCell ⟨p, 0, none⟩ (.int .u64 x0)).setCell ⟨p, 1, none⟩ (.int .u64 x1)).setCell ⟨p, 2, none⟩ (.int .u64 x2)).setCell ⟨p, 3, none⟩ (.int .u64 x3)).setCell ⟨p, 4, none⟩ (.int .u64 x4)).setCell ⟨p, 5, none⟩ (.int .u64 x5)).setCell ⟨p, 6, none⟩ (.int .u64 x6)).setCell ⟨p, 7, none⟩ (.int .u64 x7)) p 189 #[.int .u64 x0, .int .u64 x1, .int .u64 x2, .int .u64 x3, .int .u64 x4, .int .u64 x5, .int .u64 x6, .int .u64 x7] ∧
    OnlyAt p w ((((((((w.setCell ⟨p, 0, none⟩ (.int .u64 x0)).setCell ⟨p, 1, none⟩ (.int .u64 x1)).setCell ⟨p, 2, none⟩ (.int .u64 x2)).setCell ⟨p, 3, none⟩ (.int .u64 x3)).setCell ⟨p, 4, none⟩ (.int .u64 x4)).setCell ⟨p, 5, none⟩ (.int .u64 x5)).setCell ⟨p, 6, none⟩ (.int .u64 x6)).setCell ⟨p, 7, none⟩ (.int .u64 x7)) ∧
    (∀ B, B ≤ p → Bel B w0 w → Bel B w0 ((((((((w.setCell ⟨p, 0, none⟩ (.int .u64 x0)).setCell ⟨p, 1, none⟩ (.int .u64 x1)).setCell ⟨p, 2, none⟩ (.int .u64 x2)).setCell ⟨p, 3, none⟩ (.int .u64 x3)).setCell ⟨p, 4, none⟩ (.int .u64 x4)).setCell ⟨p, 5, none⟩ (.int .u64 x5)).setCell ⟨p, 6, none⟩ (.int .u64 x6)).setCell ⟨p, 7, none⟩ (.int .u64 x7))) := by
  refine ⟨?_, ⟨by simp [World.setCell], fun q hq => ?_⟩, fun B hp hb => ?_⟩
  · have h := ((((((((ho.put 0 (.int .u64 x0)).put 1 (.int .u64 x1)).put 2 (.int .u64 x2)).put 3 (.int .u64 x3)).put 4 (.int .u64 x4)).put 5 (.int .u64 x5)).put 6 (.int .u64 x6)).put 7 (.int .u64 x7))
    refine h.as ?_
    obtain ⟨l⟩ := cs
    have hl : l.length = 8 := hc
    obtain ⟨y0, l, rfl⟩ := List.exists_cons_of_length_eq_add_one hl
    replace hl : l.length = 7 := by simpa using hl
    obtain ⟨y1, l, rfl⟩ := List.exists_cons_of_length_eq_add_one hl
    replace hl : l.length = 6 := by simpa using hl
    obtain ⟨y2, l, rfl⟩ := List.exists_cons_of_length_eq_add_one hl
    replace hl : l.length = 5 := by simpa using hl
    obtain ⟨y3, l, rfl⟩ := List.exists_cons_of_length_eq_add_one hl
    replace hl : l.length = 4 := by simpa using hl
    obtain ⟨y4, l, rfl⟩ := List.exists_cons_of_length_eq_add_one hl
    replace hl : l.length = 3 := by simpa using hl
    obtain ⟨y5, l, rfl⟩ := List.exists_cons_of_length_eq_add_one hl
    replace hl : l.length = 2 := by simpa using hl
    obtain ⟨y6, l, rfl⟩ := List.exists_cons_of_length_eq_add_one hl
    replace hl : l.length = 1 := by simpa using hl
    obtain ⟨y7, l, rfl⟩ := List.exists_cons_of_length_eq_add_one hl
    replace hl : l.length = 0 := by simpa using hl
    obtain rfl := List.length_eq_zero_iff.1 hl
    simp only [List.setIfInBounds_toArray, List.set_cons_zero, List.set_cons_succ]
  · rw [Bel.heap_setCell _ _ _ _ hq, Bel.heap_setCell _ _ _ _ hq, Bel.heap_setCell _ _ _ _ hq, Bel.heap_setCell _ _ _ _ hq, Bel.heap_setCell _ _ _ _ hq, Bel.heap_setCell _ _ _ _ hq, Bel.heap_setCell _ _ _ _ hq, Bel.heap_setCell _ _ _ _ hq]
  · exact ((((((((hb.setCell hp _).setCell hp _).setCell hp _).setCell hp _).setCell hp _).setCell hp _).setCell hp _).setCell hp _)
theorem st65 {s s' : Nat} {x0 x1 x2 x3 x4 x5 x6 x7 : Int} {g : Nat} {cs0 : Array Value} (h : a.tmps[s]? = some (.pointer (some ⟨g, 0, none⟩))) (ho : Own w g 189 cs0) (hc : cs0.size = 8) (h' : a.tmps[s']? = some (.agg #[.int .u64 x0, .int .u64 x1, .int .u64 x2, .int .u64 x3, .int .u64 x4, .int .u64 x5, .int .u64 x6, .int .u64 x7])) :
    Step Try.prog w0 { dst := none, op := .store 189 (.tmp s) (.tmp s'), type := t, pos := pos, after := af, guard := gd } (.put s 189 #[.int .u64 x0, .int .u64 x1, .int .u64 x2, .int .u64 x3, .int .u64 x4, .int .u64 x5, .int .u64 x6, .int .u64 x7]) a w := by
  refine ⟨rfl, ((((((((w.setCell ⟨g, 0, none⟩ (.int .u64 x0)).setCell ⟨g, 1, none⟩ (.int .u64 x1)).setCell ⟨g, 2, none⟩ (.int .u64 x2)).setCell ⟨g, 3, none⟩ (.int .u64 x3)).setCell ⟨g, 4, none⟩ (.int .u64 x4)).setCell ⟨g, 5, none⟩ (.int .u64 x5)).setCell ⟨g, 6, none⟩ (.int .u64 x6)).setCell ⟨g, 7, none⟩ (.int .u64 x7)), .inl ?_, fun p cs hp hop hcs => ?_⟩
  rotate_left
  · obtain rfl : g = p := by rw [h] at hp; simpa using hp
    exact only65 hop hcs
  · obtain ⟨h1, h2, h3⟩ := ho.at_
    have c0 : cs0[0]? = some cs0[0] := by simp [hc]
    have c1 : cs0[1]? = some cs0[1] := by simp [hc]
    have c2 : cs0[2]? = some cs0[2] := by simp [hc]
    have c3 : cs0[3]? = some cs0[3] := by simp [hc]
    have c4 : cs0[4]? = some cs0[4] := by simp [hc]
    have c5 : cs0[5]? = some cs0[5] := by simp [hc]
    have c6 : cs0[6]? = some cs0[6] := by simp [hc]
    have c7 : cs0[7]? = some cs0[7] := by simp [hc]
    simp [go_sem, execOp, h, h', h1, h2, c0, c1, c2, c3, c4, c5, c6, c7]
theorem sb65 {s s' n0 : Nat} {x0 x1 x2 x3 x4 x5 x6 x7 : Int} (h : Sat n0 (some s) (.blk 189 8) a w) (h' : a.tmps[s']? = some (.agg #[.int .u64 x0, .int .u64 x1, .int .u64 x2, .int .u64 x3, .int .u64 x4, .int .u64 x5, .int .u64 x6, .int .u64 x7])) :
    Step Try.prog w0 { dst := none, op := .store 189 (.tmp s) (.tmp s'), type := t, pos := pos, after := af, guard := gd } (.put s 189 #[.int .u64 x0, .int .u64 x1, .int .u64 x2, .int .u64 x3, .int .u64 x4, .int .u64 x5, .int .u64 x6, .int .u64 x7]) a w := by
  obtain ⟨d, g, cs, hd, ht, _, hc, ho⟩ := h
  obtain rfl : s = d := Option.some.inj hd
  exact st65 ht ho hc h'
theorem enter_of {f : Nat} {fn : Func} (hf : Try.prog.funcs[f]? = some fn) (hn : (fn.name == "runtime.NumGoroutine") = false) (hb : fn.body.isNone = false) (args : Array Value) (w : World) : (callFunc f args).run Try.prog w = .ok (.enter f args) w := by
  simp only [callFunc]
  have h1 : ¬ fn.name = "runtime.NumGoroutine" := by simpa using hn
  have h2 : ¬ fn.body = none := by intro e; rw [e] at hb; cases hb
  simp [go_sem, hf, h1, h2]
theorem cl1 {f s d t' : Nat} {v u : Value} (E : ∀ args w, (callFunc f args).run Try.prog w = .ok (.enter f args) w) (h : a.tmps[s]? = some v) (hc : Calls Try.prog f #[v] w fun e w' => e = .returned u ∧ Bel w.heap.size w w') :
    Step Try.prog w0 { dst := some d, op := .call { callee := .value (.func f), args := #[.tmp s], argTypes := #[t'] }, type := t, pos := pos, after := af, guard := gd } (.val u) a w :=
  .inr ⟨f, _, by simp [go_sem, execOp, h]; exact E _ _, hc⟩
theorem cl2 {f s s' d t' t'' : Nat} {v v' u : Value} (E : ∀ args w, (callFunc f args).run Try.prog w = .ok (.enter f args) w) (h : a.tmps[s]? = some v) (h' : a.tmps[s']? = some v') (hc : Calls Try.prog f #[v, v'] w fun e w' => e = .returned u ∧ Bel w.heap.size w w') :
    Step Try.prog w0 { dst := some d, op := .call { callee := .value (.func f), args := #[.tmp s, .tmp s'], argTypes := #[t', t''] }, type := t, pos := pos, after := af, guard := gd } (.val u) a w :=
  .inr ⟨f, _, by simp [go_sem, execOp, h, h']; exact E _ _, hc⟩
theorem asg {s d : Nat} {v : Value} (h : a.tmps[s]? = some v) : Step Try.prog w0 { dst := some d, op := .assign (.tmp s), type := t, pos := pos, after := af, guard := gd } (.val v) a w :=
  .inl (by simp [go_sem, execOp, h])
theorem asc {d : Nat} {v : Value} : Step Try.prog w0 { dst := some d, op := .assign (.const v), type := t, pos := pos, after := af, guard := gd } (.val v) a w :=
  .inl (by simp [go_sem, execOp])
theorem muli {s s' d : Nat} {x y z : Int} (h : a.tmps[s]? = some (.int .i64 x)) (h' : a.tmps[s']? = some (.int .i64 y)) (hz : IntKind.i64.wrap (x * y) = z) :
    Step Try.prog w0 { dst := some d, op := .binOp .mul 3 (.tmp s) (.tmp s') 3, type := t, pos := pos, after := af, guard := gd } (.val (.int .i64 z)) a w :=
  .inl (by simp [go_sem, execOp, h, h', ← hz])
theorem pickt {c s d : Nat} {v k : Value} (h : a.tmps[c]? = some (.bool true)) (h' : a.tmps[s]? = some v) :
    Step Try.prog w0 { dst := some d, op := .pick (.tmp c) (.tmp s) (.const k), type := t, pos := pos, after := af, guard := gd } (.val v) a w :=
  .inl (by simp [go_sem, execOp, h, h'])
theorem mv {s d : Nat} {v : Value} (h : a.tmps[s]? = some v) : Step Try.prog w0 { dst := some d, op := .move (.tmp s), type := t, pos := pos, after := af, guard := gd } (.val v) a w :=
  .inl (by simp [go_sem, execOp, h])
end
end Go.Proofs.Ytibnackmddigaaa
