
/- Steps of operations in a region (XMemo), written by gen_ops.py: moves, tests, sums, fields, loads, stores, blocks, calls. They speak of no function. -/
import Derived.Test.YtibnackmddigaaaMemoZ
import Derived.Laws.StructEq
namespace Go.Proofs.Ytibnackmddigaaa
open Go.ChangeShapes Go.WideShapes Go.ChangeAt Go.RowKit
set_option linter.unusedVariables false
set_option linter.unusedSimpArgs false
theorem enter_at {f : Nat} {fn : Func} (hf : Try.prog.funcs[f]? = some fn) (hn : (fn.name == "runtime.NumGoroutine") = false := by exact rfl) (hb : fn.body.isNone = false := by exact rfl) : ∀ (args : Array Value) (w : World), (callFunc f args).run Try.prog w = .ok (.enter f args) w := fun args w => enter_of hf hn hb args w
section
variable {a : Act} {w w0 : World} {af : Array Edge} {pos : String} {t : TypeId} {gd : Option (Nat × Bool)}
theorem negi {s d : Nat} {x z : Int} (h : a.tmps[s]? = some (.int .i64 x)) (hz : IntKind.i64.wrap (-x) = z) : Step Try.prog w0 { dst := some d, op := .unOp .neg 3 (.tmp s), type := t, pos := pos, after := af, guard := gd } (.val (.int .i64 z)) a w :=
  .inl (by simp [go_sem, execOp, h, ← hz])
theorem c_eql_tk {s d T : Nat} {k : IntKind} {x y : Int} {b : Bool} (h : a.tmps[s]? = some (.int k x)) (hT : Try.prog.underlying T = some (.int k)) (hb : (x == y) = b) : Step Try.prog w0 { dst := some d, op := .binOp .eql T (.tmp s) (.const (.int k y)) T, type := t, pos := pos, after := af, guard := gd } (.val (.bool b)) a w :=
  .inl (by subst hb; simp [go_sem, execOp, hT, bne, h])
theorem c_lss_tk {s d T : Nat} {k : IntKind} {x y : Int} {b : Bool} (h : a.tmps[s]? = some (.int k x)) (hT : Try.prog.underlying T = some (.int k)) (hb : decide (x < y) = b) : Step Try.prog w0 { dst := some d, op := .binOp .lss T (.tmp s) (.const (.int k y)) T, type := t, pos := pos, after := af, guard := gd } (.val (.bool b)) a w :=
  .inl (by subst hb; simp [go_sem, execOp, hT, bne, h])
theorem n_mul_tt {s s' d : Nat} {x y z : Int} (h : a.tmps[s]? = some (.int .i64 x)) (h' : a.tmps[s']? = some (.int .i64 y)) (hz : IntKind.i64.wrap (x * y) = z) : Step Try.prog w0 { dst := some d, op := .binOp .mul 3 (.tmp s) (.tmp s') 3, type := t, pos := pos, after := af, guard := gd } (.val (.int .i64 z)) a w :=
  .inl (by simp [go_sem, execOp, ← hz, h, h'])
theorem ld_P {s p o d : Nat} {T' : TypeId} {cs : Array Value} {v0 v1 : Value} (h : a.tmps[s]? = some (.pointer (some ⟨p, o, none⟩))) (ho : Own w p T' cs) (c0 : cs[o]? = some v0) (c1 : cs[o + 1]? = some v1) : Step Try.prog w0 { dst := some d, op := .load 37 (.tmp s), type := t, pos := pos, after := af, guard := gd } (.val (.agg #[v0, v1])) a w :=
  by
  obtain ⟨h1, h2, h3⟩ := ho.at_
  refine .inl ?_
  simp [go_sem, execOp, h, h1, Nat.add_assoc, c0, c1]
theorem al_P {d : Nat} : Step Try.prog w0 { dst := some d, op := .alloc 37, type := t, pos := pos, after := af, guard := gd } (.blk 37 2) a w :=
  ⟨d, #[.int .i64 0, .int .i64 0], rfl, rfl, by simp [go_sem, execOp]⟩
theorem only_P {p : Nat} {v0 v1 : Value} {cs : Array Value} (ho : Own w p 37 cs) (hc : cs.size = 2) :
    Own ((w.setCell ⟨p, 0, none⟩ v0).setCell ⟨p, 1, none⟩ v1) p 37 #[v0, v1] ∧ OnlyAt p w ((w.setCell ⟨p, 0, none⟩ v0).setCell ⟨p, 1, none⟩ v1) ∧ (∀ B, B ≤ p → Bel B w0 w → Bel B w0 ((w.setCell ⟨p, 0, none⟩ v0).setCell ⟨p, 1, none⟩ v1)) := by
  refine ⟨?_, ⟨by simp [World.setCell], fun q hq => ?_⟩, fun B hp hb => ?_⟩
  · have h := ((ho.put 0 v0).put 1 v1)
    refine h.as ?_
    obtain ⟨l⟩ := cs
    have hl : l.length = 2 := hc
    obtain ⟨y0, l, rfl⟩ := List.exists_cons_of_length_eq_add_one hl
    replace hl : l.length = 1 := by simpa using hl
    obtain ⟨y1, l, rfl⟩ := List.exists_cons_of_length_eq_add_one hl
    replace hl : l.length = 0 := by simpa using hl
    obtain rfl := List.length_eq_zero_iff.1 hl
    simp only [List.setIfInBounds_toArray, List.set_cons_zero, List.set_cons_succ]
  · rw [Bel.heap_setCell _ _ _ _ hq, Bel.heap_setCell _ _ _ _ hq]
  · exact ((hb.setCell hp _).setCell hp _)
theorem st_P {s s' : Nat} {v0 v1 : Int} {g : Nat} {cs0 : Array Value} (h : a.tmps[s]? = some (.pointer (some ⟨g, 0, none⟩))) (ho : Own w g 37 cs0) (hc : cs0.size = 2) (h' : a.tmps[s']? = some (.agg #[.int .i64 v0, .int .i64 v1])) : Step Try.prog w0 { dst := none, op := .store 37 (.tmp s) (.tmp s'), type := t, pos := pos, after := af, guard := gd } (.put s 37 #[.int .i64 v0, .int .i64 v1]) a w :=
  by
  refine ⟨rfl, ((w.setCell ⟨g, 0, none⟩ (.int .i64 v0)).setCell ⟨g, 1, none⟩ (.int .i64 v1)), .inl ?_, fun p cs hp hop hcs => ?_⟩
  rotate_left
  · obtain rfl : g = p := by rw [h] at hp; simpa using hp
    exact only_P hop hcs
  · obtain ⟨h1, h2, h3⟩ := ho.at_
    have c0 : cs0[0]? = some cs0[0] := by simp [hc]
    have c1 : cs0[1]? = some cs0[1] := by simp [hc]
    simp [go_sem, execOp, h, h', h1, h2, c0, c1]
theorem sb_P {s s' n0 : Nat} {v0 v1 : Int} (h : Sat n0 (some s) (.blk 37 2) a w) (h' : a.tmps[s']? = some (.agg #[.int .i64 v0, .int .i64 v1])) : Step Try.prog w0 { dst := none, op := .store 37 (.tmp s) (.tmp s'), type := t, pos := pos, after := af, guard := gd } (.put s 37 #[.int .i64 v0, .int .i64 v1]) a w :=
  by
  obtain ⟨d, g, cs, hd, ht, _, hc, ho⟩ := h
  obtain rfl : s = d := Option.some.inj hd
  exact st_P ht ho hc h'
theorem e_eql_P {s s' d : Nat} {v0 v1 u0 u1 : Value} {b : Bool} (h : a.tmps[s]? = some (.agg #[v0, v1])) (h' : a.tmps[s']? = some (.agg #[u0, u1])) (E : ∀ w, (Op.equalIn 10000 37 (.agg #[v0, v1]) (.agg #[u0, u1])).run Try.prog w = .ok b w) : Step Try.prog w0 { dst := some d, op := .binOp .eql 37 (.tmp s) (.tmp s') 37, type := t, pos := pos, after := af, guard := gd } (.val (.bool b)) a w :=
  .inl (by simp [go_sem, execOp, h, h', E])
theorem fa_P_0 {s p o d : Nat} (h : a.tmps[s]? = some (.pointer (some ⟨p, o, none⟩))) : Step Try.prog w0 { dst := some d, op := .fieldAddr 37 (.tmp s) 0, type := t, pos := pos, after := af, guard := gd } (.val (.pointer (some ⟨p, o, none⟩))) a w :=
  .inl (by simp [go_sem, execOp, h])
theorem fa_P_1 {s p o d : Nat} (h : a.tmps[s]? = some (.pointer (some ⟨p, o, none⟩))) : Step Try.prog w0 { dst := some d, op := .fieldAddr 37 (.tmp s) 1, type := t, pos := pos, after := af, guard := gd } (.val (.pointer (some ⟨p, o + 1, none⟩))) a w :=
  .inl (by simp [go_sem, execOp, h])
theorem ld_int {s p o d : Nat} {T' : TypeId} {cs : Array Value} {v : Value} (h : a.tmps[s]? = some (.pointer (some ⟨p, o, none⟩))) (ho : Own w p T' cs) (c0 : cs[o]? = some v) : Step Try.prog w0 { dst := some d, op := .load 3 (.tmp s), type := t, pos := pos, after := af, guard := gd } (.val v) a w :=
  by
  obtain ⟨h1, h2, h3⟩ := ho.at_
  refine .inl ?_
  simp [go_sem, execOp, h, h1, c0]
theorem bsP_3 {s0 s1 s2 d : Nat} {x0 y0 x1 y1 x2 y2 : Int} (h0 : a.tmps[s0]? = some (.agg #[.int .i64 x0, .int .i64 y0])) (h1 : a.tmps[s1]? = some (.agg #[.int .i64 x1, .int .i64 y1])) (h2 : a.tmps[s2]? = some (.agg #[.int .i64 x2, .int .i64 y2])) : Step Try.prog w0 { dst := some d, op := .buildSlice 121 3 #[(0, .tmp s0), (1, .tmp s1), (2, .tmp s2)], type := t, pos := pos, after := af, guard := gd } (.new 37 #[.int .i64 x0, .int .i64 y0, .int .i64 x1, .int .i64 y1, .int .i64 x2, .int .i64 y2] (some (3, 3))) a w :=
  ⟨d, rfl, by simp [go_sem, execOp, mkv, h0, h1, h2]⟩
theorem bsP_4 {s0 s1 s2 s3 d : Nat} {x0 y0 x1 y1 x2 y2 x3 y3 : Int} (h0 : a.tmps[s0]? = some (.agg #[.int .i64 x0, .int .i64 y0])) (h1 : a.tmps[s1]? = some (.agg #[.int .i64 x1, .int .i64 y1])) (h2 : a.tmps[s2]? = some (.agg #[.int .i64 x2, .int .i64 y2])) (h3 : a.tmps[s3]? = some (.agg #[.int .i64 x3, .int .i64 y3])) : Step Try.prog w0 { dst := some d, op := .buildSlice 121 4 #[(0, .tmp s0), (1, .tmp s1), (2, .tmp s2), (3, .tmp s3)], type := t, pos := pos, after := af, guard := gd } (.new 37 #[.int .i64 x0, .int .i64 y0, .int .i64 x1, .int .i64 y1, .int .i64 x2, .int .i64 y2, .int .i64 x3, .int .i64 y3] (some (4, 4))) a w :=
  ⟨d, rfl, by simp [go_sem, execOp, mkv, h0, h1, h2, h3]⟩
theorem cl_tt {f d : Nat} {r0 r1 s0 s1 : Nat} {u : Value} {v0 v1 : Value} (E : ∀ args w, (callFunc f args).run Try.prog w = .ok (.enter f args) w) (h0 : a.tmps[s0]? = some v0) (h1 : a.tmps[s1]? = some v1) (hc : Calls Try.prog f #[v0, v1] w fun e w' => e = .returned u ∧ Bel w.heap.size w w') : Step Try.prog w0 { dst := some d, op := .call { callee := .value (.func f), args := #[.tmp s0, .tmp s1], argTypes := #[r0, r1] }, type := t, pos := pos, after := af, guard := gd } (.val u) a w :=
  .inr ⟨f, _, by simp [go_sem, execOp, h0, h1]; exact E _ _, hc⟩
theorem cl_ttt {f d : Nat} {r0 r1 r2 s0 s1 s2 : Nat} {u : Value} {v0 v1 v2 : Value} (E : ∀ args w, (callFunc f args).run Try.prog w = .ok (.enter f args) w) (h0 : a.tmps[s0]? = some v0) (h1 : a.tmps[s1]? = some v1) (h2 : a.tmps[s2]? = some v2) (hc : Calls Try.prog f #[v0, v1, v2] w fun e w' => e = .returned u ∧ Bel w.heap.size w w') : Step Try.prog w0 { dst := some d, op := .call { callee := .value (.func f), args := #[.tmp s0, .tmp s1, .tmp s2], argTypes := #[r0, r1, r2] }, type := t, pos := pos, after := af, guard := gd } (.val u) a w :=
  .inr ⟨f, _, by simp [go_sem, execOp, h0, h1, h2]; exact E _ _, hc⟩
theorem cl_tttt {f d : Nat} {r0 r1 r2 r3 s0 s1 s2 s3 : Nat} {u : Value} {v0 v1 v2 v3 : Value} (E : ∀ args w, (callFunc f args).run Try.prog w = .ok (.enter f args) w) (h0 : a.tmps[s0]? = some v0) (h1 : a.tmps[s1]? = some v1) (h2 : a.tmps[s2]? = some v2) (h3 : a.tmps[s3]? = some v3) (hc : Calls Try.prog f #[v0, v1, v2, v3] w fun e w' => e = .returned u ∧ Bel w.heap.size w w') : Step Try.prog w0 { dst := some d, op := .call { callee := .value (.func f), args := #[.tmp s0, .tmp s1, .tmp s2, .tmp s3], argTypes := #[r0, r1, r2, r3] }, type := t, pos := pos, after := af, guard := gd } (.val u) a w :=
  .inr ⟨f, _, by simp [go_sem, execOp, h0, h1, h2, h3]; exact E _ _, hc⟩
theorem cl_n {f d : Nat} {r0 s0 : Nat} {u : Value} (E : ∀ args w, (callFunc f args).run Try.prog w = .ok (.enter f args) w) {T : TypeId} {cs : Array Value} {q : Option (Nat × Nat)} {n0 : Nat} (h0 : Sat n0 (some s0) (.new T cs q) a w) (hc : ∀ g, Own w g T cs → Calls Try.prog f #[mkv q g] w fun e w' => e = .returned u ∧ Bel w.heap.size w w') : Step Try.prog w0 { dst := some d, op := .call { callee := .value (.func f), args := #[.tmp s0], argTypes := #[r0] }, type := t, pos := pos, after := af, guard := gd } (.val u) a w :=
  by
  obtain ⟨d', g, hd, ht, _, ho⟩ := h0
  obtain rfl := Option.some.inj hd
  exact .inr ⟨f, _, by simp [go_sem, execOp, ht]; exact E _ _, hc g ho⟩
end
end Go.Proofs.Ytibnackmddigaaa
