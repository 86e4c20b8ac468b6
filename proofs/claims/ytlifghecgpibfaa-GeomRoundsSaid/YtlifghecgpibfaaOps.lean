
/- Steps of operations in a region (XMemo), written by gen_ops.py: moves, tests, sums, fields, loads, stores, blocks, calls. They speak of no function. -/
import Derived.Test.YtlifghecgpibfaaMemoZ
import Derived.Laws.StructEq
namespace Go.Proofs.Ytlifghecgpibfaa
open Go.ChangeShapes Go.WideShapes Go.ChangeAt Go.RowKit
set_option linter.unusedVariables false
set_option linter.unusedSimpArgs false
theorem enter_at {f : Nat} {fn : Func} (hf : Try.prog.funcs[f]? = some fn) (hn : (fn.name == "runtime.NumGoroutine") = false := by exact rfl) (hb : fn.body.isNone = false := by exact rfl) : ∀ (args : Array Value) (w : World), (callFunc f args).run Try.prog w = .ok (.enter f args) w := fun args w => enter_of hf hn hb args w
section
variable {a : Act} {w w0 : World} {af : Array Edge} {pos : String} {t : TypeId} {gd : Option (Nat × Bool)}
theorem negi {s d : Nat} {x z : Int} (h : a.tmps[s]? = some (.int .i64 x)) (hz : IntKind.i64.wrap (-x) = z) : Step Try.prog w0 { dst := some d, op := .unOp .neg 3 (.tmp s), type := t, pos := pos, after := af, guard := gd } (.val (.int .i64 z)) a w :=
  .inl (by simp [go_sem, execOp, h, ← hz])
theorem c_eql_tt {s s' d T : Nat} {k : IntKind} {x y : Int} {b : Bool} (h : a.tmps[s]? = some (.int k x)) (h' : a.tmps[s']? = some (.int k y)) (hT : Try.prog.underlying T = some (.int k)) (hb : (x == y) = b) : Step Try.prog w0 { dst := some d, op := .binOp .eql T (.tmp s) (.tmp s') T, type := t, pos := pos, after := af, guard := gd } (.val (.bool b)) a w :=
  .inl (by subst hb; simp [go_sem, execOp, hT, bne, h, h'])
theorem c_eql_tk {s d T : Nat} {k : IntKind} {x y : Int} {b : Bool} (h : a.tmps[s]? = some (.int k x)) (hT : Try.prog.underlying T = some (.int k)) (hb : (x == y) = b) : Step Try.prog w0 { dst := some d, op := .binOp .eql T (.tmp s) (.const (.int k y)) T, type := t, pos := pos, after := af, guard := gd } (.val (.bool b)) a w :=
  .inl (by subst hb; simp [go_sem, execOp, hT, bne, h])
theorem c_neq_tt {s s' d T : Nat} {k : IntKind} {x y : Int} {b : Bool} (h : a.tmps[s]? = some (.int k x)) (h' : a.tmps[s']? = some (.int k y)) (hT : Try.prog.underlying T = some (.int k)) (hb : (!(x == y)) = b) : Step Try.prog w0 { dst := some d, op := .binOp .neq T (.tmp s) (.tmp s') T, type := t, pos := pos, after := af, guard := gd } (.val (.bool b)) a w :=
  .inl (by subst hb; simp [go_sem, execOp, hT, bne, h, h'])
theorem c_neq_tk {s d T : Nat} {k : IntKind} {x y : Int} {b : Bool} (h : a.tmps[s]? = some (.int k x)) (hT : Try.prog.underlying T = some (.int k)) (hb : (!(x == y)) = b) : Step Try.prog w0 { dst := some d, op := .binOp .neq T (.tmp s) (.const (.int k y)) T, type := t, pos := pos, after := af, guard := gd } (.val (.bool b)) a w :=
  .inl (by subst hb; simp [go_sem, execOp, hT, bne, h])
theorem c_lss_tt {s s' d T : Nat} {k : IntKind} {x y : Int} {b : Bool} (h : a.tmps[s]? = some (.int k x)) (h' : a.tmps[s']? = some (.int k y)) (hT : Try.prog.underlying T = some (.int k)) (hb : decide (x < y) = b) : Step Try.prog w0 { dst := some d, op := .binOp .lss T (.tmp s) (.tmp s') T, type := t, pos := pos, after := af, guard := gd } (.val (.bool b)) a w :=
  .inl (by subst hb; simp [go_sem, execOp, hT, bne, h, h'])
theorem c_lss_tk {s d T : Nat} {k : IntKind} {x y : Int} {b : Bool} (h : a.tmps[s]? = some (.int k x)) (hT : Try.prog.underlying T = some (.int k)) (hb : decide (x < y) = b) : Step Try.prog w0 { dst := some d, op := .binOp .lss T (.tmp s) (.const (.int k y)) T, type := t, pos := pos, after := af, guard := gd } (.val (.bool b)) a w :=
  .inl (by subst hb; simp [go_sem, execOp, hT, bne, h])
theorem c_leq_tk {s d T : Nat} {k : IntKind} {x y : Int} {b : Bool} (h : a.tmps[s]? = some (.int k x)) (hT : Try.prog.underlying T = some (.int k)) (hb : decide (x ≤ y) = b) : Step Try.prog w0 { dst := some d, op := .binOp .leq T (.tmp s) (.const (.int k y)) T, type := t, pos := pos, after := af, guard := gd } (.val (.bool b)) a w :=
  .inl (by subst hb; simp [go_sem, execOp, hT, bne, h])
theorem c_gtr_tt {s s' d T : Nat} {k : IntKind} {x y : Int} {b : Bool} (h : a.tmps[s]? = some (.int k x)) (h' : a.tmps[s']? = some (.int k y)) (hT : Try.prog.underlying T = some (.int k)) (hb : decide (y < x) = b) : Step Try.prog w0 { dst := some d, op := .binOp .gtr T (.tmp s) (.tmp s') T, type := t, pos := pos, after := af, guard := gd } (.val (.bool b)) a w :=
  .inl (by subst hb; simp [go_sem, execOp, hT, bne, h, h'])
theorem c_gtr_tk {s d T : Nat} {k : IntKind} {x y : Int} {b : Bool} (h : a.tmps[s]? = some (.int k x)) (hT : Try.prog.underlying T = some (.int k)) (hb : decide (y < x) = b) : Step Try.prog w0 { dst := some d, op := .binOp .gtr T (.tmp s) (.const (.int k y)) T, type := t, pos := pos, after := af, guard := gd } (.val (.bool b)) a w :=
  .inl (by subst hb; simp [go_sem, execOp, hT, bne, h])
theorem n_add_tt {s s' d : Nat} {x y z : Int} (h : a.tmps[s]? = some (.int .i64 x)) (h' : a.tmps[s']? = some (.int .i64 y)) (hz : IntKind.i64.wrap (x + y) = z) : Step Try.prog w0 { dst := some d, op := .binOp .add 3 (.tmp s) (.tmp s') 3, type := t, pos := pos, after := af, guard := gd } (.val (.int .i64 z)) a w :=
  .inl (by simp [go_sem, execOp, ← hz, h, h'])
theorem n_sub_tt {s s' d : Nat} {x y z : Int} (h : a.tmps[s]? = some (.int .i64 x)) (h' : a.tmps[s']? = some (.int .i64 y)) (hz : IntKind.i64.wrap (x - y) = z) : Step Try.prog w0 { dst := some d, op := .binOp .sub 3 (.tmp s) (.tmp s') 3, type := t, pos := pos, after := af, guard := gd } (.val (.int .i64 z)) a w :=
  .inl (by simp [go_sem, execOp, ← hz, h, h'])
theorem n_mul_tt {s s' d : Nat} {x y z : Int} (h : a.tmps[s]? = some (.int .i64 x)) (h' : a.tmps[s']? = some (.int .i64 y)) (hz : IntKind.i64.wrap (x * y) = z) : Step Try.prog w0 { dst := some d, op := .binOp .mul 3 (.tmp s) (.tmp s') 3, type := t, pos := pos, after := af, guard := gd } (.val (.int .i64 z)) a w :=
  .inl (by simp [go_sem, execOp, ← hz, h, h'])
theorem cb_eql_tt {s s' d : Nat} {x y b : Bool} (h : a.tmps[s]? = some (.bool x)) (h' : a.tmps[s']? = some (.bool y)) (hb : (x == y) = b) : Step Try.prog w0 { dst := some d, op := .binOp .eql 4 (.tmp s) (.tmp s') 4, type := t, pos := pos, after := af, guard := gd } (.val (.bool b)) a w :=
  .inl (by subst hb; simp [go_sem, execOp, bne, h, h'])
theorem cb_neq_tt {s s' d : Nat} {x y b : Bool} (h : a.tmps[s]? = some (.bool x)) (h' : a.tmps[s']? = some (.bool y)) (hb : (!(x == y)) = b) : Step Try.prog w0 { dst := some d, op := .binOp .neq 4 (.tmp s) (.tmp s') 4, type := t, pos := pos, after := af, guard := gd } (.val (.bool b)) a w :=
  .inl (by subst hb; simp [go_sem, execOp, bne, h, h'])
theorem ld_P {s p o d : Nat} {T' : TypeId} {cs : Array Value} {v0 v1 : Value} (h : a.tmps[s]? = some (.pointer (some ⟨p, o, none⟩))) (ho : Own w p T' cs) (c0 : cs[o]? = some v0) (c1 : cs[o + 1]? = some v1) : Step Try.prog w0 { dst := some d, op := .load 23 (.tmp s), type := t, pos := pos, after := af, guard := gd } (.val (.agg #[v0, v1])) a w :=
  by
  obtain ⟨h1, h2, h3⟩ := ho.at_
  refine .inl ?_
  simp [go_sem, execOp, h, h1, Nat.add_assoc, c0, c1]
theorem al_P {d : Nat} : Step Try.prog w0 { dst := some d, op := .alloc 23, type := t, pos := pos, after := af, guard := gd } (.blk 23 2) a w :=
  ⟨d, #[.int .i64 0, .int .i64 0], rfl, rfl, by simp [go_sem, execOp]⟩
theorem only_P {p : Nat} {v0 v1 : Value} {cs : Array Value} (ho : Own w p 23 cs) (hc : cs.size = 2) :
    Own ((w.setCell ⟨p, 0, none⟩ v0).setCell ⟨p, 1, none⟩ v1) p 23 #[v0, v1] ∧ OnlyAt p w ((w.setCell ⟨p, 0, none⟩ v0).setCell ⟨p, 1, none⟩ v1) ∧ (∀ B, B ≤ p → Below B w0 w → Below B w0 ((w.setCell ⟨p, 0, none⟩ v0).setCell ⟨p, 1, none⟩ v1)) := by
  refine ⟨?_, ⟨by simp [World.setCell], fun q hq => ?_⟩, fun B hp hb => ?_⟩
  · have h := ((ho.put 0 v0).put 1 v1)
    refine h.as ?_
    obtain ⟨l⟩ := cs
    have hl : l.length = 2 := hc
    obtain ⟨y0, l, rfl⟩ := List.exists_cons_of_length_eq_add_one hl
    replace hl : l.length = 1 := by simpa using hl
    obtain ⟨y1, l, rfl⟩ := List.exists_cons_of_length_eq_add_one hl
    replace hl : l.length = 0 := by simpa using hl
    obtain rfl := List.length_eq_zero_iff.1 hl
    simp only [List.setIfInBounds_toArray, List.set_cons_zero, List.set_cons_succ]
  · rw [Below.heap_setCell _ _ _ _ hq, Below.heap_setCell _ _ _ _ hq]
  · exact ((hb.setCell hp _).setCell hp _)
theorem st_P {s s' : Nat} {v0 v1 : Int} {g : Nat} {cs0 : Array Value} (h : a.tmps[s]? = some (.pointer (some ⟨g, 0, none⟩))) (ho : Own w g 23 cs0) (hc : cs0.size = 2) (h' : a.tmps[s']? = some (.agg #[.int .i64 v0, .int .i64 v1])) : Step Try.prog w0 { dst := none, op := .store 23 (.tmp s) (.tmp s'), type := t, pos := pos, after := af, guard := gd } (.put s 23 #[.int .i64 v0, .int .i64 v1]) a w :=
  by
  refine ⟨rfl, ((w.setCell ⟨g, 0, none⟩ (.int .i64 v0)).setCell ⟨g, 1, none⟩ (.int .i64 v1)), .inl ?_, fun p cs hp hop hcs => ?_⟩
  rotate_left
  · obtain rfl : g = p := by rw [h] at hp; simpa using hp
    exact only_P hop hcs
  · obtain ⟨h1, h2, h3⟩ := ho.at_
    have c0 : cs0[0]? = some cs0[0] := by simp [hc]
    have c1 : cs0[1]? = some cs0[1] := by simp [hc]
    simp [go_sem, execOp, h, h', h1, h2, c0, c1]
theorem sb_P {s s' n0 : Nat} {v0 v1 : Int} (h : Sat n0 (some s) (.blk 23 2) a w) (h' : a.tmps[s']? = some (.agg #[.int .i64 v0, .int .i64 v1])) : Step Try.prog w0 { dst := none, op := .store 23 (.tmp s) (.tmp s'), type := t, pos := pos, after := af, guard := gd } (.put s 23 #[.int .i64 v0, .int .i64 v1]) a w :=
  by
  obtain ⟨d, g, cs, hd, ht, _, hc, ho⟩ := h
  obtain rfl : s = d := Option.some.inj hd
  exact st_P ht ho hc h'
theorem so_P {s s' : Nat} {v0 v1 : Int} {g : Nat} {cs0 : Array Value} (h : a.tmps[s]? = some (.pointer (some ⟨g, 0, none⟩))) (ho : Own w g 23 cs0) (hc : cs0.size = 2) (h' : a.tmps[s']? = some (.agg #[.int .i64 v0, .int .i64 v1])) : Step Try.prog w0 { dst := none, op := .store 23 (.tmp s) (.tmp s'), type := t, pos := pos, after := af, guard := gd } (.sto g 23 #[.int .i64 v0, .int .i64 v1]) a w :=
  by
  refine ⟨rfl, ((w.setCell ⟨g, 0, none⟩ (.int .i64 v0)).setCell ⟨g, 1, none⟩ (.int .i64 v1)), .inl ?_, only_P ho hc⟩
  · obtain ⟨h1, h2, h3⟩ := ho.at_
    have c0 : cs0[0]? = some cs0[0] := by simp [hc]
    have c1 : cs0[1]? = some cs0[1] := by simp [hc]
    simp [go_sem, execOp, h, h', h1, h2, c0, c1]
theorem e_eql_P {s s' d : Nat} {v0 v1 u0 u1 : Value} {b : Bool} (h : a.tmps[s]? = some (.agg #[v0, v1])) (h' : a.tmps[s']? = some (.agg #[u0, u1])) (E : ∀ w, (Op.equalIn 10000 23 (.agg #[v0, v1]) (.agg #[u0, u1])).run Try.prog w = .ok b w) : Step Try.prog w0 { dst := some d, op := .binOp .eql 23 (.tmp s) (.tmp s') 23, type := t, pos := pos, after := af, guard := gd } (.val (.bool b)) a w :=
  .inl (by simp [go_sem, execOp, h, h', E])
theorem e_neq_P {s s' d : Nat} {v0 v1 u0 u1 : Value} {b : Bool} (h : a.tmps[s]? = some (.agg #[v0, v1])) (h' : a.tmps[s']? = some (.agg #[u0, u1])) (E : ∀ w, (Op.equalIn 10000 23 (.agg #[v0, v1]) (.agg #[u0, u1])).run Try.prog w = .ok b w) : Step Try.prog w0 { dst := some d, op := .binOp .neq 23 (.tmp s) (.tmp s') 23, type := t, pos := pos, after := af, guard := gd } (.val (.bool (!b))) a w :=
  .inl (by simp [go_sem, execOp, h, h', E])
theorem bd0_P {d : Nat} : Step Try.prog w0 { dst := some d, op := .build 23 #[], type := t, pos := pos, after := af, guard := gd } (.val (.agg #[.int .i64 0, .int .i64 0])) a w :=
  .inl (by simp [go_sem, execOp])
theorem ld_W {s p o d : Nat} {T' : TypeId} {cs : Array Value} {v0 v1 v2 v3 : Value} (h : a.tmps[s]? = some (.pointer (some ⟨p, o, none⟩))) (ho : Own w p T' cs) (c0 : cs[o]? = some v0) (c1 : cs[o + 1]? = some v1) (c2 : cs[o + 2]? = some v2) (c3 : cs[o + 3]? = some v3) : Step Try.prog w0 { dst := some d, op := .load 34 (.tmp s), type := t, pos := pos, after := af, guard := gd } (.val (.agg #[v0, v1, v2, v3])) a w :=
  by
  obtain ⟨h1, h2, h3⟩ := ho.at_
  refine .inl ?_
  simp [go_sem, execOp, h, h1, Nat.add_assoc, c0, c1, c2, c3]
theorem al_W {d : Nat} : Step Try.prog w0 { dst := some d, op := .alloc 34, type := t, pos := pos, after := af, guard := gd } (.blk 34 4) a w :=
  ⟨d, #[.int .u64 0, .int .u64 0, .int .u64 0, .int .u64 0], rfl, rfl, by simp [go_sem, execOp]⟩
theorem only_W {p : Nat} {v0 v1 v2 v3 : Value} {cs : Array Value} (ho : Own w p 34 cs) (hc : cs.size = 4) :
    Own ((((w.setCell ⟨p, 0, none⟩ v0).setCell ⟨p, 1, none⟩ v1).setCell ⟨p, 2, none⟩ v2).setCell ⟨p, 3, none⟩ v3) p 34 #[v0, v1, v2, v3] ∧ OnlyAt p w ((((w.setCell ⟨p, 0, none⟩ v0).setCell ⟨p, 1, none⟩ v1).setCell ⟨p, 2, none⟩ v2).setCell ⟨p, 3, none⟩ v3) ∧ (∀ B, B ≤ p → Below B w0 w → Below B w0 ((((w.setCell ⟨p, 0, none⟩ v0).setCell ⟨p, 1, none⟩ v1).setCell ⟨p, 2, none⟩ v2).setCell ⟨p, 3, none⟩ v3)) := by
  refine ⟨?_, ⟨by simp [World.setCell], fun q hq => ?_⟩, fun B hp hb => ?_⟩
  · have h := ((((ho.put 0 v0).put 1 v1).put 2 v2).put 3 v3)
    refine h.as ?_
    obtain ⟨l⟩ := cs
    have hl : l.length = 4 := hc
    obtain ⟨y0, l, rfl⟩ := List.exists_cons_of_length_eq_add_one hl
    replace hl : l.length = 3 := by simpa using hl
    obtain ⟨y1, l, rfl⟩ := List.exists_cons_of_length_eq_add_one hl
    replace hl : l.length = 2 := by simpa using hl
    obtain ⟨y2, l, rfl⟩ := List.exists_cons_of_length_eq_add_one hl
    replace hl : l.length = 1 := by simpa using hl
    obtain ⟨y3, l, rfl⟩ := List.exists_cons_of_length_eq_add_one hl
    replace hl : l.length = 0 := by simpa using hl
    obtain rfl := List.length_eq_zero_iff.1 hl
    simp only [List.setIfInBounds_toArray, List.set_cons_zero, List.set_cons_succ]
  · rw [Below.heap_setCell _ _ _ _ hq, Below.heap_setCell _ _ _ _ hq, Below.heap_setCell _ _ _ _ hq, Below.heap_setCell _ _ _ _ hq]
  · exact ((((hb.setCell hp _).setCell hp _).setCell hp _).setCell hp _)
theorem st_W {s s' : Nat} {v0 v1 v2 v3 : Int} {g : Nat} {cs0 : Array Value} (h : a.tmps[s]? = some (.pointer (some ⟨g, 0, none⟩))) (ho : Own w g 34 cs0) (hc : cs0.size = 4) (h' : a.tmps[s']? = some (.agg #[.int .u64 v0, .int .u64 v1, .int .u64 v2, .int .u64 v3])) : Step Try.prog w0 { dst := none, op := .store 34 (.tmp s) (.tmp s'), type := t, pos := pos, after := af, guard := gd } (.put s 34 #[.int .u64 v0, .int .u64 v1, .int .u64 v2, .int .u64 v3]) a w :=
  by
  refine ⟨rfl, ((((w.setCell ⟨g, 0, none⟩ (.int .u64 v0)).setCell ⟨g, 1, none⟩ (.int .u64 v1)).setCell ⟨g, 2, none⟩ (.int .u64 v2)).setCell ⟨g, 3, none⟩ (.int .u64 v3)), .inl ?_, fun p cs hp hop hcs => ?_⟩
  rotate_left
  · obtain rfl : g = p := by rw [h] at hp; simpa using hp
    exact only_W hop hcs
  · obtain ⟨h1, h2, h3⟩ := ho.at_
    have c0 : cs0[0]? = some cs0[0] := by simp [hc]
    have c1 : cs0[1]? = some cs0[1] := by simp [hc]
    have c2 : cs0[2]? = some cs0[2] := by simp [hc]
    have c3 : cs0[3]? = some cs0[3] := by simp [hc]
    simp [go_sem, execOp, h, h', h1, h2, c0, c1, c2, c3]
theorem sb_W {s s' n0 : Nat} {v0 v1 v2 v3 : Int} (h : Sat n0 (some s) (.blk 34 4) a w) (h' : a.tmps[s']? = some (.agg #[.int .u64 v0, .int .u64 v1, .int .u64 v2, .int .u64 v3])) : Step Try.prog w0 { dst := none, op := .store 34 (.tmp s) (.tmp s'), type := t, pos := pos, after := af, guard := gd } (.put s 34 #[.int .u64 v0, .int .u64 v1, .int .u64 v2, .int .u64 v3]) a w :=
  by
  obtain ⟨d, g, cs, hd, ht, _, hc, ho⟩ := h
  obtain rfl : s = d := Option.some.inj hd
  exact st_W ht ho hc h'
theorem so_W {s s' : Nat} {v0 v1 v2 v3 : Int} {g : Nat} {cs0 : Array Value} (h : a.tmps[s]? = some (.pointer (some ⟨g, 0, none⟩))) (ho : Own w g 34 cs0) (hc : cs0.size = 4) (h' : a.tmps[s']? = some (.agg #[.int .u64 v0, .int .u64 v1, .int .u64 v2, .int .u64 v3])) : Step Try.prog w0 { dst := none, op := .store 34 (.tmp s) (.tmp s'), type := t, pos := pos, after := af, guard := gd } (.sto g 34 #[.int .u64 v0, .int .u64 v1, .int .u64 v2, .int .u64 v3]) a w :=
  by
  refine ⟨rfl, ((((w.setCell ⟨g, 0, none⟩ (.int .u64 v0)).setCell ⟨g, 1, none⟩ (.int .u64 v1)).setCell ⟨g, 2, none⟩ (.int .u64 v2)).setCell ⟨g, 3, none⟩ (.int .u64 v3)), .inl ?_, only_W ho hc⟩
  · obtain ⟨h1, h2, h3⟩ := ho.at_
    have c0 : cs0[0]? = some cs0[0] := by simp [hc]
    have c1 : cs0[1]? = some cs0[1] := by simp [hc]
    have c2 : cs0[2]? = some cs0[2] := by simp [hc]
    have c3 : cs0[3]? = some cs0[3] := by simp [hc]
    simp [go_sem, execOp, h, h', h1, h2, c0, c1, c2, c3]
theorem e_eql_W {s s' d : Nat} {v0 v1 v2 v3 u0 u1 u2 u3 : Value} {b : Bool} (h : a.tmps[s]? = some (.agg #[v0, v1, v2, v3])) (h' : a.tmps[s']? = some (.agg #[u0, u1, u2, u3])) (E : ∀ w, (Op.equalIn 10000 34 (.agg #[v0, v1, v2, v3]) (.agg #[u0, u1, u2, u3])).run Try.prog w = .ok b w) : Step Try.prog w0 { dst := some d, op := .binOp .eql 34 (.tmp s) (.tmp s') 34, type := t, pos := pos, after := af, guard := gd } (.val (.bool b)) a w :=
  .inl (by simp [go_sem, execOp, h, h', E])
theorem bd0_W {d : Nat} : Step Try.prog w0 { dst := some d, op := .build 34 #[], type := t, pos := pos, after := af, guard := gd } (.val (.agg #[.int .u64 0, .int .u64 0, .int .u64 0, .int .u64 0])) a w :=
  .inl (by simp [go_sem, execOp])
theorem ld_R {s p o d : Nat} {T' : TypeId} {cs : Array Value} {v0 v1 v2 v3 v4 v5 v6 v7 : Value} (h : a.tmps[s]? = some (.pointer (some ⟨p, o, none⟩))) (ho : Own w p T' cs) (c0 : cs[o]? = some v0) (c1 : cs[o + 1]? = some v1) (c2 : cs[o + 2]? = some v2) (c3 : cs[o + 3]? = some v3) (c4 : cs[o + 4]? = some v4) (c5 : cs[o + 5]? = some v5) (c6 : cs[o + 6]? = some v6) (c7 : cs[o + 7]? = some v7) : Step Try.prog w0 { dst := some d, op := .load 36 (.tmp s), type := t, pos := pos, after := af, guard := gd } (.val (.agg #[v0, v1, v2, v3, v4, v5, v6, v7])) a w :=
  by
  obtain ⟨h1, h2, h3⟩ := ho.at_
  refine .inl ?_
  simp [go_sem, execOp, h, h1, Nat.add_assoc, c0, c1, c2, c3, c4, c5, c6, c7]
theorem al_R {d : Nat} : Step Try.prog w0 { dst := some d, op := .alloc 36, type := t, pos := pos, after := af, guard := gd } (.blk 36 8) a w :=
  ⟨d, #[.int .u64 0, .int .u64 0, .int .u64 0, .int .u64 0, .int .u64 0, .int .u64 0, .int .u64 0, .int .u64 0], rfl, rfl, by simp [go_sem, execOp]⟩
theorem only_R {p : Nat} {v0 v1 v2 v3 v4 v5 v6 v7 : Value} {cs : Array Value} (ho : Own w p 36 cs) (hc : cs.size = 8) :
    Own ((((((((w.setCell ⟨p, 0, none⟩ v0).setCell ⟨p, 1, none⟩ v1).setCell ⟨p, 2, none⟩ v2).setCell ⟨p, 3, none⟩ v3).setCell ⟨p, 4, none⟩ v4).setCell ⟨p, 5, none⟩ v5).setCell ⟨p, 6, none⟩ v6).setCell ⟨p, 7, none⟩ v7) p 36 #[v0, v1, v2, v3, v4, v5, v6, v7] ∧ OnlyAt p w ((((((((w.setCell ⟨p, 0, none⟩ v0).setCell ⟨p, 1, none⟩ v1).setCell ⟨p, 2, none⟩ v2).setCell ⟨p, 3, none⟩ v3).setCell ⟨p, 4, none⟩ v4).setCell ⟨p, 5, none⟩ v5).setCell ⟨p, 6, none⟩ v6).setCell ⟨p, 7, none⟩ v7) ∧ (∀ B, B ≤ p → Below B w0 w → Below B w0 ((((((((w.setCell ⟨p, 0, none⟩ v0).setCell ⟨p, 1, none⟩ v1).setCell ⟨p, 2, none⟩ v2).setCell ⟨p, 3, none⟩ v3).setCell ⟨p, 4, none⟩ v4).setCell ⟨p, 5, none⟩ v5).setCell ⟨p, 6, none⟩ v6).setCell ⟨p, 7, none⟩ v7)) := by
  refine ⟨?_, ⟨by simp [World.setCell], fun q hq => ?_⟩, fun B hp hb => ?_⟩
  · have h := ((((((((ho.put 0 v0).put 1 v1).put 2 v2).put 3 v3).put 4 v4).put 5 v5).put 6 v6).put 7 v7)
    refine h.as ?_
    obtain ⟨l⟩ := cs
    have hl : l.length = 8 := hc
    obtain ⟨y0, l, rfl⟩ := List.exists_cons_of_length_eq_add_one hl
    replace hl : l.length = 7 := by simpa using hl
    obtain ⟨y1, l, rfl⟩ := List.exists_cons_of_length_eq_add_one hl
    replace hl : l.length = 6 := by simpa using hl
    obtain ⟨y2, l, rfl⟩ := List.exists_cons_of_length_eq_add_one hl
    replace hl : l.length = 5 := by simpa using hl
    obtain ⟨y3, l, rfl⟩ := List.exists_cons_of_length_eq_add_one hl
    replace hl : l.length = 4 := by simpa using hl
    obtain ⟨y4, l, rfl⟩ := List.exists_cons_of_length_eq_add_one hl
    replace hl : l.length = 3 := by simpa using hl
    obtain ⟨y5, l, rfl⟩ := List.exists_cons_of_length_eq_add_one hl
    replace hl : l.length = 2 := by simpa using hl
    obtain ⟨y6, l, rfl⟩ := List.exists_cons_of_length_eq_add_one hl
    replace hl : l.length = 1 := by simpa using hl
    obtain ⟨y7, l, rfl⟩ := List.exists_cons_of_length_eq_add_one hl
    replace hl : l.length = 0 := by simpa using hl
    obtain rfl := List.length_eq_zero_iff.1 hl
    simp only [List.setIfInBounds_toArray, List.set_cons_zero, List.set_cons_succ]
  · rw [Below.heap_setCell _ _ _ _ hq, Below.heap_setCell _ _ _ _ hq, Below.heap_setCell _ _ _ _ hq, Below.heap_setCell _ _ _ _ hq, Below.heap_setCell _ _ _ _ hq, Below.heap_setCell _ _ _ _ hq, Below.heap_setCell _ _ _ _ hq, Below.heap_setCell _ _ _ _ hq]
  · exact ((((((((hb.setCell hp _).setCell hp _).setCell hp _).setCell hp _).setCell hp _).setCell hp _).setCell hp _).setCell hp _)
theorem st_R {s s' : Nat} {v0 v1 v2 v3 v4 v5 v6 v7 : Int} {g : Nat} {cs0 : Array Value} (h : a.tmps[s]? = some (.pointer (some ⟨g, 0, none⟩))) (ho : Own w g 36 cs0) (hc : cs0.size = 8) (h' : a.tmps[s']? = some (.agg #[.int .u64 v0, .int .u64 v1, .int .u64 v2, .int .u64 v3, .int .u64 v4, .int .u64 v5, .int .u64 v6, .int .u64 v7])) : Step Try.prog w0 { dst := none, op := .store 36 (.tmp s) (.tmp s'), type := t, pos := pos, after := af, guard := gd } (.put s 36 #[.int .u64 v0, .int .u64 v1, .int .u64 v2, .int .u64 v3, .int .u64 v4, .int .u64 v5, .int .u64 v6, .int .u64 v7]) a w :=
  by
  refine ⟨rfl, ((((((((w.setCell ⟨g, 0, none⟩ (.int .u64 v0)).setCell ⟨g, 1, none⟩ (.int .u64 v1)).setCell ⟨g, 2, none⟩ (.int .u64 v2)).setCell ⟨g, 3, none⟩ (.int .u64 v3)).setCell ⟨g, 4, none⟩ (.int .u64 v4)).setCell ⟨g, 5, none⟩ (.int .u64 v5)).setCell ⟨g, 6, none⟩ (.int .u64 v6)).setCell ⟨g, 7, none⟩ (.int .u64 v7)), .inl ?_, fun p cs hp hop hcs => ?_⟩
  rotate_left
  · obtain rfl : g = p := by rw [h] at hp; simpa using hp
    exact only_R hop hcs
  · obtain ⟨h1, h2, h3⟩ := ho.at_
    have c0 : cs0[0]? = some cs0[0] := by simp [hc]
    have c1 : cs0[1]? = some cs0[1] := by simp [hc]
    have c2 : cs0[2]? = some cs0[2] := by simp [hc]
    have c3 : cs0[3]? = some cs0[3] := by simp [hc]
    have c4 : cs0[4]? = some cs0[4] := by simp [hc]
    have c5 : cs0[5]? = some cs0[5] := by simp [hc]
    have c6 : cs0[6]? = some cs0[6] := by simp [hc]
    have c7 : cs0[7]? = some cs0[7] := by simp [hc]
    simp [go_sem, execOp, h, h', h1, h2, c0, c1, c2, c3, c4, c5, c6, c7]
theorem sb_R {s s' n0 : Nat} {v0 v1 v2 v3 v4 v5 v6 v7 : Int} (h : Sat n0 (some s) (.blk 36 8) a w) (h' : a.tmps[s']? = some (.agg #[.int .u64 v0, .int .u64 v1, .int .u64 v2, .int .u64 v3, .int .u64 v4, .int .u64 v5, .int .u64 v6, .int .u64 v7])) : Step Try.prog w0 { dst := none, op := .store 36 (.tmp s) (.tmp s'), type := t, pos := pos, after := af, guard := gd } (.put s 36 #[.int .u64 v0, .int .u64 v1, .int .u64 v2, .int .u64 v3, .int .u64 v4, .int .u64 v5, .int .u64 v6, .int .u64 v7]) a w :=
  by
  obtain ⟨d, g, cs, hd, ht, _, hc, ho⟩ := h
  obtain rfl : s = d := Option.some.inj hd
  exact st_R ht ho hc h'
theorem so_R {s s' : Nat} {v0 v1 v2 v3 v4 v5 v6 v7 : Int} {g : Nat} {cs0 : Array Value} (h : a.tmps[s]? = some (.pointer (some ⟨g, 0, none⟩))) (ho : Own w g 36 cs0) (hc : cs0.size = 8) (h' : a.tmps[s']? = some (.agg #[.int .u64 v0, .int .u64 v1, .int .u64 v2, .int .u64 v3, .int .u64 v4, .int .u64 v5, .int .u64 v6, .int .u64 v7])) : Step Try.prog w0 { dst := none, op := .store 36 (.tmp s) (.tmp s'), type := t, pos := pos, after := af, guard := gd } (.sto g 36 #[.int .u64 v0, .int .u64 v1, .int .u64 v2, .int .u64 v3, .int .u64 v4, .int .u64 v5, .int .u64 v6, .int .u64 v7]) a w :=
  by
  refine ⟨rfl, ((((((((w.setCell ⟨g, 0, none⟩ (.int .u64 v0)).setCell ⟨g, 1, none⟩ (.int .u64 v1)).setCell ⟨g, 2, none⟩ (.int .u64 v2)).setCell ⟨g, 3, none⟩ (.int .u64 v3)).setCell ⟨g, 4, none⟩ (.int .u64 v4)).setCell ⟨g, 5, none⟩ (.int .u64 v5)).setCell ⟨g, 6, none⟩ (.int .u64 v6)).setCell ⟨g, 7, none⟩ (.int .u64 v7)), .inl ?_, only_R ho hc⟩
  · obtain ⟨h1, h2, h3⟩ := ho.at_
    have c0 : cs0[0]? = some cs0[0] := by simp [hc]
    have c1 : cs0[1]? = some cs0[1] := by simp [hc]
    have c2 : cs0[2]? = some cs0[2] := by simp [hc]
    have c3 : cs0[3]? = some cs0[3] := by simp [hc]
    have c4 : cs0[4]? = some cs0[4] := by simp [hc]
    have c5 : cs0[5]? = some cs0[5] := by simp [hc]
    have c6 : cs0[6]? = some cs0[6] := by simp [hc]
    have c7 : cs0[7]? = some cs0[7] := by simp [hc]
    simp [go_sem, execOp, h, h', h1, h2, c0, c1, c2, c3, c4, c5, c6, c7]
theorem e_eql_R {s s' d : Nat} {v0 v1 v2 v3 v4 v5 v6 v7 u0 u1 u2 u3 u4 u5 u6 u7 : Value} {b : Bool} (h : a.tmps[s]? = some (.agg #[v0, v1, v2, v3, v4, v5, v6, v7])) (h' : a.tmps[s']? = some (.agg #[u0, u1, u2, u3, u4, u5, u6, u7])) (E : ∀ w, (Op.equalIn 10000 36 (.agg #[v0, v1, v2, v3, v4, v5, v6, v7]) (.agg #[u0, u1, u2, u3, u4, u5, u6, u7])).run Try.prog w = .ok b w) : Step Try.prog w0 { dst := some d, op := .binOp .eql 36 (.tmp s) (.tmp s') 36, type := t, pos := pos, after := af, guard := gd } (.val (.bool b)) a w :=
  .inl (by simp [go_sem, execOp, h, h', E])
theorem e_neq_R {s s' d : Nat} {v0 v1 v2 v3 v4 v5 v6 v7 u0 u1 u2 u3 u4 u5 u6 u7 : Value} {b : Bool} (h : a.tmps[s]? = some (.agg #[v0, v1, v2, v3, v4, v5, v6, v7])) (h' : a.tmps[s']? = some (.agg #[u0, u1, u2, u3, u4, u5, u6, u7])) (E : ∀ w, (Op.equalIn 10000 36 (.agg #[v0, v1, v2, v3, v4, v5, v6, v7]) (.agg #[u0, u1, u2, u3, u4, u5, u6, u7])).run Try.prog w = .ok b w) : Step Try.prog w0 { dst := some d, op := .binOp .neq 36 (.tmp s) (.tmp s') 36, type := t, pos := pos, after := af, guard := gd } (.val (.bool (!b))) a w :=
  .inl (by simp [go_sem, execOp, h, h', E])
theorem bd0_R {d : Nat} : Step Try.prog w0 { dst := some d, op := .build 36 #[], type := t, pos := pos, after := af, guard := gd } (.val (.agg #[.int .u64 0, .int .u64 0, .int .u64 0, .int .u64 0, .int .u64 0, .int .u64 0, .int .u64 0, .int .u64 0])) a w :=
  .inl (by simp [go_sem, execOp])
theorem fa_P_0 {s p o d : Nat} (h : a.tmps[s]? = some (.pointer (some ⟨p, o, none⟩))) : Step Try.prog w0 { dst := some d, op := .fieldAddr 23 (.tmp s) 0, type := t, pos := pos, after := af, guard := gd } (.val (.pointer (some ⟨p, o, none⟩))) a w :=
  .inl (by simp [go_sem, execOp, h])
theorem fa_P_1 {s p o d : Nat} (h : a.tmps[s]? = some (.pointer (some ⟨p, o, none⟩))) : Step Try.prog w0 { dst := some d, op := .fieldAddr 23 (.tmp s) 1, type := t, pos := pos, after := af, guard := gd } (.val (.pointer (some ⟨p, o + 1, none⟩))) a w :=
  .inl (by simp [go_sem, execOp, h])
theorem fa_R_0 {s p o d : Nat} (h : a.tmps[s]? = some (.pointer (some ⟨p, o, none⟩))) : Step Try.prog w0 { dst := some d, op := .fieldAddr 36 (.tmp s) 0, type := t, pos := pos, after := af, guard := gd } (.val (.pointer (some ⟨p, o, none⟩))) a w :=
  .inl (by simp [go_sem, execOp, h])
theorem fa_R_1 {s p o d : Nat} (h : a.tmps[s]? = some (.pointer (some ⟨p, o, none⟩))) : Step Try.prog w0 { dst := some d, op := .fieldAddr 36 (.tmp s) 1, type := t, pos := pos, after := af, guard := gd } (.val (.pointer (some ⟨p, o + 4, none⟩))) a w :=
  .inl (by simp [go_sem, execOp, h])
theorem bdP_tt {s s' d : Nat} {x y : Int} (h : a.tmps[s]? = some (.int .i64 x)) (h' : a.tmps[s']? = some (.int .i64 y)) : Step Try.prog w0 { dst := some d, op := .build 23 #[(0, .tmp s), (1, .tmp s')], type := t, pos := pos, after := af, guard := gd } (.val (.agg #[.int .i64 x, .int .i64 y])) a w :=
  .inl (by simp [go_sem, execOp, h, h'])
theorem bdP_kk {d : Nat} {x y : Int} : Step Try.prog w0 { dst := some d, op := .build 23 #[(0, .const (.int .i64 x)), (1, .const (.int .i64 y))], type := t, pos := pos, after := af, guard := gd } (.val (.agg #[.int .i64 x, .int .i64 y])) a w :=
  .inl (by simp [go_sem, execOp])
theorem bdP_k {d : Nat} {x : Int} : Step Try.prog w0 { dst := some d, op := .build 23 #[(0, .const (.int .i64 x))], type := t, pos := pos, after := af, guard := gd } (.val (.agg #[.int .i64 x, .int .i64 0])) a w :=
  .inl (by simp [go_sem, execOp])
theorem bdR_tt {s s' d : Nat} {x0 x1 x2 x3 y0 y1 y2 y3 : Int} (h : a.tmps[s]? = some (.agg #[.int .u64 x0, .int .u64 x1, .int .u64 x2, .int .u64 x3])) (h' : a.tmps[s']? = some (.agg #[.int .u64 y0, .int .u64 y1, .int .u64 y2, .int .u64 y3])) : Step Try.prog w0 { dst := some d, op := .build 36 #[(0, .tmp s), (1, .tmp s')], type := t, pos := pos, after := af, guard := gd } (.val (.agg #[.int .u64 x0, .int .u64 x1, .int .u64 x2, .int .u64 x3, .int .u64 y0, .int .u64 y1, .int .u64 y2, .int .u64 y3])) a w :=
  .inl (by simp [go_sem, execOp, h, h'])
theorem ld_int {s p o d : Nat} {T' : TypeId} {cs : Array Value} {v : Value} (h : a.tmps[s]? = some (.pointer (some ⟨p, o, none⟩))) (ho : Own w p T' cs) (c0 : cs[o]? = some v) : Step Try.prog w0 { dst := some d, op := .load 3 (.tmp s), type := t, pos := pos, after := af, guard := gd } (.val v) a w :=
  by
  obtain ⟨h1, h2, h3⟩ := ho.at_
  refine .inl ?_
  simp [go_sem, execOp, h, h1, c0]
theorem ld_errno {s p o d : Nat} {T' : TypeId} {cs : Array Value} {v : Value} (h : a.tmps[s]? = some (.pointer (some ⟨p, o, none⟩))) (ho : Own w p T' cs) (c0 : cs[o]? = some v) : Step Try.prog w0 { dst := some d, op := .load 37 (.tmp s), type := t, pos := pos, after := af, guard := gd } (.val v) a w :=
  by
  obtain ⟨h1, h2, h3⟩ := ho.at_
  refine .inl ?_
  simp [go_sem, execOp, h, h1, c0]
theorem bsP_2 {s0 s1 d : Nat} {x0 y0 x1 y1 : Int} (h0 : a.tmps[s0]? = some (.agg #[.int .i64 x0, .int .i64 y0])) (h1 : a.tmps[s1]? = some (.agg #[.int .i64 x1, .int .i64 y1])) : Step Try.prog w0 { dst := some d, op := .buildSlice 43 2 #[(0, .tmp s0), (1, .tmp s1)], type := t, pos := pos, after := af, guard := gd } (.new 23 #[.int .i64 x0, .int .i64 y0, .int .i64 x1, .int .i64 y1] (some (2, 2))) a w :=
  ⟨d, rfl, by simp [go_sem, execOp, mkv, h0, h1]⟩
theorem bsP_3 {s0 s1 s2 d : Nat} {x0 y0 x1 y1 x2 y2 : Int} (h0 : a.tmps[s0]? = some (.agg #[.int .i64 x0, .int .i64 y0])) (h1 : a.tmps[s1]? = some (.agg #[.int .i64 x1, .int .i64 y1])) (h2 : a.tmps[s2]? = some (.agg #[.int .i64 x2, .int .i64 y2])) : Step Try.prog w0 { dst := some d, op := .buildSlice 43 3 #[(0, .tmp s0), (1, .tmp s1), (2, .tmp s2)], type := t, pos := pos, after := af, guard := gd } (.new 23 #[.int .i64 x0, .int .i64 y0, .int .i64 x1, .int .i64 y1, .int .i64 x2, .int .i64 y2] (some (3, 3))) a w :=
  ⟨d, rfl, by simp [go_sem, execOp, mkv, h0, h1, h2]⟩
theorem bsP_4 {s0 s1 s2 s3 d : Nat} {x0 y0 x1 y1 x2 y2 x3 y3 : Int} (h0 : a.tmps[s0]? = some (.agg #[.int .i64 x0, .int .i64 y0])) (h1 : a.tmps[s1]? = some (.agg #[.int .i64 x1, .int .i64 y1])) (h2 : a.tmps[s2]? = some (.agg #[.int .i64 x2, .int .i64 y2])) (h3 : a.tmps[s3]? = some (.agg #[.int .i64 x3, .int .i64 y3])) : Step Try.prog w0 { dst := some d, op := .buildSlice 43 4 #[(0, .tmp s0), (1, .tmp s1), (2, .tmp s2), (3, .tmp s3)], type := t, pos := pos, after := af, guard := gd } (.new 23 #[.int .i64 x0, .int .i64 y0, .int .i64 x1, .int .i64 y1, .int .i64 x2, .int .i64 y2, .int .i64 x3, .int .i64 y3] (some (4, 4))) a w :=
  ⟨d, rfl, by simp [go_sem, execOp, mkv, h0, h1, h2, h3]⟩
theorem bsP_5 {s0 s1 s2 s3 s4 d : Nat} {x0 y0 x1 y1 x2 y2 x3 y3 x4 y4 : Int} (h0 : a.tmps[s0]? = some (.agg #[.int .i64 x0, .int .i64 y0])) (h1 : a.tmps[s1]? = some (.agg #[.int .i64 x1, .int .i64 y1])) (h2 : a.tmps[s2]? = some (.agg #[.int .i64 x2, .int .i64 y2])) (h3 : a.tmps[s3]? = some (.agg #[.int .i64 x3, .int .i64 y3])) (h4 : a.tmps[s4]? = some (.agg #[.int .i64 x4, .int .i64 y4])) : Step Try.prog w0 { dst := some d, op := .buildSlice 43 5 #[(0, .tmp s0), (1, .tmp s1), (2, .tmp s2), (3, .tmp s3), (4, .tmp s4)], type := t, pos := pos, after := af, guard := gd } (.new 23 #[.int .i64 x0, .int .i64 y0, .int .i64 x1, .int .i64 y1, .int .i64 x2, .int .i64 y2, .int .i64 x3, .int .i64 y3, .int .i64 x4, .int .i64 y4] (some (5, 5))) a w :=
  ⟨d, rfl, by simp [go_sem, execOp, mkv, h0, h1, h2, h3, h4]⟩
theorem al_E {d : Nat} : Step Try.prog w0 { dst := some d, op := .alloc 37, type := t, pos := pos, after := af, guard := gd } (.blk 37 1) a w :=
  ⟨d, #[.int .i64 0], rfl, rfl, by simp [go_sem, execOp]⟩
theorem only_E {p : Nat} {v0 : Value} {cs : Array Value} (ho : Own w p 37 cs) (hc : cs.size = 1) :
    Own (w.setCell ⟨p, 0, none⟩ v0) p 37 #[v0] ∧ OnlyAt p w (w.setCell ⟨p, 0, none⟩ v0) ∧ (∀ B, B ≤ p → Below B w0 w → Below B w0 (w.setCell ⟨p, 0, none⟩ v0)) := by
  refine ⟨?_, ⟨by simp [World.setCell], fun q hq => Below.heap_setCell _ _ _ _ hq⟩, fun B hp hb => hb.setCell hp _⟩
  have h := ho.put 0 v0
  refine h.as ?_
  obtain ⟨l⟩ := cs
  have hl : l.length = 1 := hc
  obtain ⟨y0, l, rfl⟩ := List.exists_cons_of_length_eq_add_one hl
  replace hl : l.length = 0 := by simpa using hl
  obtain rfl := List.length_eq_zero_iff.1 hl
  rfl
theorem stk_E {s : Nat} {v0 : Int} {g : Nat} {cs0 : Array Value} (h : a.tmps[s]? = some (.pointer (some ⟨g, 0, none⟩))) (ho : Own w g 37 cs0) (hc : cs0.size = 1)  : Step Try.prog w0 { dst := none, op := .store 37 (.tmp s) (.const (.int .i64 v0)), type := t, pos := pos, after := af, guard := gd } (.put s 37 #[.int .i64 v0]) a w :=
  by
  refine ⟨rfl, w.setCell ⟨g, 0, none⟩ (.int .i64 v0), .inl ?_, fun p cs hp hop hcs => ?_⟩
  rotate_left
  · obtain rfl : g = p := by rw [h] at hp; simpa using hp
    exact only_E hop hcs
  · obtain ⟨h1, h2, h3⟩ := ho.at_
    have c0 : cs0[0]? = some cs0[0] := by simp [hc]
    simp [go_sem, execOp, h,  h1, h2, c0]
theorem sbk_E {s n0 : Nat} {v0 : Int} (h : Sat n0 (some s) (.blk 37 1) a w)  : Step Try.prog w0 { dst := none, op := .store 37 (.tmp s) (.const (.int .i64 v0)), type := t, pos := pos, after := af, guard := gd } (.put s 37 #[.int .i64 v0]) a w :=
  by
  obtain ⟨d, g, cs, hd, ht, _, hc, ho⟩ := h
  obtain rfl : s = d := Option.some.inj hd
  exact stk_E ht ho hc 
theorem ld_H {s p o d : Nat} {T' : TypeId} {cs : Array Value} {v : Value} (h : a.tmps[s]? = some (.pointer (some ⟨p, o, none⟩))) (ho : Own w p T' cs) (c0 : cs[o]? = some v) : Step Try.prog w0 { dst := some d, op := .load 78 (.tmp s), type := t, pos := pos, after := af, guard := gd } (.val v) a w :=
  by
  obtain ⟨h1, h2, h3⟩ := ho.at_
  refine .inl ?_
  simp [go_sem, execOp, h, h1, c0]
theorem mf1 {s0 d f : Nat} {v0 : Value} (h0 : a.tmps[s0]? = some v0) : Step Try.prog w0 { dst := some d, op := .makeFunc (.func f) #[] #[.tmp s0], type := t, pos := pos, after := af, guard := gd } (.val (.func (.func f) #[] #[v0])) a w :=
  .inl (by simp [go_sem, execOp, h0])
theorem mf2 {s0 s1 d f : Nat} {v0 v1 : Value} (h0 : a.tmps[s0]? = some v0) (h1 : a.tmps[s1]? = some v1) : Step Try.prog w0 { dst := some d, op := .makeFunc (.func f) #[] #[.tmp s0, .tmp s1], type := t, pos := pos, after := af, guard := gd } (.val (.func (.func f) #[] #[v0, v1])) a w :=
  .inl (by simp [go_sem, execOp, h0, h1])
theorem mf3 {s0 s1 s2 d f : Nat} {v0 v1 v2 : Value} (h0 : a.tmps[s0]? = some v0) (h1 : a.tmps[s1]? = some v1) (h2 : a.tmps[s2]? = some v2) : Step Try.prog w0 { dst := some d, op := .makeFunc (.func f) #[] #[.tmp s0, .tmp s1, .tmp s2], type := t, pos := pos, after := af, guard := gd } (.val (.func (.func f) #[] #[v0, v1, v2])) a w :=
  .inl (by simp [go_sem, execOp, h0, h1, h2])
theorem cc_t_2 {f d sc : Nat} {r0 s0 : Nat} {u : Value} {v0 c0 c1 : Value} (E : ∀ args w, (callFunc f args).run Try.prog w = .ok (.enter f args) w) (hf : a.tmps[sc]? = some (.func (.func f) #[] #[c0, c1])) (h0 : a.tmps[s0]? = some v0) (hc : Calls Try.prog f #[v0, c0, c1] w fun e w' => e = .returned u ∧ Below w.heap.size w w') : Step Try.prog w0 { dst := some d, op := .call { callee := .value (.tmp sc), args := #[.tmp s0], argTypes := #[r0] }, type := t, pos := pos, after := af, guard := gd } (.val u) a w :=
  .inr ⟨f, _, by simp [go_sem, execOp, hf, h0]; exact E _ _, hc⟩
theorem cc_t_3 {f d sc : Nat} {r0 s0 : Nat} {u : Value} {v0 c0 c1 c2 : Value} (E : ∀ args w, (callFunc f args).run Try.prog w = .ok (.enter f args) w) (hf : a.tmps[sc]? = some (.func (.func f) #[] #[c0, c1, c2])) (h0 : a.tmps[s0]? = some v0) (hc : Calls Try.prog f #[v0, c0, c1, c2] w fun e w' => e = .returned u ∧ Below w.heap.size w w') : Step Try.prog w0 { dst := some d, op := .call { callee := .value (.tmp sc), args := #[.tmp s0], argTypes := #[r0] }, type := t, pos := pos, after := af, guard := gd } (.val u) a w :=
  .inr ⟨f, _, by simp [go_sem, execOp, hf, h0]; exact E _ _, hc⟩
theorem cc_ftt_1 {f d sc : Nat} {r0 r1 r2 g0 s1 s2 : Nat} {u : Value} {v1 v2 c0 : Value} (E : ∀ args w, (callFunc f args).run Try.prog w = .ok (.enter f args) w) (hf : a.tmps[sc]? = some (.func (.func f) #[] #[c0])) (h1 : a.tmps[s1]? = some v1) (h2 : a.tmps[s2]? = some v2) (hc : Calls Try.prog f #[(.func (.func g0) #[] #[]), v1, v2, c0] w fun e w' => e = .returned u ∧ Below w.heap.size w w') : Step Try.prog w0 { dst := some d, op := .call { callee := .value (.tmp sc), args := #[.func g0, .tmp s1, .tmp s2], argTypes := #[r0, r1, r2] }, type := t, pos := pos, after := af, guard := gd } (.val u) a w :=
  .inr ⟨f, _, by simp [go_sem, execOp, hf, h1, h2]; exact E _ _, hc⟩
theorem cc_ttt_1 {f d sc : Nat} {r0 r1 r2 s0 s1 s2 : Nat} {u : Value} {v0 v1 v2 c0 : Value} (E : ∀ args w, (callFunc f args).run Try.prog w = .ok (.enter f args) w) (hf : a.tmps[sc]? = some (.func (.func f) #[] #[c0])) (h0 : a.tmps[s0]? = some v0) (h1 : a.tmps[s1]? = some v1) (h2 : a.tmps[s2]? = some v2) (hc : Calls Try.prog f #[v0, v1, v2, c0] w fun e w' => e = .returned u ∧ Below w.heap.size w w') : Step Try.prog w0 { dst := some d, op := .call { callee := .value (.tmp sc), args := #[.tmp s0, .tmp s1, .tmp s2], argTypes := #[r0, r1, r2] }, type := t, pos := pos, after := af, guard := gd } (.val u) a w :=
  .inr ⟨f, _, by simp [go_sem, execOp, hf, h0, h1, h2]; exact E _ _, hc⟩
theorem cl_0 {f d : Nat} {u : Value} (E : ∀ args w, (callFunc f args).run Try.prog w = .ok (.enter f args) w) (hc : Calls Try.prog f #[] w fun e w' => e = .returned u ∧ Below w.heap.size w w') : Step Try.prog w0 { dst := some d, op := .call { callee := .value (.func f), args := #[], argTypes := #[] }, type := t, pos := pos, after := af, guard := gd } (.val u) a w :=
  .inr ⟨f, _, by simp [go_sem, execOp]; exact E _ _, hc⟩
theorem cl_t {f d : Nat} {r0 s0 : Nat} {u : Value} {v0 : Value} (E : ∀ args w, (callFunc f args).run Try.prog w = .ok (.enter f args) w) (h0 : a.tmps[s0]? = some v0) (hc : Calls Try.prog f #[v0] w fun e w' => e = .returned u ∧ Below w.heap.size w w') : Step Try.prog w0 { dst := some d, op := .call { callee := .value (.func f), args := #[.tmp s0], argTypes := #[r0] }, type := t, pos := pos, after := af, guard := gd } (.val u) a w :=
  .inr ⟨f, _, by simp [go_sem, execOp, h0]; exact E _ _, hc⟩
theorem cl_k {f d : Nat} {r0 : Nat} {u : Value} {v0 : Value} (E : ∀ args w, (callFunc f args).run Try.prog w = .ok (.enter f args) w) (hc : Calls Try.prog f #[v0] w fun e w' => e = .returned u ∧ Below w.heap.size w w') : Step Try.prog w0 { dst := some d, op := .call { callee := .value (.func f), args := #[.const v0], argTypes := #[r0] }, type := t, pos := pos, after := af, guard := gd } (.val u) a w :=
  .inr ⟨f, _, by simp [go_sem, execOp]; exact E _ _, hc⟩
theorem cl_tt {f d : Nat} {r0 r1 s0 s1 : Nat} {u : Value} {v0 v1 : Value} (E : ∀ args w, (callFunc f args).run Try.prog w = .ok (.enter f args) w) (h0 : a.tmps[s0]? = some v0) (h1 : a.tmps[s1]? = some v1) (hc : Calls Try.prog f #[v0, v1] w fun e w' => e = .returned u ∧ Below w.heap.size w w') : Step Try.prog w0 { dst := some d, op := .call { callee := .value (.func f), args := #[.tmp s0, .tmp s1], argTypes := #[r0, r1] }, type := t, pos := pos, after := af, guard := gd } (.val u) a w :=
  .inr ⟨f, _, by simp [go_sem, execOp, h0, h1]; exact E _ _, hc⟩
theorem cl_ttt {f d : Nat} {r0 r1 r2 s0 s1 s2 : Nat} {u : Value} {v0 v1 v2 : Value} (E : ∀ args w, (callFunc f args).run Try.prog w = .ok (.enter f args) w) (h0 : a.tmps[s0]? = some v0) (h1 : a.tmps[s1]? = some v1) (h2 : a.tmps[s2]? = some v2) (hc : Calls Try.prog f #[v0, v1, v2] w fun e w' => e = .returned u ∧ Below w.heap.size w w') : Step Try.prog w0 { dst := some d, op := .call { callee := .value (.func f), args := #[.tmp s0, .tmp s1, .tmp s2], argTypes := #[r0, r1, r2] }, type := t, pos := pos, after := af, guard := gd } (.val u) a w :=
  .inr ⟨f, _, by simp [go_sem, execOp, h0, h1, h2]; exact E _ _, hc⟩
theorem cl_tttt {f d : Nat} {r0 r1 r2 r3 s0 s1 s2 s3 : Nat} {u : Value} {v0 v1 v2 v3 : Value} (E : ∀ args w, (callFunc f args).run Try.prog w = .ok (.enter f args) w) (h0 : a.tmps[s0]? = some v0) (h1 : a.tmps[s1]? = some v1) (h2 : a.tmps[s2]? = some v2) (h3 : a.tmps[s3]? = some v3) (hc : Calls Try.prog f #[v0, v1, v2, v3] w fun e w' => e = .returned u ∧ Below w.heap.size w w') : Step Try.prog w0 { dst := some d, op := .call { callee := .value (.func f), args := #[.tmp s0, .tmp s1, .tmp s2, .tmp s3], argTypes := #[r0, r1, r2, r3] }, type := t, pos := pos, after := af, guard := gd } (.val u) a w :=
  .inr ⟨f, _, by simp [go_sem, execOp, h0, h1, h2, h3]; exact E _ _, hc⟩
theorem cl_ttf {f d : Nat} {r0 r1 r2 s0 s1 g2 : Nat} {u : Value} {v0 v1 : Value} (E : ∀ args w, (callFunc f args).run Try.prog w = .ok (.enter f args) w) (h0 : a.tmps[s0]? = some v0) (h1 : a.tmps[s1]? = some v1) (hc : Calls Try.prog f #[v0, v1, (.func (.func g2) #[] #[])] w fun e w' => e = .returned u ∧ Below w.heap.size w w') : Step Try.prog w0 { dst := some d, op := .call { callee := .value (.func f), args := #[.tmp s0, .tmp s1, .func g2], argTypes := #[r0, r1, r2] }, type := t, pos := pos, after := af, guard := gd } (.val u) a w :=
  .inr ⟨f, _, by simp [go_sem, execOp, h0, h1]; exact E _ _, hc⟩
theorem cl_n {f d : Nat} {r0 s0 : Nat} {u : Value} (E : ∀ args w, (callFunc f args).run Try.prog w = .ok (.enter f args) w) {T : TypeId} {cs : Array Value} {q : Option (Nat × Nat)} {n0 : Nat} (h0 : Sat n0 (some s0) (.new T cs q) a w) (hc : ∀ g, Own w g T cs → Calls Try.prog f #[mkv q g] w fun e w' => e = .returned u ∧ Below w.heap.size w w') : Step Try.prog w0 { dst := some d, op := .call { callee := .value (.func f), args := #[.tmp s0], argTypes := #[r0] }, type := t, pos := pos, after := af, guard := gd } (.val u) a w :=
  by
  obtain ⟨d', g, hd, ht, _, ho⟩ := h0
  obtain rfl := Option.some.inj hd
  exact .inr ⟨f, _, by simp [go_sem, execOp, ht]; exact E _ _, hc g ho⟩
end
end Go.Proofs.Ytlifghecgpibfaa
