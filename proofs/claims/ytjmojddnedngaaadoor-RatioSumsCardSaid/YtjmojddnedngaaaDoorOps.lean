
/- Steps of operations in a region (XMemo), written by gen_ops.py: moves, tests, sums, fields, loads, stores, blocks, calls. They speak of no function. -/
import Derived.Test.YtjmojddnedngaaaDoorMemoZ
import Derived.Laws.StructEq
namespace Go.Proofs.YtjmojddnedngaaaDoor
open Go.ChangeShapes Go.WideShapes Go.ChangeAt Go.RowKit
set_option linter.unusedVariables false
set_option linter.unusedSimpArgs false
theorem enter_at {f : Nat} {fn : Func} (hf : Tryd.prog.funcs[f]? = some fn) (hn : (fn.name == "runtime.NumGoroutine") = false := by exact rfl) (hb : fn.body.isNone = false := by exact rfl) : ∀ (args : Array Value) (w : World), (callFunc f args).run Tryd.prog w = .ok (.enter f args) w := fun args w => enter_of hf hn hb args w
section
variable {a : Act} {w w0 : World} {af : Array Edge} {pos : String} {t : TypeId} {gd : Option (Nat × Bool)}
theorem c_eql_tt {s s' d T : Nat} {k : IntKind} {x y : Int} {b : Bool} (h : a.tmps[s]? = some (.int k x)) (h' : a.tmps[s']? = some (.int k y)) (hT : Tryd.prog.underlying T = some (.int k)) (hb : (x == y) = b) : Step Tryd.prog w0 { dst := some d, op := .binOp .eql T (.tmp s) (.tmp s') T, type := t, pos := pos, after := af, guard := gd } (.val (.bool b)) a w :=
  .inl (by subst hb; simp [go_sem, execOp, hT, bne, h, h'])
theorem c_eql_tk {s d T : Nat} {k : IntKind} {x y : Int} {b : Bool} (h : a.tmps[s]? = some (.int k x)) (hT : Tryd.prog.underlying T = some (.int k)) (hb : (x == y) = b) : Step Tryd.prog w0 { dst := some d, op := .binOp .eql T (.tmp s) (.const (.int k y)) T, type := t, pos := pos, after := af, guard := gd } (.val (.bool b)) a w :=
  .inl (by subst hb; simp [go_sem, execOp, hT, bne, h])
theorem c_neq_tk {s d T : Nat} {k : IntKind} {x y : Int} {b : Bool} (h : a.tmps[s]? = some (.int k x)) (hT : Tryd.prog.underlying T = some (.int k)) (hb : (!(x == y)) = b) : Step Tryd.prog w0 { dst := some d, op := .binOp .neq T (.tmp s) (.const (.int k y)) T, type := t, pos := pos, after := af, guard := gd } (.val (.bool b)) a w :=
  .inl (by subst hb; simp [go_sem, execOp, hT, bne, h])
theorem c_lss_tk {s d T : Nat} {k : IntKind} {x y : Int} {b : Bool} (h : a.tmps[s]? = some (.int k x)) (hT : Tryd.prog.underlying T = some (.int k)) (hb : decide (x < y) = b) : Step Tryd.prog w0 { dst := some d, op := .binOp .lss T (.tmp s) (.const (.int k y)) T, type := t, pos := pos, after := af, guard := gd } (.val (.bool b)) a w :=
  .inl (by subst hb; simp [go_sem, execOp, hT, bne, h])
theorem c_leq_tk {s d T : Nat} {k : IntKind} {x y : Int} {b : Bool} (h : a.tmps[s]? = some (.int k x)) (hT : Tryd.prog.underlying T = some (.int k)) (hb : decide (x ≤ y) = b) : Step Tryd.prog w0 { dst := some d, op := .binOp .leq T (.tmp s) (.const (.int k y)) T, type := t, pos := pos, after := af, guard := gd } (.val (.bool b)) a w :=
  .inl (by subst hb; simp [go_sem, execOp, hT, bne, h])
theorem ld_W {s p o d : Nat} {T' : TypeId} {cs : Array Value} {v0 v1 v2 v3 : Value} (h : a.tmps[s]? = some (.pointer (some ⟨p, o, none⟩))) (ho : Own w p T' cs) (c0 : cs[o]? = some v0) (c1 : cs[o + 1]? = some v1) (c2 : cs[o + 2]? = some v2) (c3 : cs[o + 3]? = some v3) : Step Tryd.prog w0 { dst := some d, op := .load 24 (.tmp s), type := t, pos := pos, after := af, guard := gd } (.val (.agg #[v0, v1, v2, v3])) a w :=
  by
  obtain ⟨h1, h2, h3⟩ := ho.at_
  refine .inl ?_
  simp [go_sem, execOp, h, h1, Nat.add_assoc, c0, c1, c2, c3]
theorem al_W {d : Nat} : Step Tryd.prog w0 { dst := some d, op := .alloc 24, type := t, pos := pos, after := af, guard := gd } (.blk 24 4) a w :=
  ⟨d, #[.int .u64 0, .int .u64 0, .int .u64 0, .int .u64 0], rfl, rfl, by simp [go_sem, execOp]⟩
theorem only_W {p : Nat} {v0 v1 v2 v3 : Value} {cs : Array Value} (ho : Own w p 24 cs) (hc : cs.size = 4) :
    Own ((((w.setCell ⟨p, 0, none⟩ v0).setCell ⟨p, 1, none⟩ v1).setCell ⟨p, 2, none⟩ v2).setCell ⟨p, 3, none⟩ v3) p 24 #[v0, v1, v2, v3] ∧ OnlyAt p w ((((w.setCell ⟨p, 0, none⟩ v0).setCell ⟨p, 1, none⟩ v1).setCell ⟨p, 2, none⟩ v2).setCell ⟨p, 3, none⟩ v3) ∧ (∀ B, B ≤ p → Below B w0 w → Below B w0 ((((w.setCell ⟨p, 0, none⟩ v0).setCell ⟨p, 1, none⟩ v1).setCell ⟨p, 2, none⟩ v2).setCell ⟨p, 3, none⟩ v3)) := by
  refine ⟨?_, ⟨by simp [World.setCell], fun q hq => ?_⟩, fun B hp hb => ?_⟩
  · have h := ((((ho.put 0 v0).put 1 v1).put 2 v2).put 3 v3)
    refine h.as ?_
    obtain ⟨l⟩ := cs
    have hl : l.length = 4 := hc
    obtain ⟨y0, l, rfl⟩ := List.exists_cons_of_length_eq_add_one hl
    replace hl : l.length = 3 := by simpa using hl
    obtain ⟨y1, l, rfl⟩ := List.exists_cons_of_length_eq_add_one hl
    replace hl : l.length = 2 := by simpa using hl
    obtain ⟨y2, l, rfl⟩ := List.exists_cons_of_length_eq_add_one hl
    replace hl : l.length = 1 := by simpa using hl
    obtain ⟨y3, l, rfl⟩ := List.exists_cons_of_length_eq_add_one hl
    replace hl : l.length = 0 := by simpa using hl
    obtain rfl := List.length_eq_zero_iff.1 hl
    simp only [List.setIfInBounds_toArray, List.set_cons_zero, List.set_cons_succ]
  · rw [Below.heap_setCell _ _ _ _ hq, Below.heap_setCell _ _ _ _ hq, Below.heap_setCell _ _ _ _ hq, Below.heap_setCell _ _ _ _ hq]
  · exact ((((hb.setCell hp _).setCell hp _).setCell hp _).setCell hp _)
theorem st_W {s s' : Nat} {v0 v1 v2 v3 : Int} {g : Nat} {cs0 : Array Value} (h : a.tmps[s]? = some (.pointer (some ⟨g, 0, none⟩))) (ho : Own w g 24 cs0) (hc : cs0.size = 4) (h' : a.tmps[s']? = some (.agg #[.int .u64 v0, .int .u64 v1, .int .u64 v2, .int .u64 v3])) : Step Tryd.prog w0 { dst := none, op := .store 24 (.tmp s) (.tmp s'), type := t, pos := pos, after := af, guard := gd } (.put s 24 #[.int .u64 v0, .int .u64 v1, .int .u64 v2, .int .u64 v3]) a w :=
  by
  refine ⟨rfl, ((((w.setCell ⟨g, 0, none⟩ (.int .u64 v0)).setCell ⟨g, 1, none⟩ (.int .u64 v1)).setCell ⟨g, 2, none⟩ (.int .u64 v2)).setCell ⟨g, 3, none⟩ (.int .u64 v3)), .inl ?_, fun p cs hp hop hcs => ?_⟩
  rotate_left
  · obtain rfl : g = p := by rw [h] at hp; simpa using hp
    exact only_W hop hcs
  · obtain ⟨h1, h2, h3⟩ := ho.at_
    have c0 : cs0[0]? = some cs0[0] := by simp [hc]
    have c1 : cs0[1]? = some cs0[1] := by simp [hc]
    have c2 : cs0[2]? = some cs0[2] := by simp [hc]
    have c3 : cs0[3]? = some cs0[3] := by simp [hc]
    simp [go_sem, execOp, h, h', h1, h2, c0, c1, c2, c3]
theorem sb_W {s s' n0 : Nat} {v0 v1 v2 v3 : Int} (h : Sat n0 (some s) (.blk 24 4) a w) (h' : a.tmps[s']? = some (.agg #[.int .u64 v0, .int .u64 v1, .int .u64 v2, .int .u64 v3])) : Step Tryd.prog w0 { dst := none, op := .store 24 (.tmp s) (.tmp s'), type := t, pos := pos, after := af, guard := gd } (.put s 24 #[.int .u64 v0, .int .u64 v1, .int .u64 v2, .int .u64 v3]) a w :=
  by
  obtain ⟨d, g, cs, hd, ht, _, hc, ho⟩ := h
  obtain rfl : s = d := Option.some.inj hd
  exact st_W ht ho hc h'
theorem so_W {s s' : Nat} {v0 v1 v2 v3 : Int} {g : Nat} {cs0 : Array Value} (h : a.tmps[s]? = some (.pointer (some ⟨g, 0, none⟩))) (ho : Own w g 24 cs0) (hc : cs0.size = 4) (h' : a.tmps[s']? = some (.agg #[.int .u64 v0, .int .u64 v1, .int .u64 v2, .int .u64 v3])) : Step Tryd.prog w0 { dst := none, op := .store 24 (.tmp s) (.tmp s'), type := t, pos := pos, after := af, guard := gd } (.sto g 24 #[.int .u64 v0, .int .u64 v1, .int .u64 v2, .int .u64 v3]) a w :=
  by
  refine ⟨rfl, ((((w.setCell ⟨g, 0, none⟩ (.int .u64 v0)).setCell ⟨g, 1, none⟩ (.int .u64 v1)).setCell ⟨g, 2, none⟩ (.int .u64 v2)).setCell ⟨g, 3, none⟩ (.int .u64 v3)), .inl ?_, only_W ho hc⟩
  · obtain ⟨h1, h2, h3⟩ := ho.at_
    have c0 : cs0[0]? = some cs0[0] := by simp [hc]
    have c1 : cs0[1]? = some cs0[1] := by simp [hc]
    have c2 : cs0[2]? = some cs0[2] := by simp [hc]
    have c3 : cs0[3]? = some cs0[3] := by simp [hc]
    simp [go_sem, execOp, h, h', h1, h2, c0, c1, c2, c3]
theorem e_eql_W {s s' d : Nat} {v0 v1 v2 v3 u0 u1 u2 u3 : Value} {b : Bool} (h : a.tmps[s]? = some (.agg #[v0, v1, v2, v3])) (h' : a.tmps[s']? = some (.agg #[u0, u1, u2, u3])) (E : ∀ w, (Op.equalIn 10000 24 (.agg #[v0, v1, v2, v3]) (.agg #[u0, u1, u2, u3])).run Tryd.prog w = .ok b w) : Step Tryd.prog w0 { dst := some d, op := .binOp .eql 24 (.tmp s) (.tmp s') 24, type := t, pos := pos, after := af, guard := gd } (.val (.bool b)) a w :=
  .inl (by simp [go_sem, execOp, h, h', E])
theorem bd0_W {d : Nat} : Step Tryd.prog w0 { dst := some d, op := .build 24 #[], type := t, pos := pos, after := af, guard := gd } (.val (.agg #[.int .u64 0, .int .u64 0, .int .u64 0, .int .u64 0])) a w :=
  .inl (by simp [go_sem, execOp])
theorem ld_R {s p o d : Nat} {T' : TypeId} {cs : Array Value} {v0 v1 v2 v3 v4 v5 v6 v7 : Value} (h : a.tmps[s]? = some (.pointer (some ⟨p, o, none⟩))) (ho : Own w p T' cs) (c0 : cs[o]? = some v0) (c1 : cs[o + 1]? = some v1) (c2 : cs[o + 2]? = some v2) (c3 : cs[o + 3]? = some v3) (c4 : cs[o + 4]? = some v4) (c5 : cs[o + 5]? = some v5) (c6 : cs[o + 6]? = some v6) (c7 : cs[o + 7]? = some v7) : Step Tryd.prog w0 { dst := some d, op := .load 26 (.tmp s), type := t, pos := pos, after := af, guard := gd } (.val (.agg #[v0, v1, v2, v3, v4, v5, v6, v7])) a w :=
  by
  obtain ⟨h1, h2, h3⟩ := ho.at_
  refine .inl ?_
  simp [go_sem, execOp, h, h1, Nat.add_assoc, c0, c1, c2, c3, c4, c5, c6, c7]
theorem al_R {d : Nat} : Step Tryd.prog w0 { dst := some d, op := .alloc 26, type := t, pos := pos, after := af, guard := gd } (.blk 26 8) a w :=
  ⟨d, #[.int .u64 0, .int .u64 0, .int .u64 0, .int .u64 0, .int .u64 0, .int .u64 0, .int .u64 0, .int .u64 0], rfl, rfl, by simp [go_sem, execOp]⟩
theorem only_R {p : Nat} {v0 v1 v2 v3 v4 v5 v6 v7 : Value} {cs : Array Value} (ho : Own w p 26 cs) (hc : cs.size = 8) :
    Own ((((((((w.setCell ⟨p, 0, none⟩ v0).setCell ⟨p, 1, none⟩ v1).setCell ⟨p, 2, none⟩ v2).setCell ⟨p, 3, none⟩ v3).setCell ⟨p, 4, none⟩ v4).setCell ⟨p, 5, none⟩ v5).setCell ⟨p, 6, none⟩ v6).setCell ⟨p, 7, none⟩ v7) p 26 #[v0, v1, v2, v3, v4, v5, v6, v7] ∧ OnlyAt p w ((((((((w.setCell ⟨p, 0, none⟩ v0).setCell ⟨p, 1, none⟩ v1).setCell ⟨p, 2, none⟩ v2).setCell ⟨p, 3, none⟩ v3).setCell ⟨p, 4, none⟩ v4).setCell ⟨p, 5, none⟩ v5).setCell ⟨p, 6, none⟩ v6).setCell ⟨p, 7, none⟩ v7) ∧ (∀ B, B ≤ p → Below B w0 w → Below B w0 ((((((((w.setCell ⟨p, 0, none⟩ v0).setCell ⟨p, 1, none⟩ v1).setCell ⟨p, 2, none⟩ v2).setCell ⟨p, 3, none⟩ v3).setCell ⟨p, 4, none⟩ v4).setCell ⟨p, 5, none⟩ v5).setCell ⟨p, 6, none⟩ v6).setCell ⟨p, 7, none⟩ v7)) := by
  refine ⟨?_, ⟨by simp [World.setCell], fun q hq => ?_⟩, fun B hp hb => ?_⟩
  · have h := ((((((((ho.put 0 v0).put 1 v1).put 2 v2).put 3 v3).put 4 v4).put 5 v5).put 6 v6).put 7 v7)
    refine h.as ?_
    obtain ⟨l⟩ := cs
    have hl : l.length = 8 := hc
    obtain ⟨y0, l, rfl⟩ := List.exists_cons_of_length_eq_add_one hl
    replace hl : l.length = 7 := by simpa using hl
    obtain ⟨y1, l, rfl⟩ := List.exists_cons_of_length_eq_add_one hl
    replace hl : l.length = 6 := by simpa using hl
    obtain ⟨y2, l, rfl⟩ := List.exists_cons_of_length_eq_add_one hl
    replace hl : l.length = 5 := by simpa using hl
    obtain ⟨y3, l, rfl⟩ := List.exists_cons_of_length_eq_add_one hl
    replace hl : l.length = 4 := by simpa using hl
    obtain ⟨y4, l, rfl⟩ := List.exists_cons_of_length_eq_add_one hl
    replace hl : l.length = 3 := by simpa using hl
    obtain ⟨y5, l, rfl⟩ := List.exists_cons_of_length_eq_add_one hl
    replace hl : l.length = 2 := by simpa using hl
    obtain ⟨y6, l, rfl⟩ := List.exists_cons_of_length_eq_add_one hl
    replace hl : l.length = 1 := by simpa using hl
    obtain ⟨y7, l, rfl⟩ := List.exists_cons_of_length_eq_add_one hl
    replace hl : l.length = 0 := by simpa using hl
    obtain rfl := List.length_eq_zero_iff.1 hl
    simp only [List.setIfInBounds_toArray, List.set_cons_zero, List.set_cons_succ]
  · rw [Below.heap_setCell _ _ _ _ hq, Below.heap_setCell _ _ _ _ hq, Below.heap_setCell _ _ _ _ hq, Below.heap_setCell _ _ _ _ hq, Below.heap_setCell _ _ _ _ hq, Below.heap_setCell _ _ _ _ hq, Below.heap_setCell _ _ _ _ hq, Below.heap_setCell _ _ _ _ hq]
  · exact ((((((((hb.setCell hp _).setCell hp _).setCell hp _).setCell hp _).setCell hp _).setCell hp _).setCell hp _).setCell hp _)
theorem st_R {s s' : Nat} {v0 v1 v2 v3 v4 v5 v6 v7 : Int} {g : Nat} {cs0 : Array Value} (h : a.tmps[s]? = some (.pointer (some ⟨g, 0, none⟩))) (ho : Own w g 26 cs0) (hc : cs0.size = 8) (h' : a.tmps[s']? = some (.agg #[.int .u64 v0, .int .u64 v1, .int .u64 v2, .int .u64 v3, .int .u64 v4, .int .u64 v5, .int .u64 v6, .int .u64 v7])) : Step Tryd.prog w0 { dst := none, op := .store 26 (.tmp s) (.tmp s'), type := t, pos := pos, after := af, guard := gd } (.put s 26 #[.int .u64 v0, .int .u64 v1, .int .u64 v2, .int .u64 v3, .int .u64 v4, .int .u64 v5, .int .u64 v6, .int .u64 v7]) a w :=
  by
  refine ⟨rfl, ((((((((w.setCell ⟨g, 0, none⟩ (.int .u64 v0)).setCell ⟨g, 1, none⟩ (.int .u64 v1)).setCell ⟨g, 2, none⟩ (.int .u64 v2)).setCell ⟨g, 3, none⟩ (.int .u64 v3)).setCell ⟨g, 4, none⟩ (.int .u64 v4)).setCell ⟨g, 5, none⟩ (.int .u64 v5)).setCell ⟨g, 6, none⟩ (.int .u64 v6)).setCell ⟨g, 7, none⟩ (.int .u64 v7)), .inl ?_, fun p cs hp hop hcs => ?_⟩
  rotate_left
  · obtain rfl : g = p := by rw [h] at hp; simpa using hp
    exact only_R hop hcs
  · obtain ⟨h1, h2, h3⟩ := ho.at_
    have c0 : cs0[0]? = some cs0[0] := by simp [hc]
    have c1 : cs0[1]? = some cs0[1] := by simp [hc]
    have c2 : cs0[2]? = some cs0[2] := by simp [hc]
    have c3 : cs0[3]? = some cs0[3] := by simp [hc]
    have c4 : cs0[4]? = some cs0[4] := by simp [hc]
    have c5 : cs0[5]? = some cs0[5] := by simp [hc]
    have c6 : cs0[6]? = some cs0[6] := by simp [hc]
    have c7 : cs0[7]? = some cs0[7] := by simp [hc]
    simp [go_sem, execOp, h, h', h1, h2, c0, c1, c2, c3, c4, c5, c6, c7]
theorem sb_R {s s' n0 : Nat} {v0 v1 v2 v3 v4 v5 v6 v7 : Int} (h : Sat n0 (some s) (.blk 26 8) a w) (h' : a.tmps[s']? = some (.agg #[.int .u64 v0, .int .u64 v1, .int .u64 v2, .int .u64 v3, .int .u64 v4, .int .u64 v5, .int .u64 v6, .int .u64 v7])) : Step Tryd.prog w0 { dst := none, op := .store 26 (.tmp s) (.tmp s'), type := t, pos := pos, after := af, guard := gd } (.put s 26 #[.int .u64 v0, .int .u64 v1, .int .u64 v2, .int .u64 v3, .int .u64 v4, .int .u64 v5, .int .u64 v6, .int .u64 v7]) a w :=
  by
  obtain ⟨d, g, cs, hd, ht, _, hc, ho⟩ := h
  obtain rfl : s = d := Option.some.inj hd
  exact st_R ht ho hc h'
theorem so_R {s s' : Nat} {v0 v1 v2 v3 v4 v5 v6 v7 : Int} {g : Nat} {cs0 : Array Value} (h : a.tmps[s]? = some (.pointer (some ⟨g, 0, none⟩))) (ho : Own w g 26 cs0) (hc : cs0.size = 8) (h' : a.tmps[s']? = some (.agg #[.int .u64 v0, .int .u64 v1, .int .u64 v2, .int .u64 v3, .int .u64 v4, .int .u64 v5, .int .u64 v6, .int .u64 v7])) : Step Tryd.prog w0 { dst := none, op := .store 26 (.tmp s) (.tmp s'), type := t, pos := pos, after := af, guard := gd } (.sto g 26 #[.int .u64 v0, .int .u64 v1, .int .u64 v2, .int .u64 v3, .int .u64 v4, .int .u64 v5, .int .u64 v6, .int .u64 v7]) a w :=
  by
  refine ⟨rfl, ((((((((w.setCell ⟨g, 0, none⟩ (.int .u64 v0)).setCell ⟨g, 1, none⟩ (.int .u64 v1)).setCell ⟨g, 2, none⟩ (.int .u64 v2)).setCell ⟨g, 3, none⟩ (.int .u64 v3)).setCell ⟨g, 4, none⟩ (.int .u64 v4)).setCell ⟨g, 5, none⟩ (.int .u64 v5)).setCell ⟨g, 6, none⟩ (.int .u64 v6)).setCell ⟨g, 7, none⟩ (.int .u64 v7)), .inl ?_, only_R ho hc⟩
  · obtain ⟨h1, h2, h3⟩ := ho.at_
    have c0 : cs0[0]? = some cs0[0] := by simp [hc]
    have c1 : cs0[1]? = some cs0[1] := by simp [hc]
    have c2 : cs0[2]? = some cs0[2] := by simp [hc]
    have c3 : cs0[3]? = some cs0[3] := by simp [hc]
    have c4 : cs0[4]? = some cs0[4] := by simp [hc]
    have c5 : cs0[5]? = some cs0[5] := by simp [hc]
    have c6 : cs0[6]? = some cs0[6] := by simp [hc]
    have c7 : cs0[7]? = some cs0[7] := by simp [hc]
    simp [go_sem, execOp, h, h', h1, h2, c0, c1, c2, c3, c4, c5, c6, c7]
theorem bd0_R {d : Nat} : Step Tryd.prog w0 { dst := some d, op := .build 26 #[], type := t, pos := pos, after := af, guard := gd } (.val (.agg #[.int .u64 0, .int .u64 0, .int .u64 0, .int .u64 0, .int .u64 0, .int .u64 0, .int .u64 0, .int .u64 0])) a w :=
  .inl (by simp [go_sem, execOp])
theorem fa_R_0 {s p o d : Nat} (h : a.tmps[s]? = some (.pointer (some ⟨p, o, none⟩))) : Step Tryd.prog w0 { dst := some d, op := .fieldAddr 26 (.tmp s) 0, type := t, pos := pos, after := af, guard := gd } (.val (.pointer (some ⟨p, o, none⟩))) a w :=
  .inl (by simp [go_sem, execOp, h])
theorem fa_R_1 {s p o d : Nat} (h : a.tmps[s]? = some (.pointer (some ⟨p, o, none⟩))) : Step Tryd.prog w0 { dst := some d, op := .fieldAddr 26 (.tmp s) 1, type := t, pos := pos, after := af, guard := gd } (.val (.pointer (some ⟨p, o + 4, none⟩))) a w :=
  .inl (by simp [go_sem, execOp, h])
theorem bdR_tt {s s' d : Nat} {x0 x1 x2 x3 y0 y1 y2 y3 : Int} (h : a.tmps[s]? = some (.agg #[.int .u64 x0, .int .u64 x1, .int .u64 x2, .int .u64 x3])) (h' : a.tmps[s']? = some (.agg #[.int .u64 y0, .int .u64 y1, .int .u64 y2, .int .u64 y3])) : Step Tryd.prog w0 { dst := some d, op := .build 26 #[(0, .tmp s), (1, .tmp s')], type := t, pos := pos, after := af, guard := gd } (.val (.agg #[.int .u64 x0, .int .u64 x1, .int .u64 x2, .int .u64 x3, .int .u64 y0, .int .u64 y1, .int .u64 y2, .int .u64 y3])) a w :=
  .inl (by simp [go_sem, execOp, h, h'])
theorem ld_errno {s p o d : Nat} {T' : TypeId} {cs : Array Value} {v : Value} (h : a.tmps[s]? = some (.pointer (some ⟨p, o, none⟩))) (ho : Own w p T' cs) (c0 : cs[o]? = some v) : Step Tryd.prog w0 { dst := some d, op := .load 27 (.tmp s), type := t, pos := pos, after := af, guard := gd } (.val v) a w :=
  by
  obtain ⟨h1, h2, h3⟩ := ho.at_
  refine .inl ?_
  simp [go_sem, execOp, h, h1, c0]
theorem al_E {d : Nat} : Step Tryd.prog w0 { dst := some d, op := .alloc 27, type := t, pos := pos, after := af, guard := gd } (.blk 27 1) a w :=
  ⟨d, #[.int .i64 0], rfl, rfl, by simp [go_sem, execOp]⟩
theorem only_E {p : Nat} {v0 : Value} {cs : Array Value} (ho : Own w p 27 cs) (hc : cs.size = 1) :
    Own (w.setCell ⟨p, 0, none⟩ v0) p 27 #[v0] ∧ OnlyAt p w (w.setCell ⟨p, 0, none⟩ v0) ∧ (∀ B, B ≤ p → Below B w0 w → Below B w0 (w.setCell ⟨p, 0, none⟩ v0)) := by
  refine ⟨?_, ⟨by simp [World.setCell], fun q hq => Below.heap_setCell _ _ _ _ hq⟩, fun B hp hb => hb.setCell hp _⟩
  have h := ho.put 0 v0
  refine h.as ?_
  obtain ⟨l⟩ := cs
  have hl : l.length = 1 := hc
  obtain ⟨y0, l, rfl⟩ := List.exists_cons_of_length_eq_add_one hl
  replace hl : l.length = 0 := by simpa using hl
  obtain rfl := List.length_eq_zero_iff.1 hl
  rfl
theorem stk_E {s : Nat} {v0 : Int} {g : Nat} {cs0 : Array Value} (h : a.tmps[s]? = some (.pointer (some ⟨g, 0, none⟩))) (ho : Own w g 27 cs0) (hc : cs0.size = 1)  : Step Tryd.prog w0 { dst := none, op := .store 27 (.tmp s) (.const (.int .i64 v0)), type := t, pos := pos, after := af, guard := gd } (.put s 27 #[.int .i64 v0]) a w :=
  by
  refine ⟨rfl, w.setCell ⟨g, 0, none⟩ (.int .i64 v0), .inl ?_, fun p cs hp hop hcs => ?_⟩
  rotate_left
  · obtain rfl : g = p := by rw [h] at hp; simpa using hp
    exact only_E hop hcs
  · obtain ⟨h1, h2, h3⟩ := ho.at_
    have c0 : cs0[0]? = some cs0[0] := by simp [hc]
    simp [go_sem, execOp, h,  h1, h2, c0]
theorem sbk_E {s n0 : Nat} {v0 : Int} (h : Sat n0 (some s) (.blk 27 1) a w)  : Step Tryd.prog w0 { dst := none, op := .store 27 (.tmp s) (.const (.int .i64 v0)), type := t, pos := pos, after := af, guard := gd } (.put s 27 #[.int .i64 v0]) a w :=
  by
  obtain ⟨d, g, cs, hd, ht, _, hc, ho⟩ := h
  obtain rfl : s = d := Option.some.inj hd
  exact stk_E ht ho hc 
theorem mf3 {s0 s1 s2 d f : Nat} {v0 v1 v2 : Value} (h0 : a.tmps[s0]? = some v0) (h1 : a.tmps[s1]? = some v1) (h2 : a.tmps[s2]? = some v2) : Step Tryd.prog w0 { dst := some d, op := .makeFunc (.func f) #[] #[.tmp s0, .tmp s1, .tmp s2], type := t, pos := pos, after := af, guard := gd } (.val (.func (.func f) #[] #[v0, v1, v2])) a w :=
  .inl (by simp [go_sem, execOp, h0, h1, h2])
theorem cl_0 {f d : Nat} {u : Value} (E : ∀ args w, (callFunc f args).run Tryd.prog w = .ok (.enter f args) w) (hc : Calls Tryd.prog f #[] w fun e w' => e = .returned u ∧ Below w.heap.size w w') : Step Tryd.prog w0 { dst := some d, op := .call { callee := .value (.func f), args := #[], argTypes := #[] }, type := t, pos := pos, after := af, guard := gd } (.val u) a w :=
  .inr ⟨f, _, by simp [go_sem, execOp]; exact E _ _, hc⟩
theorem cl_t {f d : Nat} {r0 s0 : Nat} {u : Value} {v0 : Value} (E : ∀ args w, (callFunc f args).run Tryd.prog w = .ok (.enter f args) w) (h0 : a.tmps[s0]? = some v0) (hc : Calls Tryd.prog f #[v0] w fun e w' => e = .returned u ∧ Below w.heap.size w w') : Step Tryd.prog w0 { dst := some d, op := .call { callee := .value (.func f), args := #[.tmp s0], argTypes := #[r0] }, type := t, pos := pos, after := af, guard := gd } (.val u) a w :=
  .inr ⟨f, _, by simp [go_sem, execOp, h0]; exact E _ _, hc⟩
theorem cl_k {f d : Nat} {r0 : Nat} {u : Value} {v0 : Value} (E : ∀ args w, (callFunc f args).run Tryd.prog w = .ok (.enter f args) w) (hc : Calls Tryd.prog f #[v0] w fun e w' => e = .returned u ∧ Below w.heap.size w w') : Step Tryd.prog w0 { dst := some d, op := .call { callee := .value (.func f), args := #[.const v0], argTypes := #[r0] }, type := t, pos := pos, after := af, guard := gd } (.val u) a w :=
  .inr ⟨f, _, by simp [go_sem, execOp]; exact E _ _, hc⟩
theorem cl_tt {f d : Nat} {r0 r1 s0 s1 : Nat} {u : Value} {v0 v1 : Value} (E : ∀ args w, (callFunc f args).run Tryd.prog w = .ok (.enter f args) w) (h0 : a.tmps[s0]? = some v0) (h1 : a.tmps[s1]? = some v1) (hc : Calls Tryd.prog f #[v0, v1] w fun e w' => e = .returned u ∧ Below w.heap.size w w') : Step Tryd.prog w0 { dst := some d, op := .call { callee := .value (.func f), args := #[.tmp s0, .tmp s1], argTypes := #[r0, r1] }, type := t, pos := pos, after := af, guard := gd } (.val u) a w :=
  .inr ⟨f, _, by simp [go_sem, execOp, h0, h1]; exact E _ _, hc⟩
theorem cl_ttt {f d : Nat} {r0 r1 r2 s0 s1 s2 : Nat} {u : Value} {v0 v1 v2 : Value} (E : ∀ args w, (callFunc f args).run Tryd.prog w = .ok (.enter f args) w) (h0 : a.tmps[s0]? = some v0) (h1 : a.tmps[s1]? = some v1) (h2 : a.tmps[s2]? = some v2) (hc : Calls Tryd.prog f #[v0, v1, v2] w fun e w' => e = .returned u ∧ Below w.heap.size w w') : Step Tryd.prog w0 { dst := some d, op := .call { callee := .value (.func f), args := #[.tmp s0, .tmp s1, .tmp s2], argTypes := #[r0, r1, r2] }, type := t, pos := pos, after := af, guard := gd } (.val u) a w :=
  .inr ⟨f, _, by simp [go_sem, execOp, h0, h1, h2]; exact E _ _, hc⟩
theorem cl_ttf {f d : Nat} {r0 r1 r2 s0 s1 g2 : Nat} {u : Value} {v0 v1 : Value} (E : ∀ args w, (callFunc f args).run Tryd.prog w = .ok (.enter f args) w) (h0 : a.tmps[s0]? = some v0) (h1 : a.tmps[s1]? = some v1) (hc : Calls Tryd.prog f #[v0, v1, (.func (.func g2) #[] #[])] w fun e w' => e = .returned u ∧ Below w.heap.size w w') : Step Tryd.prog w0 { dst := some d, op := .call { callee := .value (.func f), args := #[.tmp s0, .tmp s1, .func g2], argTypes := #[r0, r1, r2] }, type := t, pos := pos, after := af, guard := gd } (.val u) a w :=
  .inr ⟨f, _, by simp [go_sem, execOp, h0, h1]; exact E _ _, hc⟩
end
end Go.Proofs.YtjmojddnedngaaaDoor
