
/- Steps of blocks and stores of vertices, ways and halves in a region (XMemo), written by gen_spno.py. They speak of no function. -/
import Derived.Test.YtibnackmddigaaaOps
namespace Go.Proofs.Ytibnackmddigaaa
open Go.ChangeShapes Go.WideShapes Go.ChangeAt Go.RowKit
set_option linter.unusedVariables false
set_option linter.unusedSimpArgs false
section
variable {a : Act} {w w0 : World} {af : Array Edge} {pos : String} {t : TypeId} {gd : Option (Nat × Bool)}
theorem al_V {d : Nat} : Step Try.prog w0 { dst := some d, op := .alloc 39, type := t, pos := pos, after := af, guard := gd } (.blk 39 3) a w :=
  ⟨d, #[.int .i64 0, .int .i64 0, .int .i64 0], rfl, rfl, by simp [go_sem, execOp]⟩
theorem only_V {p : Nat} {v0 v1 v2 : Value} {cs : Array Value} (ho : Own w p 39 cs) (hc : cs.size = 3) :
    Own (((w.setCell ⟨p, 0, none⟩ v0).setCell ⟨p, 1, none⟩ v1).setCell ⟨p, 2, none⟩ v2) p 39 #[v0, v1, v2] ∧ OnlyAt p w (((w.setCell ⟨p, 0, none⟩ v0).setCell ⟨p, 1, none⟩ v1).setCell ⟨p, 2, none⟩ v2) ∧ (∀ B, B ≤ p → Bel B w0 w → Bel B w0 (((w.setCell ⟨p, 0, none⟩ v0).setCell ⟨p, 1, none⟩ v1).setCell ⟨p, 2, none⟩ v2)) := by
  refine ⟨?_, ⟨by simp [World.setCell], fun q hq => ?_⟩, fun B hp hb => ?_⟩
  · have h := (((ho.put 0 v0).put 1 v1).put 2 v2)
    refine h.as ?_
    obtain ⟨l⟩ := cs
    have hl : l.length = 3 := hc
    obtain ⟨y0, l, rfl⟩ := List.exists_cons_of_length_eq_add_one hl
    replace hl : l.length = 2 := by simpa using hl
    obtain ⟨y1, l, rfl⟩ := List.exists_cons_of_length_eq_add_one hl
    replace hl : l.length = 1 := by simpa using hl
    obtain ⟨y2, l, rfl⟩ := List.exists_cons_of_length_eq_add_one hl
    replace hl : l.length = 0 := by simpa using hl
    obtain rfl := List.length_eq_zero_iff.1 hl
    simp only [List.setIfInBounds_toArray, List.set_cons_zero, List.set_cons_succ]
  · rw [Bel.heap_setCell _ _ _ _ hq, Bel.heap_setCell _ _ _ _ hq, Bel.heap_setCell _ _ _ _ hq]
  · exact (((hb.setCell hp _).setCell hp _).setCell hp _)
theorem st_V {s s' : Nat} {v0 : Int} {v1 : Int} {v2 : Int} {g : Nat} {cs0 : Array Value} (h : a.tmps[s]? = some (.pointer (some ⟨g, 0, none⟩))) (ho : Own w g 39 cs0) (hc : cs0.size = 3) (h' : a.tmps[s']? = some (.agg #[.int .i64 v0, .int .i64 v1, .int .i64 v2])) : Step Try.prog w0 { dst := none, op := .store 39 (.tmp s) (.tmp s'), type := t, pos := pos, after := af, guard := gd } (.put s 39 #[.int .i64 v0, .int .i64 v1, .int .i64 v2]) a w :=
  by
  refine ⟨rfl, (((w.setCell ⟨g, 0, none⟩ (.int .i64 v0)).setCell ⟨g, 1, none⟩ (.int .i64 v1)).setCell ⟨g, 2, none⟩ (.int .i64 v2)), .inl ?_, fun p cs hp hop hcs => ?_⟩
  rotate_left
  · obtain rfl : g = p := by rw [h] at hp; simpa using hp
    exact only_V hop hcs
  · obtain ⟨h1, h2, h3⟩ := ho.at_
    have c0 : cs0[0]? = some cs0[0] := by simp [hc]
    have c1 : cs0[1]? = some cs0[1] := by simp [hc]
    have c2 : cs0[2]? = some cs0[2] := by simp [hc]
    simp [go_sem, execOp, h, h', h1, h2, c0, c1, c2]
theorem sb_V {s s' n0 : Nat} {v0 : Int} {v1 : Int} {v2 : Int} (h : Sat n0 (some s) (.blk 39 3) a w) (h' : a.tmps[s']? = some (.agg #[.int .i64 v0, .int .i64 v1, .int .i64 v2])) : Step Try.prog w0 { dst := none, op := .store 39 (.tmp s) (.tmp s'), type := t, pos := pos, after := af, guard := gd } (.put s 39 #[.int .i64 v0, .int .i64 v1, .int .i64 v2]) a w :=
  by
  obtain ⟨d, g, cs, hd, ht, _, hc, ho⟩ := h
  obtain rfl : s = d := Option.some.inj hd
  exact st_V ht ho hc h'
theorem al_Y {d : Nat} : Step Try.prog w0 { dst := some d, op := .alloc 88, type := t, pos := pos, after := af, guard := gd } (.blk 88 6) a w :=
  ⟨d, #[.int .i64 0, .int .i64 0, .int .i64 0, .int .i64 0, .int .i64 0, .int .i64 0], rfl, rfl, by simp [go_sem, execOp]⟩
theorem only_Y {p : Nat} {v0 v1 v2 v3 v4 v5 : Value} {cs : Array Value} (ho : Own w p 88 cs) (hc : cs.size = 6) :
    Own ((((((w.setCell ⟨p, 0, none⟩ v0).setCell ⟨p, 1, none⟩ v1).setCell ⟨p, 2, none⟩ v2).setCell ⟨p, 3, none⟩ v3).setCell ⟨p, 4, none⟩ v4).setCell ⟨p, 5, none⟩ v5) p 88 #[v0, v1, v2, v3, v4, v5] ∧ OnlyAt p w ((((((w.setCell ⟨p, 0, none⟩ v0).setCell ⟨p, 1, none⟩ v1).setCell ⟨p, 2, none⟩ v2).setCell ⟨p, 3, none⟩ v3).setCell ⟨p, 4, none⟩ v4).setCell ⟨p, 5, none⟩ v5) ∧ (∀ B, B ≤ p → Bel B w0 w → Bel B w0 ((((((w.setCell ⟨p, 0, none⟩ v0).setCell ⟨p, 1, none⟩ v1).setCell ⟨p, 2, none⟩ v2).setCell ⟨p, 3, none⟩ v3).setCell ⟨p, 4, none⟩ v4).setCell ⟨p, 5, none⟩ v5)) := by
  refine ⟨?_, ⟨by simp [World.setCell], fun q hq => ?_⟩, fun B hp hb => ?_⟩
  · have h := ((((((ho.put 0 v0).put 1 v1).put 2 v2).put 3 v3).put 4 v4).put 5 v5)
    refine h.as ?_
    obtain ⟨l⟩ := cs
    have hl : l.length = 6 := hc
    obtain ⟨y0, l, rfl⟩ := List.exists_cons_of_length_eq_add_one hl
    replace hl : l.length = 5 := by simpa using hl
    obtain ⟨y1, l, rfl⟩ := List.exists_cons_of_length_eq_add_one hl
    replace hl : l.length = 4 := by simpa using hl
    obtain ⟨y2, l, rfl⟩ := List.exists_cons_of_length_eq_add_one hl
    replace hl : l.length = 3 := by simpa using hl
    obtain ⟨y3, l, rfl⟩ := List.exists_cons_of_length_eq_add_one hl
    replace hl : l.length = 2 := by simpa using hl
    obtain ⟨y4, l, rfl⟩ := List.exists_cons_of_length_eq_add_one hl
    replace hl : l.length = 1 := by simpa using hl
    obtain ⟨y5, l, rfl⟩ := List.exists_cons_of_length_eq_add_one hl
    replace hl : l.length = 0 := by simpa using hl
    obtain rfl := List.length_eq_zero_iff.1 hl
    simp only [List.setIfInBounds_toArray, List.set_cons_zero, List.set_cons_succ]
  · rw [Bel.heap_setCell _ _ _ _ hq, Bel.heap_setCell _ _ _ _ hq, Bel.heap_setCell _ _ _ _ hq, Bel.heap_setCell _ _ _ _ hq, Bel.heap_setCell _ _ _ _ hq, Bel.heap_setCell _ _ _ _ hq]
  · exact ((((((hb.setCell hp _).setCell hp _).setCell hp _).setCell hp _).setCell hp _).setCell hp _)
theorem st_Y {s s' : Nat} {v0 : Int} {v1 : Int} {v2 : Int} {v3 : Int} {v4 : Int} {v5 : Int} {g : Nat} {cs0 : Array Value} (h : a.tmps[s]? = some (.pointer (some ⟨g, 0, none⟩))) (ho : Own w g 88 cs0) (hc : cs0.size = 6) (h' : a.tmps[s']? = some (.agg #[.int .i64 v0, .int .i64 v1, .int .i64 v2, .int .i64 v3, .int .i64 v4, .int .i64 v5])) : Step Try.prog w0 { dst := none, op := .store 88 (.tmp s) (.tmp s'), type := t, pos := pos, after := af, guard := gd } (.put s 88 #[.int .i64 v0, .int .i64 v1, .int .i64 v2, .int .i64 v3, .int .i64 v4, .int .i64 v5]) a w :=
  by
  refine ⟨rfl, ((((((w.setCell ⟨g, 0, none⟩ (.int .i64 v0)).setCell ⟨g, 1, none⟩ (.int .i64 v1)).setCell ⟨g, 2, none⟩ (.int .i64 v2)).setCell ⟨g, 3, none⟩ (.int .i64 v3)).setCell ⟨g, 4, none⟩ (.int .i64 v4)).setCell ⟨g, 5, none⟩ (.int .i64 v5)), .inl ?_, fun p cs hp hop hcs => ?_⟩
  rotate_left
  · obtain rfl : g = p := by rw [h] at hp; simpa using hp
    exact only_Y hop hcs
  · obtain ⟨h1, h2, h3⟩ := ho.at_
    have c0 : cs0[0]? = some cs0[0] := by simp [hc]
    have c1 : cs0[1]? = some cs0[1] := by simp [hc]
    have c2 : cs0[2]? = some cs0[2] := by simp [hc]
    have c3 : cs0[3]? = some cs0[3] := by simp [hc]
    have c4 : cs0[4]? = some cs0[4] := by simp [hc]
    have c5 : cs0[5]? = some cs0[5] := by simp [hc]
    simp [go_sem, execOp, h, h', h1, h2, c0, c1, c2, c3, c4, c5]
theorem sb_Y {s s' n0 : Nat} {v0 : Int} {v1 : Int} {v2 : Int} {v3 : Int} {v4 : Int} {v5 : Int} (h : Sat n0 (some s) (.blk 88 6) a w) (h' : a.tmps[s']? = some (.agg #[.int .i64 v0, .int .i64 v1, .int .i64 v2, .int .i64 v3, .int .i64 v4, .int .i64 v5])) : Step Try.prog w0 { dst := none, op := .store 88 (.tmp s) (.tmp s'), type := t, pos := pos, after := af, guard := gd } (.put s 88 #[.int .i64 v0, .int .i64 v1, .int .i64 v2, .int .i64 v3, .int .i64 v4, .int .i64 v5]) a w :=
  by
  obtain ⟨d, g, cs, hd, ht, _, hc, ho⟩ := h
  obtain rfl : s = d := Option.some.inj hd
  exact st_Y ht ho hc h'
end
end Go.Proofs.Ytibnackmddigaaa
