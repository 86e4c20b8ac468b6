/- merged: A plan that came in as an argument: its vertices and edges as they lie in memory. It speaks of no function. A half that came in as an argument. It speaks of no function. -/
import Derived.Test.YtibnackmddigaaaPlnA
import Derived.Test.YtibnackmddigaaaWideA
import Derived.ProofKit
import Derived.OpenShut
import Derived.ChangeSame
import Derived.MakeChecks
import Derived.Deep.Slices
import Derived.Deep.Fields
import Derived.Deep.Grids
import Derived.Test.YtibnackmddigaaaSpnM
section
namespace Go.Proofs.Ytibnackmddigaaa.Pl
open Go.ChangeShapes Go.WideShapes Go.ChangeAt Go.RowKit
set_option linter.unusedVariables false
set_option linter.unusedSimpArgs false
set_option maxRecDepth 20000
theorem cell_spot {w : World} {a : Addr} {v : Value} (h : w.cell? a = some v) : a.spot = none := by
  unfold World.cell? at h
  cases hs : a.spot with
  | none => rfl
  | some x => rw [hs] at h; split at h <;> simp at h
theorem addr_plain {a : Addr} (h : a.spot = none) (i : Nat) : a = ⟨a.block, a.off, none⟩ ∧ a.add i = ⟨a.block, a.off + i, none⟩ := by
  obtain ⟨b, o, s⟩ := a
  simp only at h
  subst h
  exact ⟨rfl, by unfold Addr.add; split <;> simp_all⟩
theorem add_spot {a : Addr} (h : (a.add 0).spot = none) : a.spot = none := by
  obtain ⟨b, o, s⟩ := a
  cases s with
  | none => rfl
  | some x => unfold Addr.add at h; simp at h
section
variable {H : Type} {enc : TypeId × Value → H} {W : World} {base : Nat} {held : Bool}
theorem open_edge {fuel : Nat} {cs : List Value} {x : DataW H × List MemPlace} (h : DataW.trod enc Try.prog W base (fun _ => true) held fuel 71 cs = some x) :
    ∃ y : Eg, cs = [.int .i64 y.id, .int .i64 y.a, .int .i64 y.b] := by
  obtain ⟨xs, n, _, _, hl, hxl, hf⟩ := DataW.trod_struct Try.underlying71 h
  have hc : Try.prog.cellsOf 71 = 3 := by kernel_rfl
  rw [hc] at hl
  have c2 : Try.prog.cellsOf 3 = 1 := by kernel_rfl
  match cs, hl with
  | [v0, v1, v2], _ =>
    have hx3 : xs.length = 3 := hxl
    match xs, hx3 with
    | [y0, y1, y2], _ =>
      have h0 : DataW.trod enc Try.prog W base (fun _ => true) held n 3 [v0] = some y0 := by
        have h := hf 0 _ rfl
        change DataW.trod enc Try.prog W base (fun _ => true) held n 3 (List.take (Try.prog.cellsOf 3) [v0, v1, v2]) = some y0 at h
        rw [c2] at h
        exact h
      have h1 : DataW.trod enc Try.prog W base (fun _ => true) held n 3 [v1] = some y1 := by
        have h := hf 1 _ rfl
        change DataW.trod enc Try.prog W base (fun _ => true) held n 3 (List.take (Try.prog.cellsOf 3) [v1, v2]) = some y1 at h
        rw [c2] at h
        exact h
      have h2 : DataW.trod enc Try.prog W base (fun _ => true) held n 3 [v2] = some y2 := by
        have h := hf 2 _ rfl
        change DataW.trod enc Try.prog W base (fun _ => true) held n 3 (List.take (Try.prog.cellsOf 3) [v2]) = some y2 at h
        rw [c2] at h
        exact h
      obtain ⟨x0, e0, _, _⟩ := DataW.trod_int Try.underlying3 h0
      obtain ⟨x1, e1, _, _⟩ := DataW.trod_int Try.underlying3 h1
      obtain ⟨x2, e2, _, _⟩ := DataW.trod_int Try.underlying3 h2
      simp at e0 e1 e2
      subst e0 e1 e2
      exact ⟨⟨x0, x1, x2⟩, rfl⟩
theorem open_vertex {fuel : Nat} {cs : List Value} {x : DataW H × List MemPlace} (h : DataW.trod enc Try.prog W base (fun _ => true) held fuel 39 cs = some x) :
    ∃ y : Vx, cs = [.int .i64 y.id, .int .i64 y.x, .int .i64 y.y] := by
  obtain ⟨xs, n, _, _, hl, hxl, hf⟩ := DataW.trod_struct Try.underlying39 h
  have hc : Try.prog.cellsOf 39 = 3 := by kernel_rfl
  rw [hc] at hl
  have c1 : Try.prog.cellsOf 37 = 2 := by kernel_rfl
  have c2 : Try.prog.cellsOf 3 = 1 := by kernel_rfl
  match cs, hl with
  | [v0, v1, v2], _ =>
    have hx3 : xs.length = 2 := hxl
    match xs, hx3 with
    | [y0, y1], _ =>
      have h0 : DataW.trod enc Try.prog W base (fun _ => true) held n 3 [v0] = some y0 := by
        have h := hf 0 _ rfl
        change DataW.trod enc Try.prog W base (fun _ => true) held n 3 (List.take (Try.prog.cellsOf 3) [v0, v1, v2]) = some y0 at h
        rw [c2] at h
        exact h
      have h1 : DataW.trod enc Try.prog W base (fun _ => true) held n 37 [v1, v2] = some y1 := by
        have h := hf 1 _ rfl
        change DataW.trod enc Try.prog W base (fun _ => true) held n 37 (List.take (Try.prog.cellsOf 37) [v1, v2]) = some y1 at h
        rw [c1] at h
        exact h
      obtain ⟨x0, e0, _, _⟩ := DataW.trod_int Try.underlying3 h0
      obtain ⟨z0, z1, m, hx, _, hy0, hy1⟩ := trod_struct2 Try.underlying37 h1
      simp only [c2] at hy0 hy1
      obtain ⟨x1, e1, _, _⟩ := DataW.trod_int Try.underlying3 hy0
      obtain ⟨x2, e2, _, _⟩ := DataW.trod_int Try.underlying3 hy1
      simp at e0 e1 e2
      subst e0 e1 e2
      exact ⟨⟨x0, x1, x2⟩, rfl⟩
/-- rows of three numbers that came in -/
theorem open_rows {α : Type} [Inhabited α] (p q r : α → Int) {st et : TypeId} (hst : Try.prog.underlying st = some (.slice et)) (hce : Try.prog.cellsOf et = 3)
    (hop : ∀ {fuel : Nat} {cs : List Value} {x : DataW H × List MemPlace}, DataW.trod enc Try.prog W base (fun _ => true) held fuel et cs = some x → ∃ y : α, cs = [.int .i64 (p y), .int .i64 (q y), .int .i64 (r y)])
    {fuel : Nat} {cs : List Value} {x : DataW H × List MemPlace} (h : DataW.trod enc Try.prog W base (fun _ => true) held fuel st cs = some x) : ∃ v zs, cs = [v] ∧ TIn p q r W v zs := by
  rcases Deep.open_slice hst h with ⟨rfl, _⟩ | ⟨a, len, cap, m, n, D, Pl, rfl, hb, hl, hm, hmm, _, hi⟩
  · exact ⟨_, [], rfl, TIn.nil W⟩
  · simp at hmm
    subst hmm
    rw [hce] at hi
    have each : ∀ i, i < len → ∃ y : α, ∀ j, j < 3 → W.cell? ((a.add (i * 3)).add j) = [Value.int .i64 (p y), .int .i64 (q y), .int .i64 (r y)][j]? := fun i hil => by
      obtain ⟨cs', h1, h2⟩ := hi i (by omega)
      obtain ⟨_, h3, h4⟩ := World.cells?_some h1
      obtain ⟨y, e⟩ := hop h2
      exact ⟨y, fun j hj => by rw [h4 j hj, e]⟩
    obtain ⟨f, hf⟩ := Deep.choose_lt (α := α) (p := fun i y => ∀ j, j < 3 → W.cell? ((a.add (i * 3)).add j) = [Value.int .i64 (p y), .int .i64 (q y), .int .i64 (r y)][j]?) each
    refine ⟨_, (List.range len).map f, rfl, some a, m, by simp, by simpa using hl, hm, ?_⟩
    by_cases h0 : len = 0
    · left
      subst h0
      rfl
    · have hc0 := hf 0 (by omega) 0 (by omega)
      rw [Deep.add_add] at hc0
      have hs := add_spot (cell_spot (v := .int .i64 (p (f 0))) hc0)
      refine .inr ⟨a.block, a.off, congrArg some (addr_plain hs 0).1, ?_, fun i hil => ?_⟩
      · rw [(addr_plain hs _).2] at hc0
        exact cell_lt (v := .int .i64 (p (f 0))) hc0
      · simp only [List.length_map, List.length_range] at hil
        have k := hf i hil
        simp only [List.getElem_map, List.getElem_range]
        have k0 := k 0 (by omega)
        have k1 := k 1 (by omega)
        have k2 := k 2 (by omega)
        rw [Deep.add_add, (addr_plain hs _).2] at k0 k1 k2
        exact ⟨k0, k1, k2⟩
instance : Inhabited Vx := ⟨⟨0, 0, 0⟩⟩
instance : Inhabited Eg := ⟨⟨0, 0, 0⟩⟩
/-- a plan that came in -/
theorem open_plan {r : Reach} {b0 : Nat} {v : Value} {d : DataW H} {ps : List MemPlace} (hval : Value.okWide Try.prog W r b0 25 v) (hd : DataW.Trod enc Try.prog W base (fun _ => true) held 25 v d ps) :
    ∃ a b vs es, v = .agg #[a, b] ∧ VIn W a vs ∧ EIn W b es := by
  obtain ⟨cs, rfl, hsz⟩ := okWide_struct Try.underlying25 hval
  obtain ⟨fuel, hf⟩ := hd
  obtain ⟨xs, n, _, _, hl, hxl, hfi⟩ := DataW.trod_struct Try.underlying25 hf
  have hc : Try.prog.cellsOf 25 = 2 := by kernel_rfl
  rw [hc] at hl
  have c1 : Try.prog.cellsOf 22 = 1 := by kernel_rfl
  have c2 : Try.prog.cellsOf 23 = 1 := by kernel_rfl
  obtain ⟨l⟩ := cs
  have hl2 : l.length = 2 := hl
  match l, hl2 with
  | [v0, v1], _ =>
    have hx2 : xs.length = 2 := hxl
    match xs, hx2 with
    | [y0, y1], _ =>
      have h0 : DataW.trod enc Try.prog W base (fun _ => true) held n 22 [v0] = some y0 := by
        have h := hfi 0 _ rfl
        change DataW.trod enc Try.prog W base (fun _ => true) held n 22 (List.take (Try.prog.cellsOf 22) [v0, v1]) = some y0 at h
        rw [c1] at h
        exact h
      have h1 : DataW.trod enc Try.prog W base (fun _ => true) held n 23 [v1] = some y1 := by
        have h := hfi 1 _ rfl
        change DataW.trod enc Try.prog W base (fun _ => true) held n 23 (List.take (Try.prog.cellsOf 23) [v1]) = some y1 at h
        rw [c2] at h
        exact h
      obtain ⟨va, zs, e0, w0⟩ := open_rows Vx.id Vx.x Vx.y Try.underlying22 (by kernel_rfl) open_vertex h0
      obtain ⟨vb, us, e1, w1⟩ := open_rows Eg.id Eg.a Eg.b Try.underlying23 (by kernel_rfl) open_edge h1
      simp at e0 e1
      subst e0 e1
      exact ⟨v0, v1, zs, us, rfl, w0, w1⟩
end
end Go.Proofs.Ytibnackmddigaaa.Pl
end
section
namespace Go.Proofs.Ytibnackmddigaaa.Pl
open Go.ChangeShapes Go.WideShapes Go.ChangeAt Go.RowKit
set_option linter.unusedVariables false
set_option linter.unusedSimpArgs false
set_option maxRecDepth 20000
section
variable {H : Type} {enc : TypeId × Value → H} {W : World} {base : Nat} {spare : Nat → Bool} {held : Bool}
end
end Go.Proofs.Ytibnackmddigaaa.Pl
end
