
/- Acts of layer 9 that came in as arguments: one by value, and a slice of them. It speaks of no function. -/
import Derived.Test.YtmincpmkiheofaaDisF
import Derived.ProofKit
import Derived.OpenShut
import Derived.ChangeSame
import Derived.MakeChecks
import Derived.Deep.Slices
import Derived.Deep.Fields
import Derived.Deep.Grids
namespace Go.Proofs.Ytmincpmkiheofaa
open Go.ChangeShapes Go.WideShapes Go.ChangeAt Go.RowKit
set_option linter.unusedVariables false
structure ActD where
  act : Int
  byte : Int
  n : Int
  ka : Option Addr
  kl : Nat
  kc : Nat
  zs : List Bool
  torn : Int
  bytes : Int
instance : Inhabited ActD := ⟨⟨0, 0, 0, none, 0, 0, [], 0, 0⟩⟩
def ActD.cells (x : ActD) : Array Value := #[.int .u8 x.act, .int .u8 x.byte, .int .i64 x.n, .slice x.ka x.kl x.kc, .int .i64 x.torn, .int .i64 x.bytes]
structure ActD.Ok (w : World) (x : ActD) : Prop where
  act : (Lit.int .u8 x.act).wf = true
  byte : (Lit.int .u8 x.byte).wf = true
  n : (Lit.int .i64 x.n).wf = true
  keep : IsBools w x.ka x.kl x.kc x.zs
  old : ∀ b o, x.ka = some ⟨b, o, none⟩ → 0 < x.kl → b < w.heap.size
  torn : (Lit.int .i64 x.torn).wf = true
  bytes : (Lit.int .i64 x.bytes).wf = true
theorem wf_u8 {x : Int} (h : (Lit.int .u8 x).wf = true) : 0 ≤ x ∧ x ≤ 255 := by
  simp [Lit.wf, IntKind.min, IntKind.max, IntKind.signed, IntKind.bits] at h
  omega
theorem cell_spot {w : World} {a : Addr} {v : Value} (h : w.cell? a = some v) : a.spot = none := by
  unfold World.cell? at h
  cases hs : a.spot with
  | none => rfl
  | some x => rw [hs] at h; split at h <;> simp at h
theorem addr_plain {a : Addr} (h : a.spot = none) (i : Nat) : a = ⟨a.block, a.off, none⟩ ∧ a.add i = ⟨a.block, a.off + i, none⟩ := by
  obtain ⟨b, o, s⟩ := a
  simp only at h
  subst h
  exact ⟨rfl, by unfold Addr.add; split <;> simp_all⟩
theorem add_spot {a : Addr} (h : (a.add 0).spot = none) : a.spot = none := by
  obtain ⟨b, o, s⟩ := a
  cases s with
  | none => rfl
  | some x => unfold Addr.add at h; simp at h
section
variable {H : Type} {enc : TypeId × Value → H} {W : World} {base : Nat} {held : Bool}
theorem open_keep {fuel : Nat} {cs : List Value} {x : DataW H × List MemPlace} (h : DataW.trod enc Try.prog W base (fun _ => true) held fuel 36 cs = some x) :
    ∃ a l c zs, cs = [.slice a l c] ∧ IsBools W a l c zs ∧ ∀ b o, a = some ⟨b, o, none⟩ → 0 < l → b < W.heap.size := by
  rcases Deep.open_bools Try.underlying36 Try.underlying4 (by kernel_rfl) h with ⟨rfl, _⟩ | ⟨a, len, cap, B, rfl, hb, hl, hm, _, hc⟩
  · exact ⟨none, 0, 0, [], rfl, ⟨Nat.le_refl _, Nat.zero_le _, .inl rfl⟩, fun _ _ h => by cases h⟩
  · refine ⟨some a, len, cap, (List.range len).map B, rfl, ⟨hl, hm, ?_⟩, ?_⟩
    · by_cases h0 : len = 0
      · exact .inl h0
      · have hs := add_spot (cell_spot (hc 0 (by omega)))
        refine .inr ⟨a.block, a.off, congrArg some (addr_plain hs 0).1, fun i hi => ?_⟩
        rw [← (addr_plain hs i).2, hc i (by omega)]
        simp [List.getD, hi]
    · intro b o e h0
      have hs := add_spot (cell_spot (hc 0 (by omega)))
      have := hc 0 (by omega)
      rw [(addr_plain hs 0).2] at this
      have e' : a = ⟨b, o, none⟩ := by simpa using e
      rw [e'] at this
      exact cell_lt this
set_option maxRecDepth 10000 in
theorem open_acells {fuel : Nat} {cs : List Value} {x : DataW H × List MemPlace} (h : DataW.trod enc Try.prog W base (fun _ => true) held fuel 38 cs = some x) :
    ∃ a : ActD, cs = a.cells.toList ∧ a.Ok W := by
  obtain ⟨xs, n, _, _, hl, hxl, hf⟩ := DataW.trod_struct Try.underlying38 h
  have hc : Try.prog.cellsOf 38 = 6 := by kernel_rfl
  rw [hc] at hl
  have c1 : Try.prog.cellsOf 5 = 1 := by kernel_rfl
  have c2 : Try.prog.cellsOf 3 = 1 := by kernel_rfl
  have c3 : Try.prog.cellsOf 9 = 1 := by kernel_rfl
  have c4 : Try.prog.cellsOf 36 = 1 := by kernel_rfl
  match cs, hl with
  | [v0, v1, v2, v3, v4, v5], _ =>
    have hx6 : xs.length = 6 := hxl
    match xs, hx6 with
    | [y0, y1, y2, y3, y4, y5], _ =>
      have h0 : DataW.trod enc Try.prog W base (fun _ => true) held n 5 [v0] = some y0 := by
        have h := hf 0 _ rfl
        change DataW.trod enc Try.prog W base (fun _ => true) held n 5 (List.take (Try.prog.cellsOf 5) [v0, v1, v2, v3, v4, v5]) = some y0 at h
        rw [c1] at h
        exact h
      have h1 : DataW.trod enc Try.prog W base (fun _ => true) held n 5 [v1] = some y1 := by
        have h := hf 1 _ rfl
        change DataW.trod enc Try.prog W base (fun _ => true) held n 5 (List.take (Try.prog.cellsOf 5) [v1, v2, v3, v4, v5]) = some y1 at h
        rw [c1] at h
        exact h
      have h2 : DataW.trod enc Try.prog W base (fun _ => true) held n 3 [v2] = some y2 := by
        have h := hf 2 _ rfl
        change DataW.trod enc Try.prog W base (fun _ => true) held n 3 (List.take (Try.prog.cellsOf 3) [v2, v3, v4, v5]) = some y2 at h
        rw [c2] at h
        exact h
      have h3 : DataW.trod enc Try.prog W base (fun _ => true) held n 36 [v3] = some y3 := by
        have h := hf 3 _ rfl
        change DataW.trod enc Try.prog W base (fun _ => true) held n 36 (List.take (Try.prog.cellsOf 36) [v3, v4, v5]) = some y3 at h
        rw [c4] at h
        exact h
      have h4 : DataW.trod enc Try.prog W base (fun _ => true) held n 3 [v4] = some y4 := by
        have h := hf 4 _ rfl
        change DataW.trod enc Try.prog W base (fun _ => true) held n 3 (List.take (Try.prog.cellsOf 3) [v4, v5]) = some y4 at h
        rw [c2] at h
        exact h
      have h5 : DataW.trod enc Try.prog W base (fun _ => true) held n 3 [v5] = some y5 := by
        have h := hf 5 _ rfl
        change DataW.trod enc Try.prog W base (fun _ => true) held n 3 (List.take (Try.prog.cellsOf 3) [v5]) = some y5 at h
        rw [c2] at h
        exact h
      obtain ⟨x0, e0, _, w0⟩ := DataW.trod_int Try.underlying5 h0
      obtain ⟨x1, e1, _, w1⟩ := DataW.trod_int Try.underlying5 h1
      obtain ⟨x2, e2, _, w2⟩ := DataW.trod_int Try.underlying3 h2
      obtain ⟨ka, kl, kc, zs, e3, w3, w6⟩ := open_keep h3
      obtain ⟨x4, e4, _, w4⟩ := DataW.trod_int Try.underlying3 h4
      obtain ⟨x5, e5, _, w5⟩ := DataW.trod_int Try.underlying3 h5
      simp at e0 e1 e2 e3 e4 e5
      subst e0 e1 e2 e3 e4 e5
      exact ⟨⟨x0, x1, x2, ka, kl, kc, zs, x4, x5⟩, rfl, ⟨w0, w1, w2, w3, w6, w4, w5⟩⟩
set_option maxRecDepth 10000 in
theorem open_act {r : Reach} {b0 : Nat} {v : Value} {d : DataW H} {ps : List MemPlace} (hval : Value.okWide Try.prog W r b0 38 v) (hd : DataW.Trod enc Try.prog W base (fun _ => true) held 38 v d ps) :
    ∃ a : ActD, v = .agg a.cells ∧ a.Ok W := by
  obtain ⟨cs, rfl, hsz⟩ := okWide_struct Try.underlying38 hval
  obtain ⟨fuel, hf⟩ := hd
  obtain ⟨a, e, ok⟩ := open_acells hf
  refine ⟨a, ?_, ok⟩
  obtain ⟨l⟩ := cs
  have e' : l = a.cells.toList := e
  rw [e']
/-- a slice of acts that came in -/
def IsActs (w : World) (a : Option Addr) (len cap : Nat) (l : List ActD) : Prop :=
  len ≤ cap ∧ cap ≤ maxLen ∧ l.length = len ∧ (len = 0 ∨ ∃ b o, a = some ⟨b, o, none⟩ ∧ b < w.heap.size ∧ ∀ i (h : i < l.length), (∀ j, j < 6 → w.cell? ⟨b, o + i * 6 + j, none⟩ = (l[i]'h).cells[j]?) ∧ (l[i]'h).Ok w)
set_option maxRecDepth 10000 in
theorem open_acts {fuel : Nat} {cs : List Value} {x : DataW H × List MemPlace} (h : DataW.trod enc Try.prog W base (fun _ => true) held fuel 23 cs = some x) :
    ∃ a l c zs, cs = [.slice a l c] ∧ IsActs W a l c zs := by
  have hc6 : Try.prog.cellsOf 38 = 6 := by kernel_rfl
  rcases Deep.open_slice Try.underlying23 h with ⟨rfl, _⟩ | ⟨a, len, cap, m, n, D, Pl, rfl, hb, hl, hm, hmm, _, hi⟩
  · exact ⟨none, 0, 0, [], rfl, ⟨Nat.le_refl _, Nat.zero_le _, rfl, .inl rfl⟩⟩
  · simp at hmm
    subst hmm
    rw [hc6] at hi
    have each : ∀ i, i < len → ∃ y : ActD, (∀ j, j < 6 → W.cell? ((a.add (i * 6)).add j) = y.cells[j]?) ∧ y.Ok W := fun i hil => by
      obtain ⟨cs', h1, h2⟩ := hi i (by omega)
      obtain ⟨_, h3, h4⟩ := World.cells?_some h1
      obtain ⟨y, e, ok⟩ := open_acells h2
      exact ⟨y, fun j hj => by rw [h4 j hj, e]; simp, ok⟩
    obtain ⟨f, hf⟩ := Deep.choose_lt (α := ActD) (p := fun i y => (∀ j, j < 6 → W.cell? ((a.add (i * 6)).add j) = y.cells[j]?) ∧ y.Ok W) each
    refine ⟨some a, len, m, (List.range len).map f, rfl, ⟨hl, hm, by simp, ?_⟩⟩
    by_cases h0 : len = 0
    · exact .inl h0
    · have hc0 := (hf 0 (by omega)).1 0 (by omega)
      rw [Deep.add_add] at hc0
      have hs := add_spot (cell_spot (v := .int .u8 (f 0).act) hc0)
      refine .inr ⟨a.block, a.off, congrArg some (addr_plain hs 0).1, ?_, fun i hil => ?_⟩
      · rw [(addr_plain hs _).2] at hc0
        exact cell_lt (v := .int .u8 (f 0).act) hc0
      · simp only [List.length_map, List.length_range] at hil
        have := hf i hil
        simp only [List.getElem_map, List.getElem_range]
        refine ⟨fun j hj => ?_, this.2⟩
        rw [← this.1 j hj, Deep.add_add, (addr_plain hs _).2, Nat.add_assoc]
end
end Go.Proofs.Ytmincpmkiheofaa
