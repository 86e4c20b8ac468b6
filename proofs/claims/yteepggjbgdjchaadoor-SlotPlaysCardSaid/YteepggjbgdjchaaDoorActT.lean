
/- Acts of layer 12 that came in as arguments: one by value, and a slice of them. It speaks of no function. -/
import Derived.Test.YteepggjbgdjchaaDoorSta
import Derived.ProofKit
import Derived.OpenShut
import Derived.ChangeSame
import Derived.MakeChecks
import Derived.SizedLaws
import Derived.Deep.Slices
import Derived.Deep.Fields
import Derived.Deep.Grids
namespace Go.Proofs.YteepggjbgdjchaaDoor
open Go.ChangeShapes Go.WideShapes Go.ChangeAt Go.RowKit
set_option linter.unusedVariables false
structure ActD where
  act : Int
  no : Int
  s : ByteArray
instance : Inhabited ActD := ⟨⟨0, 0, ⟨#[]⟩⟩⟩
def ActD.cells (x : ActD) : Array Value := #[.int .u8 x.act, .int .i64 x.no, .string x.s]
structure ActD.Ok (x : ActD) : Prop where
  act : (Lit.int .u8 x.act).wf = true
  no : (Lit.int .i64 x.no).wf = true
  s : x.s.size ≤ maxLen
theorem wf_u8 {x : Int} (h : (Lit.int .u8 x).wf = true) : 0 ≤ x ∧ x ≤ 255 := by
  simp [Lit.wf, IntKind.min, IntKind.max, IntKind.signed, IntKind.bits] at h
  omega
theorem cell_spot {w : World} {a : Addr} {v : Value} (h : w.cell? a = some v) : a.spot = none := by
  unfold World.cell? at h
  cases hs : a.spot with
  | none => rfl
  | some x => rw [hs] at h; split at h <;> simp at h
theorem addr_plain {a : Addr} (h : a.spot = none) (i : Nat) : a = ⟨a.block, a.off, none⟩ ∧ a.add i = ⟨a.block, a.off + i, none⟩ := by
  obtain ⟨b, o, s⟩ := a
  simp only at h
  subst h
  exact ⟨rfl, by unfold Addr.add; split <;> simp_all⟩
theorem add_spot {a : Addr} (h : (a.add 0).spot = none) : a.spot = none := by
  obtain ⟨b, o, s⟩ := a
  cases s with
  | none => rfl
  | some x => unfold Addr.add at h; simp at h
section
variable {H : Type} {enc : TypeId × Value → H} {W : World} {base : Nat} {held : Bool}
set_option maxRecDepth 10000 in
theorem open_acells {fuel : Nat} {cs : List Value} {x : DataW H × List MemPlace} (h : DataW.trod enc Tryd.prog W base (fun _ => true) held fuel 28 cs = some x) :
    ∃ a : ActD, cs = a.cells.toList ∧ a.Ok := by
  obtain ⟨xs, n, _, hx, hl, hxl, hf⟩ := DataW.trod_struct Tryd.underlying28 h
  have hc : Tryd.prog.cellsOf 28 = 3 := by kernel_rfl
  rw [hc] at hl
  have c1 : Tryd.prog.cellsOf 5 = 1 := by kernel_rfl
  have c2 : Tryd.prog.cellsOf 3 = 1 := by kernel_rfl
  have c3 : Tryd.prog.cellsOf 9 = 1 := by kernel_rfl
  match cs, hl with
  | [v0, v1, v2], _ =>
    have hx3 : xs.length = 3 := hxl
    match xs, hx3 with
    | [y0, y1, y2], _ =>
      have h0 : DataW.trod enc Tryd.prog W base (fun _ => true) held n 5 [v0] = some y0 := by
        have h := hf 0 _ rfl
        change DataW.trod enc Tryd.prog W base (fun _ => true) held n 5 (List.take (Tryd.prog.cellsOf 5) [v0, v1, v2]) = some y0 at h
        rw [c1] at h
        exact h
      have h1 : DataW.trod enc Tryd.prog W base (fun _ => true) held n 3 [v1] = some y1 := by
        have h := hf 1 _ rfl
        change DataW.trod enc Tryd.prog W base (fun _ => true) held n 3 (List.take (Tryd.prog.cellsOf 3) [v1, v2]) = some y1 at h
        rw [c2] at h
        exact h
      have h2 : DataW.trod enc Tryd.prog W base (fun _ => true) held n 9 [v2] = some y2 := by
        have h := hf 2 _ rfl
        change DataW.trod enc Tryd.prog W base (fun _ => true) held n 9 (List.take (Tryd.prog.cellsOf 9) [v2]) = some y2 at h
        rw [c3] at h
        exact h
      obtain ⟨x0, e0, d0, w0⟩ := DataW.trod_int Tryd.underlying5 h0
      obtain ⟨x1, e1, d1, w1⟩ := DataW.trod_int Tryd.underlying3 h1
      obtain ⟨x2, e2, d2, w2⟩ := DataW.trod_string Tryd.underlying9 h2
      simp at e0 e1 e2
      subst e0 e1 e2 d0 d1 d2
      exact ⟨⟨x0, x1, x2⟩, rfl, ⟨w0, w1, w2⟩⟩
set_option maxRecDepth 10000 in
theorem open_act {r : Reach} {b0 : Nat} {v : Value} {d : DataW H} {ps : List MemPlace} (hval : Value.okWide Tryd.prog W r b0 28 v) (hd : DataW.Trod enc Tryd.prog W base (fun _ => true) held 28 v d ps) :
    ∃ a : ActD, v = .agg a.cells ∧ a.Ok := by
  obtain ⟨cs, rfl, hsz⟩ := okWide_struct Tryd.underlying28 hval
  obtain ⟨fuel, hf⟩ := hd
  obtain ⟨a, e, ok⟩ := open_acells hf
  refine ⟨a, ?_, ok⟩
  obtain ⟨l⟩ := cs
  have e' : l = a.cells.toList := e
  rw [e']
/-- a slice of acts that came in -/
def IsActs (w : World) (a : Option Addr) (len cap : Nat) (l : List ActD) : Prop :=
  len ≤ cap ∧ cap ≤ maxLen ∧ l.length = len ∧ (len = 0 ∨ ∃ b o, a = some ⟨b, o, none⟩ ∧ b < w.heap.size ∧ ∀ i (h : i < l.length), (∀ j, j < 3 → w.cell? ⟨b, o + i * 3 + j, none⟩ = (l[i]'h).cells[j]?) ∧ (l[i]'h).Ok)
set_option maxRecDepth 10000 in
theorem open_acts {fuel : Nat} {cs : List Value} {x : DataW H × List MemPlace} (h : DataW.trod enc Tryd.prog W base (fun _ => true) held fuel 22 cs = some x) :
    ∃ a l c zs, cs = [.slice a l c] ∧ IsActs W a l c zs := by
  have hc3 : Tryd.prog.cellsOf 28 = 3 := by kernel_rfl
  rcases Deep.open_slice Tryd.underlying22 h with ⟨rfl, _⟩ | ⟨a, len, cap, m, n, D, Pl, rfl, hb, hl, hm, hmm, hx, hi⟩
  · exact ⟨none, 0, 0, [], rfl, ⟨Nat.le_refl _, Nat.zero_le _, rfl, .inl rfl⟩⟩
  · simp at hmm
    subst hmm
    rw [hc3] at hi
    have each : ∀ i, i < len → ∃ y : ActD, (∀ j, j < 3 → W.cell? ((a.add (i * 3)).add j) = y.cells[j]?) ∧ y.Ok := fun i hil => by
      obtain ⟨cs', h1, h2⟩ := hi i (by omega)
      obtain ⟨_, h3, h4⟩ := World.cells?_some h1
      obtain ⟨y, e, ok⟩ := open_acells h2
      exact ⟨y, fun j hj => by rw [h4 j hj, e]; simp, ok⟩
    obtain ⟨f, hf⟩ := Deep.choose_lt (α := ActD) (p := fun i y => (∀ j, j < 3 → W.cell? ((a.add (i * 3)).add j) = y.cells[j]?) ∧ y.Ok) each
    refine ⟨some a, len, m, (List.range len).map f, rfl, ⟨hl, hm, by simp, ?_⟩⟩
    by_cases h0 : len = 0
    · exact .inl h0
    · have hc0 := (hf 0 (by omega)).1 0 (by omega)
      rw [Deep.add_add] at hc0
      have hs := add_spot (cell_spot (v := .int .u8 (f 0).act) hc0)
      refine .inr ⟨a.block, a.off, congrArg some (addr_plain hs 0).1, ?_, fun i hil => ?_⟩
      · rw [(addr_plain hs _).2] at hc0
        exact cell_lt (v := .int .u8 (f 0).act) hc0
      · simp only [List.length_map, List.length_range] at hil
        have := hf i hil
        simp only [List.getElem_map, List.getElem_range]
        refine ⟨fun j hj => ?_, this.2⟩
        rw [← this.1 j hj, Deep.add_add, (addr_plain hs _).2, Nat.add_assoc]
theorem IsActs.keep {w w' : World} {a : Option Addr} {len cap : Nat} {l : List ActD} (h : IsActs w a len cap l) (hb : Below w.heap.size w w') : IsActs w' a len cap l := by
  obtain ⟨h1, h2, h3, h4⟩ := h
  refine ⟨h1, h2, h3, ?_⟩
  rcases h4 with h4 | ⟨b, o, rfl, hbz, h4⟩
  · exact .inl h4
  · refine .inr ⟨b, o, rfl, Nat.lt_of_lt_of_le hbz hb.size, fun i hi => ⟨fun j hj => ?_, (h4 i hi).2⟩⟩
    rw [hb.cell (p := ⟨b, o + i * 3 + j, none⟩) hbz]
    exact (h4 i hi).1 j hj
theorem IsActs.at_ {w : World} {a : Option Addr} {len cap : Nat} {l : List ActD} (h : IsActs w a len cap l) (i : Nat) (hi : i < l.length) : ∃ b o, a = some ⟨b, o, none⟩ ∧ b < w.heap.size ∧ w.cell? ⟨b, o + i * 3, none⟩ = some (.int .u8 (l[i]'hi).act) ∧ w.cell? ⟨b, o + i * 3 + 1, none⟩ = some (.int .i64 (l[i]'hi).no) ∧ w.cell? ⟨b, o + i * 3 + 2, none⟩ = some (.string (l[i]'hi).s) ∧ (l[i]'hi).Ok := by
  obtain ⟨h1, h2, h3, h4⟩ := h
  rcases h4 with h4 | ⟨b, o, rfl, hb, h4⟩
  · omega
  · obtain ⟨h5, h6⟩ := h4 i hi
    exact ⟨b, o, rfl, hb, h5 0 (by omega), h5 1 (by omega), h5 2 (by omega), h6⟩
end
end Go.Proofs.YteepggjbgdjchaaDoor
