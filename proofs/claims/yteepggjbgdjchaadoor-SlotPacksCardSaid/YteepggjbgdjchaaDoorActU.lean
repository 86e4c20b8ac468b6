
/- Slots of the twelfth reference that came in as an argument: a slice of them. It speaks of no function. -/
import Derived.Test.YteepggjbgdjchaaDoorSloA
import Derived.ProofKit
import Derived.OpenShut
import Derived.ChangeSame
import Derived.MakeChecks
import Derived.SizedLaws
import Derived.Deep.Slices
import Derived.Deep.Fields
import Derived.Deep.Grids
namespace Go.Proofs.YteepggjbgdjchaaDoor
open Go.ChangeShapes Go.WideShapes Go.ChangeAt Go.RowKit
set_option linter.unusedVariables false
theorem cell_spot {w : World} {a : Addr} {v : Value} (h : w.cell? a = some v) : a.spot = none := by
  unfold World.cell? at h
  cases hs : a.spot with
  | none => rfl
  | some x => rw [hs] at h; split at h <;> simp at h
theorem addr_plain {a : Addr} (h : a.spot = none) (i : Nat) : a = ⟨a.block, a.off, none⟩ ∧ a.add i = ⟨a.block, a.off + i, none⟩ := by
  obtain ⟨b, o, s⟩ := a
  simp only at h
  subst h
  exact ⟨rfl, by unfold Addr.add; split <;> simp_all⟩
theorem add_spot {a : Addr} (h : (a.add 0).spot = none) : a.spot = none := by
  obtain ⟨b, o, s⟩ := a
  cases s with
  | none => rfl
  | some x => unfold Addr.add at h; simp at h
theorem weights_all {H : Type} {P : Program} {e : TypeId} : ∀ {l : List (DataW H)} {d : DataW H}, d ∈ l → ∀ q ∈ d.weights P e, q ∈ DataW.weightsAll P e l
  | a :: l, d, h, q, hq => by
    simp only [DataW.weightsAll, List.mem_append]
    rcases List.mem_cons.1 h with rfl | h
    · exact .inl hq
    · exact .inr (weights_all h q hq)
section
variable {H : Type} {enc : TypeId × Value → H} {W : World} {base : Nat} {held : Bool}
set_option maxRecDepth 10000 in
theorem open_scells {fuel : Nat} {cs : List Value} {x : DataW H × List MemPlace} (h : DataW.trod enc Tryd.prog W base (fun _ => true) held fuel 38 cs = some x) :
    ∃ a : Sl, cs = [.bool a.1, .string a.2] ∧ a.2.size ≤ maxLen ∧ ((∀ q ∈ x.1.weights Tryd.prog 38, q ≤ reachBytes) → a.2.size ≤ 140737488351232) := by
  obtain ⟨xs, n, _, hx, hl, hxl, hf⟩ := DataW.trod_struct Tryd.underlying38 h
  have hc : Tryd.prog.cellsOf 38 = 2 := by kernel_rfl
  rw [hc] at hl
  have c1 : Tryd.prog.cellsOf 4 = 1 := by kernel_rfl
  have c3 : Tryd.prog.cellsOf 9 = 1 := by kernel_rfl
  match cs, hl with
  | [v0, v1], _ =>
    have hx3 : xs.length = 2 := hxl
    match xs, hx3 with
    | [y0, y1], _ =>
      have h0 : DataW.trod enc Tryd.prog W base (fun _ => true) held n 4 [v0] = some y0 := by
        have h := hf 0 _ rfl
        change DataW.trod enc Tryd.prog W base (fun _ => true) held n 4 (List.take (Tryd.prog.cellsOf 4) [v0, v1]) = some y0 at h
        rw [c1] at h
        exact h
      have h2 : DataW.trod enc Tryd.prog W base (fun _ => true) held n 9 [v1] = some y1 := by
        have h := hf 1 _ rfl
        change DataW.trod enc Tryd.prog W base (fun _ => true) held n 9 (List.take (Tryd.prog.cellsOf 9) [v1]) = some y1 at h
        rw [c3] at h
        exact h
      obtain ⟨x0, e0, d0⟩ := DataW.trod_bool Tryd.underlying4 h0
      obtain ⟨x2, e2, d2, w2⟩ := DataW.trod_string Tryd.underlying9 h2
      simp at e0 e2
      subst e0 e2 d0 d2
      refine ⟨(x0, x2), rfl, w2, fun hq => ?_⟩
      rw [hx] at hq
      have h3 := hq x2.data.toList.length (by
        simp only [List.map_cons, List.map_nil, DataW.weights, Tryd.underlying38]
        simp [DataW.weightsEach, DataW.weights])
      have h4 : reachBytes = 140737488351232 := rfl
      have h5 : x2.data.toList.length = x2.size := Array.length_toList
      show x2.size ≤ _
      omega
set_option maxRecDepth 10000 in
theorem open_slots {fuel : Nat} {cs : List Value} {x : DataW H × List MemPlace} (h : DataW.trod enc Tryd.prog W base (fun _ => true) held fuel 36 cs = some x) (hw : ∀ q ∈ x.1.weights Tryd.prog 36, q ≤ reachBytes) :
    ∃ a l c zs, cs = [.slice a l c] ∧ SlIn W (.slice a l c) zs ∧ l = zs.length ∧ ∀ x ∈ zs, x.2.size ≤ 140737488351232 := by
  have hc3 : Tryd.prog.cellsOf 38 = 2 := by kernel_rfl
  rcases Deep.open_slice Tryd.underlying36 h with ⟨rfl, _⟩ | ⟨a, len, cap, m, n, D, Pl, rfl, hb, hl, hm, hmm, hx, hi⟩
  · exact ⟨none, 0, 0, [], rfl, SlIn.nil W, rfl, by simp⟩
  · simp at hmm
    subst hmm
    rw [hc3] at hi
    have each : ∀ i, i < len → ∃ y : Sl, ((∀ j, j < 2 → W.cell? ((a.add (i * 2)).add j) = [Value.bool y.1, .string y.2][j]?) ∧ y.2.size ≤ maxLen) ∧ y.2.size ≤ 140737488351232 := fun i hil => by
      obtain ⟨cs', h1, h2⟩ := hi i (by omega)
      obtain ⟨_, h3, h4⟩ := World.cells?_some h1
      obtain ⟨y, e, ok, hy⟩ := open_scells h2
      refine ⟨y, ⟨fun j hj => by rw [h4 j hj, ← e], ok⟩, hy fun q hq => hw q ?_⟩
      rw [hx]
      simp only [DataW.weights, Tryd.underlying36]
      refine List.mem_cons_of_mem _ (List.mem_append_left _ (weights_all (d := D i) ?_ q hq))
      exact List.mem_map.2 ⟨i, List.mem_range.2 hil, rfl⟩
    obtain ⟨f, hf⟩ := Deep.choose_lt (α := Sl) (p := fun i y => ((∀ j, j < 2 → W.cell? ((a.add (i * 2)).add j) = [Value.bool y.1, .string y.2][j]?) ∧ y.2.size ≤ maxLen) ∧ y.2.size ≤ 140737488351232) each
    refine ⟨some a, len, m, (List.range len).map f, rfl, ?_, by simp, ?_⟩
    · refine ⟨some a, m, by simp, by simpa using hl, hm, ?_⟩
      by_cases h0 : len = 0
      · left; subst h0; rfl
      · have hc0 := (hf 0 (by omega)).1.1 0 (by omega)
        rw [Deep.add_add] at hc0
        have hs := add_spot (cell_spot (v := .bool (f 0).1) hc0)
        refine .inr ⟨a.block, a.off, congrArg some (addr_plain hs 0).1, ?_, fun i hil => ?_⟩
        · rw [(addr_plain hs _).2] at hc0
          exact cell_lt (v := .bool (f 0).1) hc0
        · simp only [List.length_map, List.length_range] at hil
          have := (hf i hil).1
          simp only [List.getElem_map, List.getElem_range]
          have t0 := this.1 0 (by omega)
          have t1 := this.1 1 (by omega)
          rw [Deep.add_add, (addr_plain hs _).2] at t0 t1
          exact ⟨t0, t1, this.2⟩
    · intro y hy
      obtain ⟨i, hil, rfl⟩ := List.mem_map.1 hy
      exact (hf i (List.mem_range.1 hil)).2
end
end Go.Proofs.YteepggjbgdjchaaDoor
