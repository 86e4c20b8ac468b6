
/- Maps whose keys are structs or arrays, as lists of pairs: what is looked up, and a new pair. It speaks of no function. -/
import Derived.Test.YtibnackmddigaaaSta
import Derived.WideKeyRuns
namespace Go.Proofs.Ytibnackmddigaaa
open Go.ChangeShapes Go.WideShapes Go.ChangeAt Go.RowKit
set_option linter.unusedVariables false
set_option linter.unusedSimpArgs false
set_option linter.unusedSectionVars false

/-- how keys of a type are told -/
structure KeyG (P : Program) (kt : TypeId) {α : Type} [DecidableEq α] (K : α → Value) : Prop where
  chk : ∀ em a w, (Instr.checkKey em 10000 kt (K a)).run P w = .ok () w
  eq : ∀ a b w, (Op.equal kt (K a) (K b)).run P w = .ok (decide (a = b)) w
  wide : (match P.underlying kt with | some (.array _ _) | some (.struct _) => true | _ => false) = true
  kind : ∃ k, P.underlying kt = some k
/-- block b is a map of these pairs -/
def MapG (w : World) (b : Nat) {α : Type} (K : α → Value) (L : List (α × Value)) : Prop :=
  ∃ es ck, w.heap[b]? = some (.map es ck) ∧ es.toList.map (fun e => (e.key, e.val)) = L.map fun p => (K p.1, p.2)
def lkG {α : Type} [DecidableEq α] (L : List (α × Value)) (a : α) : Option Value := (L.find? fun p => decide (a = p.1)).map (·.2)
section
variable {α : Type} [DecidableEq α] {P : Program} {w w' : World} {t e kt : TypeId} {b : Nat} {K : α → Value} {L : List (α × Value)}
theorem MapG.in_ (h : MapG w b K L) : b < w.heap.size := by
  obtain ⟨es, ck, hb, _⟩ := h
  exact (Array.getElem?_eq_some_iff.1 hb).1
theorem MapG.keep (h : MapG w b K L) (e : w'.heap[b]? = w.heap[b]?) : MapG w' b K L := by
  obtain ⟨es, ck, hb, r⟩ := h
  exact ⟨es, ck, e.trans hb, r⟩
theorem MapG.ne (h : MapG w b K L) {p : Nat} {T : TypeId} {cs : Array Value} (ho : Own w p T cs) : b ≠ p := by
  rintro rfl
  obtain ⟨es, ck, hb, _⟩ := h
  unfold Own at ho
  rw [ho] at hb
  cases hb
theorem MapG.made (w : World) (K : α → Value) : MapG (w.alloc (.map #[] 0)) w.heap.size K [] := ⟨#[], 0, by unfold World.alloc; simp, by simp⟩
theorem ask_run (hk : KeyG P kt K) (a : α) : ∀ (L : List (α × Value)) (es : List MapEntry) (n : Nat), es.map (fun e => (e.key, e.val)) = L.map (fun p => (K p.1, p.2)) →
    ∃ r, (Instr.findAsking kt (K a) es n).run P w = .ok r w ∧ r.map (·.2) = lkG L a
  | [], es, n, h => by
    obtain rfl : es = [] := by simpa using h
    exact ⟨none, rfl, rfl⟩
  | p :: L, [], n, h => by simp at h
  | p :: L, x :: es, n, h => by
    simp only [List.map_cons, List.cons.injEq, Prod.mk.injEq] at h
    obtain ⟨⟨h1, h2⟩, h3⟩ := h
    by_cases hp : a = p.1
    · refine ⟨some (n, x.val), ?_, ?_⟩
      · unfold Instr.findAsking
        rw [h1]
        simp [Sem.run_bind, hk.eq, hp, Result.andThen]
      · simp [lkG, hp, h2]
    · obtain ⟨r, hr, hr2⟩ := ask_run hk a L es (n + 1) h3
      refine ⟨r, ?_, ?_⟩
      · unfold Instr.findAsking
        rw [h1]
        simp [Sem.run_bind, hk.eq, hp, Result.andThen, hr]
      · rw [hr2]
        simp [lkG, hp]
/-- v, ok := m[a] -/
theorem MapG.look (h : MapG w b K L) (ht : P.underlying t = some (.map kt e)) (hk : KeyG P kt K) {z : Value} (hz : (zeroValue e).run P w = .ok z w) (a : α) :
    (Instr.lookup t (.map (some b)) (K a) true).run P w = .ok (.tuple #[(lkG L a).getD z, .bool (lkG L a).isSome]) w := by
  obtain ⟨es, ck, hb, hL⟩ := h
  obtain ⟨r, hr, hr2⟩ := ask_run (w := w) hk a L es.toList 0 hL
  have hf : (Instr.findKey kt (K a) es.toList).run P w = .ok r w := by rw [run_findKey_eq w hk.wide]; exact hr
  rw [← hr2]
  cases r with
  | none => simp [Instr.lookup, run_underlying ht, MapKept.run_getObj_map hb, hk.chk, hf, hz, Result.andThen]
  | some x => simp [Instr.lookup, run_underlying ht, MapKept.run_getObj_map hb, hk.chk, hf, hz, Result.andThen]
/-- m[i] -/
theorem MapAt.look1 {k : IntKind} {f : Int → Option Value} (h : MapAt w b k f) (ht : P.underlying t = some (.map kt e)) (hk : P.underlying kt = some (.int k)) {z : Value} (hz : (zeroValue e).run P w = .ok z w) (i : Int) :
    (Instr.lookup t (.map (some b)) (.int k i) false).run P w = .ok ((f i).getD z) w := by
  obtain ⟨es, ck, hb, hks, hf⟩ := h
  rw [hf i]
  rcases findNow_int k i es.toList 0 hks with ⟨h1, h2⟩ | ⟨j, e0, h1, h2, h3, h4, h5⟩
  · simp [Instr.lookup, run_underlying ht, MapKept.run_getObj_map hb, checkKey_int hk, Instr.findKey, run_underlying hk, h1, h2, hz, Result.andThen]
  · simp [Instr.lookup, run_underlying ht, MapKept.run_getObj_map hb, checkKey_int hk, Instr.findKey, run_underlying hk, h3, h5, hz, Result.andThen]
/-- m[a] = v, where a is new -/
theorem MapG.put (h : MapG w b K L) (ht : P.underlying t = some (.map kt e)) (hk : KeyG P kt K) (a : α) (v : Value) (hn : lkG L a = none) :
    ∃ w', (Instr.mapUpdate t (.map (some b)) (K a) v).run P w = .ok () w' ∧ MapG w' b K (L ++ [(a, v)]) ∧ Chg (· = b) w w' ∧ w'.heap.size = w.heap.size := by
  obtain ⟨es, ck, hb, hL⟩ := h
  have hlt : b < w.heap.size := (Array.getElem?_eq_some_iff.1 hb).1
  obtain ⟨r, hr, hr2⟩ := ask_run (w := w) hk a L es.toList 0 hL
  have hf : (Instr.findKey kt (K a) es.toList).run P w = .ok r w := by rw [run_findKey_eq w hk.wide]; exact hr
  rw [hn] at hr2
  obtain rfl : r = none := by simpa using hr2
  refine ⟨{ w with heap := w.heap.setIfInBounds b (.map (es.push ⟨K a, v, ck⟩) (ck + 1)) }, by simp [Instr.mapUpdate, run_underlying ht, MapKept.run_getObj_map hb, hk.chk, hf, MapKept.run_setObj_map _ hb, Result.andThen], ⟨_, _, (by simp [hlt]; exact ⟨rfl, rfl⟩), by simp [hL]⟩, ⟨rfl, rfl, rfl, by simp, fun q _ hq => by simp; rw [Array.getElem?_setIfInBounds_ne (Ne.symm hq)]⟩, by simp⟩
end
end Go.Proofs.Ytibnackmddigaaa
