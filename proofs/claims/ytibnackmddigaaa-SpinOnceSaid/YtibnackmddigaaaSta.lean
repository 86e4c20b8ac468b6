
/- What calls change that write to objects: the blocks named alone, and new ones; maps from integers. It speaks of no function. -/
import Derived.Test.YtibnackmddigaaaWideA
import Derived.MapKept
import Derived.Maps.AppendAt
import Derived.Laws.CopyOwn
import Derived.Maps.OwnOps
import Derived.Maps.OwnSet
namespace Go.Proofs.Ytibnackmddigaaa
open Go.ChangeShapes Go.WideShapes Go.ChangeAt Go.RowKit
set_option linter.unusedVariables false
set_option linter.unusedSimpArgs false

/-- of the blocks that there were, those in S alone may have turned -/
structure Chg (S : Nat → Prop) (w w' : World) : Prop where
  os : w'.os = w.os
  tape : w'.tape = w.tape
  output : w'.output = w.output
  size : w.heap.size ≤ w'.heap.size
  block : ∀ q, q < w.heap.size → ¬ S q → w'.heap[q]? = w.heap[q]?
theorem Chg.refl (S : Nat → Prop) (w : World) : Chg S w w := ⟨rfl, rfl, rfl, Nat.le_refl _, fun _ _ _ => rfl⟩
theorem Chg.trans {S T : Nat → Prop} {a b c : World} (h : Chg S a b) (k : Chg T b c) (hT : ∀ q, q < a.heap.size → T q → S q) : Chg S a c :=
  ⟨k.os.trans h.os, k.tape.trans h.tape, k.output.trans h.output, Nat.le_trans h.size k.size, fun q hq hn => (k.block q (Nat.lt_of_lt_of_le hq h.size) (fun ht => hn (hT q hq ht))).trans (h.block q hq hn)⟩
theorem Chg.same {S : Nat → Prop} {a b c : World} (h : Chg S a b) (k : Chg S b c) : Chg S a c := h.trans k fun _ _ h => h
theorem Chg.mono {S T : Nat → Prop} {a b : World} (h : Chg S a b) (hT : ∀ q, q < a.heap.size → S q → T q) : Chg T a b := ⟨h.os, h.tape, h.output, h.size, fun q hq hn => h.block q hq fun hs => hn (hT q hq hs)⟩
theorem Chg.of {S : Nat → Prop} {w w' : World} (h : Below w.heap.size w w') : Chg S w w' := ⟨h.os, h.tape, h.output, h.size, fun q hq _ => h.block q hq⟩
theorem Chg.below {S : Nat → Prop} {w w' : World} (h : Chg S w w') {B : Nat} (hB : B ≤ w.heap.size) (hS : ∀ q, S q → B ≤ q) : Below B w w' := ⟨h.os, h.tape, h.output, h.size, fun q hq => h.block q (by omega) fun hs => by have := hS q hs; omega⟩
theorem Chg.set {S : Nat → Prop} {w w' : World} (h : Chg S w w') (p : Addr) (hp : S p.block ∨ w.heap.size ≤ p.block) (v : Value) : Chg S w (w'.setCell p v) :=
  ⟨h.os, h.tape, h.output, by simpa [World.setCell] using h.size, fun q hq hn => (Below.heap_setCell _ p v q (by rintro rfl; rcases hp with hp | hp; exact hn hp; omega)).trans (h.block q hq hn)⟩
theorem Chg.alloc {S : Nat → Prop} {w w' : World} (h : Chg S w w') (o : Obj) : Chg S w (w'.alloc o) :=
  ⟨h.os, h.tape, h.output, Nat.le_trans h.size ((Below.refl 0 w').alloc (Nat.zero_le _) o).size, fun q hq hn => (Below.heap_alloc w' o q (Nat.lt_of_lt_of_le hq h.size)).trans (h.block q hq hn)⟩
theorem Chg.drew {S : Nat → Prop} {w w' : World} (h : Chg S w w') : Chg S w w'.drew := ⟨h.os, h.tape, h.output, h.size, h.block⟩
theorem Chg.drewN {S : Nat → Prop} {w w' : World} (h : Chg S w w') (n : Nat) : Chg S w (w'.drewN n) := ⟨h.os, h.tape, h.output, h.size, h.block⟩
theorem Chg.grown {S : Nat → Prop} {w w1 w2 : World} {row : Option Nat} (h : Chg S w w1) (hg : w1.grownBy w2 row) (hr : ∀ k, row = some k → S k ∨ w.heap.size ≤ k) : Chg S w w2 :=
  ⟨hg.os.trans h.os, hg.tape.trans h.tape, hg.output.trans h.output, Nat.le_trans h.size hg.size, fun q hq hn => (hg.block q (Nat.lt_of_lt_of_le hq h.size) (fun e => by rcases hr q e.symm with hs | hs; exact hn hs; omega)).trans (h.block q hq hn)⟩
theorem Chg.own {S : Nat → Prop} {w w' : World} {q : Nat} {T : TypeId} {cs : Array Value} (h : Chg S w w') (ho : Own w q T cs) (hn : ¬ S q) : Own w' q T cs := (h.block q ho.in_ hn).trans ho
/-- a call behind others -/
theorem Chg.call {S : Nat → Prop} {a w w' : World} (h : Chg S a w) (hb : Below w.heap.size w w') : Chg S a w' := h.same (Chg.of hb)
theorem Chg.cell {S : Nat → Prop} {w w' : World} (h : Chg S w w') {b o : Nat} {v : Value} (hc : w.cell? ⟨b, o, none⟩ = some v) (hn : ¬ S b) : w'.cell? ⟨b, o, none⟩ = some v :=
  (World.cell?_of_block (w := w) (h.block b (cell_lt hc) hn)).trans hc

/-- bytes in a block that stands as it stood -/
theorem BytesAt.keep {w w' : World} {b : Nat} {L : List UInt8} (h : BytesAt w b L) (e : w'.heap[b]? = w.heap[b]?) : BytesAt w' b L :=
  ⟨fun j hj => (World.cell?_of_block (w := w) (a := ⟨b, j, none⟩) e).trans (h.cell j hj), fun j hj => (World.frozen?_of_block (w := w) (a := ⟨b, j, none⟩) e).trans (h.free j hj)⟩
theorem BytesAt.in_ {w : World} {b : Nat} {L : List UInt8} (h : BytesAt w b L) (hL : 0 < L.length) : b < w.heap.size := cell_lt (h.cell 0 hL)
/-- block b is a map from integers: f tells what stands there -/
def MapAt (w : World) (b : Nat) (k : IntKind) (f : Int → Option Value) : Prop :=
  ∃ es ck, w.heap[b]? = some (.map es ck) ∧ (∀ e ∈ es.toList, e.key = .int k (intOf e.key)) ∧
    ∀ i, f i = (es.toList.find? fun e => intOf e.key == i).map (·.val)
theorem MapAt.in_ {w : World} {b : Nat} {k : IntKind} {f : Int → Option Value} (h : MapAt w b k f) : b < w.heap.size := by
  obtain ⟨es, ck, hb, _⟩ := h
  exact (Array.getElem?_eq_some_iff.1 hb).1
theorem MapAt.keep {w w' : World} {b : Nat} {k : IntKind} {f : Int → Option Value} (h : MapAt w b k f) (e : w'.heap[b]? = w.heap[b]?) : MapAt w' b k f := by
  obtain ⟨es, ck, hb, r⟩ := h
  exact ⟨es, ck, e.trans hb, r⟩
theorem MapAt.made (w : World) (k : IntKind) : MapAt (w.alloc (.map #[] 0)) w.heap.size k (fun _ => none) :=
  ⟨#[], 0, by unfold World.alloc; simp, by simp, by simp⟩
/-- no block of cells is a map -/
theorem MapAt.ne {w : World} {b p : Nat} {k : IntKind} {f : Int → Option Value} (h : MapAt w b k f) {T : TypeId} {cs : Array Value} (ho : Own w p T cs) : b ≠ p := by
  rintro rfl
  obtain ⟨es, ck, hb, _⟩ := h
  unfold Own at ho
  rw [ho] at hb
  cases hb
theorem findNow_int (k : IntKind) (i : Int) : ∀ (l : List MapEntry) (n : Nat), (∀ e ∈ l, e.key = .int k (intOf e.key)) →
    (l.find? (fun e => intOf e.key == i) = none ∧ Instr.findNow (.int k) (.int k i) l n = some none) ∨
    ∃ j e, l[j]? = some e ∧ intOf e.key = i ∧ l.find? (fun e => intOf e.key == i) = some e ∧ (∀ j' e', j' < j → l[j']? = some e' → intOf e'.key ≠ i) ∧ Instr.findNow (.int k) (.int k i) l n = some (some (n + j, e.val))
  | [], n, _ => .inl ⟨rfl, rfl⟩
  | e :: l, n, h => by
    have he := h e (by simp)
    have hs : Instr.sameNow (.int k) (.int k i) e.key = some (i == intOf e.key) := by rw [he]; simp [Instr.sameNow, intOf]
    by_cases hi : intOf e.key = i
    · refine .inr ⟨0, e, rfl, hi, by simp [hi], by intro j' e' h; omega, ?_⟩
      simp [Instr.findNow, hs, hi]
    · have hne : (i == intOf e.key) = false := by simpa using fun h => hi h.symm
      have hf : (intOf e.key == i) = false := by simpa using hi
      rcases findNow_int k i l (n + 1) (fun e' he' => h e' (by simp [he'])) with ⟨h1, h2⟩ | ⟨j, e', h1, h2, h3, h4, h5⟩
      · exact .inl ⟨by simp [hf, h1], by simp [Instr.findNow, hs, hne, h2]⟩
      · refine .inr ⟨j + 1, e', by simpa using h1, h2, by simp [hf, h3], fun j' e'' hj hl => ?_, by simp [Instr.findNow, hs, hne, h5]; omega⟩
        cases j' with
        | zero => simp at hl; subst hl; exact hi
        | succ j' => exact h4 j' e'' (by omega) (by simpa using hl)
theorem find_set (i : Int) (e' : MapEntry) (hk : intOf e'.key = i) : ∀ (l : List MapEntry) (j : Nat) (e : MapEntry), l[j]? = some e → intOf e.key = i → (∀ j' e'', j' < j → l[j']? = some e'' → intOf e''.key ≠ i) →
    (l.set j e').find? (fun e => intOf e.key == i) = some e' ∧ ∀ i', i' ≠ i → (l.set j e').find? (fun e => intOf e.key == i') = l.find? (fun e => intOf e.key == i')
  | [], j, e, h, _, _ => by simp at h
  | x :: l, 0, e, h, he, _ => by
    simp at h; subst h
    refine ⟨by simp [hk], fun i' hi' => ?_⟩
    have h1 : (intOf e'.key == i') = false := by simpa [hk] using fun h => hi' h.symm
    have h2 : (intOf x.key == i') = false := by simpa [he] using fun h => hi' h.symm
    simp [h1, h2]
  | x :: l, j + 1, e, h, he, hf => by
    have hx : intOf x.key ≠ i := hf 0 x (by omega) rfl
    have ih := find_set i e' hk l j e (by simpa using h) he (fun j' e'' hj hl => hf (j' + 1) e'' (by omega) (by simpa using hl))
    have hx' : (intOf x.key == i) = false := by simpa using hx
    refine ⟨by simp [hx', ih.1], fun i' hi' => ?_⟩
    simp only [List.set_cons_succ, List.find?_cons]
    rw [ih.2 i' hi']

section
variable {P : Program} {w : World} {t e : TypeId} {k : IntKind} {f : Int → Option Value} {b : Nat} {kt : TypeId}
theorem checkKey_int (hk : P.underlying kt = some (.int k)) (em : Bool) (i : Int) (w : World) : (Instr.checkKey em 10000 kt (.int k i)).run P w = .ok () w := by
  exact MapKept.run_checkKey hk (by simp [MapKept.IsKey]) em 9999
/-- v, ok := m[i] -/
theorem MapAt.look (h : MapAt w b k f) (ht : P.underlying t = some (.map kt e)) (hk : P.underlying kt = some (.int k)) {z : Value} (hz : (zeroValue e).run P w = .ok z w) (i : Int) :
    (Instr.lookup t (.map (some b)) (.int k i) true).run P w = .ok (.tuple #[(f i).getD z, .bool (f i).isSome]) w := by
  obtain ⟨es, ck, hb, hks, hf⟩ := h
  rw [hf i]
  rcases findNow_int k i es.toList 0 hks with ⟨h1, h2⟩ | ⟨j, e0, h1, h2, h3, h4, h5⟩
  · simp [Instr.lookup, run_underlying ht, MapKept.run_getObj_map hb, checkKey_int hk, Instr.findKey, run_underlying hk, h1, h2, hz, Result.andThen]
  · simp [Instr.lookup, run_underlying ht, MapKept.run_getObj_map hb, checkKey_int hk, Instr.findKey, run_underlying hk, h3, h5, hz, Result.andThen]
/-- m[i] = v -/
theorem MapAt.put (h : MapAt w b k f) (ht : P.underlying t = some (.map kt e)) (hk : P.underlying kt = some (.int k)) (i : Int) (v : Value) :
    ∃ w', (Instr.mapUpdate t (.map (some b)) (.int k i) v).run P w = .ok () w' ∧ MapAt w' b k (fun j => if j = i then some v else f j) ∧ Chg (· = b) w w' ∧ w'.heap.size = w.heap.size := by
  obtain ⟨es, ck, hb, hks, hf⟩ := h
  have hlt : b < w.heap.size := (Array.getElem?_eq_some_iff.1 hb).1
  have key : ∀ (es' : Array MapEntry) (ck' : Nat), Chg (· = b) w { w with heap := w.heap.setIfInBounds b (.map es' ck') } ∧ ({ w with heap := w.heap.setIfInBounds b (.map es' ck') } : World).heap[b]? = some (.map es' ck') := fun es' ck' =>
    ⟨⟨rfl, rfl, rfl, by simp, fun q _ hq => by simp; rw [Array.getElem?_setIfInBounds_ne (Ne.symm hq)]⟩, by simp [hlt]⟩
  rcases findNow_int k i es.toList 0 hks with ⟨h1, h2⟩ | ⟨j, e0, h1, h2, h3, h4, h5⟩
  · refine ⟨{ w with heap := w.heap.setIfInBounds b (.map (es.push ⟨.int k i, v, ck⟩) (ck + 1)) }, by simp [Instr.mapUpdate, run_underlying ht, MapKept.run_getObj_map hb, checkKey_int hk, Instr.findKey, run_underlying hk, h2, MapKept.run_setObj_map _ hb, Result.andThen], ⟨_, _, (key _ _).2, ?_, ?_⟩, (key _ _).1, by simp⟩
    · intro x hx
      simp only [Array.toList_push, List.mem_append, List.mem_singleton] at hx
      rcases hx with hx | rfl
      · exact hks x hx
      · simp [intOf]
    · intro i'
      rw [Array.toList_push, List.find?_append]
      by_cases e : i' = i
      · subst e
        rw [h1]
        have : (intOf (Value.int k i') == i') = true := by simp [intOf]
        simp [this]
      · have : ((i : Int) == i') = false := by simpa using fun h => e h.symm
        simp [e, hf i', intOf, this]
  · have hj : es[j]? = some e0 := by simpa using h1
    have hjl : j < es.toList.length := (List.getElem?_eq_some_iff.1 h1).1
    have hek : e0.key = .int k i := by rw [hks e0 (List.mem_of_getElem? h1), h2]
    have hst : (Instr.keyThatStays (.int k i) (.int k i)).run P w = .ok (.int k i) w := by
      have : Instr.sameBits 10000 (.int k i) (.int k i) = true := by unfold Instr.sameBits; simp
      simp [Instr.keyThatStays, this]
    have hlist : (es.modify j (fun e' => { e' with key := .int k i, val := v })).toList = es.toList.set j { e0 with key := .int k i, val := v } := by
      rw [Array.toList_modify]
      refine List.ext_getElem? fun n => ?_
      rw [List.getElem?_modify, List.getElem?_set]
      by_cases e : j = n
      · subst e; simp [hj, hjl]
        simpa using hjl
      · simp [e]
    have hfs := find_set i { e0 with key := .int k i, val := v } (by simp [intOf]) es.toList j e0 h1 h2 h4
    refine ⟨{ w with heap := w.heap.setIfInBounds b (.map (es.modify j fun e' => { e' with key := .int k i, val := v }) ck) }, by simp [Instr.mapUpdate, run_underlying ht, MapKept.run_getObj_map hb, checkKey_int hk, Instr.findKey, run_underlying hk, h5, hj, hek, hst, MapKept.run_setObj_map _ hb, Result.andThen], ⟨_, _, (key _ _).2, ?_, ?_⟩, (key _ _).1, by simp⟩
    · intro x hx
      rw [hlist] at hx
      rcases List.mem_or_eq_of_mem_set hx with hx | rfl
      · exact hks x hx
      · simp [intOf]
    · intro i'
      rw [hlist]
      by_cases e : i' = i
      · subst e; simp [hfs.1]
      · simp [e, hfs.2 i' e, hf i']
/-- clear(m) -/
theorem MapAt.clear (h : MapAt w b k f) (ty : TypeId) (ht : P.underlying t = some (.map kt e)) :
    ∃ w', (Builtin.clear_ #[t] ty #[.map (some b)]).run P w = .ok (.tuple #[]) w' ∧ MapAt w' b k (fun _ => none) ∧ Chg (· = b) w w' ∧ w'.heap.size = w.heap.size := by
  obtain ⟨es, ck, hb, hks, hf⟩ := h
  have hlt : b < w.heap.size := (Array.getElem?_eq_some_iff.1 hb).1
  refine ⟨{ w with heap := w.heap.setIfInBounds b (.map #[] ck) }, by simp [Builtin.clear_, run_underlying ht, MapKept.run_getObj_map hb, MapKept.run_setObj_map _ hb, Result.andThen], ⟨#[], ck, by simp [hlt], by simp, by simp⟩, ⟨rfl, rfl, rfl, by simp, fun q _ hq => by simp; rw [Array.getElem?_setIfInBounds_ne (Ne.symm hq)]⟩, by simp⟩
end
end Go.Proofs.Ytibnackmddigaaa
