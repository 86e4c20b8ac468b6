/- merged: What calls change that write to objects: the blocks named alone, and new ones; maps from integers. It speaks of no function. Regions that draw their order, walked in one order: what reads memory that nobody in the region turns, or none, comes first where it can; what is left stands in one row. It speaks of no function. -/
import Derived.Test.YtjmojddnedngaaaDoorRefT
import Derived.MapKept
import Derived.Maps.AppendAt
import Derived.Laws.CopyOwn
import Derived.Maps.OwnOps
import Derived.Maps.OwnSet
import Derived.OrdersHeld
import Derived.KernelRfl
import Derived.Deep.RegionHeld3
import Derived.Deep.DeepCutAuto
import Derived.Lib.ItoaWalk
section
namespace Go.Proofs.YtjmojddnedngaaaDoor
open Go.ChangeShapes Go.WideShapes Go.ChangeAt Go.RowKit
set_option linter.unusedVariables false
set_option linter.unusedSimpArgs false

/-- of the blocks that there were, those in S alone may have turned -/
structure Chg (S : Nat → Prop) (w w' : World) : Prop where
  os : w'.os = w.os
  tape : w'.tape = w.tape
  output : w'.output = w.output
  size : w.heap.size ≤ w'.heap.size
  block : ∀ q, q < w.heap.size → ¬ S q → w'.heap[q]? = w.heap[q]?
theorem Chg.refl (S : Nat → Prop) (w : World) : Chg S w w := ⟨rfl, rfl, rfl, Nat.le_refl _, fun _ _ _ => rfl⟩
theorem Chg.trans {S T : Nat → Prop} {a b c : World} (h : Chg S a b) (k : Chg T b c) (hT : ∀ q, q < a.heap.size → T q → S q) : Chg S a c :=
  ⟨k.os.trans h.os, k.tape.trans h.tape, k.output.trans h.output, Nat.le_trans h.size k.size, fun q hq hn => (k.block q (Nat.lt_of_lt_of_le hq h.size) (fun ht => hn (hT q hq ht))).trans (h.block q hq hn)⟩
theorem Chg.same {S : Nat → Prop} {a b c : World} (h : Chg S a b) (k : Chg S b c) : Chg S a c := h.trans k fun _ _ h => h
theorem Chg.mono {S T : Nat → Prop} {a b : World} (h : Chg S a b) (hT : ∀ q, q < a.heap.size → S q → T q) : Chg T a b := ⟨h.os, h.tape, h.output, h.size, fun q hq hn => h.block q hq fun hs => hn (hT q hq hs)⟩
theorem Chg.of {S : Nat → Prop} {w w' : World} (h : Below w.heap.size w w') : Chg S w w' := ⟨h.os, h.tape, h.output, h.size, fun q hq _ => h.block q hq⟩
theorem Chg.below {S : Nat → Prop} {w w' : World} (h : Chg S w w') {B : Nat} (hB : B ≤ w.heap.size) (hS : ∀ q, S q → B ≤ q) : Below B w w' := ⟨h.os, h.tape, h.output, h.size, fun q hq => h.block q (by omega) fun hs => by have := hS q hs; omega⟩
theorem Chg.set {S : Nat → Prop} {w w' : World} (h : Chg S w w') (p : Addr) (hp : S p.block ∨ w.heap.size ≤ p.block) (v : Value) : Chg S w (w'.setCell p v) :=
  ⟨h.os, h.tape, h.output, by simpa [World.setCell] using h.size, fun q hq hn => (Below.heap_setCell _ p v q (by rintro rfl; rcases hp with hp | hp; exact hn hp; omega)).trans (h.block q hq hn)⟩
theorem Chg.alloc {S : Nat → Prop} {w w' : World} (h : Chg S w w') (o : Obj) : Chg S w (w'.alloc o) :=
  ⟨h.os, h.tape, h.output, Nat.le_trans h.size ((Below.refl 0 w').alloc (Nat.zero_le _) o).size, fun q hq hn => (Below.heap_alloc w' o q (Nat.lt_of_lt_of_le hq h.size)).trans (h.block q hq hn)⟩
theorem Chg.drew {S : Nat → Prop} {w w' : World} (h : Chg S w w') : Chg S w w'.drew := ⟨h.os, h.tape, h.output, h.size, h.block⟩
theorem Chg.drewN {S : Nat → Prop} {w w' : World} (h : Chg S w w') (n : Nat) : Chg S w (w'.drewN n) := ⟨h.os, h.tape, h.output, h.size, h.block⟩
theorem Chg.grown {S : Nat → Prop} {w w1 w2 : World} {row : Option Nat} (h : Chg S w w1) (hg : w1.grownBy w2 row) (hr : ∀ k, row = some k → S k ∨ w.heap.size ≤ k) : Chg S w w2 :=
  ⟨hg.os.trans h.os, hg.tape.trans h.tape, hg.output.trans h.output, Nat.le_trans h.size hg.size, fun q hq hn => (hg.block q (Nat.lt_of_lt_of_le hq h.size) (fun e => by rcases hr q e.symm with hs | hs; exact hn hs; omega)).trans (h.block q hq hn)⟩
theorem Chg.own {S : Nat → Prop} {w w' : World} {q : Nat} {T : TypeId} {cs : Array Value} (h : Chg S w w') (ho : Own w q T cs) (hn : ¬ S q) : Own w' q T cs := (h.block q ho.in_ hn).trans ho
/-- a call behind others -/
theorem Chg.call {S : Nat → Prop} {a w w' : World} (h : Chg S a w) (hb : Below w.heap.size w w') : Chg S a w' := h.same (Chg.of hb)
theorem Chg.cell {S : Nat → Prop} {w w' : World} (h : Chg S w w') {b o : Nat} {v : Value} (hc : w.cell? ⟨b, o, none⟩ = some v) (hn : ¬ S b) : w'.cell? ⟨b, o, none⟩ = some v :=
  (World.cell?_of_block (w := w) (h.block b (cell_lt hc) hn)).trans hc

/-- bytes in a block that stands as it stood -/
theorem BytesAt.keep {w w' : World} {b : Nat} {L : List UInt8} (h : BytesAt w b L) (e : w'.heap[b]? = w.heap[b]?) : BytesAt w' b L :=
  ⟨fun j hj => (World.cell?_of_block (w := w) (a := ⟨b, j, none⟩) e).trans (h.cell j hj), fun j hj => (World.frozen?_of_block (w := w) (a := ⟨b, j, none⟩) e).trans (h.free j hj)⟩
theorem BytesAt.in_ {w : World} {b : Nat} {L : List UInt8} (h : BytesAt w b L) (hL : 0 < L.length) : b < w.heap.size := cell_lt (h.cell 0 hL)
/-- block b is a map from integers: f tells what stands there -/
def MapAt (w : World) (b : Nat) (k : IntKind) (f : Int → Option Value) : Prop :=
  ∃ es ck, w.heap[b]? = some (.map es ck) ∧ (∀ e ∈ es.toList, e.key = .int k (intOf e.key)) ∧
    ∀ i, f i = (es.toList.find? fun e => intOf e.key == i).map (·.val)
theorem MapAt.in_ {w : World} {b : Nat} {k : IntKind} {f : Int → Option Value} (h : MapAt w b k f) : b < w.heap.size := by
  obtain ⟨es, ck, hb, _⟩ := h
  exact (Array.getElem?_eq_some_iff.1 hb).1
theorem MapAt.keep {w w' : World} {b : Nat} {k : IntKind} {f : Int → Option Value} (h : MapAt w b k f) (e : w'.heap[b]? = w.heap[b]?) : MapAt w' b k f := by
  obtain ⟨es, ck, hb, r⟩ := h
  exact ⟨es, ck, e.trans hb, r⟩
theorem MapAt.made (w : World) (k : IntKind) : MapAt (w.alloc (.map #[] 0)) w.heap.size k (fun _ => none) :=
  ⟨#[], 0, by unfold World.alloc; simp, by simp, by simp⟩
theorem findNow_int (k : IntKind) (i : Int) : ∀ (l : List MapEntry) (n : Nat), (∀ e ∈ l, e.key = .int k (intOf e.key)) →
    (l.find? (fun e => intOf e.key == i) = none ∧ Instr.findNow (.int k) (.int k i) l n = some none) ∨
    ∃ j e, l[j]? = some e ∧ intOf e.key = i ∧ l.find? (fun e => intOf e.key == i) = some e ∧ (∀ j' e', j' < j → l[j']? = some e' → intOf e'.key ≠ i) ∧ Instr.findNow (.int k) (.int k i) l n = some (some (n + j, e.val))
  | [], n, _ => .inl ⟨rfl, rfl⟩
  | e :: l, n, h => by
    have he := h e (by simp)
    have hs : Instr.sameNow (.int k) (.int k i) e.key = some (i == intOf e.key) := by rw [he]; simp [Instr.sameNow, intOf]
    by_cases hi : intOf e.key = i
    · refine .inr ⟨0, e, rfl, hi, by simp [hi], by intro j' e' h; omega, ?_⟩
      simp [Instr.findNow, hs, hi]
    · have hne : (i == intOf e.key) = false := by simpa using fun h => hi h.symm
      have hf : (intOf e.key == i) = false := by simpa using hi
      rcases findNow_int k i l (n + 1) (fun e' he' => h e' (by simp [he'])) with ⟨h1, h2⟩ | ⟨j, e', h1, h2, h3, h4, h5⟩
      · exact .inl ⟨by simp [hf, h1], by simp [Instr.findNow, hs, hne, h2]⟩
      · refine .inr ⟨j + 1, e', by simpa using h1, h2, by simp [hf, h3], fun j' e'' hj hl => ?_, by simp [Instr.findNow, hs, hne, h5]; omega⟩
        cases j' with
        | zero => simp at hl; subst hl; exact hi
        | succ j' => exact h4 j' e'' (by omega) (by simpa using hl)
theorem find_set (i : Int) (e' : MapEntry) (hk : intOf e'.key = i) : ∀ (l : List MapEntry) (j : Nat) (e : MapEntry), l[j]? = some e → intOf e.key = i → (∀ j' e'', j' < j → l[j']? = some e'' → intOf e''.key ≠ i) →
    (l.set j e').find? (fun e => intOf e.key == i) = some e' ∧ ∀ i', i' ≠ i → (l.set j e').find? (fun e => intOf e.key == i') = l.find? (fun e => intOf e.key == i')
  | [], j, e, h, _, _ => by simp at h
  | x :: l, 0, e, h, he, _ => by
    simp at h; subst h
    refine ⟨by simp [hk], fun i' hi' => ?_⟩
    have h1 : (intOf e'.key == i') = false := by simpa [hk] using fun h => hi' h.symm
    have h2 : (intOf x.key == i') = false := by simpa [he] using fun h => hi' h.symm
    simp [h1, h2]
  | x :: l, j + 1, e, h, he, hf => by
    have hx : intOf x.key ≠ i := hf 0 x (by omega) rfl
    have ih := find_set i e' hk l j e (by simpa using h) he (fun j' e'' hj hl => hf (j' + 1) e'' (by omega) (by simpa using hl))
    have hx' : (intOf x.key == i) = false := by simpa using hx
    refine ⟨by simp [hx', ih.1], fun i' hi' => ?_⟩
    simp only [List.set_cons_succ, List.find?_cons]
    rw [ih.2 i' hi']

section
variable {P : Program} {w : World} {t e : TypeId} {k : IntKind} {f : Int → Option Value} {b : Nat} {kt : TypeId}
theorem checkKey_int (hk : P.underlying kt = some (.int k)) (em : Bool) (i : Int) (w : World) : (Instr.checkKey em 10000 kt (.int k i)).run P w = .ok () w := by
  exact MapKept.run_checkKey hk (by simp [MapKept.IsKey]) em 9999
/-- v, ok := m[i] -/
theorem MapAt.look (h : MapAt w b k f) (ht : P.underlying t = some (.map kt e)) (hk : P.underlying kt = some (.int k)) {z : Value} (hz : (zeroValue e).run P w = .ok z w) (i : Int) :
    (Instr.lookup t (.map (some b)) (.int k i) true).run P w = .ok (.tuple #[(f i).getD z, .bool (f i).isSome]) w := by
  obtain ⟨es, ck, hb, hks, hf⟩ := h
  rw [hf i]
  rcases findNow_int k i es.toList 0 hks with ⟨h1, h2⟩ | ⟨j, e0, h1, h2, h3, h4, h5⟩
  · simp [Instr.lookup, run_underlying ht, MapKept.run_getObj_map hb, checkKey_int hk, Instr.findKey, run_underlying hk, h1, h2, hz, Result.andThen]
  · simp [Instr.lookup, run_underlying ht, MapKept.run_getObj_map hb, checkKey_int hk, Instr.findKey, run_underlying hk, h3, h5, hz, Result.andThen]
/-- m[i] = v -/
theorem MapAt.put (h : MapAt w b k f) (ht : P.underlying t = some (.map kt e)) (hk : P.underlying kt = some (.int k)) (i : Int) (v : Value) :
    ∃ w', (Instr.mapUpdate t (.map (some b)) (.int k i) v).run P w = .ok () w' ∧ MapAt w' b k (fun j => if j = i then some v else f j) ∧ Chg (· = b) w w' ∧ w'.heap.size = w.heap.size := by
  obtain ⟨es, ck, hb, hks, hf⟩ := h
  have hlt : b < w.heap.size := (Array.getElem?_eq_some_iff.1 hb).1
  have key : ∀ (es' : Array MapEntry) (ck' : Nat), Chg (· = b) w { w with heap := w.heap.setIfInBounds b (.map es' ck') } ∧ ({ w with heap := w.heap.setIfInBounds b (.map es' ck') } : World).heap[b]? = some (.map es' ck') := fun es' ck' =>
    ⟨⟨rfl, rfl, rfl, by simp, fun q _ hq => by simp; rw [Array.getElem?_setIfInBounds_ne (Ne.symm hq)]⟩, by simp [hlt]⟩
  rcases findNow_int k i es.toList 0 hks with ⟨h1, h2⟩ | ⟨j, e0, h1, h2, h3, h4, h5⟩
  · refine ⟨{ w with heap := w.heap.setIfInBounds b (.map (es.push ⟨.int k i, v, ck⟩) (ck + 1)) }, by simp [Instr.mapUpdate, run_underlying ht, MapKept.run_getObj_map hb, checkKey_int hk, Instr.findKey, run_underlying hk, h2, MapKept.run_setObj_map _ hb, Result.andThen], ⟨_, _, (key _ _).2, ?_, ?_⟩, (key _ _).1, by simp⟩
    · intro x hx
      simp only [Array.toList_push, List.mem_append, List.mem_singleton] at hx
      rcases hx with hx | rfl
      · exact hks x hx
      · simp [intOf]
    · intro i'
      rw [Array.toList_push, List.find?_append]
      by_cases e : i' = i
      · subst e
        rw [h1]
        have : (intOf (Value.int k i') == i') = true := by simp [intOf]
        simp [this]
      · have : ((i : Int) == i') = false := by simpa using fun h => e h.symm
        simp [e, hf i', intOf, this]
  · have hj : es[j]? = some e0 := by simpa using h1
    have hjl : j < es.toList.length := (List.getElem?_eq_some_iff.1 h1).1
    have hek : e0.key = .int k i := by rw [hks e0 (List.mem_of_getElem? h1), h2]
    have hst : (Instr.keyThatStays (.int k i) (.int k i)).run P w = .ok (.int k i) w := by
      have : Instr.sameBits 10000 (.int k i) (.int k i) = true := by unfold Instr.sameBits; simp
      simp [Instr.keyThatStays, this]
    have hlist : (es.modify j (fun e' => { e' with key := .int k i, val := v })).toList = es.toList.set j { e0 with key := .int k i, val := v } := by
      rw [Array.toList_modify]
      refine List.ext_getElem? fun n => ?_
      rw [List.getElem?_modify, List.getElem?_set]
      by_cases e : j = n
      · subst e; simp [hj, hjl]
        simpa using hjl
      · simp [e]
    have hfs := find_set i { e0 with key := .int k i, val := v } (by simp [intOf]) es.toList j e0 h1 h2 h4
    refine ⟨{ w with heap := w.heap.setIfInBounds b (.map (es.modify j fun e' => { e' with key := .int k i, val := v }) ck) }, by simp [Instr.mapUpdate, run_underlying ht, MapKept.run_getObj_map hb, checkKey_int hk, Instr.findKey, run_underlying hk, h5, hj, hek, hst, MapKept.run_setObj_map _ hb, Result.andThen], ⟨_, _, (key _ _).2, ?_, ?_⟩, (key _ _).1, by simp⟩
    · intro x hx
      rw [hlist] at hx
      rcases List.mem_or_eq_of_mem_set hx with hx | rfl
      · exact hks x hx
      · simp [intOf]
    · intro i'
      rw [hlist]
      by_cases e : i' = i
      · subst e; simp [hfs.1]
      · simp [e, hfs.2 i' e, hf i']
/-- clear(m) -/
theorem MapAt.clear (h : MapAt w b k f) (ty : TypeId) (ht : P.underlying t = some (.map kt e)) :
    ∃ w', (Builtin.clear_ #[t] ty #[.map (some b)]).run P w = .ok (.tuple #[]) w' ∧ MapAt w' b k (fun _ => none) ∧ Chg (· = b) w w' ∧ w'.heap.size = w.heap.size := by
  obtain ⟨es, ck, hb, hks, hf⟩ := h
  have hlt : b < w.heap.size := (Array.getElem?_eq_some_iff.1 hb).1
  refine ⟨{ w with heap := w.heap.setIfInBounds b (.map #[] ck) }, by simp [Builtin.clear_, run_underlying ht, MapKept.run_getObj_map hb, MapKept.run_setObj_map _ hb, Result.andThen], ⟨#[], ck, by simp [hlt], by simp, by simp⟩, ⟨rfl, rfl, rfl, by simp, fun q _ hq => by simp; rw [Array.getElem?_setIfInBounds_ne (Ne.symm hq)]⟩, by simp⟩
end
end Go.Proofs.YtjmojddnedngaaaDoor
end
section
namespace Go.Proofs.YtjmojddnedngaaaDoor
open Go.ChangeShapes Go.WideShapes Go.ChangeAt Go.RowKit
set_option linter.unusedVariables false

section
variable {P : Program} {ops : Array Oper} {Q : Exit → Act → World → Prop} {md : Region.Mode} {S : World → Prop} {cls see : Nat → Bool}
/-- may an operation that looks at what S says come up behind j? -/
def needB (md : Region.Mode) (ops : Array Oper) (see : Nat → Bool) (j : Nat) : Bool := (List.range ops.size).any fun i => see i && match ops[j]? with
  | some oj => !oj.after.any fun e => Region.binds md e && e.on == i
  | none => false
theorem need_of {i j : Nat} {oi oj : Oper} (hi : ops[i]? = some oi) (hj : ops[j]? = some oj) (hc : see i = true) (h : ∀ e ∈ oj.after, Region.binds md e = true → e.on ≠ i) : needB md ops see j = true := by
  refine List.any_eq_true.2 ⟨i, List.mem_range.2 (Array.getElem?_eq_some_iff.1 hi).1, ?_⟩
  simp only [hc, hj, Bool.true_and, Bool.not_eq_true']
  refine Bool.eq_false_iff.2 fun h' => ?_
  obtain ⟨e, he, he'⟩ := Array.any_eq_true'.1 h'
  simp only [Bool.and_eq_true, beq_iff_eq] at he'
  exact h e he he'.1 he'.2
/-- whatever order is picked from here on; what is of the class leaves the world as it is; S holds behind each other operation behind which one may come up that looks at it -/
def wpAnyG (P : Program) (md : Region.Mode) (ops : Array Oper) (Q : Exit → Act → World → Prop) (S : World → Prop) (cls see : Nat → Bool) : Nat → Array Bool → Act → World → Prop
  | 0, listed, a, w => Region.ready md ops listed = [] ∧ Q .normal a w
  | fuel + 1, listed, a, w =>
    (Region.ready md ops listed = [] → Q .normal a w) ∧
    ∀ i ∈ Region.ready md ops listed, wpOp P ops Q i (fun a' w' => (cls i = true → w' = w) ∧ (cls i = false → needB md ops see i = true → S w') ∧ wpAnyG P md ops Q S cls see fuel (listed.setIfInBounds i true) a' w') a w
theorem wpAny_of_G : ∀ (fuel : Nat) (listed : Array Bool) (a : Act) (w : World), wpAnyG P md ops Q S cls see fuel listed a w → wpAny P md ops Q fuel listed a w
  | 0, _, _, _, h => h
  | fuel + 1, _, _, _, h => ⟨h.1, fun i hi => wpOp_mono (fun a' w' h' => wpAny_of_G fuel _ a' w' h'.2.2) (h.2 i hi)⟩
theorem wpAnyG_first {i : Nat} {oi : Oper} {v : Value} (hi : ops[i]? = some oi) (hc : cls i = true) (hsel : ∀ (j : Nat) (o : Oper) cs b, ops[j]? = some o → o.op ≠ .select cs b)
    (hQ : ∀ c a w, Q (.panic c) (a.put oi.dst v) w → Q (.panic c) a w) :
    ∀ (fuel : Nat) (listed : Array Bool) (a : Act) (w : World),
      (∀ j oj, ops[j]? = some oj → j ≠ i → listed.getD j true = false → (∀ e ∈ oj.after, Region.binds md e = true → e.on ≠ i) → oi.apart ops oj = true) →
      i ∈ Region.ready md ops listed → YieldsIf P ops (fun w => see i = true → S w) oi v a → (see i = true → S w) →
      wpAnyG P md ops Q S cls see fuel (listed.setIfInBounds i true) (a.put oi.dst v) w → wpAnyG P md ops Q S cls see (fuel + 1) listed a w := by
  intro fuel
  induction fuel with
  | zero =>
    intro listed a w _ hr hy hS H
    refine ⟨fun h => (by rw [h] at hr; cases hr), fun j hj => ?_⟩
    by_cases hji : j = i
    · subst hji; exact hy.wpOp hi hS ⟨fun _ => rfl, fun h => (by rw [hc] at h; cases h), H⟩
    · have := ready_mono hj hji
      rw [H.1] at this
      cases this
  | succ fuel ih =>
    intro listed a w hfree hr hy hS H
    refine ⟨fun h => (by rw [h] at hr; cases hr), fun j hj => ?_⟩
    by_cases hji : j = i
    · subst hji; exact hy.wpOp hi hS ⟨fun _ => rfl, fun h => (by rw [hc] at h; cases h), H⟩
    · have h1 := H.2 j (ready_mono hj hji)
      obtain ⟨hjun, oj, hoj, hall⟩ := mem_ready.1 hj
      have h0 := (mem_ready.1 hr).1
      have hnot : ∀ e ∈ oj.after, Region.binds md e = true → e.on ≠ i := fun e he hb heq => by
        have h1 := hall e he hb
        rw [heq] at h1
        rcases Nat.lt_or_ge i listed.size with h' | h'
        · simp [h'] at h0 h1; rw [h0] at h1; cases h1
        · simp [Array.getElem?_eq_none h'] at h1
      have h2 := wpOp_putIf hoj (hfree j oj hoj hji hjun hnot) (fun cs b => hsel i oi cs b hi) (fun cs b => hsel j oj cs b hoj) hQ hy h1
      have hfree' : ∀ k ok, ops[k]? = some ok → k ≠ i → (listed.setIfInBounds j true).getD k true = false →
          (∀ e ∈ ok.after, Region.binds md e = true → e.on ≠ i) → oi.apart ops ok = true := fun k ok hk hki hun hno => by
        refine hfree k ok hk hki ?_ hno
        by_cases hjk : j = k
        · subst hjk; exact hjun
        · rw [getD_set_ne true hjk] at hun; exact hun
      refine wpOp_mono (fun a' w' h3 => ?_) h2
      obtain ⟨hy', hw', hS', h4⟩ := h3
      have hSw : see i = true → S w' := fun hs => by
        by_cases hcj : cls j = true
        · rw [hw' hcj]; exact hS hs
        · exact hS' (by simpa using hcj) (need_of hi hoj hs hnot)
      refine ⟨hw', hS', ih (listed.setIfInBounds j true) a' w' hfree' (ready_mono hr (Ne.symm hji)) hy' hSw ?_⟩
      rw [Array.setIfInBounds_comm _ _ hji]
      exact h4

/-- one order, walked: what is of the class yields its value in every world that meets S, in every world if it doesn't look at what S says -/
def wpSeq (P : Program) (md : Region.Mode) (ops : Array Oper) (Q : Exit → Act → World → Prop) (S : World → Prop) (cls see : Nat → Bool) : List (Nat × Oper) → Act → World → Prop
  | [], a, w => Q .normal a w
  | (i, o) :: l, a, w =>
    if cls i then ∃ v, YieldsIf P ops (fun w => see i = true → S w) o v a ∧ wpSeq P md ops Q S cls see l (a.put o.dst v) w
    else wpOp P ops Q i (fun a' w' => (needB md ops see i = true → S w') ∧ (l.any (fun p => see p.1) = true → S w') ∧ wpSeq P md ops Q S cls see l a' w') a w
/-- the operations in an order -/
def picked (ord : List Nat) (l : List Oper) : List (Nat × Oper) := ord.filterMap fun i => (l[i]?).map fun o => (i, o)
theorem picked_at {ord : List Nat} {l : List Oper} : ∀ p ∈ picked ord l, l.toArray[p.1]? = some p.2 := by
  intro p hp
  obtain ⟨i, _, h⟩ := List.mem_filterMap.1 hp
  cases hl : l[i]? with
  | none => simp [hl] at h
  | some o => simp [hl] at h; subst h; simpa using hl
/-- the order fits: what is of the class may come first when its turn comes, what isn't is alone then -/
def seqOk (md : Region.Mode) (ops : Array Oper) (cls : Nat → Bool) : List Nat → Array Bool → Bool
  | [], listed => (Region.ready md ops listed).isEmpty
  | i :: l, listed => (if cls i then (Region.ready md ops listed).contains i && Region.free md ops listed i else Region.ready md ops listed == [i]) && seqOk md ops cls l (listed.setIfInBounds i true)
theorem wpAnyG_of_seq (hsel : Region.noSelect ops = true) (hQ : ∀ c a w, ¬ Q (.panic c) a w) : ∀ (l : List (Nat × Oper)) (listed : Array Bool) (a : Act) (w : World), (∀ p ∈ l, ops[p.1]? = some p.2) → seqOk md ops cls (l.map (·.1)) listed = true → (l.any (fun p => see p.1) = true → S w) →
    wpSeq P md ops Q S cls see l a w → wpAnyG P md ops Q S cls see l.length listed a w
  | [], listed, a, w, _, hB, hS, h => ⟨by simpa [seqOk] using hB, h⟩
  | (i, o) :: l, listed, a, w, hp, hB, hS, h => by
    simp only [seqOk, List.map_cons, Bool.and_eq_true] at hB
    obtain ⟨hB, hl⟩ := hB
    have ho : ops[i]? = some o := hp (i, o) (by simp)
    have hp' : ∀ p ∈ l, ops[p.1]? = some p.2 := fun p h => hp p (by simp [h])
    unfold wpSeq at h
    by_cases hc : cls i = true
    · simp only [hc, if_true] at h hB
      obtain ⟨v, hy, h⟩ := h
      simp only [Bool.and_eq_true] at hB
      exact wpAnyG_first ho hc (Region.noSelect_spec hsel) (fun c a w h => absurd h (hQ _ _ _)) l.length listed a w (Region.free_spec ho hB.2) (by simpa using hB.1) hy (fun hs => hS (by simp [hs]))
        (wpAnyG_of_seq hsel hQ l _ _ _ hp' hl (fun hs => hS (by simp only [List.any_cons, hs, Bool.or_true])) h)
    · simp only [hc, Bool.false_eq_true, if_false] at h hB
      have hr : Region.ready md ops listed = [i] := by simpa using hB
      refine ⟨fun h0 => (by rw [hr] at h0; cases h0), fun j hj => ?_⟩
      rw [hr] at hj
      obtain rfl : j = i := by simpa using hj
      exact wpOp_mono (fun a' w' h' => ⟨fun h => absurd h hc, fun _ => h'.1, wpAnyG_of_seq hsel hQ l _ _ _ hp' hl h'.2.1 h'.2.2⟩) h

/-- a region whose order is drawn: C: reads and reckoning; D: those of C that look at memory -/
theorem wp_region_seq {id : Nat} {l : List Oper} {a : Act} {w : World} (S : World → Prop) (C D : List Nat) (ord : List Nat) {L : List (Nat × Oper)} (hm : P.follows .mixedOrders = true) (hs : Region.noSelect l.toArray = true) (hn : ord.length = l.length)
    (hB : seqOk .any l.toArray (fun i => C.contains i) ord (Array.replicate l.length false) = true) (hi : (picked ord l).map (·.1) = ord) (hS : S w.drew) (hL : picked ord l = L)
    (h : wpSeq P .any l.toArray (NoPanic Q) S (fun i => C.contains i) (fun i => D.contains i) L a w.drew) : (Code.region id l.toArray true).wp P Q a w := by
  subst hL
  refine wp_region_noPanic (wp_region_any hm (wpAny_of_G _ _ _ _ (S := S) (cls := fun i => C.contains i) (see := fun i => D.contains i) ?_))
  have := wpAnyG_of_seq (P := P) (Q := NoPanic Q) hs (fun c a w h => h) (picked ord l) (Array.replicate l.length false) a w.drew picked_at (by rw [hi]; exact hB) (fun _ => hS) h
  have e : (picked ord l).length = l.length := by rw [← hn, ← hi, List.length_map, hi]
  rw [e] at this
  simpa using this
theorem seq_want {i : Nat} {l : List (Nat × Oper)} {a : Act} {w : World} {o : Oper} {v : Value} (hc : cls i = true) (hg : Region.wanted o (yielded ops a.tmps) = true) (hv : ∀ w, (see i = true → S w) → (execOp a.eval o).run P w = .ok (.value v) w)
    (h : wpSeq P md ops Q S cls see l (a.put o.dst v) w) : wpSeq P md ops Q S cls see ((i, o) :: l) a w := by
  unfold wpSeq
  simp only [hc, if_true]
  exact ⟨v, .inl ⟨hg, hv⟩, h⟩
/-- what stands behind an operation that is none of the class -/
def SeqQ (K : Act → World → Prop) (Q : Exit → Act → World → Prop) : Exit → Act → World → Prop
  | .normal, a, w => K a w
  | e, a, w => Q e a w
/-- an operation that is none of the class: the walk goes over it alone -/
theorem seq_op {i : Nat} {l : List (Nat × Oper)} {a : Act} {w : World} {o : Oper} (ho : ops[i]? = some o) (hc : cls i = false)
    (h : wpList P ops (SeqQ (fun a' w' => (needB md ops see i = true → S w') ∧ (l.any (fun p => see p.1) = true → S w') ∧ wpSeq P md ops Q S cls see l a' w') Q) [o] a w) : wpSeq P md ops Q S cls see ((i, o) :: l) a w := by
  unfold wpSeq
  simp only [hc, Bool.false_eq_true, if_false]
  unfold wpOp
  simp only [ho]
  unfold wpList at h
  split
  · rename_i hw
    simp only [hw, if_true] at h
    rcases h with h | ⟨h1, a2, w2, h2⟩
    · refine .inl ?_
      unfold Oper.wp at h ⊢
      generalize (execOp a.eval o).run P w = r at h ⊢
      cases r with
      | ok n w' =>
        cases n <;> (try simp only [Oper.upon] at h ⊢)
        case enter f args => exact Calls.mono h fun e w'' he => by cases e <;> exact he
        case row row args => exact Rows.mono h fun u w'' he => he
        all_goals exact h
      | halt x w' =>
        cases x <;> exact h
    · exact .inr ⟨h1, a2, w2, h2⟩
  · rename_i hw
    rw [if_neg hw] at h
    exact h
/-- an operation that is none of the class, S behind it -/
theorem seq_on {i : Nat} {l : List (Nat × Oper)} {a : Act} {w : World} {o : Oper} (ho : ops[i]? = some o) (hc : cls i = false)
    (h : ∀ K : Act → World → Prop, (∀ a' w', S w' → wpSeq P md ops Q S cls see l a' w' → K a' w') → wpList P ops (SeqQ K Q) [o] a w) : wpSeq P md ops Q S cls see ((i, o) :: l) a w :=
  seq_op ho hc (h _ fun a' w' hS h => ⟨fun _ => hS, fun _ => hS, h⟩)
/-- an operation that is none of the class, nothing behind it that looks at what S says -/
theorem seq_last {i : Nat} {l : List (Nat × Oper)} {a : Act} {w : World} {o : Oper} (ho : ops[i]? = some o) (hc : cls i = false) (hp : needB md ops see i = false) (hq : l.any (fun p => see p.1) = false)
    (h : ∀ K : Act → World → Prop, (∀ a' w', wpSeq P md ops Q S cls see l a' w' → K a' w') → wpList P ops (SeqQ K Q) [o] a w) : wpSeq P md ops Q S cls see ((i, o) :: l) a w :=
  seq_op ho hc (h _ fun a' w' h => ⟨fun e => (by rw [hp] at e; cases e), fun e => (by rw [hq] at e; cases e), h⟩)
theorem seq_end {a : Act} {w : World} (h : Q .normal a w) : wpSeq P md ops (NoPanic Q) S cls see [] a w := h
end
end Go.Proofs.YtjmojddnedngaaaDoor
end
