
/- Regions that draw their order and make blocks beside calls, by the set of what is done: one obligation an operation, not one an order. It speaks of no function. -/
import Derived.Test.YtibnackmddigaaaWideA
import Derived.OrdersHeld
import Derived.KernelRfl
import Derived.Deep.DeepCutAuto
import Derived.Deep.RegionHeld3
import Derived.Lib.ItoaWalk
namespace Go.Proofs.Ytibnackmddigaaa
open Go.ChangeShapes Go.WideShapes Go.ChangeAt Go.RowKit
set_option linter.unusedVariables false

/-- what an operation that is done has left: a value in its slot; the address of a block of its own in its slot; cells in the block of its own that slot s points to; cells in the old block g -/
inductive Sp where
  | val (v : Value)
  | blk (T : TypeId) (n : Nat)
  | put (s : Nat) (T : TypeId) (cs : Array Value)
  | sto (g : Nat) (T : TypeId) (cs : Array Value)
  | skip
  | new (T : TypeId) (cs : Array Value) (s : Option (Nat × Nat))

/-- the value that points to a new block: its address, or a slice of it -/
def mkv (s : Option (Nat × Nat)) (g : Nat) : Value :=
  match s with
  | none => .pointer (some ⟨g, 0, none⟩)
  | some (l, c) => .slice (some ⟨g, 0, none⟩) l c
theorem mkv_inj {s : Option (Nat × Nat)} {g g' : Nat} (h : mkv s g = mkv s g') : g = g' := by
  cases s with
  | none => simpa [mkv] using h
  | some lc => obtain ⟨l, c⟩ := lc; simpa [mkv] using h
/-- an operation that makes a block of the region's own -/
def Sp.mk : Sp → Option (Option (Nat × Nat))
  | .blk _ _ => some none
  | .new _ _ s => some s
  | _ => none
def Sp.isSkip : Sp → Bool
  | .skip => true
  | _ => false
theorem Sp.skip_of {s : Sp} (h : s.isSkip = true) : s = .skip := by cases s <;> first | rfl | cases h
theorem Sp.skip_not {s : Sp} (h : s.isSkip = false) : s ≠ .skip := by rintro rfl; cases h

def Sat (n0 : Nat) (dst : Option Nat) : Sp → Act → World → Prop
  | .val v, a, _ => ∀ d, dst = some d → a.tmps[d]? = some v
  | .blk T n, a, w => ∃ d g cs, dst = some d ∧ a.tmps[d]? = some (.pointer (some ⟨g, 0, none⟩)) ∧ n0 ≤ g ∧ cs.size = n ∧ Own w g T cs
  | .put s T cs, a, w => ∃ g, a.tmps[s]? = some (.pointer (some ⟨g, 0, none⟩)) ∧ n0 ≤ g ∧ Own w g T cs
  | .sto g T cs, _, w => Own w g T cs
  | .skip, a, _ => ∀ d, dst = some d → a.tmps[d]? = some undef
  | .new T cs s, a, w => ∃ d g, dst = some d ∧ a.tmps[d]? = some (mkv s g) ∧ n0 ≤ g ∧ Own w g T cs

/-- the slots that a fact looks at -/
def Sp.looks (dst : Option Nat) : Sp → List Nat
  | .val _ => dst.toList
  | .blk _ _ => dst.toList
  | .put s _ _ => [s]
  | .sto _ _ _ => []
  | .skip => dst.toList
  | .new _ _ _ => dst.toList

theorem Sat.slots {n0 : Nat} {dst : Option Nat} {sp : Sp} {a a' : Act} {w : World} (h : Sat n0 dst sp a w) (e : ∀ s ∈ sp.looks dst, a'.tmps[s]? = a.tmps[s]?) : Sat n0 dst sp a' w := by
  cases sp with
  | val v => exact fun d hd => (e d (by simp [Sp.looks, hd])).trans (h d hd)
  | blk T n =>
    obtain ⟨d, g, cs, hd, ht, r⟩ := h
    exact ⟨d, g, cs, hd, (e d (by simp [Sp.looks, hd])).trans ht, r⟩
  | put s T cs =>
    obtain ⟨g, ht, r⟩ := h
    exact ⟨g, (e s (by simp [Sp.looks])).trans ht, r⟩
  | sto g T cs => exact h
  | skip => exact fun d hd => (e d (by simp [Sp.looks, hd])).trans (h d hd)
  | new T cs s =>
    obtain ⟨d, g, hd, ht, r⟩ := h
    exact ⟨d, g, hd, (e d (by simp [Sp.looks, hd])).trans ht, r⟩
theorem Sat.keep {n0 : Nat} {dst : Option Nat} {sp : Sp} {a : Act} {w w' : World} (h : Sat n0 dst sp a w) (hb : Bel w.heap.size w w') : Sat n0 dst sp a w' := by
  cases sp with
  | val v => exact h
  | blk T n => obtain ⟨d, g, cs, hd, ht, hg, hc, ho⟩ := h; exact ⟨d, g, cs, hd, ht, hg, hc, ho.keep hb⟩
  | put s T cs => obtain ⟨g, ht, hg, ho⟩ := h; exact ⟨g, ht, hg, ho.keep hb⟩
  | sto g T cs => exact Own.keepB h hb
  | skip => exact h
  | new T cs s => obtain ⟨d, g, hd, ht, hg, ho⟩ := h; exact ⟨d, g, hd, ht, hg, ho.keep hb⟩

/-- a store into the block p alone -/
def OnlyAt (p : Nat) (w w' : World) : Prop := w'.heap.size = w.heap.size ∧ ∀ q, q ≠ p → w'.heap[q]? = w.heap[q]?
theorem OnlyAt.own {p q : Nat} {w w' : World} {T : TypeId} {cs : Array Value} (h : OnlyAt p w w') (ho : Own w q T cs) (hq : q ≠ p) : Own w' q T cs := by
  unfold Own at *
  rw [h.2 q hq]
  exact ho

/-- the state behind the operations listed -/
structure Inv (ops : Array Oper) (sp : Nat → Sp) (B : Nat) (w0 : World) (a0 : Act) (listed : Array Bool) (a : Act) (w : World) : Prop where
  size : a.tmps.size = a0.tmps.size
  defers : a.defers = a0.defers
  frame : ∀ s, (∀ (i : Nat) (o : Oper), ops[i]? = some o → o.dst ≠ some s) → a.tmps[s]? = a0.tmps[s]?
  below : Bel B w0 w
  rest : ∀ p, p < w0.heap.size → (∀ i T cs, sp i = .sto p T cs → listed.getD i false = false) → w.heap[p]? = w0.heap[p]?
  facts : ∀ (i : Nat) (o : Oper), ops[i]? = some o → listed.getD i false = true → Sat w0.heap.size o.dst (sp i) a w
  closed : ∀ (i : Nat) (o : Oper), ops[i]? = some o → listed.getD i false = true → ∀ e ∈ o.after, Region.binds .any e = true → listed.getD e.on false = true
  apart : ∀ (i j : Nat) (oi oj : Oper) (di dj gi gj : Nat) (si sj : Option (Nat × Nat)), ops[i]? = some oi → ops[j]? = some oj → i ≠ j → listed.getD i false = true → listed.getD j false = true →
    (sp i).mk = some si → (sp j).mk = some sj → oi.dst = some di → oj.dst = some dj →
    a.tmps[di]? = some (mkv si gi) → a.tmps[dj]? = some (mkv sj gj) → gi ≠ gj

/-- what one operation does, seen from a state in which all that it waits for is done -/
def Step (P : Program) (w0 : World) (o : Oper) (sp : Sp) (a : Act) (w : World) : Prop :=
  match sp with
  | .val v => (execOp a.eval o).run P w = .ok (.value v) w ∨ ∃ f args, (execOp a.eval o).run P w = .ok (.enter f args) w ∧ Calls P f args w fun e w' => e = .returned v ∧ Bel w.heap.size w w'
  | .blk T n => ∃ d z, o.dst = some d ∧ z.size = n ∧ (execOp a.eval o).run P w = .ok (.value (.pointer (some ⟨w.heap.size, 0, none⟩))) (w.alloc (.cells z T))
  | .put s T cs => o.dst = none ∧ ∃ w', ((execOp a.eval o).run P w = .ok .skip w' ∨ ∃ u, (execOp a.eval o).run P w = .ok (.value u) w') ∧
      ∀ g cs0, a.tmps[s]? = some (.pointer (some ⟨g, 0, none⟩)) → Own w g T cs0 → cs0.size = cs.size → Own w' g T cs ∧ OnlyAt g w w' ∧ (∀ B, B ≤ g → Bel B w0 w → Bel B w0 w')
  | .skip => True
  | .new T cs s => ∃ d, o.dst = some d ∧ (execOp a.eval o).run P w = .ok (.value (mkv s w.heap.size)) (w.alloc (.cells cs T))
  | .sto g T cs => o.dst = none ∧ ∃ w', ((execOp a.eval o).run P w = .ok .skip w' ∨ ∃ u, (execOp a.eval o).run P w = .ok (.value u) w') ∧
      (Own w' g T cs ∧ OnlyAt g w w' ∧ (∀ B, B ≤ g → Bel B w0 w → Bel B w0 w'))

/-- what an operation may count on -/
structure Ready (ops : Array Oper) (sp : Nat → Sp) (B : Nat) (w0 : World) (a0 : Act) (o : Oper) (me : Nat) (a : Act) (w : World) : Prop where
  size : a.tmps.size = a0.tmps.size
  frame : ∀ s, (∀ (i : Nat) (o : Oper), ops[i]? = some o → o.dst ≠ some s) → a.tmps[s]? = a0.tmps[s]?
  below : Bel B w0 w
  rest : ∀ p, p < w0.heap.size → (∀ i T cs, sp i ≠ .sto p T cs) → w.heap[p]? = w0.heap[p]?
  mine : ∀ g T cs, sp me = .sto g T cs → g < w0.heap.size → w.heap[g]? = w0.heap[g]?
  early : ∀ j g T cs oj, sp j = .sto g T cs → ops[j]? = some oj → (∃ e ∈ oj.after, Region.binds .any e = true ∧ e.on = me) → g < w0.heap.size → w.heap[g]? = w0.heap[g]?
  deps : ∀ e ∈ o.after, Region.binds .any e = true → ∀ oe, ops[e.on]? = some oe → Sat w0.heap.size oe.dst (sp e.on) a w

/-- the shape of the region: each waits for earlier ones alone; no guards; slots are there and differ; a store's slot is that of an earlier block, made by one that it waits for, and no two stores have one slot -/
structure Shape (ops : Array Oper) (sp : Nat → Sp) (B : Nat) (w0 : World) (N : Nat) : Prop where
  stos : ∀ (i : Nat) (g : Nat) (T : TypeId) (cs : Array Value), sp i = .sto g T cs → i < ops.size ∧ B ≤ g ∧ g < w0.heap.size
  once : ∀ (i j : Nat) (g : Nat) (T T' : TypeId) (cs cs' : Array Value), sp i = .sto g T cs → sp j = .sto g T' cs' → i = j
  early : ∀ (i : Nat) (o : Oper), ops[i]? = some o → ∀ e ∈ o.after, Region.binds .any e = true → e.on < i
  free : ∀ (i : Nat) (o : Oper), ops[i]? = some o → (o.guard = none ∧ sp i ≠ .skip) ∨ (sp i = .skip ∧ ∃ (k : Nat) (b : Bool) (ok : Oper) (d : Nat), o.guard = some (k, b) ∧ ops[k]? = some ok ∧ ok.dst = some d ∧ sp k = .skip ∧ ∃ e ∈ o.after, Region.binds .any e = true ∧ e.on = k) ∨ ∃ (k : Nat) (b b' : Bool) (ok : Oper) (d : Nat), o.guard = some (k, b) ∧ ops[k]? = some ok ∧ ok.dst = some d ∧ sp k = .val (.bool b') ∧
    (∃ e ∈ o.after, Region.binds .any e = true ∧ e.on = k) ∧ (b = b' → sp i ≠ .skip) ∧ (b ≠ b' → sp i = .skip)
  slots : ∀ (i : Nat) (o : Oper) (d : Nat), ops[i]? = some o → o.dst = some d → d < N
  differ : ∀ (i j : Nat) (oi oj : Oper) (d : Nat), ops[i]? = some oi → ops[j]? = some oj → oi.dst = some d → oj.dst = some d → i = j
  puts : ∀ (i : Nat) (o : Oper) (s : Nat) (T : TypeId) (cs : Array Value), ops[i]? = some o → sp i = .put s T cs →
    o.dst = none ∧ ∃ k ok, ops[k]? = some ok ∧ ok.dst = some s ∧ sp k = .blk T cs.size ∧ ∃ e ∈ o.after, Region.binds .any e = true ∧ e.on = k
  twice : ∀ (i j : Nat) (s : Nat) (T T' : TypeId) (cs cs' : Array Value), i < ops.size → j < ops.size → sp i = .put s T cs → sp j = .put s T' cs' → i = j

theorem undone {listed : Array Bool} {i : Nat} (h : listed.getD i true = false) : i < listed.size ∧ listed.getD i false = false := by
  rcases Nat.lt_or_ge i listed.size with h' | h'
  · refine ⟨h', ?_⟩
    simp [h'] at h ⊢
    exact h
  · simp [Array.getElem?_eq_none h'] at h
theorem set_self {listed : Array Bool} {i : Nat} (h : i < listed.size) : (listed.setIfInBounds i true).getD i false = true := by simp [h]
theorem set_back {listed : Array Bool} {i j : Nat} (h : (listed.setIfInBounds i true).getD j false = true) (hne : j ≠ i) : listed.getD j false = true := by
  rwa [getD_set_ne false (Ne.symm hne)] at h

theorem put_at {a : Act} {dst : Option Nat} {v : Value} {s : Nat} (h : dst ≠ some s) : (a.put dst v).tmps[s]? = a.tmps[s]? := by
  cases dst with
  | none => rfl
  | some d => exact Array.getElem?_setIfInBounds_ne (fun e => h (by rw [e]))
theorem put_size {a : Act} {dst : Option Nat} {v : Value} : (a.put dst v).tmps.size = a.tmps.size := by cases dst <;> simp [Act.put]
theorem put_defers {a : Act} {dst : Option Nat} {v : Value} : (a.put dst v).defers = a.defers := by cases dst <;> rfl
theorem put_here {a : Act} {d : Nat} {v : Value} (h : d < a.tmps.size) : (a.put (some d) v).tmps[d]? = some v := by simp [Act.put, h]

section
variable {P : Program} {ops : Array Oper} {Q : Exit → Act → World → Prop} {sp : Nat → Sp} {B : Nat} {w0 : World} {a0 : Act}

/-- the slots that a done one looks at are those of done ones -/
theorem Inv.looked {listed : Array Bool} {a : Act} {w : World} (sh : Shape ops sp B w0 a0.tmps.size) (I : Inv ops sp B w0 a0 listed a w) {i j : Nat} {oi oj : Oper} (hi : ops[i]? = some oi) (hj : ops[j]? = some oj)
    (ni : listed.getD i false = false) (dj : listed.getD j false = true) : ∀ s ∈ (sp j).looks oj.dst, oi.dst ≠ some s := by
  intro s hs e
  have key : ∀ k ok, ops[k]? = some ok → ok.dst = some s → listed.getD k false = true → False := fun k ok hk hd hl => by
    have := sh.differ i k oi ok s hi hk e hd
    subst this
    rw [ni] at hl
    cases hl
  cases hsp : sp j with
  | val v => rw [hsp] at hs; simp [Sp.looks] at hs; exact key j oj hj hs dj
  | blk T n => rw [hsp] at hs; simp [Sp.looks] at hs; exact key j oj hj hs dj
  | sto g T cs => rw [hsp] at hs; simp [Sp.looks] at hs
  | skip => rw [hsp] at hs; simp [Sp.looks] at hs; exact key j oj hj hs dj
  | new T cs s => rw [hsp] at hs; simp [Sp.looks] at hs; exact key j oj hj hs dj
  | put s' T cs =>
    rw [hsp] at hs
    simp [Sp.looks] at hs
    subst hs
    obtain ⟨_, k, ok, hk, hd, _, e', he', hb, hon⟩ := sh.puts j oj s T cs hj hsp
    exact key k ok hk hd (hon ▸ I.closed j oj hj dj e' he' hb)

/-- an operation that leaves all that there was as it was -/
theorem Inv.step {listed : Array Bool} {a : Act} {w w' : World} (hB0 : B ≤ w0.heap.size) (sh : Shape ops sp B w0 a0.tmps.size) (I : Inv ops sp B w0 a0 listed a w) {i : Nat} {o : Oper} (hi : ops[i]? = some o) (un : listed.getD i true = false)
    (hd : ∀ e ∈ o.after, Region.binds .any e = true → listed.getD e.on false = true) {v : Value} (hb : Bel w.heap.size w w')
    (hs : Sat w0.heap.size o.dst (sp i) (a.put o.dst v) w') (hap : ∀ s, (sp i).mk = some s → v = mkv s w.heap.size) :
    Inv ops sp B w0 a0 (listed.setIfInBounds i true) (a.put o.dst v) w' := by
  obtain ⟨hlt, ni⟩ := undone un
  have old : ∀ (j : Nat) (oj : Oper), ops[j]? = some oj → listed.getD j false = true → Sat w0.heap.size oj.dst (sp j) (a.put o.dst v) w' := fun j oj hj dj =>
    ((I.facts j oj hj dj).keep hb).slots fun s hs' => put_at (I.looked sh hi hj ni dj s hs')
  have lt : ∀ (j : Nat) (oj : Oper) (d g : Nat) (s : Option (Nat × Nat)), ops[j]? = some oj → listed.getD j false = true → (sp j).mk = some s → oj.dst = some d → a.tmps[d]? = some (mkv s g) → g < w.heap.size := fun j oj d g s hj dj hsp hdst ht => by
    have h := I.facts j oj hj dj
    cases hq : sp j with
    | blk T n =>
      rw [hq] at h hsp
      obtain rfl : none = s := Option.some.inj hsp
      obtain ⟨d', g', cs, hd', ht', _, _, ho⟩ := h
      obtain rfl : d = d' := Option.some.inj (hdst.symm.trans hd')
      rw [ht] at ht'
      obtain rfl := mkv_inj (s := none) (Option.some.inj ht')
      exact ho.in_
    | new T cs s' =>
      rw [hq] at h hsp
      obtain rfl : s' = s := Option.some.inj hsp
      obtain ⟨d', g', hd', ht', _, ho⟩ := h
      obtain rfl : d = d' := Option.some.inj (hdst.symm.trans hd')
      rw [ht] at ht'
      obtain rfl := mkv_inj (Option.some.inj ht')
      exact ho.in_
    | val v => rw [hq] at hsp; cases hsp
    | put _ _ _ => rw [hq] at hsp; cases hsp
    | sto _ _ _ => rw [hq] at hsp; cases hsp
    | skip => rw [hq] at hsp; cases hsp
  refine ⟨put_size.trans I.size, put_defers.trans I.defers, fun s hs' => (put_at (hs' i o hi)).trans (I.frame s hs'), I.below.trans (hb.mono (Nat.le_trans hB0 I.below.size)), fun p hp hn => (hb.block p (Nat.lt_of_lt_of_le hp I.below.size)).trans (I.rest p hp fun j T cs hj => Bool.eq_false_iff.2 fun h => by have := hn j T cs hj; rw [getD_set_true h] at this; cases this), ?_, ?_, ?_⟩
  · intro j oj hj dj
    by_cases e : j = i
    · subst e
      obtain rfl : oj = o := Option.some.inj (hj.symm.trans hi)
      exact hs
    · exact old j oj hj (set_back dj e)
  · intro j oj hj dj e he hbd
    by_cases ej : j = i
    · subst ej
      obtain rfl : oj = o := Option.some.inj (hj.symm.trans hi)
      exact getD_set_true (hd e he hbd)
    · exact getD_set_true (I.closed j oj hj (set_back dj ej) e he hbd)
  · intro j k oj ok dj dk gj gk sj sk hj hk hne lj lk bj bk ej ek tj tk
    have far : ∀ (j : Nat) (oj : Oper) (d g : Nat) (s : Option (Nat × Nat)), j ≠ i → ops[j]? = some oj → oj.dst = some d → (a.put o.dst v).tmps[d]? = some (mkv s g) → a.tmps[d]? = some (mkv s g) := fun j oj d g s hji hj hd' ht => by
      rwa [put_at (fun e => hji ((sh.differ i j o oj d hi hj e hd').symm))] at ht
    have mine : ∀ (oj : Oper) (d g : Nat) (s : Option (Nat × Nat)), ops[i]? = some oj → oj.dst = some d → (sp i).mk = some s → (a.put o.dst v).tmps[d]? = some (mkv s g) → g = w.heap.size := fun oj d g s hj hd' hbk ht => by
      obtain rfl : oj = o := Option.some.inj (hj.symm.trans hi)
      rw [hd', put_here (by rw [I.size]; exact sh.slots i oj d hi hd'), hap s hbk] at ht
      exact (mkv_inj (Option.some.inj ht)).symm
    by_cases e1 : j = i
    · subst e1
      have h2 := lt k ok dk gk sk hk (set_back lk (Ne.symm hne)) bk ek (far k ok dk gk sk (Ne.symm hne) hk ek tk)
      have h1 := mine oj dj gj sj hj ej bj tj
      omega
    · by_cases e2 : k = i
      · subst e2
        have h2 := lt j oj dj gj sj hj (set_back lj e1) bj ej (far j oj dj gj sj e1 hj ej tj)
        have h1 := mine ok dk gk sk hk ek bk tk
        omega
      · exact I.apart j k oj ok dj dk gj gk sj sk hj hk hne (set_back lj e1) (set_back lk e2) bj bk ej ek (far j oj dj gj sj e1 hj ej tj) (far k ok dk gk sk e2 hk ek tk)

/-- a store into a block of the region's own -/
theorem Inv.stored {listed : Array Bool} {a : Act} {w w' : World} (hB0 : B ≤ w0.heap.size) (sh : Shape ops sp B w0 a0.tmps.size) (I : Inv ops sp B w0 a0 listed a w) {i : Nat} {o : Oper} (hi : ops[i]? = some o) (un : listed.getD i true = false)
    (hd : ∀ e ∈ o.after, Region.binds .any e = true → listed.getD e.on false = true) {s : Nat} {T : TypeId} {cs : Array Value} (hsp : sp i = .put s T cs)
    (h : ∀ g cs0, a.tmps[s]? = some (.pointer (some ⟨g, 0, none⟩)) → Own w g T cs0 → cs0.size = cs.size → Own w' g T cs ∧ OnlyAt g w w' ∧ (∀ B, B ≤ g → Bel B w0 w → Bel B w0 w')) :
    Inv ops sp B w0 a0 (listed.setIfInBounds i true) a w' := by
  obtain ⟨hlt, ni⟩ := undone un
  obtain ⟨hnone, k, ok, hk, hks, hkb, e', he', hb', hon⟩ := sh.puts i o s T cs hi hsp
  have lk : listed.getD k false = true := hon ▸ hd e' he' hb'
  have fk := I.facts k ok hk lk
  rw [hkb] at fk
  obtain ⟨d, g, cs0, hd0, ht, hg, hz, ho⟩ := fk
  obtain rfl : s = d := Option.some.inj (hks.symm.trans hd0)
  obtain ⟨own, only, bel⟩ := h g cs0 ht ho hz
  refine ⟨I.size, I.defers, I.frame, bel B (Nat.le_trans hB0 hg) I.below, fun p hp hn => (only.2 p (by omega)).trans (I.rest p hp fun j T cs hj => Bool.eq_false_iff.2 fun h => by have := hn j T cs hj; rw [getD_set_true h] at this; cases this), ?_, ?_, ?_⟩
  · intro j oj hj dj
    by_cases e : j = i
    · subst e
      rw [hsp]
      exact ⟨g, ht, hg, own⟩
    · have dj' := set_back dj e
      have fj := I.facts j oj hj dj'
      cases hspj : sp j with
      | val v => rw [hspj] at fj; exact fj
      | skip => rw [hspj] at fj; exact fj
      | sto g' T' cs' => rw [hspj] at fj; exact only.own fj (by have := (sh.stos j g' T' cs' hspj).2.2; omega)
      | new T' cs' s' =>
        rw [hspj] at fj
        obtain ⟨d, g', hd', ht', hg', ho'⟩ := fj
        have ejk : j ≠ k := fun e => by subst e; rw [hkb] at hspj; cases hspj
        exact ⟨d, g', hd', ht', hg', only.own ho' (I.apart j k oj ok d s g' g s' none hj hk ejk dj' lk (by rw [hspj]; rfl) (by rw [hkb]; rfl) hd' hks ht' ht)⟩
      | blk T' n =>
        rw [hspj] at fj
        obtain ⟨d, g', cs', hd', ht', hg', hz', ho'⟩ := fj
        by_cases ejk : j = k
        · subst ejk
          obtain rfl : oj = ok := Option.some.inj (hj.symm.trans hk)
          obtain rfl : s = d := Option.some.inj (hks.symm.trans hd')
          rw [ht] at ht'
          obtain rfl : g = g' := by simpa using ht'
          rw [hkb] at hspj
          obtain ⟨rfl, rfl⟩ : T = T' ∧ cs.size = n := by simpa using hspj
          exact ⟨s, g, cs, hd', ht, hg, rfl, own⟩
        · exact ⟨d, g', cs', hd', ht', hg', hz', only.own ho' (I.apart j k oj ok d s g' g none none hj hk ejk dj' lk (by rw [hspj]; rfl) (by rw [hkb]; rfl) hd' hks ht' ht)⟩
      | put s' T' cs' =>
        rw [hspj] at fj
        obtain ⟨g', ht', hg', ho'⟩ := fj
        obtain ⟨_, k', ok', hk', hks', hkb', e2, he2, hb2, hon2⟩ := sh.puts j oj s' T' cs' hj hspj
        have lk' : listed.getD k' false = true := hon2 ▸ I.closed j oj hj dj' e2 he2 hb2
        have hkk : k' ≠ k := fun e3 => by
          subst e3
          obtain rfl : ok' = ok := Option.some.inj (hk'.symm.trans hk)
          obtain rfl : s = s' := Option.some.inj (hks.symm.trans hks')
          exact e (sh.twice j i s T' T cs' cs (Array.getElem?_eq_some_iff.1 hj).1 (Array.getElem?_eq_some_iff.1 hi).1 hspj hsp)
        exact ⟨g', ht', hg', only.own ho' (I.apart k' k ok' ok s' s g' g none none hk' hk hkk lk' lk (by rw [hkb']; rfl) (by rw [hkb]; rfl) hks' hks ht' ht)⟩
  · intro j oj hj dj e he hbd
    by_cases ej : j = i
    · subst ej
      obtain rfl : oj = o := Option.some.inj (hj.symm.trans hi)
      exact getD_set_true (hd e he hbd)
    · exact getD_set_true (I.closed j oj hj (set_back dj ej) e he hbd)
  · intro j k2 oj ok2 dj dk gj gk sj sk hj hk2 hne lj lk2 bj bk ej ek tj tk
    have hji : j ≠ i := fun e => by subst e; rw [hsp] at bj; cases bj
    have hki : k2 ≠ i := fun e => by subst e; rw [hsp] at bk; cases bk
    exact I.apart j k2 oj ok2 dj dk gj gk sj sk hj hk2 hne (set_back lj hji) (set_back lk2 hki) bj bk ej ek tj tk

/-- a store into an old block -/
theorem Inv.stoed {listed : Array Bool} {a : Act} {w w' : World} (sh : Shape ops sp B w0 a0.tmps.size) (I : Inv ops sp B w0 a0 listed a w) {i : Nat} {o : Oper} (hi : ops[i]? = some o) (un : listed.getD i true = false)
    (hd : ∀ e ∈ o.after, Region.binds .any e = true → listed.getD e.on false = true) {g : Nat} {T : TypeId} {cs : Array Value} (hsp : sp i = .sto g T cs)
    (own : Own w' g T cs) (only : OnlyAt g w w') (bel : ∀ B, B ≤ g → Bel B w0 w → Bel B w0 w') :
    Inv ops sp B w0 a0 (listed.setIfInBounds i true) a w' := by
  obtain ⟨hlt, ni⟩ := undone un
  obtain ⟨_, hBg, hgw⟩ := sh.stos i g T cs hsp
  refine ⟨I.size, I.defers, I.frame, bel B hBg I.below, fun p hp hn => ?_, ?_, ?_, ?_⟩
  · have hpg : p ≠ g := fun e => by
      subst e
      have := hn i T cs hsp
      rw [set_self hlt] at this
      cases this
    exact (only.2 p hpg).trans (I.rest p hp fun j T cs hj => Bool.eq_false_iff.2 fun h => by have := hn j T cs hj; rw [getD_set_true h] at this; cases this)
  · intro j oj hj dj
    by_cases e : j = i
    · subst e
      rw [hsp]
      exact own
    · have dj' := set_back dj e
      have fj := I.facts j oj hj dj'
      cases hspj : sp j with
      | val v => rw [hspj] at fj; exact fj
      | skip => rw [hspj] at fj; exact fj
      | blk T' n => rw [hspj] at fj; obtain ⟨d, g', cs', hd', ht', hg', hz', ho'⟩ := fj; exact ⟨d, g', cs', hd', ht', hg', hz', only.own ho' (by omega)⟩
      | new T' cs' s' => rw [hspj] at fj; obtain ⟨d, g', hd', ht', hg', ho'⟩ := fj; exact ⟨d, g', hd', ht', hg', only.own ho' (by omega)⟩
      | put s' T' cs' => rw [hspj] at fj; obtain ⟨g', ht', hg', ho'⟩ := fj; exact ⟨g', ht', hg', only.own ho' (by omega)⟩
      | sto g' T' cs' =>
        rw [hspj] at fj
        exact only.own fj fun e2 => by subst e2; exact e (sh.once j i g' T' T cs' cs hspj hsp)
  · intro j oj hj dj e he hbd
    by_cases ej : j = i
    · subst ej
      obtain rfl : oj = o := Option.some.inj (hj.symm.trans hi)
      exact getD_set_true (hd e he hbd)
    · exact getD_set_true (I.closed j oj hj (set_back dj ej) e he hbd)
  · intro j k2 oj ok2 dj dk gj gk sj sk hj hk2 hne lj lk2 bj bk ej ek tj tk
    have hji : j ≠ i := fun e => by subst e; rw [hsp] at bj; cases bj
    have hki : k2 ≠ i := fun e => by subst e; rw [hsp] at bk; cases bk
    exact I.apart j k2 oj ok2 dj dk gj gk sj sk hj hk2 hne (set_back lj hji) (set_back lk2 hki) bj bk ej ek tj tk

/-- how many are not done -/
def rem (listed : Array Bool) : Nat := listed.toList.count false
theorem rem_set {listed : Array Bool} {i : Nat} (un : listed.getD i true = false) : rem (listed.setIfInBounds i true) + 1 = rem listed := by
  obtain ⟨hlt, ni⟩ := undone un
  have hv : listed[i] = false := by simpa [hlt] using un
  have hpos : 0 < listed.toList.count false := List.count_pos_iff.2 (by rw [← hv]; exact Array.getElem_mem_toList hlt)
  unfold rem
  rw [Array.toList_setIfInBounds, List.count_set (by simpa using hlt)]
  have h1 : listed.toList[i]'(by simpa using hlt) = false := by simpa using hv
  rw [h1]
  have : (if (false == false) = true then 1 else 0) = 1 := rfl
  have h2 : (if (true == false) = true then 1 else 0) = 0 := rfl
  rw [this, h2]
  omega
theorem rem_zero {listed : Array Bool} (h : rem listed = 0) (i : Nat) : listed.getD i true = true := by
  cases hv : listed.getD i true with
  | true => rfl
  | false => have := rem_set hv; omega

/-- THE LAW -/
theorem memo (hB0 : B ≤ w0.heap.size) (sh : Shape ops sp B w0 a0.tmps.size) (hops : ∀ (i : Nat) (o : Oper) (a : Act) (w : World), ops[i]? = some o → Ready ops sp B w0 a0 o i a w → Step P w0 o (sp i) a w)
    (hend : ∀ (a : Act) (w : World), Inv ops sp B w0 a0 (Array.replicate ops.size true) a w → Q .normal a w) :
    ∀ (fuel : Nat) (listed : Array Bool) (a : Act) (w : World), listed.size = ops.size → rem listed = fuel → Inv ops sp B w0 a0 listed a w → wpAny P .any ops Q fuel listed a w := by
  have fin : ∀ (listed : Array Bool) (a : Act) (w : World), listed.size = ops.size → (∀ i, listed.getD i true = true) → Inv ops sp B w0 a0 listed a w → Q .normal a w := fun listed a w hs hall I => by
    refine hend a w ?_
    have : listed = Array.replicate ops.size true := by
      refine Array.ext (by simp [hs]) fun i h1 h2 => ?_
      have := hall i
      simpa [h1] using this
    exact this ▸ I
  have stuck : ∀ (listed : Array Bool), listed.size = ops.size → Region.ready .any ops listed = [] → ∀ i, listed.getD i true = true := fun listed hs hr => by
    intro i
    induction i using Nat.strongRecOn with
    | ind i ih =>
      cases hv : listed.getD i true with
      | true => rfl
      | false =>
        obtain ⟨hlt, ni⟩ := undone hv
        have ho : ops[i]? = some ops[i] := Array.getElem?_eq_getElem (by omega)
        have : i ∈ Region.ready .any ops listed := mem_ready.2 ⟨hv, _, ho, fun e he hb => by
          have h1 := sh.early i _ ho e he hb
          have h2 := ih e.on h1
          have h3 : e.on < listed.size := by omega
          simpa [h3] using h2⟩
        rw [hr] at this
        cases this
  intro fuel
  induction fuel with
  | zero =>
    intro listed a w hs hrem I
    have hall := rem_zero hrem
    refine ⟨?_, fin listed a w hs hall I⟩
    refine List.eq_nil_iff_forall_not_mem.2 fun i hi => ?_
    have := (mem_ready.1 hi).1
    rw [hall i] at this
    cases this
  | succ fuel ih =>
    intro listed a w hs hrem I
    refine ⟨fun hr => fin listed a w hs (stuck listed hs hr) I, fun i hi => ?_⟩
    obtain ⟨un, o, ho, hd⟩ := mem_ready.1 hi
    have next : ∀ a' w', Inv ops sp B w0 a0 (listed.setIfInBounds i true) a' w' → wpAny P .any ops Q fuel (listed.setIfInBounds i true) a' w' := fun a' w' I' =>
      ih _ _ _ (by simpa using hs) (by have := rem_set un; omega) I'
    have R : Ready ops sp B w0 a0 o i a w := ⟨I.size, I.frame, I.below, fun p hp hn => I.rest p hp fun j T cs hj => absurd hj (hn j T cs), fun g T cs hg hgw => I.rest g hgw fun j T' cs' hj => by obtain rfl := sh.once i j g T T' cs cs' hg hj; exact (undone un).2,
      fun j g T cs oj hg hoj ⟨e, he, hb, hon⟩ hgw => I.rest g hgw fun j' T' cs' hj => by
        obtain rfl := sh.once j j' g T T' cs cs' hg hj
        refine Bool.eq_false_iff.2 fun hl => ?_
        have := I.closed j oj hoj hl e he hb
        rw [hon, (undone un).2] at this
        exact (Bool.noConfusion this), fun e he hb oe hoe => I.facts e.on oe hoe (hd e he hb)⟩
    have S := hops i o a w ho R
    have hw : (Region.wanted o (yielded ops a.tmps) = true ∧ sp i ≠ .skip) ∨ (Region.wanted o (yielded ops a.tmps) = false ∧ sp i = .skip) := by
      rcases sh.free i o ho with ⟨hg, hn⟩ | ⟨hsk, k, b, ok, d, hg, hk, hkd, hkv, e, he, hb, hon⟩ | ⟨k, b, b', ok, d, hg, hk, hkd, hkv, ⟨e, he, hb, hon⟩, h1, h2⟩
      · exact .inl ⟨by unfold Region.wanted; rw [hg], hn⟩
      · have hf := I.facts k ok hk (hon ▸ hd e he hb)
        rw [hkv] at hf
        have hy : yielded ops a.tmps k = none := by unfold yielded; simp only [hk, Option.bind_some, hkd]; rw [hf d hkd]; rfl
        exact .inr ⟨by unfold Region.wanted; rw [hg]; simp only [hy]; rfl, hsk⟩
      · have hf := I.facts k ok hk (hon ▸ hd e he hb)
        rw [hkv] at hf
        have hy : yielded ops a.tmps k = some b' := by unfold yielded; simp only [hk, Option.bind_some, hkd]; rw [hf d hkd]
        by_cases hbb : b = b'
        · exact .inl ⟨by unfold Region.wanted; rw [hg]; simp only [hy, hbb, beq_self_eq_true], h1 hbb⟩
        · exact .inr ⟨by unfold Region.wanted; rw [hg]; simp only [hy]; simpa using fun h => hbb h.symm, h2 hbb⟩
    unfold wpOp
    rcases hw with ⟨hw, hns⟩ | ⟨hw, hskip⟩
    rotate_left
    · simp only [ho, hw, Bool.false_eq_true, if_false]
      refine next _ _ (I.step hB0 sh ho un hd (Bel.refl _ _) ?_ fun s h => by rw [hskip] at h; cases h)
      rw [hskip]
      intro d hdd
      rw [hdd]
      exact put_here (by rw [I.size]; exact sh.slots i o d ho hdd)
    simp only [ho, hw, if_true]
    refine .inl ?_
    unfold Oper.wp
    unfold Step at S
    cases hsp : sp i with
    | skip => exact absurd hsp hns
    | val v =>
      rw [hsp] at S
      have sat : ∀ w', Sat w0.heap.size o.dst (sp i) (a.put o.dst v) w' := fun w' => by
        rw [hsp]
        intro d hdd
        rw [hdd]
        exact put_here (by rw [I.size]; exact sh.slots i o d ho hdd)
      have nb : ∀ s, (sp i).mk = some s → v = mkv s w.heap.size := fun s h => by rw [hsp] at h; cases h
      rcases S with hr | ⟨f, args, hr, hc⟩
      · rw [hr]
        exact next _ _ (I.step hB0 sh ho un hd (Bel.refl _ _) (sat w) nb)
      · rw [hr]
        refine Calls.mono hc fun e w' ⟨he, hb⟩ => ?_
        subst he
        exact next _ _ (I.step hB0 sh ho un hd hb (sat w') nb)
    | blk T n =>
      rw [hsp] at S
      obtain ⟨d, z, hdst, hz, hr⟩ := S
      rw [hr]
      refine next _ _ (I.step hB0 sh ho un hd ((Bel.refl _ _).alloc (Nat.le_refl _) _) ?_ fun s h => by rw [hsp] at h; obtain rfl : none = s := Option.some.inj h; rfl)
      rw [hsp]
      refine ⟨d, w.heap.size, z, hdst, ?_, Nat.le_trans (Nat.le_refl _) I.below.size, hz, Own.made w T z⟩
      rw [hdst]
      exact put_here (by rw [I.size]; exact sh.slots i o d ho hdst)
    | put s T cs =>
      rw [hsp] at S
      obtain ⟨hnone, w', hr, h⟩ := S
      have I' := I.stored hB0 sh ho un hd hsp h
      rcases hr with hr | ⟨u, hr⟩ <;> rw [hr] <;> (simp only [Oper.upon]; rw [hnone]; exact next _ _ I')
    | new T cs s =>
      rw [hsp] at S
      obtain ⟨d, hdst, hr⟩ := S
      rw [hr]
      refine next _ _ (I.step hB0 sh ho un hd ((Bel.refl _ _).alloc (Nat.le_refl _) _) ?_ fun s' h => by rw [hsp] at h; obtain rfl : s = s' := Option.some.inj h; rfl)
      rw [hsp]
      refine ⟨d, w.heap.size, hdst, ?_, Nat.le_trans (Nat.le_refl _) I.below.size, Own.made w T cs⟩
      rw [hdst]
      exact put_here (by rw [I.size]; exact sh.slots i o d ho hdst)
    | sto g T cs =>
      rw [hsp] at S
      obtain ⟨hnone, w', hr, own, only, bel⟩ := S
      have I' := I.stoed sh ho un hd hsp own only bel
      rcases hr with hr | ⟨u, hr⟩ <;> rw [hr] <;> (simp only [Oper.upon]; rw [hnone]; exact next _ _ I')

theorem arr_any {α : Type} {X : Array α} {f : α → Bool} (h : X.any f = true) : ∃ x, x ∈ X ∧ f x = true := by
  rw [← Array.any_toList, List.any_eq_true] at h
  obtain ⟨x, hx, hf⟩ := h
  exact ⟨x, by simpa using hx, hf⟩
/-- all have shape, as a Bool -/
def shapeB (ops : List Oper) (L : List Sp) (N : Nat) : Bool :=
  decide (L.length ≤ ops.length) && (List.range ops.length).all fun i => match ops[i]? with
    | none => false
    | some o => o.after.all (fun e => !Region.binds .any e || decide (e.on < i)) &&
      (match o.guard with
        | none => !(L.getD i (.val undef)).isSkip
        | some (k, b) => ((ops[k]?).bind (·.dst)).isSome && o.after.any (fun e => Region.binds .any e && e.on == k) && (match L.getD k (.val undef) with | .val (.bool b') => (b == b') == !(L.getD i (.val undef)).isSkip | .skip => (L.getD i (.val undef)).isSkip | _ => false)) &&
      (match o.dst with
        | none => true
        | some d => decide (d < N) && (List.range ops.length).all fun j => j == i || ((ops[j]?).bind (·.dst)) != some d) &&
      (match L.getD i (.val undef) with
        | .put s T cs => o.dst.isNone && ((List.range ops.length).any fun k => (((ops[k]?).bind (·.dst)) == some s) && (match L.getD k (.val undef) with | .blk T' n => T' == T && n == cs.size | _ => false) && o.after.any (fun e => Region.binds .any e && e.on == k)) &&
            (List.range ops.length).all fun j => j == i || (match L.getD j (.val undef) with | .put s' _ _ => s' != s | _ => true)
        | .sto _ _ _ => o.dst.isNone
        | _ => true)
def spOf (L : List Sp) (i : Nat) : Sp := L.getD i (.val undef)
/-- the old blocks: each stands apart from p -/
def Off (p : Nat) : List Sp → Prop
  | [] => True
  | .sto g _ _ :: r => p ≠ g ∧ Off p r
  | .val _ :: r => Off p r
  | .blk _ _ :: r => Off p r
  | .put _ _ _ :: r => Off p r
  | .skip :: r => Off p r
  | .new _ _ _ :: r => Off p r
/-- the old blocks are there, from B on, and differ -/
def Olds (B : Nat) (w0 : World) : List Sp → Prop
  | [] => True
  | .sto g _ _ :: r => (B ≤ g ∧ g < w0.heap.size ∧ Off g r) ∧ Olds B w0 r
  | .val _ :: r => Olds B w0 r
  | .blk _ _ :: r => Olds B w0 r
  | .put _ _ _ :: r => Olds B w0 r
  | .skip :: r => Olds B w0 r
  | .new _ _ _ :: r => Olds B w0 r
theorem Off.v {p : Nat} {v : Value} {r : List Sp} (h : Off p r) : Off p (.val v :: r) := h
theorem Off.n {p : Nat} {T : TypeId} {cs : Array Value} {s : Option (Nat × Nat)} {r : List Sp} (h : Off p r) : Off p (.new T cs s :: r) := h
theorem Olds.n {B : Nat} {w0 : World} {T : TypeId} {cs : Array Value} {s : Option (Nat × Nat)} {r : List Sp} (h : Olds B w0 r) : Olds B w0 (.new T cs s :: r) := h
theorem Off.k {p : Nat} {r : List Sp} (h : Off p r) : Off p (.skip :: r) := h
theorem Olds.k {B : Nat} {w0 : World} {r : List Sp} (h : Olds B w0 r) : Olds B w0 (.skip :: r) := h
theorem Off.b {p : Nat} {T : TypeId} {n : Nat} {r : List Sp} (h : Off p r) : Off p (.blk T n :: r) := h
theorem Off.p {p s : Nat} {T : TypeId} {cs : Array Value} {r : List Sp} (h : Off p r) : Off p (.put s T cs :: r) := h
theorem Off.s {p g : Nat} {T : TypeId} {cs : Array Value} {r : List Sp} (e : p ≠ g) (h : Off p r) : Off p (.sto g T cs :: r) := ⟨e, h⟩
theorem Olds.v {B : Nat} {w0 : World} {v : Value} {r : List Sp} (h : Olds B w0 r) : Olds B w0 (.val v :: r) := h
theorem Olds.b {B : Nat} {w0 : World} {T : TypeId} {n : Nat} {r : List Sp} (h : Olds B w0 r) : Olds B w0 (.blk T n :: r) := h
theorem Olds.p {B s : Nat} {w0 : World} {T : TypeId} {cs : Array Value} {r : List Sp} (h : Olds B w0 r) : Olds B w0 (.put s T cs :: r) := h
theorem Olds.s {B g : Nat} {w0 : World} {T : TypeId} {cs : Array Value} {r : List Sp} (e : B ≤ g) (k : g < w0.heap.size) (o : Off g r) (h : Olds B w0 r) : Olds B w0 (.sto g T cs :: r) := ⟨⟨e, k, o⟩, h⟩
theorem off_at {p : Nat} : ∀ {L : List Sp}, Off p L → ∀ (i g : Nat) (T : TypeId) (cs : Array Value), L[i]? = some (.sto g T cs) → p ≠ g
  | [], _, i, g, T, cs, h => by simp at h
  | s :: r, ho, 0, g, T, cs, h => by
    obtain rfl : s = .sto g T cs := by simpa using h
    exact ho.1
  | s :: r, ho, i + 1, g, T, cs, h => by
    have h' : r[i]? = some (.sto g T cs) := by simpa using h
    cases s with
    | val _ => exact off_at (L := r) ho i g T cs h'
    | blk _ _ => exact off_at (L := r) ho i g T cs h'
    | put _ _ _ => exact off_at (L := r) ho i g T cs h'
    | skip => exact off_at (L := r) ho i g T cs h'
    | new _ _ _ => exact off_at (L := r) ho i g T cs h'
    | sto _ _ _ => exact off_at (L := r) ho.2 i g T cs h'
theorem olds_at {B : Nat} {w0 : World} : ∀ {L : List Sp}, Olds B w0 L → ∀ (i g : Nat) (T : TypeId) (cs : Array Value), L[i]? = some (.sto g T cs) → B ≤ g ∧ g < w0.heap.size ∧ ∀ j T' cs', L[j]? = some (.sto g T' cs') → i = j
  | [], _, i, g, T, cs, h => by simp at h
  | s :: r, ho, 0, g, T, cs, h => by
    obtain rfl : s = .sto g T cs := by simpa using h
    refine ⟨ho.1.1, ho.1.2.1, fun j T' cs' hj => ?_⟩
    cases j with
    | zero => rfl
    | succ j => exact absurd rfl (off_at ho.1.2.2 j g T' cs' (by simpa using hj))
  | s :: r, ho, i + 1, g, T, cs, h => by
    have h' : r[i]? = some (.sto g T cs) := by simpa using h
    have hr : Olds B w0 r := by cases s <;> first | exact ho | exact ho.2
    obtain ⟨h1, h2, h3⟩ := olds_at hr i g T cs h'
    refine ⟨h1, h2, fun j T' cs' hj => ?_⟩
    cases j with
    | zero =>
      obtain rfl : s = .sto g T' cs' := by simpa using hj
      exact absurd rfl (off_at ho.1.2.2 i g T cs h')
    | succ j => rw [h3 j T' cs' (by simpa using hj)]
theorem sp_get {L : List Sp} {i g : Nat} {T : TypeId} {cs : Array Value} (h : spOf L i = .sto g T cs) : L[i]? = some (.sto g T cs) := by
  unfold spOf at h
  rw [List.getD_eq_getElem?_getD] at h
  cases e : L[i]? with
  | none => rw [e] at h; cases h
  | some x => rw [e] at h; simpa using h
theorem shape_of {l : List Oper} {L : List Sp} {B : Nat} {w0 : World} {N : Nat} (h : shapeB l L N = true) (ho : Olds B w0 L) : Shape l.toArray (spOf L) B w0 N := by
  have hlen : L.length ≤ l.length := by
    unfold shapeB at h
    simp only [Bool.and_eq_true, decide_eq_true_eq] at h
    exact h.1
  unfold shapeB at h
  rw [Bool.and_eq_true, List.all_eq_true] at h
  replace h := h.2
  have H : ∀ i o, l[i]? = some o → _ := fun i o ho => by
    have hi : i < l.length := (List.getElem?_eq_some_iff.1 ho).1
    have := h i (by simpa using hi)
    simp only [ho, Bool.and_eq_true] at this
    exact this
  have low : ∀ (i : Nat) (o : Oper), l.toArray[i]? = some o → l[i]? = some o := fun i o h => by simpa using h
  refine ⟨?_, ?_, ?_, ?_, ?_, ?_, ?_, ?_⟩
  · intro i g T cs hsp
    have hg := sp_get hsp
    have hi := (List.getElem?_eq_some_iff.1 hg).1
    obtain ⟨h1, h2, _⟩ := olds_at ho i g T cs hg
    exact ⟨by simp; omega, h1, h2⟩
  · intro i j g T T' cs cs' hi hj
    exact (olds_at ho i g T cs (sp_get hi)).2.2 j T' cs' (sp_get hj)
  · intro i o ho e he hb
    have := (H i o (low i o ho)).1.1.1
    have := Array.all_eq_true_iff_forall_mem.1 this e he
    simpa [hb] using this
  · intro i o ho
    have h := (H i o (low i o ho)).1.1.2
    unfold spOf
    cases hg : o.guard with
    | none =>
      rw [hg] at h
      exact .inl ⟨rfl, Sp.skip_not (by simpa using h)⟩
    | some kb =>
      obtain ⟨k, b⟩ := kb
      rw [hg] at h
      simp only [Bool.and_eq_true] at h
      obtain ⟨⟨h1, h2⟩, h3⟩ := h
      obtain ⟨e, he, he'⟩ := arr_any h2
      simp only [Bool.and_eq_true, beq_iff_eq] at he'
      cases hok : l[k]? with
      | none => rw [hok] at h1; simp at h1
      | some ok =>
        rw [hok] at h1
        obtain ⟨d, hd⟩ := Option.isSome_iff_exists.1 h1
        cases hs : L.getD k (.val undef) with
        | val v =>
          rw [hs] at h3
          cases v with
          | bool b' =>
            refine .inr (.inr ⟨k, b, b', ok, d, rfl, by simpa using hok, by simpa using hd, hs, ⟨e, he, he'⟩, fun hbb => Sp.skip_not ?_, fun hbb => Sp.skip_of ?_⟩)
            · subst hbb; simpa using h3
            · have : (b == b') = false := by simpa using hbb
              simp only [this] at h3
              simpa using h3
          | _ => cases h3
        | blk _ _ => rw [hs] at h3; cases h3
        | put _ _ _ => rw [hs] at h3; cases h3
        | sto _ _ _ => rw [hs] at h3; cases h3
        | new _ _ _ => rw [hs] at h3; cases h3
        | skip =>
          rw [hs] at h3
          exact .inr (.inl ⟨Sp.skip_of h3, k, b, ok, d, rfl, by simpa using hok, by simpa using hd, hs, e, he, he'⟩)
  · intro i o d ho hd
    have := (H i o (low i o ho)).1.2
    rw [hd] at this
    simp only [Bool.and_eq_true, decide_eq_true_eq] at this
    exact this.1
  · intro i j oi oj d hi hj hdi hdj
    have := (H i oi (low i oi hi)).1.2
    rw [hdi] at this
    simp only [Bool.and_eq_true] at this
    have hlt : j < l.length := (List.getElem?_eq_some_iff.1 (low j oj hj)).1
    have := List.all_eq_true.1 this.2 j (by simpa using hlt)
    rw [low j oj hj] at this
    simp [hdj] at this
    exact this.symm
  · intro i o s T cs ho hsp
    have := (H i o (low i o ho)).2
    unfold spOf at hsp
    rw [hsp] at this
    simp only [Bool.and_eq_true] at this
    refine ⟨by simpa using this.1.1, ?_⟩
    obtain ⟨k, hk, hk'⟩ := List.any_eq_true.1 this.1.2
    simp only [Bool.and_eq_true] at hk'
    obtain ⟨⟨h1, h2⟩, h3⟩ := hk'
    cases hok : l[k]? with
    | none => rw [hok] at h1; simp at h1
    | some ok =>
      rw [hok] at h1
      refine ⟨k, ok, by simpa using hok, by simpa using h1, ?_, ?_⟩
      · unfold spOf
        cases hs : L.getD k (.val undef) with
        | val v => rw [hs] at h2; cases h2
        | put _ _ _ => rw [hs] at h2; cases h2
        | sto _ _ _ => rw [hs] at h2; cases h2
        | new _ _ _ => rw [hs] at h2; cases h2
        | skip => rw [hs] at h2; cases h2
        | blk T' n => rw [hs] at h2; simp at h2; rw [h2.1, h2.2]
      · obtain ⟨e, he, he'⟩ := arr_any h3
        simp only [Bool.and_eq_true, beq_iff_eq] at he'
        exact ⟨e, he, he'.1, he'.2⟩
  · intro i j s T T' cs cs' hi hj hsi hsj
    have hi' : i < l.length := by simpa using hi
    have hj' : j < l.length := by simpa using hj
    have := (H i l[i] (by simp [hi'])).2
    unfold spOf at hsi hsj
    rw [hsi] at this
    simp only [Bool.and_eq_true] at this
    have := List.all_eq_true.1 this.2 j (by simpa using hj')
    rw [hsj] at this
    simp at this
    exact this.symm

def Steps (P : Program) (ops : Array Oper) (L : List Sp) (B : Nat) (w0 : World) (a0 : Act) : List Oper → Nat → Prop
  | [], _ => True
  | o :: r, i => (∀ a w, Ready ops (spOf L) B w0 a0 o i a w → Step P w0 o (spOf L i) a w) ∧ Steps P ops L B w0 a0 r (i + 1)
theorem Steps.at_ {L : List Sp} : ∀ (r : List Oper) (k : Nat), Steps P ops L B w0 a0 r k → ∀ (i : Nat) (o : Oper) (a : Act) (w : World), r[i]? = some o → Ready ops (spOf L) B w0 a0 o (k + i) a w → Step P w0 o (spOf L (k + i)) a w
  | [], _, _, i, o, _, _, h, _ => by simp at h
  | o' :: r, k, hs, 0, o, a, w, h, R => by
    obtain rfl : o' = o := by simpa using h
    exact hs.1 a w R
  | o' :: r, k, hs, i + 1, o, a, w, h, R => by
    have e : k + 1 + i = k + (i + 1) := by omega
    have := Steps.at_ r (k + 1) hs.2 i o a w (by simpa using h) (e ▸ R)
    rwa [e] at this

/-- a region whose order is drawn -/
theorem region_memo {id : Nat} {l : List Oper} {L : List Sp} {a0 : Act} {w : World} (hm : P.follows .mixedOrders = true) (hs : shapeB l L a0.tmps.size = true)
    (hB0 : B ≤ w.heap.size) (ho : Olds B w.drew L) (hops : Steps P l.toArray L B w.drew a0 l 0) (hend : ∀ (a : Act) (w' : World), Inv l.toArray (spOf L) B w.drew a0 (Array.replicate l.toArray.size true) a w' → Q .normal a w') :
    (Code.region id l.toArray true).wp P Q a0 w := by
  refine wp_region_any hm (memo (w0 := w.drew) hB0 (shape_of hs ho) (fun i o a w' ho R => ?_) hend _ _ _ _ (by simp) ?_ ⟨rfl, rfl, fun _ _ => rfl, Bel.refl _ _, fun _ _ _ => rfl, ?_, ?_, ?_⟩)
  · have := Steps.at_ l 0 hops i o a w' (by simpa using ho) (by rwa [Nat.zero_add])
    rwa [Nat.zero_add] at this
  · simp [rem]
  · intro i o _ h
    by_cases hi : i < l.length <;> simp [hi] at h
  · intro i o _ h
    by_cases hi : i < l.length <;> simp [hi] at h
  · intro i j _ _ _ _ _ _ _ _ _ _ _ h
    by_cases hi : i < l.length <;> simp [hi] at h

/-- in the order of the text -/
theorem range_sound (early : ∀ (i : Nat) (o : Oper), ops[i]? = some o → ∀ e ∈ o.after, Region.binds .any e = true → e.on < i) : ∀ (m k : Nat) (listed : Array Bool) (a : Act) (w : World), k + m = ops.size → listed.size = ops.size →
    (∀ j, j < k → listed.getD j false = true) → (∀ j, k ≤ j → j < ops.size → listed.getD j false = false) → wpAny P .any ops Q m listed a w → wpOps P ops Q (List.range' k m) a w
  | 0, k, listed, a, w, _, _, _, _, h => by
    rw [List.range'_zero]
    exact h.2
  | m + 1, k, listed, a, w, hk, hs, h1, h2, h => by
    rw [List.range'_succ, wpOps_cons]
    have hlt : k < ops.size := by omega
    have hkl : k < listed.size := by omega
    have ho : ops[k]? = some ops[k] := Array.getElem?_eq_getElem hlt
    have un : listed.getD k true = false := by
      have := h2 k (Nat.le_refl _) hlt
      simpa [hkl] using this
    have hm := h.2 k (mem_ready.2 ⟨un, _, ho, fun e he hb => h1 e.on (early k _ ho e he hb)⟩)
    refine wpOp_mono (fun a w hh => range_sound early m (k + 1) _ a w (by omega) (by simpa using hs) (fun j hj => ?_) (fun j hj hj' => ?_) hh) hm
    · by_cases e : j = k
      · subst e; exact set_self hkl
      · exact getD_set_true (h1 j (by omega))
    · rw [getD_set_ne false (by omega)]
      exact h2 j (by omega) hj'
theorem region_memo_f {id : Nat} {l : List Oper} {L : List Sp} {a0 : Act} {w : World} (hs : shapeB l L a0.tmps.size = true)
    (hB0 : B ≤ w.heap.size) (ho : Olds B w L) (hops : Steps P l.toArray L B w a0 l 0) (hend : ∀ (a : Act) (w' : World), Inv l.toArray (spOf L) B w a0 (Array.replicate l.toArray.size true) a w' → Q .normal a w') :
    (Code.region id l.toArray false).wp P Q a0 w := by
  refine wp_region ?_
  rw [List.range_eq_range']
  refine range_sound (shape_of hs ho).early _ 0 (Array.replicate l.toArray.size false) _ _ (by simp) (by simp) (fun j hj => by omega) (fun j _ hj => by simp [show j < l.length from (by simpa using hj)]) (memo (w0 := w) hB0 (shape_of hs ho) (fun i o a w' ho R => ?_) hend _ _ _ _ (by simp) ?_ ⟨rfl, rfl, fun _ _ => rfl, Bel.refl _ _, fun _ _ _ => rfl, ?_, ?_, ?_⟩)
  · have := Steps.at_ l 0 hops i o a w' (by simpa using ho) (by rwa [Nat.zero_add])
    rwa [Nat.zero_add] at this
  · simp [rem]
  · intro i o _ h
    by_cases hi : i < l.length <;> simp [hi] at h
  · intro i o _ h
    by_cases hi : i < l.length <;> simp [hi] at h
  · intro i j _ _ _ _ _ _ _ _ _ _ _ h
    by_cases hi : i < l.length <;> simp [hi] at h

/-- what a ready one may count on, by closed facts -/
theorem Ready.slot {L : List Sp} {l : List Oper} {o : Oper} {me : Nat} {a : Act} {w : World} (R : Ready l.toArray (spOf L) B w0 a0 o me a w) (s : Nat) (h : (l.all fun o => o.dst != some s) = true) : a.tmps[s]? = a0.tmps[s]? :=
  R.frame s fun i o ho e => by
    have := List.all_eq_true.1 h o (List.mem_of_getElem? (by simpa using ho))
    simp [e] at this
theorem Ready.dep {L : List Sp} {l : List Oper} {o : Oper} {me : Nat} {a : Act} {w : World} (R : Ready l.toArray (spOf L) B w0 a0 o me a w) (k : Nat) {ok : Oper} (hk : l[k]? = some ok := by exact rfl) (h : (o.after.any fun e => Region.binds .any e && e.on == k) = true := by kernel_rfl) : Sat w0.heap.size ok.dst (spOf L k) a w := by
  obtain ⟨e, he, he'⟩ := arr_any h
  simp only [Bool.and_eq_true, beq_iff_eq] at he'
  obtain ⟨h1, h2⟩ := he'
  subst h2
  exact R.deps e he h1 ok (by simpa using hk)
theorem Ready.val {L : List Sp} {l : List Oper} {o : Oper} {me : Nat} {a : Act} {w : World} (R : Ready l.toArray (spOf L) B w0 a0 o me a w) (k : Nat) {ok : Oper} {d : Nat} {v : Value} (hk : l[k]? = some ok := by exact rfl) (hd : ok.dst = some d := by exact rfl) (hv : spOf L k = .val v := by exact rfl)
    (h : (o.after.any fun e => Region.binds .any e && e.on == k) = true := by kernel_rfl) : a.tmps[d]? = some v := by
  have := R.dep k hk h
  rw [hv] at this
  exact this d hd

theorem own_eq {w w' : World} {p : Nat} {T : TypeId} {cs : Array Value} (h : Own w p T cs) (e : w'.heap[p]? = w.heap[p]?) : Own w' p T cs := e.trans h
theorem Ready.keep {L : List Sp} {l : List Oper} {o : Oper} {me : Nat} {a : Act} {w : World} (R : Ready l.toArray (spOf L) B w0 a0 o me a w) {p : Nat} {T : TypeId} {cs : Array Value} (h : Own w0 p T cs) (hp : Off p L) : Own w p T cs :=
  own_eq h (R.rest p h.in_ fun i T cs hi => off_at hp i p T cs (sp_get hi) rfl)
theorem Ready.own {L : List Sp} {l : List Oper} {o : Oper} {me : Nat} {g : Nat} {T' : TypeId} {cs' : Array Value} {a : Act} {w : World} (R : Ready l.toArray (spOf L) B w0 a0 o me a w) (hm : spOf L me = .sto g T' cs') {T : TypeId} {cs : Array Value} (h : Own w0 g T cs) : Own w g T cs :=
  own_eq h (R.mine g T' cs' hm h.in_)
theorem Ready.old {L : List Sp} {l : List Oper} {o : Oper} {me : Nat} {g : Nat} {T' : TypeId} {cs' : Array Value} {a : Act} {w : World} (R : Ready l.toArray (spOf L) B w0 a0 o me a w) (j : Nat) {oj : Oper} (hj : spOf L j = .sto g T' cs') (ho : l[j]? = some oj)
    (h : (oj.after.any fun e => Region.binds .any e && e.on == me) = true) {T : TypeId} {cs : Array Value} (hw : Own w0 g T cs) : Own w g T cs := by
  obtain ⟨e, he, he'⟩ := arr_any h
  simp only [Bool.and_eq_true, beq_iff_eq] at he'
  exact own_eq hw (R.early j g T' cs' oj hj (by simpa using ho) ⟨e, he, he'.1, he'.2⟩ hw.in_)
theorem Inv.keep {L : List Sp} {l : List Oper} {listed : Array Bool} {a : Act} {w : World} (I : Inv l.toArray (spOf L) B w0 a0 listed a w) {p : Nat} {T : TypeId} {cs : Array Value} (h : Own w0 p T cs) (hp : Off p L) : Own w p T cs :=
  own_eq h (I.rest p h.in_ fun i T cs hi => absurd rfl (off_at hp i p T cs (sp_get hi)))
/-- an array, slot by slot -/
def Vals (X : Array Value) : List (Nat × Value) → Prop
  | [] => True
  | p :: r => X[p.1]? = some p.2 ∧ Vals X r
theorem fill_eq {X : Array Value} : ∀ (V : List (Nat × Value)) (T : Array Value), X.size = T.size → Vals X V → (∀ s, s ∉ V.map (·.1) → X[s]? = T[s]?) → X = V.foldl (fun A p => A.setIfInBounds p.1 p.2) T
  | [], T, hs, _, hf => by
    refine Array.ext_getElem? fun s => ?_
    exact hf s (by simp)
  | (s, v) :: r, T, hs, hv, hf => by
    have hlt : s < T.size := by
      have h := hv.1
      rcases Nat.lt_or_ge s X.size with h' | h'
      · omega
      · simp only [Array.getElem?_eq_none h'] at h; cases h
    refine fill_eq r (T.setIfInBounds s v) (by simp [hs]) hv.2 fun s' hs' => ?_
    by_cases e : s' = s
    · subst e
      rw [hv.1]
      simp [hlt]
    · rw [Array.getElem?_setIfInBounds_ne (Ne.symm e)]
      exact hf s' (by simp [e]; simpa using hs')
section
variable {l : List Oper} {L : List Sp} {a : Act} {w : World}
theorem Inv.val (I : Inv l.toArray (spOf L) B w0 a0 (Array.replicate l.toArray.size true) a w) (k : Nat) {ok : Oper} {d : Nat} {v : Value} (hk : l[k]? = some ok := by exact rfl) (hd : ok.dst = some d := by exact rfl) (hv : spOf L k = .val v := by exact rfl) : a.tmps[d]? = some v := by
  have hlt : k < l.length := (List.getElem?_eq_some_iff.1 hk).1
  have := I.facts k ok (by simpa using hk) (by simp [hlt])
  rw [hv] at this
  exact this d hd
theorem Inv.gone (I : Inv l.toArray (spOf L) B w0 a0 (Array.replicate l.toArray.size true) a w) (k : Nat) {ok : Oper} {d : Nat} (hk : l[k]? = some ok := by exact rfl) (hd : ok.dst = some d := by exact rfl) (hv : spOf L k = .skip := by exact rfl) : a.tmps[d]? = some undef := by
  have hlt : k < l.length := (List.getElem?_eq_some_iff.1 hk).1
  have := I.facts k ok (by simpa using hk) (by simp [hlt])
  rw [hv] at this
  exact this d hd
theorem Inv.put (I : Inv l.toArray (spOf L) B w0 a0 (Array.replicate l.toArray.size true) a w) (k : Nat) {ok : Oper} {s : Nat} {T : TypeId} {cs : Array Value} (hk : l[k]? = some ok) (hv : spOf L k = .put s T cs) :
    ∃ g, a.tmps[s]? = some (.pointer (some ⟨g, 0, none⟩)) ∧ w0.heap.size ≤ g ∧ Own w g T cs := by
  have hlt : k < l.length := (List.getElem?_eq_some_iff.1 hk).1
  have := I.facts k ok (by simpa using hk) (by simp [hlt])
  rw [hv] at this
  exact this
theorem Inv.sto (I : Inv l.toArray (spOf L) B w0 a0 (Array.replicate l.toArray.size true) a w) (k : Nat) {ok : Oper} {g : Nat} {T : TypeId} {cs : Array Value} (hk : l[k]? = some ok) (hv : spOf L k = .sto g T cs) : Own w g T cs := by
  have hlt : k < l.length := (List.getElem?_eq_some_iff.1 hk).1
  have := I.facts k ok (by simpa using hk) (by simp [hlt])
  rw [hv] at this
  exact this
theorem Inv.new (I : Inv l.toArray (spOf L) B w0 a0 (Array.replicate l.toArray.size true) a w) (k : Nat) {ok : Oper} {T : TypeId} {cs : Array Value} {s : Option (Nat × Nat)} {d : Nat} (hk : l[k]? = some ok) (hd : ok.dst = some d) (hv : spOf L k = .new T cs s) :
    ∃ g, a.tmps[d]? = some (mkv s g) ∧ w0.heap.size ≤ g ∧ Own w g T cs := by
  have hlt : k < l.length := (List.getElem?_eq_some_iff.1 hk).1
  have := I.facts k ok (by simpa using hk) (by simp [hlt])
  rw [hv] at this
  obtain ⟨d', g, hd', r⟩ := this
  obtain rfl : d = d' := Option.some.inj (hd.symm.trans hd')
  exact ⟨g, r⟩
theorem Inv.far (I : Inv l.toArray (spOf L) B w0 a0 (Array.replicate l.toArray.size true) a w) (i j : Nat) {oi oj : Oper} {si sj gi gj : Nat} (hi : l[i]? = some oi) (hj : l[j]? = some oj) (hne : i ≠ j) {Ti Tj : TypeId} {ni nj : Nat}
    (bi : spOf L i = .blk Ti ni) (bj : spOf L j = .blk Tj nj) (di : oi.dst = some si) (dj : oj.dst = some sj) (hgi : a.tmps[si]? = some (.pointer (some ⟨gi, 0, none⟩))) (hgj : a.tmps[sj]? = some (.pointer (some ⟨gj, 0, none⟩))) : gi ≠ gj := by
  have h1 : i < l.length := (List.getElem?_eq_some_iff.1 hi).1
  have h2 : j < l.length := (List.getElem?_eq_some_iff.1 hj).1
  exact I.apart i j oi oj si sj gi gj none none (by simpa using hi) (by simpa using hj) hne (by simp [h1]) (by simp [h2]) (by rw [bi]; rfl) (by rw [bj]; rfl) di dj hgi hgj
theorem Inv.act (I : Inv l.toArray (spOf L) B w0 a0 (Array.replicate l.toArray.size true) a w) (V : List (Nat × Value)) (hV : Vals a.tmps V) (hc : (l.all fun o => match o.dst with | none => true | some d => (V.map (·.1)).contains d) = true) :
    a = ⟨V.foldl (fun A p => A.setIfInBounds p.1 p.2) a0.tmps, a0.defers⟩ := by
  have h := fill_eq V a0.tmps I.size hV fun s hs => I.frame s fun i o ho e => by
    have h1 := List.all_eq_true.1 hc o (List.mem_of_getElem? (by simpa using ho))
    rw [e] at h1
    exact hs (by simpa using h1)
  have h2 := I.defers
  cases a
  simp only at h h2
  rw [h, h2]
end
end
end Go.Proofs.Ytibnackmddigaaa
