/- merged: Regions that draw their order, walked in one order: what reads memory that nobody in the region turns, or none, comes first where it can; what is left stands in one row. It speaks of no function. What m2.py's regions want beside XMemo. It speaks of no function. -/
import Derived.Test.YtibnackmddigaaaSta
import Derived.OrdersHeld
import Derived.KernelRfl
import Derived.Deep.RegionHeld3
import Derived.Deep.DeepCutAuto
import Derived.Lib.ItoaWalk
import Derived.Test.YtibnackmddigaaaMemo
section
namespace Go.Proofs.Ytibnackmddigaaa
open Go.ChangeShapes Go.WideShapes Go.ChangeAt Go.RowKit
set_option linter.unusedVariables false

section
variable {P : Program} {ops : Array Oper} {Q : Exit → Act → World → Prop} {md : Region.Mode} {S : World → Prop} {cls see : Nat → Bool}
/-- may an operation that looks at what S says come up behind j? -/
def needB (md : Region.Mode) (ops : Array Oper) (see : Nat → Bool) (j : Nat) : Bool := (List.range ops.size).any fun i => see i && match ops[j]? with
  | some oj => !oj.after.any fun e => Region.binds md e && e.on == i
  | none => false
theorem need_of {i j : Nat} {oi oj : Oper} (hi : ops[i]? = some oi) (hj : ops[j]? = some oj) (hc : see i = true) (h : ∀ e ∈ oj.after, Region.binds md e = true → e.on ≠ i) : needB md ops see j = true := by
  refine List.any_eq_true.2 ⟨i, List.mem_range.2 (Array.getElem?_eq_some_iff.1 hi).1, ?_⟩
  simp only [hc, hj, Bool.true_and, Bool.not_eq_true']
  refine Bool.eq_false_iff.2 fun h' => ?_
  obtain ⟨e, he, he'⟩ := Array.any_eq_true'.1 h'
  simp only [Bool.and_eq_true, beq_iff_eq] at he'
  exact h e he he'.1 he'.2
/-- whatever order is picked from here on; what is of the class leaves the world as it is; S holds behind each other operation behind which one may come up that looks at it -/
def wpAnyG (P : Program) (md : Region.Mode) (ops : Array Oper) (Q : Exit → Act → World → Prop) (S : World → Prop) (cls see : Nat → Bool) : Nat → Array Bool → Act → World → Prop
  | 0, listed, a, w => Region.ready md ops listed = [] ∧ Q .normal a w
  | fuel + 1, listed, a, w =>
    (Region.ready md ops listed = [] → Q .normal a w) ∧
    ∀ i ∈ Region.ready md ops listed, wpOp P ops Q i (fun a' w' => (cls i = true → w' = w) ∧ (cls i = false → needB md ops see i = true → S w') ∧ wpAnyG P md ops Q S cls see fuel (listed.setIfInBounds i true) a' w') a w
theorem wpAny_of_G : ∀ (fuel : Nat) (listed : Array Bool) (a : Act) (w : World), wpAnyG P md ops Q S cls see fuel listed a w → wpAny P md ops Q fuel listed a w
  | 0, _, _, _, h => h
  | fuel + 1, _, _, _, h => ⟨h.1, fun i hi => wpOp_mono (fun a' w' h' => wpAny_of_G fuel _ a' w' h'.2.2) (h.2 i hi)⟩
theorem wpAnyG_first {i : Nat} {oi : Oper} {v : Value} (hi : ops[i]? = some oi) (hc : cls i = true) (hsel : ∀ (j : Nat) (o : Oper) cs b, ops[j]? = some o → o.op ≠ .select cs b)
    (hQ : ∀ c a w, Q (.panic c) (a.put oi.dst v) w → Q (.panic c) a w) :
    ∀ (fuel : Nat) (listed : Array Bool) (a : Act) (w : World),
      (∀ j oj, ops[j]? = some oj → j ≠ i → listed.getD j true = false → (∀ e ∈ oj.after, Region.binds md e = true → e.on ≠ i) → oi.apart ops oj = true) →
      i ∈ Region.ready md ops listed → YieldsIf P ops (fun w => see i = true → S w) oi v a → (see i = true → S w) →
      wpAnyG P md ops Q S cls see fuel (listed.setIfInBounds i true) (a.put oi.dst v) w → wpAnyG P md ops Q S cls see (fuel + 1) listed a w := by
  intro fuel
  induction fuel with
  | zero =>
    intro listed a w _ hr hy hS H
    refine ⟨fun h => (by rw [h] at hr; cases hr), fun j hj => ?_⟩
    by_cases hji : j = i
    · subst hji; exact hy.wpOp hi hS ⟨fun _ => rfl, fun h => (by rw [hc] at h; cases h), H⟩
    · have := ready_mono hj hji
      rw [H.1] at this
      cases this
  | succ fuel ih =>
    intro listed a w hfree hr hy hS H
    refine ⟨fun h => (by rw [h] at hr; cases hr), fun j hj => ?_⟩
    by_cases hji : j = i
    · subst hji; exact hy.wpOp hi hS ⟨fun _ => rfl, fun h => (by rw [hc] at h; cases h), H⟩
    · have h1 := H.2 j (ready_mono hj hji)
      obtain ⟨hjun, oj, hoj, hall⟩ := mem_ready.1 hj
      have h0 := (mem_ready.1 hr).1
      have hnot : ∀ e ∈ oj.after, Region.binds md e = true → e.on ≠ i := fun e he hb heq => by
        have h1 := hall e he hb
        rw [heq] at h1
        rcases Nat.lt_or_ge i listed.size with h' | h'
        · simp [h'] at h0 h1; rw [h0] at h1; cases h1
        · simp [Array.getElem?_eq_none h'] at h1
      have h2 := wpOp_putIf hoj (hfree j oj hoj hji hjun hnot) (fun cs b => hsel i oi cs b hi) (fun cs b => hsel j oj cs b hoj) hQ hy h1
      have hfree' : ∀ k ok, ops[k]? = some ok → k ≠ i → (listed.setIfInBounds j true).getD k true = false →
          (∀ e ∈ ok.after, Region.binds md e = true → e.on ≠ i) → oi.apart ops ok = true := fun k ok hk hki hun hno => by
        refine hfree k ok hk hki ?_ hno
        by_cases hjk : j = k
        · subst hjk; exact hjun
        · rw [getD_set_ne true hjk] at hun; exact hun
      refine wpOp_mono (fun a' w' h3 => ?_) h2
      obtain ⟨hy', hw', hS', h4⟩ := h3
      have hSw : see i = true → S w' := fun hs => by
        by_cases hcj : cls j = true
        · rw [hw' hcj]; exact hS hs
        · exact hS' (by simpa using hcj) (need_of hi hoj hs hnot)
      refine ⟨hw', hS', ih (listed.setIfInBounds j true) a' w' hfree' (ready_mono hr (Ne.symm hji)) hy' hSw ?_⟩
      rw [Array.setIfInBounds_comm _ _ hji]
      exact h4

/-- one order, walked: what is of the class yields its value in every world that meets S, in every world if it doesn't look at what S says -/
def wpSeq (P : Program) (md : Region.Mode) (ops : Array Oper) (Q : Exit → Act → World → Prop) (S : World → Prop) (cls see : Nat → Bool) : List (Nat × Oper) → Act → World → Prop
  | [], a, w => Q .normal a w
  | (i, o) :: l, a, w =>
    if cls i then ∃ v, YieldsIf P ops (fun w => see i = true → S w) o v a ∧ wpSeq P md ops Q S cls see l (a.put o.dst v) w
    else wpOp P ops Q i (fun a' w' => (needB md ops see i = true → S w') ∧ (l.any (fun p => see p.1) = true → S w') ∧ wpSeq P md ops Q S cls see l a' w') a w
/-- the operations in an order -/
def picked (ord : List Nat) (l : List Oper) : List (Nat × Oper) := ord.filterMap fun i => (l[i]?).map fun o => (i, o)
theorem picked_at {ord : List Nat} {l : List Oper} : ∀ p ∈ picked ord l, l.toArray[p.1]? = some p.2 := by
  intro p hp
  obtain ⟨i, _, h⟩ := List.mem_filterMap.1 hp
  cases hl : l[i]? with
  | none => simp [hl] at h
  | some o => simp [hl] at h; subst h; simpa using hl
/-- the order fits: what is of the class may come first when its turn comes, what isn't is alone then -/
def seqOk (md : Region.Mode) (ops : Array Oper) (cls : Nat → Bool) : List Nat → Array Bool → Bool
  | [], listed => (Region.ready md ops listed).isEmpty
  | i :: l, listed => (if cls i then (Region.ready md ops listed).contains i && Region.free md ops listed i else Region.ready md ops listed == [i]) && seqOk md ops cls l (listed.setIfInBounds i true)
theorem wpAnyG_of_seq (hsel : Region.noSelect ops = true) (hQ : ∀ c a w, ¬ Q (.panic c) a w) : ∀ (l : List (Nat × Oper)) (listed : Array Bool) (a : Act) (w : World), (∀ p ∈ l, ops[p.1]? = some p.2) → seqOk md ops cls (l.map (·.1)) listed = true → (l.any (fun p => see p.1) = true → S w) →
    wpSeq P md ops Q S cls see l a w → wpAnyG P md ops Q S cls see l.length listed a w
  | [], listed, a, w, _, hB, hS, h => ⟨by simpa [seqOk] using hB, h⟩
  | (i, o) :: l, listed, a, w, hp, hB, hS, h => by
    simp only [seqOk, List.map_cons, Bool.and_eq_true] at hB
    obtain ⟨hB, hl⟩ := hB
    have ho : ops[i]? = some o := hp (i, o) (by simp)
    have hp' : ∀ p ∈ l, ops[p.1]? = some p.2 := fun p h => hp p (by simp [h])
    unfold wpSeq at h
    by_cases hc : cls i = true
    · simp only [hc, if_true] at h hB
      obtain ⟨v, hy, h⟩ := h
      simp only [Bool.and_eq_true] at hB
      exact wpAnyG_first ho hc (Region.noSelect_spec hsel) (fun c a w h => absurd h (hQ _ _ _)) l.length listed a w (Region.free_spec ho hB.2) (by simpa using hB.1) hy (fun hs => hS (by simp [hs]))
        (wpAnyG_of_seq hsel hQ l _ _ _ hp' hl (fun hs => hS (by simp only [List.any_cons, hs, Bool.or_true])) h)
    · simp only [hc, Bool.false_eq_true, if_false] at h hB
      have hr : Region.ready md ops listed = [i] := by simpa using hB
      refine ⟨fun h0 => (by rw [hr] at h0; cases h0), fun j hj => ?_⟩
      rw [hr] at hj
      obtain rfl : j = i := by simpa using hj
      exact wpOp_mono (fun a' w' h' => ⟨fun h => absurd h hc, fun _ => h'.1, wpAnyG_of_seq hsel hQ l _ _ _ hp' hl h'.2.1 h'.2.2⟩) h

/-- a region whose order is drawn: C: reads and reckoning; D: those of C that look at memory -/
theorem wp_region_seq {id : Nat} {l : List Oper} {a : Act} {w : World} (S : World → Prop) (C D : List Nat) (ord : List Nat) {L : List (Nat × Oper)} (hm : P.follows .mixedOrders = true) (hs : Region.noSelect l.toArray = true) (hn : ord.length = l.length)
    (hB : seqOk .any l.toArray (fun i => C.contains i) ord (Array.replicate l.length false) = true) (hi : (picked ord l).map (·.1) = ord) (hS : S w.drew) (hL : picked ord l = L)
    (h : wpSeq P .any l.toArray (NoPanic Q) S (fun i => C.contains i) (fun i => D.contains i) L a w.drew) : (Code.region id l.toArray true).wp P Q a w := by
  subst hL
  refine wp_region_noPanic (wp_region_any hm (wpAny_of_G _ _ _ _ (S := S) (cls := fun i => C.contains i) (see := fun i => D.contains i) ?_))
  have := wpAnyG_of_seq (P := P) (Q := NoPanic Q) hs (fun c a w h => h) (picked ord l) (Array.replicate l.length false) a w.drew picked_at (by rw [hi]; exact hB) (fun _ => hS) h
  have e : (picked ord l).length = l.length := by rw [← hn, ← hi, List.length_map, hi]
  rw [e] at this
  simpa using this
theorem seq_want {i : Nat} {l : List (Nat × Oper)} {a : Act} {w : World} {o : Oper} {v : Value} (hc : cls i = true) (hg : Region.wanted o (yielded ops a.tmps) = true) (hv : ∀ w, (see i = true → S w) → (execOp a.eval o).run P w = .ok (.value v) w)
    (h : wpSeq P md ops Q S cls see l (a.put o.dst v) w) : wpSeq P md ops Q S cls see ((i, o) :: l) a w := by
  unfold wpSeq
  simp only [hc, if_true]
  exact ⟨v, .inl ⟨hg, hv⟩, h⟩
theorem seq_skip {i : Nat} {l : List (Nat × Oper)} {a : Act} {w : World} {o : Oper} (hc : cls i = true) (hg : Region.wanted o (yielded ops a.tmps) = false)
    (h : wpSeq P md ops Q S cls see l (a.put o.dst undef) w) : wpSeq P md ops Q S cls see ((i, o) :: l) a w := by
  unfold wpSeq
  simp only [hc, if_true]
  exact ⟨undef, .inr ⟨hg, rfl⟩, h⟩
/-- what stands behind an operation that is none of the class -/
def SeqQ (K : Act → World → Prop) (Q : Exit → Act → World → Prop) : Exit → Act → World → Prop
  | .normal, a, w => K a w
  | e, a, w => Q e a w
/-- an operation that is none of the class: the walk goes over it alone -/
theorem seq_op {i : Nat} {l : List (Nat × Oper)} {a : Act} {w : World} {o : Oper} (ho : ops[i]? = some o) (hc : cls i = false)
    (h : wpList P ops (SeqQ (fun a' w' => (needB md ops see i = true → S w') ∧ (l.any (fun p => see p.1) = true → S w') ∧ wpSeq P md ops Q S cls see l a' w') Q) [o] a w) : wpSeq P md ops Q S cls see ((i, o) :: l) a w := by
  unfold wpSeq
  simp only [hc, Bool.false_eq_true, if_false]
  unfold wpOp
  simp only [ho]
  unfold wpList at h
  split
  · rename_i hw
    simp only [hw, if_true] at h
    rcases h with h | ⟨h1, a2, w2, h2⟩
    · refine .inl ?_
      unfold Oper.wp at h ⊢
      generalize (execOp a.eval o).run P w = r at h ⊢
      cases r with
      | ok n w' =>
        cases n <;> (try simp only [Oper.upon] at h ⊢)
        case enter f args => exact Calls.mono h fun e w'' he => by cases e <;> exact he
        case row row args => exact Rows.mono h fun u w'' he => he
        all_goals exact h
      | halt x w' =>
        cases x <;> exact h
    · exact .inr ⟨h1, a2, w2, h2⟩
  · rename_i hw
    rw [if_neg hw] at h
    exact h
/-- an operation that is none of the class, S behind it -/
theorem seq_on {i : Nat} {l : List (Nat × Oper)} {a : Act} {w : World} {o : Oper} (ho : ops[i]? = some o) (hc : cls i = false)
    (h : ∀ K : Act → World → Prop, (∀ a' w', S w' → wpSeq P md ops Q S cls see l a' w' → K a' w') → wpList P ops (SeqQ K Q) [o] a w) : wpSeq P md ops Q S cls see ((i, o) :: l) a w :=
  seq_op ho hc (h _ fun a' w' hS h => ⟨fun _ => hS, fun _ => hS, h⟩)
/-- an operation that is none of the class, nothing behind it that looks at what S says -/
theorem seq_last {i : Nat} {l : List (Nat × Oper)} {a : Act} {w : World} {o : Oper} (ho : ops[i]? = some o) (hc : cls i = false) (hp : needB md ops see i = false) (hq : l.any (fun p => see p.1) = false)
    (h : ∀ K : Act → World → Prop, (∀ a' w', wpSeq P md ops Q S cls see l a' w' → K a' w') → wpList P ops (SeqQ K Q) [o] a w) : wpSeq P md ops Q S cls see ((i, o) :: l) a w :=
  seq_op ho hc (h _ fun a' w' h => ⟨fun e => (by rw [hp] at e; cases e), fun e => (by rw [hq] at e; cases e), h⟩)
theorem seq_end {a : Act} {w : World} (h : Q .normal a w) : wpSeq P md ops (NoPanic Q) S cls see [] a w := h
end
/-- a function with a text of its own is entered -/
theorem enter_fn {P : Program} {f : Nat} {fn : Func} (hf : P.funcs[f]? = some fn) (hn : (fn.name == "runtime.NumGoroutine") = false) (hb : fn.body.isNone = false) (args : Array Value) (w : World) : (callFunc f args).run P w = .ok (.enter f args) w := by
  simp only [callFunc]
  have h1 : ¬ fn.name = "runtime.NumGoroutine" := by simpa using hn
  have h2 : ¬ fn.body = none := by intro e; rw [e] at hb; cases hb
  simp [go_sem, hf, h1, h2]
end Go.Proofs.Ytibnackmddigaaa
end
section
namespace Go.Proofs.Ytibnackmddigaaa
open Go.ChangeShapes Go.WideShapes Go.ChangeAt Go.RowKit
set_option linter.unusedVariables false
end Go.Proofs.Ytibnackmddigaaa
end
