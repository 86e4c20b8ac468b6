
/- Regions that draw their order, walked as a tree: of what is ready each is taken in turn; reads and reckoning come first. It speaks of no function. -/
import Derived.Test.YtibnackmddigaaaMem2
namespace Go.Proofs.Ytibnackmddigaaa
open Go.ChangeShapes Go.WideShapes Go.ChangeAt Go.RowKit
set_option linter.unusedVariables false

section
variable {P : Program} {ops : Array Oper} {Q : Exit → Act → World → Prop} {md : Region.Mode} {S : World → Prop} {cls see : Nat → Bool}
theorem op_of_list {i : Nat} {a : Act} {w : World} {o : Oper} {K : Act → World → Prop} (ho : ops[i]? = some o) (h : wpList P ops (SeqQ K Q) [o] a w) : wpOp P ops Q i K a w := by
  unfold wpOp
  simp only [ho]
  unfold wpList at h
  split
  · rename_i hw
    simp only [hw, if_true] at h
    rcases h with h | ⟨h1, a2, w2, h2⟩
    · refine .inl ?_
      unfold Oper.wp at h ⊢
      generalize (execOp a.eval o).run P w = r at h ⊢
      cases r with
      | ok n w' =>
        cases n <;> (try simp only [Oper.upon] at h ⊢)
        case enter f args => exact Calls.mono h fun e w'' he => by cases e <;> exact he
        case row row args => exact Rows.mono h fun u w'' he => he
        all_goals exact h
      | halt x w' =>
        cases x <;> exact h
    · exact .inr ⟨h1, a2, w2, h2⟩
  · rename_i hw
    rw [if_neg hw] at h
    exact h
/-- an operation of the class that may come now -/
theorem tree_pure {i fuel : Nat} {listed : Array Bool} {a : Act} {w : World} {o : Oper} {v : Value} (ho : ops[i]? = some o) (hc : cls i = true) (hs : Region.noSelect ops = true) (hr : (Region.ready md ops listed).contains i = true) (hf : Region.free md ops listed i = true) (hg : o.guard = none)
    (hv : ∀ w, (see i = true → S w) → (execOp a.eval o).run P w = .ok (.value v) w) (hS : S w) (h : wpAnyG P md ops (NoPanic Q) S cls see fuel (listed.setIfInBounds i true) (a.put o.dst v) w) : wpAnyG P md ops (NoPanic Q) S cls see (fuel + 1) listed a w :=
  wpAnyG_first ho hc (Region.noSelect_spec hs) (fun c a w h => absurd h (fun h => h)) fuel listed a w (Region.free_spec ho hf) (by simpa using hr) (.inl ⟨by simp [Region.wanted, hg], hv⟩) (fun _ => hS) h
/-- what each of the ready ones must meet -/
def Branch (P : Program) (md : Region.Mode) (ops : Array Oper) (Q : Exit → Act → World → Prop) (S : World → Prop) (cls see : Nat → Bool) (fuel : Nat) (listed : Array Bool) (a : Act) (w : World) (i : Nat) : Prop :=
  ∃ o, ops[i]? = some o ∧ ∀ K : Act → World → Prop, (∀ a' w', S w' → wpAnyG P md ops (NoPanic Q) S cls see fuel (listed.setIfInBounds i true) a' w' → K a' w') → wpList P ops (SeqQ K (NoPanic Q)) [o] a w
theorem Branch.go {fuel : Nat} {listed : Array Bool} {a : Act} {w : World} {i : Nat} (h : Branch P md ops Q S cls see fuel listed a w i) (hc : cls i = false) : wpOp P ops (NoPanic Q) i (fun a' w' => (cls i = true → w' = w) ∧ (cls i = false → needB md ops see i = true → S w') ∧ wpAnyG P md ops (NoPanic Q) S cls see fuel (listed.setIfInBounds i true) a' w') a w := by
  obtain ⟨o, ho, h⟩ := h
  exact op_of_list ho (h _ fun a' w' hS h' => ⟨fun e => (by rw [hc] at e; cases e), fun _ _ => hS, h'⟩)
theorem tree_one {i fuel : Nat} {listed : Array Bool} {a : Act} {w : World} (hr : Region.ready md ops listed = [i]) (hi : cls i = false) (h1 : Branch P md ops Q S cls see fuel listed a w i) : wpAnyG P md ops (NoPanic Q) S cls see (fuel + 1) listed a w := by
  refine ⟨fun e => (by rw [hr] at e; cases e), fun j hj => ?_⟩
  rw [hr] at hj
  obtain rfl : j = i := by simpa using hj
  exact h1.go hi
theorem tree_two {i k fuel : Nat} {listed : Array Bool} {a : Act} {w : World} (hr : Region.ready md ops listed = [i, k]) (hi : cls i = false) (hk : cls k = false) (h1 : Branch P md ops Q S cls see fuel listed a w i) (h2 : Branch P md ops Q S cls see fuel listed a w k) : wpAnyG P md ops (NoPanic Q) S cls see (fuel + 1) listed a w := by
  refine ⟨fun e => (by rw [hr] at e; cases e), fun j hj => ?_⟩
  rw [hr] at hj
  simp only [List.mem_cons, List.not_mem_nil, or_false] at hj
  rcases hj with rfl | rfl
  · exact h1.go hi
  · exact h2.go hk
theorem tree_three {i k m fuel : Nat} {listed : Array Bool} {a : Act} {w : World} (hr : Region.ready md ops listed = [i, k, m]) (hi : cls i = false) (hk : cls k = false) (hm : cls m = false) (h1 : Branch P md ops Q S cls see fuel listed a w i) (h2 : Branch P md ops Q S cls see fuel listed a w k) (h3 : Branch P md ops Q S cls see fuel listed a w m) : wpAnyG P md ops (NoPanic Q) S cls see (fuel + 1) listed a w := by
  refine ⟨fun e => (by rw [hr] at e; cases e), fun j hj => ?_⟩
  rw [hr] at hj
  simp only [List.mem_cons, List.not_mem_nil, or_false] at hj
  rcases hj with rfl | rfl | rfl
  · exact h1.go hi
  · exact h2.go hk
  · exact h3.go hm
theorem tree_end {listed : Array Bool} {a : Act} {w : World} (hr : Region.ready md ops listed = []) (h : Q .normal a w) : wpAnyG P md ops (NoPanic Q) S cls see 0 listed a w := ⟨hr, h⟩
/-- the region, as a tree -/
theorem wp_region_tree {id : Nat} {l : List Oper} {a : Act} {w : World} (S : World → Prop) (C D : List Nat) (n : Nat) (hm : P.follows .mixedOrders = true) (hn : l.length = n)
    (h : wpAnyG P .any l.toArray (NoPanic Q) S (fun i => C.contains i) (fun i => D.contains i) n (Array.replicate n false) a w.drew) : (Code.region id l.toArray true).wp P Q a w := by
  refine wp_region_noPanic (wp_region_any hm (wpAny_of_G _ _ _ _ (S := S) (cls := fun i => C.contains i) (see := fun i => D.contains i) ?_))
  subst hn
  simpa using h
end
end Go.Proofs.Ytibnackmddigaaa
