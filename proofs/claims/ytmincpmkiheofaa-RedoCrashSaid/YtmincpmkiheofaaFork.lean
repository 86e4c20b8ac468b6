
/- Regions that draw their order where two operations may change places: walked in three orders. It speaks of no function. -/
import Derived.Test.YtmincpmkiheofaaSeq
namespace Go.Proofs.Ytmincpmkiheofaa
open Go.ChangeShapes Go.WideShapes Go.ChangeAt Go.RowKit
set_option linter.unusedVariables false

section
variable {P : Program} {ops : Array Oper} {Q : Exit → Act → World → Prop} {md : Region.Mode} {S : World → Prop} {cls see : Nat → Bool}
/-- the operations of the class ahead of all others -/
def wpPre (P : Program) (ops : Array Oper) (S : World → Prop) (see : Nat → Bool) (K : Act → World → Prop) : List (Nat × Oper) → Act → World → Prop
  | [], a, w => K a w
  | (i, o) :: l, a, w => ∃ v, YieldsIf P ops (fun w => see i = true → S w) o v a ∧ wpPre P ops S see K l (a.put o.dst v) w
theorem pre_pure {K : Act → World → Prop} {i : Nat} {l : List (Nat × Oper)} {a : Act} {w : World} {o : Oper} {v : Value} (hg : o.guard = none) (hv : ∀ w, (see i = true → S w) → (execOp a.eval o).run P w = .ok (.value v) w)
    (h : wpPre P ops S see K l (a.put o.dst v) w) : wpPre P ops S see K ((i, o) :: l) a w := ⟨v, .inl ⟨by simp [Region.wanted, hg], hv⟩, h⟩
theorem pre_want {K : Act → World → Prop} {i : Nat} {l : List (Nat × Oper)} {a : Act} {w : World} {o : Oper} {v : Value} (hg : Region.wanted o (yielded ops a.tmps) = true) (hv : ∀ w, (see i = true → S w) → (execOp a.eval o).run P w = .ok (.value v) w)
    (h : wpPre P ops S see K l (a.put o.dst v) w) : wpPre P ops S see K ((i, o) :: l) a w := ⟨v, .inl ⟨hg, hv⟩, h⟩
def marked (l : List Nat) (listed : Array Bool) : Array Bool := l.foldl (fun L i => L.setIfInBounds i true) listed
def preOk (md : Region.Mode) (ops : Array Oper) (cls : Nat → Bool) : List Nat → Array Bool → Bool
  | [], _ => true
  | i :: l, listed => cls i && (Region.ready md ops listed).contains i && Region.free md ops listed i && preOk md ops cls l (listed.setIfInBounds i true)
theorem wpAnyG_of_pre (hsel : Region.noSelect ops = true) (hQ : ∀ c a w, ¬ Q (.panic c) a w) (hsee : ∀ i, see i = false) {K : Act → World → Prop} {fuel : Nat} : ∀ (l : List (Nat × Oper)) (listed : Array Bool) (a : Act) (w : World), (∀ p ∈ l, ops[p.1]? = some p.2) → preOk md ops cls (l.map (·.1)) listed = true →
    (∀ a' w', K a' w' → wpAnyG P md ops Q S cls see fuel (marked (l.map (·.1)) listed) a' w') → wpPre P ops S see K l a w → wpAnyG P md ops Q S cls see (l.length + fuel) listed a w
  | [], listed, a, w, _, hB, hK, h => by
    rw [List.length_nil, Nat.zero_add]
    exact hK a w h
  | (i, o) :: l, listed, a, w, hp, hB, hK, h => by
    simp only [preOk, List.map_cons, Bool.and_eq_true] at hB
    obtain ⟨⟨⟨hc, h1⟩, h2⟩, hl⟩ := hB
    obtain ⟨v, hy, h⟩ := h
    have ho : ops[i]? = some o := hp (i, o) (by simp)
    rw [show ((i, o) :: l).length + fuel = (l.length + fuel) + 1 by simp only [List.length_cons]; omega]
    exact wpAnyG_first ho hc (Region.noSelect_spec hsel) (fun c a w h => absurd h (hQ _ _ _)) _ listed a w (Region.free_spec ho h2) (by simpa using h1) hy (fun hs => by rw [hsee] at hs; cases hs)
      (wpAnyG_of_pre hsel hQ hsee l _ _ _ (fun p h => hp p (by simp [h])) hl hK h)
/-- an operation alone -/
theorem any_one (hsee : ∀ i, see i = false) {fuel i : Nat} {listed : Array Bool} {a : Act} {w : World} {R : List Nat} (hr : Region.ready md ops listed = R) (hne : R ≠ [])
    (h : ∀ i ∈ R, cls i = false ∧ wpOp P ops Q i (fun a' w' => wpAnyG P md ops Q S cls see fuel (listed.setIfInBounds i true) a' w') a w) : wpAnyG P md ops Q S cls see (fuel + 1) listed a w := by
  refine ⟨fun h0 => absurd (hr.symm.trans h0) hne, fun j hj => ?_⟩
  rw [hr] at hj
  obtain ⟨h1, h2⟩ := h j hj
  refine wpOp_mono (fun a' w' h' => ⟨fun h => (by rw [h1] at h; cases h), fun _ hn => ?_, h'⟩) h2
  unfold needB at hn
  simp [hsee] at hn
def forkOk (md : Region.Mode) (ops : Array Oper) (cls : Nat → Bool) (pre : List Nat) (i j k : Nat) (r1 r2 r3 : List Nat) (n : Nat) : Bool :=
  preOk md ops cls pre (Array.replicate n false) &&
  (Region.ready md ops (marked pre (Array.replicate n false)) == [i, j]) &&
  (Region.ready md ops ((marked pre (Array.replicate n false)).setIfInBounds i true) == [k, j]) &&
  !cls i && !cls j && !cls k &&
  seqOk md ops cls r1 (((marked pre (Array.replicate n false)).setIfInBounds i true).setIfInBounds k true) &&
  seqOk md ops cls r2 (((marked pre (Array.replicate n false)).setIfInBounds i true).setIfInBounds j true) &&
  seqOk md ops cls r3 ((marked pre (Array.replicate n false)).setIfInBounds j true) &&
  (pre.length + (r1.length + 2) == n) && (r2.length == r1.length) && (r3.length == r1.length + 1)
/-- a region where j may come up ahead of i, behind it, or behind i and k; none looks at memory -/
theorem wp_region_fork {id : Nat} {l : List Oper} {a : Act} {w : World} (C : List Nat) (pre : List Nat) (i j k : Nat) (r1 r2 r3 : List Nat) {L L1 L2 L3 : List (Nat × Oper)} (hm : P.follows .mixedOrders = true) (hs : Region.noSelect l.toArray = true)
    (hB : forkOk .any l.toArray (fun i => C.contains i) pre i j k r1 r2 r3 l.length = true)
    (hi : ((picked pre l).map (·.1) = pre ∧ (picked r1 l).map (·.1) = r1) ∧ ((picked r2 l).map (·.1) = r2 ∧ (picked r3 l).map (·.1) = r3)) (hL : picked pre l = L) (hL1 : picked r1 l = L1) (hL2 : picked r2 l = L2) (hL3 : picked r3 l = L3)
    (h : wpPre P l.toArray (fun _ => True) (fun i => ([] : List Nat).contains i) (fun a w =>
      wpOp P l.toArray (NoPanic Q) i (fun a1 w1 => wpOp P l.toArray (NoPanic Q) k (fun a2 w2 => wpSeq P .any l.toArray (NoPanic Q) (fun _ => True) (fun i => C.contains i) (fun i => ([] : List Nat).contains i) L1 a2 w2) a1 w1 ∧
        wpOp P l.toArray (NoPanic Q) j (fun a2 w2 => wpSeq P .any l.toArray (NoPanic Q) (fun _ => True) (fun i => C.contains i) (fun i => ([] : List Nat).contains i) L2 a2 w2) a1 w1) a w ∧
      wpOp P l.toArray (NoPanic Q) j (fun a1 w1 => wpSeq P .any l.toArray (NoPanic Q) (fun _ => True) (fun i => C.contains i) (fun i => ([] : List Nat).contains i) L3 a1 w1) a w) L a w.drew) : (Code.region id l.toArray true).wp P Q a w := by
  subst hL hL1 hL2 hL3
  refine wp_region_noPanic (wp_region_any hm (wpAny_of_G _ _ _ _ (S := fun _ => True) (cls := fun i => C.contains i) (see := fun i => ([] : List Nat).contains i) ?_))
  simp only [forkOk, Bool.and_eq_true, beq_iff_eq, Bool.not_eq_true'] at hB
  obtain ⟨⟨⟨⟨⟨⟨⟨⟨⟨⟨⟨hp, hr1⟩, hr2⟩, hci⟩, hcj⟩, hck⟩, h1⟩, h2⟩, h3⟩, hn⟩, hn2⟩, hn3⟩ := hB
  obtain ⟨⟨e0, e1⟩, e2, e3⟩ := hi
  have hsee : ∀ i : Nat, ([] : List Nat).contains i = false := fun i => rfl
  have hQ : ∀ c a w, ¬ NoPanic Q (.panic c) a w := fun c a w h => h
  have l0 : (picked pre l).length = pre.length := by rw [← e0, List.length_map, e0]
  have l1 : (picked r1 l).length = r1.length := by rw [← e1, List.length_map, e1]
  have l2 : (picked r2 l).length = r2.length := by rw [← e2, List.length_map, e2]
  have l3 : (picked r3 l).length = r3.length := by rw [← e3, List.length_map, e3]
  have key := wpAnyG_of_pre (P := P) (Q := NoPanic Q) (md := .any) (S := fun _ => True) (cls := fun i => C.contains i) (see := fun i => ([] : List Nat).contains i) hs hQ hsee (fuel := r1.length + 2) (picked pre l) (Array.replicate l.length false) a w.drew picked_at (by rw [e0]; exact hp) (fun a' w' h' => ?_) h
  · rw [l0, hn] at key
    simpa using key
  · rw [e0]
    obtain ⟨ha, hb⟩ := h'
    refine any_one hsee (i := 0) hr1 (by simp) fun x hx => ?_
    simp only [List.mem_cons, List.not_mem_nil, or_false] at hx
    rcases hx with rfl | rfl
    · refine ⟨hci, wpOp_mono (fun a1 w1 h1' => ?_) ha⟩
      obtain ⟨hc, hd⟩ := h1'
      refine any_one hsee (i := 0) hr2 (by simp) fun y hy => ?_
      simp only [List.mem_cons, List.not_mem_nil, or_false] at hy
      rcases hy with rfl | rfl
      · refine ⟨hck, wpOp_mono (fun a2 w2 h2' => ?_) hc⟩
        have := wpAnyG_of_seq (P := P) (Q := NoPanic Q) hs hQ (picked r1 l) _ a2 w2 picked_at (by rw [e1]; exact h1) (fun _ => trivial) h2'
        rw [l1] at this
        exact this
      · refine ⟨hcj, wpOp_mono (fun a2 w2 h2' => ?_) hd⟩
        have := wpAnyG_of_seq (P := P) (Q := NoPanic Q) hs hQ (picked r2 l) _ a2 w2 picked_at (by rw [e2]; exact h2) (fun _ => trivial) h2'
        rw [l2, hn2] at this
        exact this
    · refine ⟨hcj, wpOp_mono (fun a1 w1 h1' => ?_) hb⟩
      have := wpAnyG_of_seq (P := P) (Q := NoPanic Q) hs hQ (picked r3 l) _ a1 w1 picked_at (by rw [e3]; exact h3) (fun _ => trivial) h1'
      rw [l3, hn3] at this
      exact this
/-- an operation, walked alone -/
theorem op_on {i : Nat} {K : Act → World → Prop} {a : Act} {w : World} {o : Oper} (ho : ops[i]? = some o)
    (h : ∀ K' : Act → World → Prop, (∀ a' w', K a' w' → K' a' w') → wpList P ops (SeqQ K' Q) [o] a w) : wpOp P ops Q i K a w := by
  have h := h K fun _ _ h => h
  unfold wpOp
  simp only [ho]
  unfold wpList at h
  split
  · rename_i hw
    simp only [hw, if_true] at h
    rcases h with h | ⟨h1, a2, w2, h2⟩
    · refine .inl ?_
      unfold Oper.wp at h ⊢
      generalize (execOp a.eval o).run P w = r at h ⊢
      cases r with
      | ok n w' =>
        cases n <;> (try simp only [Oper.upon] at h ⊢)
        case enter f args => exact Calls.mono h fun e w'' he => by cases e <;> exact he
        case row row args => exact Rows.mono h fun u w'' he => he
        all_goals exact h
      | halt x w' =>
        cases x <;> exact h
    · exact .inr ⟨h1, a2, w2, h2⟩
  · rename_i hw
    rw [if_neg hw] at h
    exact h
end
end Go.Proofs.Ytmincpmkiheofaa
