import Derived.Test.YtndhmidgnpobjaaGreatDoorSta
import Derived.OrdersHeld
import Derived.KernelRfl
import Derived.Deep.RegionHeld3
import Derived.Deep.DeepCutAuto
import Derived.Lib.ItoaWalk
set_option linter.unusedVariables false
set_option linter.unusedSimpArgs false
namespace Go.Proofs.YtndhmidgnpobjaaGreatDoor
open Go.ChangeShapes Go.WideShapes Go.ChangeAt Go.RowKit
section
section
variable {P : Program} {ops : Array Oper} {Q : Exit -> Act -> World -> Prop} {md : Region.Mode} {S : World -> Prop} {cls see : Nat -> Bool}
def zCg (md : Region.Mode) (ops : Array Oper) (see : Nat -> Bool) (j : Nat) : Bool := (List.range ops.size).any fun i => see i && match ops[j]? with
 | some oj => !oj.after.any fun e => Region.binds md e && e.on == i
 | none => false
theorem zM8 {i j : Nat} {oi oj : Oper} (hi : ops[i]? = some oi) (hj : ops[j]? = some oj) (hc : see i = true) (h : ∀ e ∈ oj.after, Region.binds md e = true -> e.on ≠ i) : zCg md ops see j = true := by
 refine List.any_eq_true.2 ⟨i, List.mem_range.2 (Array.getElem?_eq_some_iff.1 hi).1, ?_⟩;simp only [hc, hj, Bool.true_and, Bool.not_eq_true'];refine Bool.eq_false_iff.2 fun h' => ?_
 obtain ⟨e, he, he'⟩ := Array.any_eq_true'.1 h';simp only [Bool.and_eq_true, beq_iff_eq] at he';exact h e he he'.1 he'.2
def qX (P : Program) (md : Region.Mode) (ops : Array Oper) (Q : Exit -> Act -> World -> Prop) (S : World -> Prop) (cls see : Nat -> Bool) : Nat -> Array Bool -> Act -> World -> Prop
 | 0, listed, a, w => Region.ready md ops listed = [] /\ Q .normal a w
 | fuel + 1, listed, a, w =>
   (Region.ready md ops listed = [] -> Q .normal a w) /\
   ∀ i ∈ Region.ready md ops listed, wpOp P ops Q i (fun a' w' => (cls i = true -> w' = w) /\ (cls i = false -> zCg md ops see i = true -> S w') /\ qX P md ops Q S cls see fuel (listed.setIfInBounds i true) a' w') a w
theorem Jn : ∀ (fuel : Nat) (listed : Array Bool) (a : Act) (w : World), qX P md ops Q S cls see fuel listed a w -> wpAny P md ops Q fuel listed a w
 | 0, _, _, _, h => h
 | fuel + 1, _, _, _, h => ⟨h.1, fun i hi => wpOp_mono (fun a' w' h' => Jn fuel _ a' w' h'.2.2) (h.2 i hi)⟩
theorem Uh {i : Nat} {oi : Oper} {v : Value} (hi : ops[i]? = some oi) (hc : cls i = true) (hsel : ∀ (j : Nat) (o : Oper) cs b, ops[j]? = some o -> o.op ≠ .select cs b)
   (hQ : ∀ c a w, Q (.panic c) (a.put oi.dst v) w -> Q (.panic c) a w) :
   ∀ (fuel : Nat) (listed : Array Bool) (a : Act) (w : World),
     (∀ j oj, ops[j]? = some oj -> j ≠ i -> listed.getD j true = false -> (∀ e ∈ oj.after, Region.binds md e = true -> e.on ≠ i) -> oi.apart ops oj = true) ->
     i ∈ Region.ready md ops listed -> YieldsIf P ops (fun w => see i = true -> S w) oi v a -> (see i = true -> S w) ->
     qX P md ops Q S cls see fuel (listed.setIfInBounds i true) (a.put oi.dst v) w -> qX P md ops Q S cls see (fuel + 1) listed a w := by
 intro fuel;induction fuel with
 | zero =>
   intro listed a w _ hr hy hS H;refine ⟨fun h => (by rw [h] at hr; cases hr), fun j hj => ?_⟩;by_cases hji : j = i
   · subst hji; exact hy.wpOp hi hS ⟨fun _ => rfl, fun h => (by rw [hc] at h; cases h), H⟩
   · have := ready_mono hj hji;rw [H.1] at this;cases this
 | succ fuel ih =>
   intro listed a w hfree hr hy hS H;refine ⟨fun h => (by rw [h] at hr; cases hr), fun j hj => ?_⟩;by_cases hji : j = i
   · subst hji; exact hy.wpOp hi hS ⟨fun _ => rfl, fun h => (by rw [hc] at h; cases h), H⟩
   · have h1 := H.2 j (ready_mono hj hji);obtain ⟨hjun, oj, hoj, hall⟩ := mem_ready.1 hj;have h0 := (mem_ready.1 hr).1;have hnot : ∀ e ∈ oj.after, Region.binds md e = true -> e.on ≠ i := fun e he hb heq => by
       have h1 := hall e he hb;rw [heq] at h1;rcases Nat.lt_or_ge i listed.size with h' | h'
       · simp [h'] at h0 h1; rw [h0] at h1; cases h1
       · simp [Array.getElem?_eq_none h'] at h1
     have h2 := wpOp_putIf hoj (hfree j oj hoj hji hjun hnot) (fun cs b => hsel i oi cs b hi) (fun cs b => hsel j oj cs b hoj) hQ hy h1;have hfree' : ∀ k ok, ops[k]? = some ok -> k ≠ i -> (listed.setIfInBounds j true).getD k true = false ->
         (∀ e ∈ ok.after, Region.binds md e = true -> e.on ≠ i) -> oi.apart ops ok = true := fun k ok hk hki hun hno => by
       refine hfree k ok hk hki ?_ hno;by_cases hjk : j = k
       · subst hjk; exact hjun
       · rw [getD_set_ne true hjk] at hun; exact hun
     refine wpOp_mono (fun a' w' h3 => ?_) h2;obtain ⟨hy', hw', hS', h4⟩ := h3;have hSw : see i = true -> S w' := fun hs => by
       by_cases hcj : cls j = true
       · rw [hw' hcj]; exact hS hs
       · exact hS' (by simpa using hcj) (zM8 hi hoj hs hnot)
     refine ⟨hw', hS', ih (listed.setIfInBounds j true) a' w' hfree' (ready_mono hr (Ne.symm hji)) hy' hSw ?_⟩;rw [Array.setIfInBounds_comm _ _ hji];exact h4
def vJ (P : Program) (md : Region.Mode) (ops : Array Oper) (Q : Exit -> Act -> World -> Prop) (S : World -> Prop) (cls see : Nat -> Bool) : List (Nat × Oper) -> Act -> World -> Prop
 | [], a, w => Q .normal a w
 | (i, o) :: l, a, w =>
   if cls i then ∃ v, YieldsIf P ops (fun w => see i = true -> S w) o v a /\ vJ P md ops Q S cls see l (a.put o.dst v) w
   else wpOp P ops Q i (fun a' w' => (zCg md ops see i = true -> S w') /\ (l.any (fun p => see p.1) = true -> S w') /\ vJ P md ops Q S cls see l a' w') a w
def zQ (ord : List Nat) (l : List Oper) : List (Nat × Oper) := ord.filterMap fun i => (l[i]?).map fun o => (i, o)
theorem Ur {ord : List Nat} {l : List Oper} : ∀ p ∈ zQ ord l, l.toArray[p.1]? = some p.2 := by
 intro p hp;obtain ⟨i, _, h⟩ := List.mem_filterMap.1 hp;cases hl : l[i]? with
 | none => simp [hl] at h
 | some o => simp [hl] at h; subst h; simpa using hl
def zAp (md : Region.Mode) (ops : Array Oper) (cls : Nat -> Bool) : List Nat -> Array Bool -> Bool
 | [], listed => (Region.ready md ops listed).isEmpty
 | i :: l, listed => (if cls i then (Region.ready md ops listed).contains i && Region.free md ops listed i else Region.ready md ops listed == [i]) && zAp md ops cls l (listed.setIfInBounds i true)
theorem jN (hsel : Region.noSelect ops = true) (hQ : ∀ c a w, ¬ Q (.panic c) a w) : ∀ (l : List (Nat × Oper)) (listed : Array Bool) (a : Act) (w : World), (∀ p ∈ l, ops[p.1]? = some p.2) -> zAp md ops cls (l.map (·.1)) listed = true -> (l.any (fun p => see p.1) = true -> S w) ->
   vJ P md ops Q S cls see l a w -> qX P md ops Q S cls see l.length listed a w
 | [], listed, a, w, _, hB, hS, h => ⟨by simpa [zAp] using hB, h⟩
 | (i, o) :: l, listed, a, w, hp, hB, hS, h => by
   simp only [zAp, List.map_cons, Bool.and_eq_true] at hB;obtain ⟨hB, hl⟩ := hB;have ho : ops[i]? = some o := hp (i, o) (by simp);have hp' : ∀ p ∈ l, ops[p.1]? = some p.2 := fun p h => hp p (by simp [h])
   unfold vJ at h;by_cases hc : cls i = true
   · simp only [hc, if_true] at h hB;obtain ⟨v, hy, h⟩ := h;simp only [Bool.and_eq_true] at hB;exact Uh ho hc (Region.noSelect_spec hsel) (fun c a w h => absurd h (hQ _ _ _)) l.length listed a w (Region.free_spec ho hB.2) (by simpa using hB.1) hy (fun hs => hS (by simp [hs]))
       (jN hsel hQ l _ _ _ hp' hl (fun hs => hS (by simp only [List.any_cons, hs, Bool.or_true])) h)
   · simp only [hc, Bool.false_eq_true, if_false] at h hB;have hr : Region.ready md ops listed = [i] := by simpa using hB
     refine ⟨fun h0 => (by rw [hr] at h0; cases h0), fun j hj => ?_⟩;rw [hr] at hj;obtain rfl : j = i := by simpa using hj
     exact wpOp_mono (fun a' w' h' => ⟨fun h => absurd h hc, fun _ => h'.1, jN hsel hQ l _ _ _ hp' hl h'.2.1 h'.2.2⟩) h
theorem zA {id : Nat} {l : List Oper} {a : Act} {w : World} (S : World -> Prop) (C D : List Nat) (ord : List Nat) {L : List (Nat × Oper)} (hm : P.follows .mixedOrders = true) (hs : Region.noSelect l.toArray = true) (hn : ord.length = l.length)
   (hB : zAp .any l.toArray (fun i => C.contains i) ord (Array.replicate l.length false) = true) (hi : (zQ ord l).map (·.1) = ord) (hS : S w.drew) (hL : zQ ord l = L)
   (h : vJ P .any l.toArray (NoPanic Q) S (fun i => C.contains i) (fun i => D.contains i) L a w.drew) : (Code.region id l.toArray true).wp P Q a w := by
 subst hL;refine wp_region_noPanic (wp_region_any hm (Jn _ _ _ _ (S := S) (cls := fun i => C.contains i) (see := fun i => D.contains i) ?_));have := jN (P := P) (Q := NoPanic Q) hs (fun c a w h => h) (zQ ord l) (Array.replicate l.length false) a w.drew Ur (by rw [hi]; exact hB) (fun _ => hS) h;have e : (zQ ord l).length = l.length := by rw [<- hn, <- hi, List.length_map, hi]
 rw [e] at this;simpa using this
theorem fM {i : Nat} {l : List (Nat × Oper)} {a : Act} {w : World} {o : Oper} {v : Value} (hc : cls i = true) (hg : o.guard = none) (hv : ∀ w, (see i = true -> S w) -> (execOp a.eval o).run P w = .ok (.value v) w)
   (h : vJ P md ops Q S cls see l (a.put o.dst v) w) : vJ P md ops Q S cls see ((i, o) :: l) a w := by
 unfold vJ;simp only [hc, if_true];exact ⟨v, .inl ⟨by simp [Region.wanted, hg], hv⟩, h⟩
theorem zC {i : Nat} {l : List (Nat × Oper)} {a : Act} {w : World} {o : Oper} {v : Value} (hc : cls i = true) (hg : Region.wanted o (yielded ops a.tmps) = true) (hv : ∀ w, (see i = true -> S w) -> (execOp a.eval o).run P w = .ok (.value v) w)
   (h : vJ P md ops Q S cls see l (a.put o.dst v) w) : vJ P md ops Q S cls see ((i, o) :: l) a w := by
 unfold vJ;simp only [hc, if_true];exact ⟨v, .inl ⟨hg, hv⟩, h⟩
theorem zT {i : Nat} {l : List (Nat × Oper)} {a : Act} {w : World} {o : Oper} (hc : cls i = true) (hg : Region.wanted o (yielded ops a.tmps) = false)
   (h : vJ P md ops Q S cls see l (a.put o.dst undef) w) : vJ P md ops Q S cls see ((i, o) :: l) a w := by
 unfold vJ;simp only [hc, if_true];exact ⟨undef, .inr ⟨hg, rfl⟩, h⟩
def zNb (K : Act -> World -> Prop) (Q : Exit -> Act -> World -> Prop) : Exit -> Act -> World -> Prop
 | .normal, a, w => K a w
 | e, a, w => Q e a w
theorem zJn {i : Nat} {l : List (Nat × Oper)} {a : Act} {w : World} {o : Oper} (ho : ops[i]? = some o) (hc : cls i = false)
   (h : wpList P ops (zNb (fun a' w' => (zCg md ops see i = true -> S w') /\ (l.any (fun p => see p.1) = true -> S w') /\ vJ P md ops Q S cls see l a' w') Q) [o] a w) : vJ P md ops Q S cls see ((i, o) :: l) a w := by
 unfold vJ;simp only [hc, Bool.false_eq_true, if_false];unfold wpOp;simp only [ho];unfold wpList at h;split
 · rename_i hw
   simp only [hw, if_true] at h;rcases h with h | ⟨h1, a2, w2, h2⟩
   · refine .inl ?_;unfold Oper.wp at h ⊢;generalize (execOp a.eval o).run P w = r at h ⊢
     cases r with
     | ok n w' =>
       cases n <;> (try simp only [Oper.upon] at h ⊢)
       case enter f args => exact Calls.mono h fun e w'' he => by cases e <;> exact he
       case row row args => exact Rows.mono h fun u w'' he => he
       all_goals exact h
     | halt x w' =>
       cases x <;> exact h
   · exact .inr ⟨h1, a2, w2, h2⟩
 · rename_i hw
   rw [if_neg hw] at h;exact h
theorem zK {i : Nat} {l : List (Nat × Oper)} {a : Act} {w : World} {o : Oper} (ho : ops[i]? = some o) (hc : cls i = false)
   (h : ∀ K : Act -> World -> Prop, (∀ a' w', S w' -> vJ P md ops Q S cls see l a' w' -> K a' w') -> wpList P ops (zNb K Q) [o] a w) : vJ P md ops Q S cls see ((i, o) :: l) a w :=
 zJn ho hc (h _ fun a' w' hS h => ⟨fun _ => hS, fun _ => hS, h⟩)
theorem xQ {i : Nat} {l : List (Nat × Oper)} {a : Act} {w : World} {o : Oper} (ho : ops[i]? = some o) (hc : cls i = false) (hp : zCg md ops see i = false) (hq : l.any (fun p => see p.1) = false)
   (h : ∀ K : Act -> World -> Prop, (∀ a' w', vJ P md ops Q S cls see l a' w' -> K a' w') -> wpList P ops (zNb K Q) [o] a w) : vJ P md ops Q S cls see ((i, o) :: l) a w :=
 zJn ho hc (h _ fun a' w' h => ⟨fun e => (by rw [hp] at e; cases e), fun e => (by rw [hq] at e; cases e), h⟩)
theorem zN {a : Act} {w : World} (h : Q .normal a w) : vJ P md ops (NoPanic Q) S cls see [] a w := h
end
theorem vW {P : Program} {f : Nat} {fn : Func} (hf : P.funcs[f]? = some fn) (hn : (fn.name == "runtime.NumGoroutine") = false) (hb : fn.body.isNone = false) (args : Array Value) (w : World) : (callFunc f args).run P w = .ok (.enter f args) w := by
 simp only [callFunc];have h1 : ¬ fn.name = "runtime.NumGoroutine" := by simpa using hn
 have h2 : ¬ fn.body = none := by intro e; rw [e] at hb; cases hb
 simp [go_sem, hf, h1, h2]
end
section
section
variable {P : Program} {ops : Array Oper} {Q : Exit -> Act -> World -> Prop} {md : Region.Mode} {S : World -> Prop} {cls see : Nat -> Bool}
def zD3 (P : Program) (ops : Array Oper) (S : World -> Prop) (see : Nat -> Bool) (K : Act -> World -> Prop) : List (Nat × Oper) -> Act -> World -> Prop
 | [], a, w => K a w
 | (i, o) :: l, a, w => ∃ v, YieldsIf P ops (fun w => see i = true -> S w) o v a /\ zD3 P ops S see K l (a.put o.dst v) w
theorem zLj {K : Act -> World -> Prop} {i : Nat} {l : List (Nat × Oper)} {a : Act} {w : World} {o : Oper} {v : Value} (hg : Region.wanted o (yielded ops a.tmps) = true) (hv : ∀ w, (see i = true -> S w) -> (execOp a.eval o).run P w = .ok (.value v) w)
   (h : zD3 P ops S see K l (a.put o.dst v) w) : zD3 P ops S see K ((i, o) :: l) a w := ⟨v, .inl ⟨hg, hv⟩, h⟩
def Vh (l : List Nat) (listed : Array Bool) : Array Bool := l.foldl (fun L i => L.setIfInBounds i true) listed
def zGk (md : Region.Mode) (ops : Array Oper) (cls : Nat -> Bool) : List Nat -> Array Bool -> Bool
 | [], _ => true
 | i :: l, listed => cls i && (Region.ready md ops listed).contains i && Region.free md ops listed i && zGk md ops cls l (listed.setIfInBounds i true)
theorem zG0 {i : Nat} {K : Act -> World -> Prop} {a : Act} {w : World} {o : Oper} (ho : ops[i]? = some o)
   (h : ∀ K' : Act -> World -> Prop, (∀ a' w', K a' w' -> K' a' w') -> wpList P ops (zNb K' Q) [o] a w) : wpOp P ops Q i K a w := by
 have h := h K fun _ _ h => h
 unfold wpOp;simp only [ho];unfold wpList at h;split
 · rename_i hw
   simp only [hw, if_true] at h;rcases h with h | ⟨h1, a2, w2, h2⟩
   · refine .inl ?_;unfold Oper.wp at h ⊢;generalize (execOp a.eval o).run P w = r at h ⊢
     cases r with
     | ok n w' =>
       cases n <;> (try simp only [Oper.upon] at h ⊢)
       case enter f args => exact Calls.mono h fun e w'' he => by cases e <;> exact he
       case row row args => exact Rows.mono h fun u w'' he => he
       all_goals exact h
     | halt x w' =>
       cases x <;> exact h
   · exact .inr ⟨h1, a2, w2, h2⟩
 · rename_i hw
   rw [if_neg hw] at h;exact h
end
end
section
section
variable {P : Program} {ops : Array Oper} {Q : Exit -> Act -> World -> Prop} {md : Region.Mode} {S : World -> Prop} {cls see : Nat -> Bool}
theorem fO (hsel : Region.noSelect ops = true) (hQ : ∀ c a w, ¬ Q (.panic c) a w) {K : Act -> World -> Prop} {fuel : Nat} : ∀ (l : List (Nat × Oper)) (listed : Array Bool) (a : Act) (w : World), S w -> (∀ p ∈ l, ops[p.1]? = some p.2) -> zGk md ops cls (l.map (·.1)) listed = true ->
   (∀ a' w', S w' -> K a' w' -> qX P md ops Q S cls see fuel (Vh (l.map (·.1)) listed) a' w') -> zD3 P ops S see K l a w -> qX P md ops Q S cls see (l.length + fuel) listed a w
 | [], listed, a, w, hS, _, hB, hK, h => by
   rw [List.length_nil, Nat.zero_add];exact hK a w hS h
 | (i, o) :: l, listed, a, w, hS, hp, hB, hK, h => by
   simp only [zGk, List.map_cons, Bool.and_eq_true] at hB;obtain ⟨⟨⟨hc, h1⟩, h2⟩, hl⟩ := hB;obtain ⟨v, hy, h⟩ := h;have ho : ops[i]? = some o := hp (i, o) (by simp);rw [show ((i, o) :: l).length + fuel = (l.length + fuel) + 1 by simp only [List.length_cons]; omega];exact Uh ho hc (Region.noSelect_spec hsel) (fun c a w h => absurd h (hQ _ _ _)) _ listed a w (Region.free_spec ho h2) (by simpa using h1) hy (fun _ => hS)
     (fO hsel hQ l _ _ _ hS (fun p h => hp p (by simp [h])) hl hK h)
theorem Yn {fuel i : Nat} {listed : Array Bool} {a : Act} {w : World} {R : List Nat} (hr : Region.ready md ops listed = R) (hne : R ≠ [])
   (h : ∀ i ∈ R, cls i = false /\ wpOp P ops Q i (fun a' w' => S w' /\ qX P md ops Q S cls see fuel (listed.setIfInBounds i true) a' w') a w) : qX P md ops Q S cls see (fuel + 1) listed a w := by
 refine ⟨fun h0 => absurd (hr.symm.trans h0) hne, fun j hj => ?_⟩;rw [hr] at hj;obtain ⟨h1, h2⟩ := h j hj;exact wpOp_mono (fun a' w' h' => ⟨fun h => (by rw [h1] at h; cases h), fun _ _ => h'.1, h'.2⟩) h2
def zK5 (md : Region.Mode) (ops : Array Oper) (cls : Nat -> Bool) (pre : List Nat) (i j : Nat) (r : List Nat) (n : Nat) : Bool :=
 zGk md ops cls pre (Array.replicate n false) &&
 (Region.ready md ops (Vh pre (Array.replicate n false)) == [i, j]) &&
 (Region.ready md ops ((Vh pre (Array.replicate n false)).setIfInBounds i true) == [j]) &&
 (Region.ready md ops ((Vh pre (Array.replicate n false)).setIfInBounds j true) == [i]) &&
 !cls i && !cls j && (i != j) &&
 zAp md ops cls r (((Vh pre (Array.replicate n false)).setIfInBounds i true).setIfInBounds j true) &&
 (pre.length + (r.length + 2) == n)
theorem Yk {id : Nat} {l : List Oper} {a : Act} {w : World} (S : World -> Prop) (C D : List Nat) (pre : List Nat) (i j : Nat) (r : List Nat) {L L1 : List (Nat × Oper)} (hm : P.follows .mixedOrders = true) (hs : Region.noSelect l.toArray = true)
   (hB : zK5 .any l.toArray (fun i => C.contains i) pre i j r l.length = true)
   (hi : (zQ pre l).map (·.1) = pre /\ (zQ r l).map (·.1) = r) (hS : S w.drew) (hL : zQ pre l = L) (hL1 : zQ r l = L1)
   (h : zD3 P l.toArray S (fun i => D.contains i) (fun a w =>
     wpOp P l.toArray (NoPanic Q) i (fun a1 w1 => S w1 /\ wpOp P l.toArray (NoPanic Q) j (fun a2 w2 => S w2 /\ vJ P .any l.toArray (NoPanic Q) S (fun i => C.contains i) (fun i => D.contains i) L1 a2 w2) a1 w1) a w /\
     wpOp P l.toArray (NoPanic Q) j (fun a1 w1 => S w1 /\ wpOp P l.toArray (NoPanic Q) i (fun a2 w2 => S w2 /\ vJ P .any l.toArray (NoPanic Q) S (fun i => C.contains i) (fun i => D.contains i) L1 a2 w2) a1 w1) a w) L a w.drew) : (Code.region id l.toArray true).wp P Q a w := by
 subst hL hL1;refine wp_region_noPanic (wp_region_any hm (Jn _ _ _ _ (S := S) (cls := fun i => C.contains i) (see := fun i => D.contains i) ?_));simp only [zK5, Bool.and_eq_true, beq_iff_eq, Bool.not_eq_true', bne_iff_ne, ne_eq] at hB;obtain ⟨⟨⟨⟨⟨⟨⟨⟨hp, hr1⟩, hr2⟩, hr3⟩, hci⟩, hcj⟩, hij⟩, h1⟩, hn⟩ := hB;obtain ⟨e0, e1⟩ := hi;have hQ : ∀ c a w, ¬ NoPanic Q (.panic c) a w := fun c a w h => h
 have l0 : (zQ pre l).length = pre.length := by rw [<- e0, List.length_map, e0]
 have l1 : (zQ r l).length = r.length := by rw [<- e1, List.length_map, e1]
 have key := fO (P := P) (Q := NoPanic Q) (md := .any) (S := S) (cls := fun i => C.contains i) (see := fun i => D.contains i) hs hQ (fuel := r.length + 2) (zQ pre l) (Array.replicate l.length false) a w.drew hS Ur (by rw [e0]; exact hp) (fun a' w' hS' h' => ?_) h
 · rw [l0, hn] at key;simpa using key
 · rw [e0];obtain ⟨ha, hb⟩ := h';have tail : ∀ (lst : Array Bool) a2 w2, lst = ((Vh pre (Array.replicate l.length false)).setIfInBounds i true).setIfInBounds j true -> S w2 -> vJ P .any l.toArray (NoPanic Q) S (fun i => C.contains i) (fun i => D.contains i) (zQ r l) a2 w2 -> qX P .any l.toArray (NoPanic Q) S (fun i => C.contains i) (fun i => D.contains i) r.length lst a2 w2 := fun lst a2 w2 hl hS2 hh => by
     subst hl;have := jN (P := P) (Q := NoPanic Q) hs hQ (zQ r l) _ a2 w2 Ur (by rw [e1]; exact h1) (fun _ => hS2) hh;rw [l1] at this;exact this
   refine Yn (i := 0) hr1 (by simp) fun x hx => ?_
   simp only [List.mem_cons, List.not_mem_nil, or_false] at hx;rcases hx with rfl | rfl
   · refine ⟨hci, wpOp_mono (fun a1 w1 h1' => ⟨h1'.1, ?_⟩) ha⟩;refine Yn (i := 0) hr2 (by simp) fun y hy => ?_
     simp only [List.mem_cons, List.not_mem_nil, or_false] at hy;subst hy;exact ⟨hcj, wpOp_mono (fun a2 w2 h2' => ⟨h2'.1, tail _ _ _ rfl h2'.1 h2'.2⟩) h1'.2⟩
   · refine ⟨hcj, wpOp_mono (fun a1 w1 h1' => ⟨h1'.1, ?_⟩) hb⟩;refine Yn (i := 0) hr3 (by simp) fun y hy => ?_
     simp only [List.mem_cons, List.not_mem_nil, or_false] at hy;subst hy;exact ⟨hci, wpOp_mono (fun a2 w2 h2' => ⟨h2'.1, tail _ _ _ (Array.setIfInBounds_comm _ _ (Ne.symm hij)) h2'.1 h2'.2⟩) h1'.2⟩
end
end
end Go.Proofs.YtndhmidgnpobjaaGreatDoor
