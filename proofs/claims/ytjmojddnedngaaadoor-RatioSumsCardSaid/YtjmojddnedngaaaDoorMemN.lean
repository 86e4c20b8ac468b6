
/- Regions that draw their order, whose calls answer values of which only what holds of them is known: these come in any order beside reads and new blocks; what waits for all of them comes behind. It speaks of no function. -/
import Derived.Test.YtjmojddnedngaaaDoorMemo
import Derived.Test.YtjmojddnedngaaaDoorSeq
namespace Go.Proofs.YtjmojddnedngaaaDoor
open Go.ChangeShapes Go.WideShapes Go.ChangeAt Go.RowKit
set_option linter.unusedVariables false
set_option linter.unusedSimpArgs false

/-- what an operation that is done has left: this value in its slot; a value that p holds of; the address of a block of its own -/
inductive Sn where
  | val (v : Value)
  | num (p : World → Value → Prop)
  | cell (T : TypeId) (cs : Array Value)
def Satn (n0 : Nat) (dst : Option Nat) : Sn → Act → World → Prop
  | .val v, a, _ => ∀ d, dst = some d → a.tmps[d]? = some v
  | .num p, a, w => ∃ d v, dst = some d ∧ a.tmps[d]? = some v ∧ p w v
  | .cell T cs, a, w => ∃ d g, dst = some d ∧ a.tmps[d]? = some (.pointer (some ⟨g, 0, none⟩)) ∧ n0 ≤ g ∧ Own w g T cs
/-- what holds of a value holds on while all that there was stays -/
def Mon (p : World → Value → Prop) : Prop := ∀ w w' v, p w v → Below w.heap.size w w' → p w' v
theorem Satn.slots {n0 : Nat} {dst : Option Nat} {sp : Sn} {a a' : Act} {w : World} (h : Satn n0 dst sp a w) (e : ∀ d, dst = some d → a'.tmps[d]? = a.tmps[d]?) : Satn n0 dst sp a' w := by
  cases sp with
  | val v => exact fun d hd => (e d hd).trans (h d hd)
  | num p => obtain ⟨d, v, hd, ht, r⟩ := h; exact ⟨d, v, hd, (e d hd).trans ht, r⟩
  | cell T cs => obtain ⟨d, g, hd, ht, r⟩ := h; exact ⟨d, g, hd, (e d hd).trans ht, r⟩
theorem Satn.keep {n0 : Nat} {dst : Option Nat} {sp : Sn} {a : Act} {w w' : World} (hm : ∀ p, sp = .num p → Mon p) (h : Satn n0 dst sp a w) (hb : Below w.heap.size w w') : Satn n0 dst sp a w' := by
  cases sp with
  | val v => exact h
  | num p => obtain ⟨d, v, hd, ht, r⟩ := h; exact ⟨d, v, hd, ht, hm p rfl _ _ _ r hb⟩
  | cell T cs => obtain ⟨d, g, hd, ht, hg, ho⟩ := h; exact ⟨d, g, hd, ht, hg, ho.keep hb⟩

structure Invn (ops : Array Oper) (sp : Nat → Sn) (n : Nat) (w0 : World) (a0 : Act) (listed : Array Bool) (a : Act) (w : World) : Prop where
  size : a.tmps.size = a0.tmps.size
  defers : a.defers = a0.defers
  frame : ∀ s, (∀ (i : Nat) (o : Oper), ops[i]? = some o → o.dst ≠ some s) → a.tmps[s]? = a0.tmps[s]?
  below : Below w0.heap.size w0 w
  first : ∀ i, listed.getD i false = true → i < n
  facts : ∀ (i : Nat) (o : Oper), ops[i]? = some o → listed.getD i false = true → Satn w0.heap.size o.dst (sp i) a w
  closed : ∀ (i : Nat) (o : Oper), ops[i]? = some o → listed.getD i false = true → ∀ e ∈ o.after, Region.binds .any e = true → listed.getD e.on false = true
  apart : ∀ (i j : Nat) (oi oj : Oper) (di dj gi gj : Nat) (Ti Tj : TypeId) (ci cj : Array Value), ops[i]? = some oi → ops[j]? = some oj → i ≠ j → listed.getD i false = true → listed.getD j false = true →
    sp i = .cell Ti ci → sp j = .cell Tj cj → oi.dst = some di → oj.dst = some dj → a.tmps[di]? = some (.pointer (some ⟨gi, 0, none⟩)) → a.tmps[dj]? = some (.pointer (some ⟨gj, 0, none⟩)) → gi ≠ gj
/-- j waits for i, by at most f others -/
def reachB (ops : Array Oper) : Nat → Nat → Nat → Bool
  | 0, _, _ => false
  | f + 1, j, i => match ops[j]? with
    | none => false
    | some o => o.after.any fun e => Region.binds .any e && (e.on == i || reachB ops f e.on i)
structure Shapen (ops : Array Oper) (sp : Nat → Sn) (n N : Nat) : Prop where
  mon : ∀ i p, sp i = .num p → Mon p
  early : ∀ (i : Nat) (o : Oper), ops[i]? = some o → i < n → ∀ e ∈ o.after, Region.binds .any e = true → e.on < i
  late : ∀ (j : Nat) (o : Oper), ops[j]? = some o → n ≤ j → ∀ i, i < n → ∃ f, reachB ops f j i = true
  free : ∀ (i : Nat) (o : Oper), ops[i]? = some o → i < n → o.guard = none
  dsts : ∀ (i : Nat) (o : Oper), ops[i]? = some o → i < n → ∃ d, o.dst = some d ∧ d < N
  differ : ∀ (i j : Nat) (oi oj : Oper) (d : Nat), ops[i]? = some oi → ops[j]? = some oj → oi.dst = some d → oj.dst = some d → i = j
  le : n ≤ ops.size
def Stepn (P : Program) (w0 : World) (o : Oper) (sp : Sn) (a : Act) (w : World) : Prop :=
  match sp with
  | .val v => Step P w0 o (.val v) a w
  | .num p => ∃ f args, (execOp a.eval o).run P w = .ok (.enter f args) w ∧ Calls P f args w fun e w' => ∃ v, e = .returned v ∧ p w' v ∧ Below w.heap.size w w'
  | .cell T cs => (execOp a.eval o).run P w = .ok (.value (.pointer (some ⟨w.heap.size, 0, none⟩))) (w.alloc (.cells cs T))
structure Readyn (ops : Array Oper) (sp : Nat → Sn) (w0 : World) (a0 : Act) (o : Oper) (a : Act) (w : World) : Prop where
  size : a.tmps.size = a0.tmps.size
  frame : ∀ s, (∀ (i : Nat) (o : Oper), ops[i]? = some o → o.dst ≠ some s) → a.tmps[s]? = a0.tmps[s]?
  below : Below w0.heap.size w0 w
  deps : ∀ e ∈ o.after, Region.binds .any e = true → ∀ oe, ops[e.on]? = some oe → Satn w0.heap.size oe.dst (sp e.on) a w

section
variable {P : Program} {ops : Array Oper} {Q : Exit → Act → World → Prop} {sp : Nat → Sn} {n : Nat} {w0 : World} {a0 : Act}
theorem Invn.reach {listed : Array Bool} {a : Act} {w : World} (I : Invn ops sp n w0 a0 listed a w) : ∀ (f j i : Nat), reachB ops f j i = true → (∀ o, ops[j]? = some o → ∀ e ∈ o.after, Region.binds .any e = true → listed.getD e.on false = true) → listed.getD i false = true
  | 0, _, _, h, _ => by simp [reachB] at h
  | f + 1, j, i, h, hd => by
    unfold reachB at h
    cases ho : ops[j]? with
    | none => rw [ho] at h; cases h
    | some o =>
      rw [ho] at h
      simp only at h
      obtain ⟨e, he, he'⟩ : ∃ e, e ∈ o.after ∧ (Region.binds .any e && (e.on == i || reachB ops f e.on i)) = true := by
        rw [← Array.any_toList, List.any_eq_true] at h
        obtain ⟨x, hx, hf⟩ := h
        exact ⟨x, by simpa using hx, hf⟩
      simp only [Bool.and_eq_true, Bool.or_eq_true, beq_iff_eq] at he'
      have hl := hd o ho e he he'.1
      rcases he'.2 with rfl | h2
      · exact hl
      · exact I.reach f e.on i h2 fun o' ho' e' he2 hb => I.closed e.on o' ho' hl e' he2 hb
theorem Invn.step {listed : Array Bool} {a : Act} {w w' : World} (sh : Shapen ops sp n a0.tmps.size) (I : Invn ops sp n w0 a0 listed a w) {i : Nat} {o : Oper} (hi : ops[i]? = some o) (hn : i < n) (un : listed.getD i true = false) (hdn : ∀ e ∈ o.after, Region.binds .any e = true → listed.getD e.on false = true)
    {v : Value} (hb : Below w.heap.size w w') (hs : Satn w0.heap.size o.dst (sp i) (a.put o.dst v) w') (hap : ∀ T cs, sp i = .cell T cs → v = .pointer (some ⟨w.heap.size, 0, none⟩)) :
    Invn ops sp n w0 a0 (listed.setIfInBounds i true) (a.put o.dst v) w' := by
  obtain ⟨hlt, ni⟩ := undone un
  have far : ∀ (j : Nat) (oj : Oper) (d : Nat), j ≠ i → ops[j]? = some oj → oj.dst = some d → (a.put o.dst v).tmps[d]? = a.tmps[d]? := fun j oj d hji hj hd => put_at fun e => hji ((sh.differ i j o oj d hi hj e hd).symm)
  have old : ∀ (j : Nat) (oj : Oper), j ≠ i → ops[j]? = some oj → listed.getD j false = true → Satn w0.heap.size oj.dst (sp j) (a.put o.dst v) w' := fun j oj hji hj dj =>
    ((I.facts j oj hj dj).keep (sh.mon j) hb).slots fun d hd => far j oj d hji hj hd
  have lt : ∀ (j : Nat) (oj : Oper) (d g : Nat) (T : TypeId) (cs : Array Value), ops[j]? = some oj → listed.getD j false = true → sp j = .cell T cs → oj.dst = some d → a.tmps[d]? = some (.pointer (some ⟨g, 0, none⟩)) → g < w.heap.size := fun j oj d g T cs hj dj hsp hd ht => by
    have h := I.facts j oj hj dj
    rw [hsp] at h
    obtain ⟨d', g', hd', ht', _, ho⟩ := h
    obtain rfl : d = d' := Option.some.inj (hd.symm.trans hd')
    rw [ht] at ht'
    obtain rfl : g = g' := by simpa using ht'
    exact ho.in_
  have mine : ∀ (oj : Oper) (d g : Nat) (T : TypeId) (cs : Array Value), ops[i]? = some oj → oj.dst = some d → sp i = .cell T cs → (a.put o.dst v).tmps[d]? = some (.pointer (some ⟨g, 0, none⟩)) → g = w.heap.size := fun oj d g T cs hj hd hsp ht => by
    obtain rfl : oj = o := Option.some.inj (hj.symm.trans hi)
    obtain ⟨d', hd', hN⟩ := sh.dsts i oj hi hn
    obtain rfl : d = d' := Option.some.inj (hd.symm.trans hd')
    rw [hd, put_here (by rw [I.size]; exact hN), hap T cs hsp] at ht
    have : w.heap.size = g := by simpa using ht
    exact this.symm
  refine ⟨put_size.trans I.size, put_defers.trans I.defers, fun s hs' => (put_at (hs' i o hi)).trans (I.frame s hs'), I.below.trans (hb.mono I.below.size), ?_, ?_, ?_, ?_⟩
  · intro j dj
    by_cases e : j = i
    · exact e ▸ hn
    · exact I.first j (set_back dj e)
  · intro j oj hj dj
    by_cases e : j = i
    · subst e
      obtain rfl : oj = o := Option.some.inj (hj.symm.trans hi)
      exact hs
    · exact old j oj e hj (set_back dj e)
  · intro j oj hj dj e he hbd
    by_cases ej : j = i
    · subst ej
      obtain rfl : oj = o := Option.some.inj (hj.symm.trans hi)
      exact getD_set_true (hdn e he hbd)
    · exact getD_set_true (I.closed j oj hj (set_back dj ej) e he hbd)
  · intro j k oj ok dj dk gj gk Tj Tk cj ck hj hk hne lj lk bj bk ej ek tj tk
    by_cases e1 : j = i
    · subst e1
      have h1 := mine oj dj gj Tj cj hj ej bj tj
      rw [far k ok dk (Ne.symm hne) hk ek] at tk
      have h2 := lt k ok dk gk Tk ck hk (set_back lk (Ne.symm hne)) bk ek tk
      omega
    · by_cases e2 : k = i
      · subst e2
        have h1 := mine ok dk gk Tk ck hk ek bk tk
        rw [far j oj dj e1 hj ej] at tj
        have h2 := lt j oj dj gj Tj cj hj (set_back lj e1) bj ej tj
        omega
      · rw [far j oj dj e1 hj ej] at tj
        rw [far k ok dk e2 hk ek] at tk
        exact I.apart j k oj ok dj dk gj gk Tj Tk cj ck hj hk hne (set_back lj e1) (set_back lk e2) bj bk ej ek tj tk

/-- the first n are done -/
def done1 (n m : Nat) : Array Bool := (List.replicate n true ++ List.replicate (m - n) false).toArray
theorem done1_size {n m : Nat} (h : n ≤ m) : (done1 n m).size = m := by simp [done1]; omega
theorem done1_rem (n m : Nat) : rem (done1 n m) = m - n := by simp [rem, done1, List.count_append, List.count_replicate]
theorem done1_get {n m i : Nat} (h : i < n) : (done1 n m).getD i false = true := by
  unfold done1
  simp [List.getElem?_append, h]
theorem done1_not {n m i : Nat} (h : ¬ i < n) : (done1 n m).getD i false = false := by
  unfold done1
  rw [Array.getD_eq_getD_getElem?, List.getElem?_toArray, List.getElem?_append_right (by simpa using h), List.getElem?_replicate]
  split <;> rfl
/-- THE LAW -/
theorem memon (sh : Shapen ops sp n a0.tmps.size) (hops : ∀ (i : Nat) (o : Oper) (a : Act) (w : World), i < n → ops[i]? = some o → Readyn ops sp w0 a0 o a w → Stepn P w0 o (sp i) a w)
    (hend : ∀ (a : Act) (w : World), Invn ops sp n w0 a0 (done1 n ops.size) a w → wpAny P .any ops Q (ops.size - n) (done1 n ops.size) a w) :
    ∀ (fuel : Nat) (listed : Array Bool) (a : Act) (w : World), listed.size = ops.size → rem listed = fuel → Invn ops sp n w0 a0 listed a w → wpAny P .any ops Q fuel listed a w := by
  intro fuel
  induction fuel with
  | zero =>
    intro listed a w hs hrem I
    have hall := rem_zero hrem
    have he : listed = done1 n ops.size := by
      have hle := sh.le
      have hn : n = ops.size := by
        rcases Nat.lt_or_ge n ops.size with h | h
        · have h1 := hall n
          have h2 : listed.getD n false = true := by
            have h3 : n < listed.size := by omega
            simpa [h3] using h1
          have := I.first n h2
          omega
        · omega
      refine Array.ext (by rw [done1_size hle, hs]) fun i h1 h2 => ?_
      have h3 := hall i
      have h4 : listed[i] = true := by simpa [h1] using h3
      have h5 := done1_get (n := n) (m := ops.size) (i := i) (by omega)
      have h6 : (done1 n ops.size)[i] = true := by simpa [h2] using h5
      rw [h4, h6]
    subst he
    have := hend a w I
    rw [done1_rem] at hrem
    rwa [hrem] at this
  | succ fuel ih =>
    intro listed a w hs hrem I
    by_cases hall : ∀ i, i < n → listed.getD i false = true
    · have hle := sh.le
      have he : listed = done1 n ops.size := by
        refine Array.ext (by rw [done1_size hle, hs]) fun i h1 h2 => ?_
        by_cases hi : i < n
        · have h4 : listed[i] = true := by simpa [h1] using hall i hi
          have h6 : (done1 n ops.size)[i] = true := by simpa [h2] using done1_get (n := n) (m := ops.size) hi
          rw [h4, h6]
        · have h4 : listed[i] = false := by
            cases hv : listed[i] with
            | false => rfl
            | true => exact absurd (I.first i (by simp [h1, hv])) hi
          have h6 : (done1 n ops.size)[i] = false := by simpa [h2] using done1_not (n := n) (m := ops.size) hi
          rw [h4, h6]
      subst he
      have := hend a w I
      rw [done1_rem] at hrem
      rwa [hrem] at this
    · have some_ready : ∃ i, i ∈ Region.ready .any ops listed := by
        have ⟨i, hi, hv⟩ : ∃ i, i < n ∧ listed.getD i false = false := by
          refine Classical.byContradiction fun h => hall fun i hi => ?_
          cases hv : listed.getD i false with
          | true => rfl
          | false => exact absurd ⟨i, hi, hv⟩ h
        induction i using Nat.strongRecOn with
        | ind i ihi =>
          have hlt : i < ops.size := Nat.lt_of_lt_of_le hi sh.le
          have hls : i < listed.size := by omega
          have ho : ops[i]? = some ops[i] := Array.getElem?_eq_getElem hlt
          by_cases hd : ∀ e ∈ ops[i].after, Region.binds .any e = true → listed.getD e.on false = true
          · exact ⟨i, mem_ready.2 ⟨by simpa [hls] using hv, _, ho, hd⟩⟩
          · have ⟨e, he, hb, hu⟩ : ∃ e, e ∈ ops[i].after ∧ Region.binds .any e = true ∧ listed.getD e.on false = false := by
              refine Classical.byContradiction fun h => hd fun e he hb => ?_
              cases hv : listed.getD e.on false with
              | true => rfl
              | false => exact absurd ⟨e, he, hb, hv⟩ h
            have h1 := sh.early i _ ho hi e he hb
            exact ihi e.on h1 (by omega) hu
      refine ⟨fun hr => ?_, fun i hi => ?_⟩
      · obtain ⟨i, hi⟩ := some_ready
        rw [hr] at hi
        cases hi
      · obtain ⟨un, o, ho, hd⟩ := mem_ready.1 hi
        have hn : i < n := by
          rcases Nat.lt_or_ge i n with h | h
          · exact h
          · refine absurd (fun k hk => ?_) hall
            obtain ⟨f, hf⟩ := sh.late i o ho h k hk
            exact I.reach f i k hf fun o' ho' e he hb => by
              obtain rfl : o = o' := Option.some.inj (ho.symm.trans ho')
              exact hd e he hb
        have next : ∀ a' w', Invn ops sp n w0 a0 (listed.setIfInBounds i true) a' w' → wpAny P .any ops Q fuel (listed.setIfInBounds i true) a' w' := fun a' w' I' =>
          ih _ _ _ (by simpa using hs) (by have := rem_set un; omega) I'
        have R : Readyn ops sp w0 a0 o a w := ⟨I.size, I.frame, I.below, fun e he hb oe hoe => I.facts e.on oe hoe (hd e he hb)⟩
        have S := hops i o a w hn ho R
        obtain ⟨d, hdst, hdN⟩ := sh.dsts i o ho hn
        have here : ∀ v, (a.put o.dst v).tmps[d]? = some v := fun v => by rw [hdst]; exact put_here (by rw [I.size]; exact hdN)
        have hg := sh.free i o ho hn
        unfold wpOp
        simp only [ho, show Region.wanted o (yielded ops a.tmps) = true by unfold Region.wanted; rw [hg], if_true]
        refine .inl ?_
        unfold Oper.wp
        unfold Stepn at S
        cases hsp : sp i with
        | val v =>
          rw [hsp] at S
          have sat : ∀ w', Satn w0.heap.size o.dst (sp i) (a.put o.dst v) w' := fun w' => by
            rw [hsp]
            intro d' hd'
            obtain rfl : d = d' := Option.some.inj (hdst.symm.trans hd')
            exact here v
          have nb : ∀ T cs, sp i = .cell T cs → v = .pointer (some ⟨w.heap.size, 0, none⟩) := fun T cs h => by rw [hsp] at h; cases h
          rcases S with hr | ⟨f, args, hr, hc⟩
          · rw [hr]
            exact next _ _ (I.step sh ho hn un hd (Below.refl _ _) (sat w) nb)
          · rw [hr]
            refine Calls.mono hc fun e w' ⟨he, hb⟩ => ?_
            subst he
            exact next _ _ (I.step sh ho hn un hd hb (sat w') nb)
        | num p =>
          rw [hsp] at S
          obtain ⟨f, args, hr, hc⟩ := S
          rw [hr]
          refine Calls.mono hc fun e w' ⟨v, he, hp, hb⟩ => ?_
          subst he
          refine next _ _ (I.step sh ho hn un hd hb ?_ fun T cs h => by rw [hsp] at h; cases h)
          rw [hsp]
          exact ⟨d, v, hdst, here v, hp⟩
        | cell T cs =>
          rw [hsp] at S
          rw [S]
          refine next _ _ (I.step sh ho hn un hd ((Below.refl _ _).alloc (Nat.le_refl _) _) ?_ fun T cs h => rfl)
          rw [hsp]
          exact ⟨d, w.heap.size, hdst, here _, I.below.size, Own.made w T cs⟩

def spn (L : List Sn) (i : Nat) : Sn := L.getD i (.val undef)
def shapenB (l : List Oper) (n N : Nat) : Bool :=
  decide (n ≤ l.length) && (List.range l.length).all fun i => match l[i]? with
    | none => false
    | some o => (if i < n then o.after.all (fun e => !Region.binds .any e || decide (e.on < i)) && o.guard.isNone && (match o.dst with | none => false | some d => decide (d < N))
        else (List.range n).all fun k => reachB l.toArray 12 i k) &&
      (match o.dst with
        | none => true
        | some d => (List.range l.length).all fun j => j == i || ((l[j]?).bind (·.dst)) != some d)
theorem shapen_of {l : List Oper} {L : List Sn} {N : Nat} (h : shapenB l L.length N = true) (hm : ∀ i p, spn L i = .num p → Mon p) : Shapen l.toArray (spn L) L.length N := by
  unfold shapenB at h
  rw [Bool.and_eq_true, List.all_eq_true] at h
  obtain ⟨h0, h⟩ := h
  have low : ∀ (i : Nat) (o : Oper), l.toArray[i]? = some o → l[i]? = some o := fun i o h => by simpa using h
  have H : ∀ i o, l[i]? = some o → _ := fun i o ho => by
    have hi : i < l.length := (List.getElem?_eq_some_iff.1 ho).1
    have := h i (by simpa using hi)
    simp only [ho, Bool.and_eq_true] at this
    exact this
  have F : ∀ i o, l[i]? = some o → i < L.length → (o.after.all (fun e => !Region.binds .any e || decide (e.on < i)) = true ∧ o.guard.isNone = true) ∧ (match o.dst with | none => false | some d => decide (d < N)) = true := fun i o ho hi => by
    have := (H i o ho).1
    rw [if_pos hi] at this
    simpa only [Bool.and_eq_true] using this
  refine ⟨hm, ?_, ?_, ?_, ?_, ?_, by simpa using h0⟩
  · intro i o ho hi e he hb
    have := Array.all_eq_true_iff_forall_mem.1 (F i o (low i o ho) hi).1.1 e he
    simpa [hb] using this
  · intro j o ho hj i hi
    have := (H j o (low j o ho)).1
    rw [if_neg (by omega)] at this
    exact ⟨12, List.all_eq_true.1 this i (by simpa using hi)⟩
  · intro i o ho hi
    simpa using (F i o (low i o ho) hi).1.2
  · intro i o ho hi
    have := (F i o (low i o ho) hi).2
    cases hd : o.dst with
    | none => rw [hd] at this; cases this
    | some d => rw [hd] at this; exact ⟨d, rfl, by simpa using this⟩
  · intro i j oi oj d hi hj hdi hdj
    have := (H i oi (low i oi hi)).2
    rw [hdi] at this
    have hlt : j < l.length := (List.getElem?_eq_some_iff.1 (low j oj hj)).1
    have := List.all_eq_true.1 this j (by simpa using hlt)
    rw [low j oj hj] at this
    simp [hdj] at this
    exact this.symm

def Stepsn (P : Program) (ops : Array Oper) (L : List Sn) (w0 : World) (a0 : Act) : List Sn → List Oper → Nat → Prop
  | [], _, _ => True
  | _ :: _, [], _ => True
  | _ :: q, o :: r, i => (∀ a w, Readyn ops (spn L) w0 a0 o a w → Stepn P w0 o (spn L i) a w) ∧ Stepsn P ops L w0 a0 q r (i + 1)
theorem Stepsn.at_ {L : List Sn} : ∀ (q : List Sn) (r : List Oper) (k : Nat), Stepsn P ops L w0 a0 q r k → ∀ (i : Nat) (o : Oper) (a : Act) (w : World), i < q.length → r[i]? = some o → Readyn ops (spn L) w0 a0 o a w → Stepn P w0 o (spn L (k + i)) a w
  | [], _, _, _, i, o, _, _, hi, _, _ => by simp at hi
  | _ :: _, [], _, _, i, o, _, _, _, h, _ => by simp at h
  | _ :: q, o' :: r, k, hs, 0, o, a, w, _, h, R => by
    obtain rfl : o' = o := by simpa using h
    exact hs.1 a w R
  | _ :: q, o' :: r, k, hs, i + 1, o, a, w, hi, h, R => by
    have e : k + 1 + i = k + (i + 1) := by omega
    have := Stepsn.at_ q r (k + 1) hs.2 i o a w (by simpa using hi) (by simpa using h) R
    rwa [e] at this
def Mons : List Sn → Prop
  | [] => True
  | .num p :: r => Mon p ∧ Mons r
  | .val _ :: r => Mons r
  | .cell _ _ :: r => Mons r
theorem mons_at : ∀ {L : List Sn}, Mons L → ∀ (i : Nat) (p : World → Value → Prop), L[i]? = some (.num p) → Mon p
  | [], _, i, p, h => by simp at h
  | s :: r, hm, 0, p, h => by
    obtain rfl : s = .num p := by simpa using h
    exact hm.1
  | s :: r, hm, i + 1, p, h => by
    have h' : r[i]? = some (.num p) := by simpa using h
    cases s with
    | num q => exact mons_at (L := r) hm.2 i p h'
    | val _ => exact mons_at (L := r) hm i p h'
    | cell _ _ => exact mons_at (L := r) hm i p h'
theorem mons_of {L : List Sn} (h : Mons L) : ∀ i p, spn L i = .num p → Mon p := fun i p hp => by
  unfold spn at hp
  rw [List.getD_eq_getElem?_getD] at hp
  cases e : L[i]? with
  | none => rw [e] at hp; cases hp
  | some x => rw [e] at hp; exact mons_at h i p (by rw [e]; simpa using hp)
/-- a region whose order is drawn: what comes first in any order, then what waits for it -/
theorem region_memon {id : Nat} {l : List Oper} {L : List Sn} {a0 : Act} {w : World} (hm : P.follows .mixedOrders = true) (hs : shapenB l L.length a0.tmps.size = true) (hmon : Mons L)
    (hops : Stepsn P l.toArray L w.drew a0 L l 0)
    (hend : ∀ (a : Act) (w' : World), Invn l.toArray (spn L) L.length w.drew a0 (done1 L.length l.length) a w' → wpAnyG P .any l.toArray (NoPanic Q) (fun _ => True) (fun _ => false) (fun _ => false) (l.length - L.length) (done1 L.length l.length) a w') :
    (Code.region id l.toArray true).wp P Q a0 w := by
  refine wp_region_noPanic (wp_region_any hm (memon (w0 := w.drew) (a0 := a0) (shapen_of hs (mons_of hmon)) (fun i o a w' hi ho R => ?_) (fun a w' I => ?_) _ _ _ _ (by simp) ?_ ⟨rfl, rfl, fun _ _ => rfl, Below.refl _ _, ?_, ?_, ?_, ?_⟩))
  · have := Stepsn.at_ L l 0 hops i o a w' hi (by simpa using ho) R
    rwa [Nat.zero_add] at this
  · have h := wpAny_of_G _ _ _ _ (hend a w' (by simpa using I))
    simpa using h
  · simp [rem]
  · intro i h
    by_cases hi : i < l.length <;> simp [hi] at h
  · intro i o _ h
    by_cases hi : i < l.length <;> simp [hi] at h
  · intro i o _ h
    by_cases hi : i < l.length <;> simp [hi] at h
  · intro i j _ _ _ _ _ _ _ _ _ _ _ _ _ h
    by_cases hi : i < l.length <;> simp [hi] at h

theorem ltb {k n : Nat} (h : Nat.ble (k + 1) n = true) : k < n := Nat.le_of_ble_eq_true h
theorem Readyn.slot {L : List Sn} {l : List Oper} {o : Oper} {a : Act} {w : World} (R : Readyn l.toArray (spn L) w0 a0 o a w) (s : Nat) (h : (l.all fun o => o.dst != some s) = true) : a.tmps[s]? = a0.tmps[s]? :=
  R.frame s fun i o ho e => by
    have := List.all_eq_true.1 h o (List.mem_of_getElem? (by simpa using ho))
    simp [e] at this
theorem Readyn.val {L : List Sn} {l : List Oper} {o : Oper} {a : Act} {w : World} (R : Readyn l.toArray (spn L) w0 a0 o a w) (k : Nat) {ok : Oper} {d : Nat} {v : Value} (hk : l[k]? = some ok := by exact rfl) (hd : ok.dst = some d := by exact rfl) (hv : spn L k = .val v := by exact rfl)
    (h : (o.after.any fun e => Region.binds .any e && e.on == k) = true := by kernel_rfl) : a.tmps[d]? = some v := by
  obtain ⟨e, he, he'⟩ := arr_any h
  simp only [Bool.and_eq_true, beq_iff_eq] at he'
  obtain ⟨h1, h2⟩ := he'
  subst h2
  have := R.deps e he h1 ok (by simpa using hk)
  rw [hv] at this
  exact this d hd
section
variable {l : List Oper} {L : List Sn} {a : Act} {w : World}
theorem Invn.val (I : Invn l.toArray (spn L) L.length w0 a0 (done1 L.length l.length) a w) (k : Nat) {ok : Oper} {d : Nat} {v : Value} (hn : k < L.length) (hk : l[k]? = some ok := by exact rfl) (hd : ok.dst = some d := by exact rfl) (hv : spn L k = .val v := by exact rfl) : a.tmps[d]? = some v := by
  have := I.facts k ok (by simpa using hk) (done1_get hn)
  rw [hv] at this
  exact this d hd
theorem Invn.num (I : Invn l.toArray (spn L) L.length w0 a0 (done1 L.length l.length) a w) (k : Nat) {ok : Oper} {d : Nat} {p : World → Value → Prop} (hn : k < L.length) (hk : l[k]? = some ok := by exact rfl) (hd : ok.dst = some d := by exact rfl) (hv : spn L k = .num p := by exact rfl) : ∃ v, a.tmps[d]? = some v ∧ p w v := by
  have := I.facts k ok (by simpa using hk) (done1_get hn)
  rw [hv] at this
  obtain ⟨d', v, hd', r⟩ := this
  obtain rfl : d = d' := Option.some.inj (hd.symm.trans hd')
  exact ⟨v, r⟩
theorem Invn.cell (I : Invn l.toArray (spn L) L.length w0 a0 (done1 L.length l.length) a w) (k : Nat) {ok : Oper} {d : Nat} {T : TypeId} {cs : Array Value} (hn : k < L.length) (hk : l[k]? = some ok := by exact rfl) (hd : ok.dst = some d := by exact rfl) (hv : spn L k = .cell T cs := by exact rfl) :
    ∃ g, a.tmps[d]? = some (.pointer (some ⟨g, 0, none⟩)) ∧ w0.heap.size ≤ g ∧ Own w g T cs := by
  have := I.facts k ok (by simpa using hk) (done1_get hn)
  rw [hv] at this
  obtain ⟨d', g, hd', r⟩ := this
  obtain rfl : d = d' := Option.some.inj (hd.symm.trans hd')
  exact ⟨g, r⟩
theorem Invn.apart2 (I : Invn l.toArray (spn L) L.length w0 a0 (done1 L.length l.length) a w) (i j : Nat) {oi oj : Oper} {di dj gi gj : Nat} {Ti Tj : TypeId} {ci cj : Array Value} (hni : i < L.length) (hnj : j < L.length) (hne : i ≠ j)
    (hgi : a.tmps[di]? = some (.pointer (some ⟨gi, 0, none⟩))) (hgj : a.tmps[dj]? = some (.pointer (some ⟨gj, 0, none⟩)))
    (hi : l[i]? = some oi := by exact rfl) (hj : l[j]? = some oj := by exact rfl) (bi : spn L i = .cell Ti ci := by exact rfl) (bj : spn L j = .cell Tj cj := by exact rfl) (ei : oi.dst = some di := by exact rfl) (ej : oj.dst = some dj := by exact rfl) : gi ≠ gj :=
  I.apart i j oi oj di dj gi gj Ti Tj ci cj (by simpa using hi) (by simpa using hj) hne (done1_get hni) (done1_get hnj) bi bj ei ej hgi hgj
theorem Invn.act (I : Invn l.toArray (spn L) L.length w0 a0 (done1 L.length l.length) a w) (V : List (Nat × Value)) (hV : Vals a.tmps V) (hc : (l.all fun o => match o.dst with | none => true | some d => (V.map (·.1)).contains d) = true) :
    a = ⟨V.foldl (fun A p => A.setIfInBounds p.1 p.2) a0.tmps, a0.defers⟩ := by
  have h := fill_eq V a0.tmps I.size hV fun s hs => I.frame s fun i o ho e => by
    have h1 := List.all_eq_true.1 hc o (List.mem_of_getElem? (by simpa using ho))
    rw [e] at h1
    exact hs (by simpa using h1)
  have h2 := I.defers
  cases a
  simp only at h h2
  rw [h, h2]
end
end
section
variable {P : Program} {a : Act} {w w0 : World} {af : Array Edge} {pos : String} {t : TypeId} {gd : Option (Nat × Bool)}
theorem cn_t {f d : Nat} {r0 s0 : Nat} {v0 : Value} {p : World → Value → Prop} (E : ∀ args w, (callFunc f args).run P w = .ok (.enter f args) w) (h0 : a.tmps[s0]? = some v0) (hc : Calls P f #[v0] w fun e w' => ∃ v, e = .returned v ∧ p w' v ∧ Below w.heap.size w w') : Stepn P w0 { dst := some d, op := .call { callee := .value (.func f), args := #[.tmp s0], argTypes := #[r0] }, type := t, pos := pos, after := af, guard := gd } (.num p) a w :=
  ⟨f, _, by simp [go_sem, execOp, h0]; exact E _ _, hc⟩
theorem cn_tt {f d : Nat} {r0 r1 s0 s1 : Nat} {v0 v1 : Value} {p : World → Value → Prop} (E : ∀ args w, (callFunc f args).run P w = .ok (.enter f args) w) (h0 : a.tmps[s0]? = some v0) (h1 : a.tmps[s1]? = some v1) (hc : Calls P f #[v0, v1] w fun e w' => ∃ v, e = .returned v ∧ p w' v ∧ Below w.heap.size w w') : Stepn P w0 { dst := some d, op := .call { callee := .value (.func f), args := #[.tmp s0, .tmp s1], argTypes := #[r0, r1] }, type := t, pos := pos, after := af, guard := gd } (.num p) a w :=
  ⟨f, _, by simp [go_sem, execOp, h0, h1]; exact E _ _, hc⟩
end
end Go.Proofs.YtjmojddnedngaaaDoor
