
/- Plans as lists of vertices and edges: which are right, what may be done with them, and what that makes of them. Plain mathematics. No condition but those that each theorem names. -/
import Derived.Test.YthakafnecddliaaGeoGn
namespace Go.Proofs.Ythakafnecddliaa.Pl
open Go.ChangeShapes Go.WideShapes Go.ChangeAt Go.RowKit
set_option linter.unusedVariables false
set_option linter.unusedSimpArgs false

structure Vx where
  id : Int
  x : Int
  y : Int
structure Eg where
  id : Int
  a : Int
  b : Int
/-- the first one of a number -/
def fV (vs : List Vx) (i : Int) : Option Vx := vs.find? fun v => v.id == i
def fE (es : List Eg) (i : Int) : Option Eg := es.find? fun e => e.id == i
def hasV (vs : List Vx) (i : Int) : Bool := (fV vs i).isSome
def hasE (es : List Eg) (i : Int) : Bool := (fE es i).isSome
def px (vs : List Vx) (i : Int) : Int := match fV vs i with
  | some v => v.x
  | none => 0
def py (vs : List Vx) (i : Int) : Int := match fV vs i with
  | some v => v.y
  | none => 0
def atV (vs : List Vx) (x y : Int) : Bool := vs.any fun v => decide (v.x = x ∧ v.y = y)
def onV (vs : List Vx) (p1 p2 q1 q2 : Int) : Bool := vs.any fun v => onB v.x v.y p1 p2 q1 q2
def onL (vs : List Vx) (es : List Eg) (x y : Int) : Bool := es.any fun e => onB x y (px vs e.a) (py vs e.a) (px vs e.b) (py vs e.b)
def mtL (vs : List Vx) (es : List Eg) (p1 p2 q1 q2 : Int) : Bool := es.any fun e => mtB p1 p2 q1 q2 (px vs e.a) (py vs e.a) (px vs e.b) (py vs e.b)
def jn (e : Eg) (a b : Int) : Bool := (e.a == a && e.b == b) || (e.a == b && e.b == a)
def jnL (es : List Eg) (a b : Int) : Bool := es.any fun e => jn e a b
/-- what is answered whether a vertex may be added -/
def cAdd (vs : List Vx) (es : List Eg) (x y : Int) : Int :=
  if inB x y = false then 5 else if atV vs x y then 7 else if onL vs es x y then 14 else if 512 ≤ vs.length then 18 else 0
/-- what is answered whether an edge may be added -/
def cLink (vs : List Vx) (es : List Eg) (a b : Int) : Int :=
  if a = b then 1 else if (hasV vs a && hasV vs b) = false then 6 else if jnL es a b then 7 else if onV vs (px vs a) (py vs a) (px vs b) (py vs b) then 14
  else if mtL vs es (px vs a) (py vs a) (px vs b) (py vs b) then 15 else if 1024 ≤ es.length then 18 else 0
def dg (e : Eg) (i : Int) : Nat := (if e.a = i then 1 else 0) + (if e.b = i then 1 else 0)
def deg (es : List Eg) (i : Int) : Nat := (es.map fun e => dg e i).sum

/-- step by step -/
def OkV (vs : List Vx) (n : Nat) : Prop := ∀ v, vs[n]? = some v → 0 < v.id ∧ (∀ u ∈ vs.take n, u.id < v.id) ∧ cAdd (vs.take n) [] v.x v.y = 0
def OkE (vs : List Vx) (es : List Eg) (n : Nat) : Prop := ∀ e, es[n]? = some e → 0 < e.id ∧ (∀ u ∈ es.take n, u.id < e.id) ∧ cLink vs (es.take n) e.a e.b = 0
def Rt (vs : List Vx) (es : List Eg) : Prop := (∀ n, OkV vs n) ∧ ∀ n, OkE vs es n
noncomputable def rtB (vs : List Vx) (es : List Eg) : Bool := @decide (Rt vs es) (Classical.propDecidable _)
theorem rtB_iff {vs : List Vx} {es : List Eg} : rtB vs es = true ↔ Rt vs es := by unfold rtB; exact ⟨fun h => @of_decide_eq_true _ (Classical.propDecidable _) h, fun h => @decide_eq_true _ (Classical.propDecidable _) h⟩
theorem rtB_not {vs : List Vx} {es : List Eg} (h : ¬ Rt vs es) : rtB vs es = false := by
  cases e : rtB vs es with
  | false => rfl
  | true => exact absurd (rtB_iff.1 e) h

theorem pw {α : Type} (R : α → α → Prop) (l : List α) : (∀ (n : Nat) (v : α), l[n]? = some v → ∀ u ∈ l.take n, R u v) ↔ l.Pairwise R := by
  rw [List.pairwise_iff_getElem]
  constructor
  · intro h i j hi hj hij
    refine h j _ (List.getElem?_eq_getElem hj) _ ?_
    rw [List.mem_take_iff_getElem]
    exact ⟨i, by omega, rfl⟩
  · intro h n v hv u hu
    obtain ⟨hn, rfl⟩ := List.getElem?_eq_some_iff.1 hv
    rw [List.mem_take_iff_getElem] at hu
    obtain ⟨i, hi, rfl⟩ := hu
    exact h i n (by omega) hn (by omega)
theorem memAt {α : Type} {P : α → Prop} (l : List α) : (∀ (n : Nat) (v : α), l[n]? = some v → P v) ↔ ∀ v ∈ l, P v :=
  ⟨fun h v hv => by obtain ⟨n, hn⟩ := List.mem_iff_getElem?.1 hv; exact h n v hn, fun h n v hv => h v (List.mem_of_getElem? hv)⟩
theorem lenAt {α : Type} (l : List α) (k : Nat) : (∀ (n : Nat) (v : α), l[n]? = some v → n < k) ↔ l.length ≤ k := by
  constructor
  · intro h
    rcases Nat.lt_or_ge k l.length with hk | hk
    · have := h k _ (List.getElem?_eq_getElem hk); omega
    · exact hk
  · intro h n v hv
    obtain ⟨hn, _⟩ := List.getElem?_eq_some_iff.1 hv
    omega
theorem cAdd_ok {vs : List Vx} {es : List Eg} {x y : Int} : cAdd vs es x y = 0 ↔ inB x y = true ∧ atV vs x y = false ∧ onL vs es x y = false ∧ vs.length < 512 := by
  unfold cAdd
  cases h1 : inB x y <;> cases h2 : atV vs x y <;> cases h3 : onL vs es x y <;> simp
theorem cLink_ok {vs : List Vx} {es : List Eg} {a b : Int} : cLink vs es a b = 0 ↔ a ≠ b ∧ hasV vs a = true ∧ hasV vs b = true ∧ jnL es a b = false ∧ onV vs (px vs a) (py vs a) (px vs b) (py vs b) = false ∧ mtL vs es (px vs a) (py vs a) (px vs b) (py vs b) = false ∧ es.length < 1024 := by
  unfold cLink
  by_cases h0 : a = b
  · simp [h0]
  · rw [if_neg h0]
    cases h1 : hasV vs a <;> cases h2 : hasV vs b <;> simp [h0]
    cases h3 : jnL es a b <;> simp
    cases h4 : onV vs (px vs a) (py vs a) (px vs b) (py vs b) <;> simp
    cases h5 : mtL vs es (px vs a) (py vs a) (px vs b) (py vs b) <;> simp
/-- the document's sentence on plans that are right, all at once -/
structure FlV (vs : List Vx) : Prop where
  rise : vs.Pairwise fun u v => u.id < v.id
  one : ∀ v ∈ vs, 0 < v.id
  rng : ∀ v ∈ vs, inB v.x v.y = true
  apart : vs.Pairwise fun u v => ¬ (u.x = v.x ∧ u.y = v.y)
  few : vs.length ≤ 512
structure FlE (vs : List Vx) (es : List Eg) : Prop where
  rise : es.Pairwise fun u v => u.id < v.id
  one : ∀ e ∈ es, 0 < e.id
  ends : ∀ e ∈ es, e.a ≠ e.b ∧ hasV vs e.a = true ∧ hasV vs e.b = true
  apart : es.Pairwise fun u e => jn u e.a e.b = false
  off : ∀ e ∈ es, onV vs (px vs e.a) (py vs e.a) (px vs e.b) (py vs e.b) = false
  free : es.Pairwise fun u e => mtB (px vs e.a) (py vs e.a) (px vs e.b) (py vs e.b) (px vs u.a) (py vs u.a) (px vs u.b) (py vs u.b) = false
  few : es.length ≤ 1024
theorem any_no {α : Type} {l : List α} {p : α → Bool} : l.any p = false ↔ ∀ x ∈ l, p x = false := by rw [List.any_eq_false]; simp
theorem flV_iff {vs : List Vx} : (∀ n, OkV vs n) ↔ FlV vs := by
  unfold OkV
  simp only [cAdd_ok]
  constructor
  · intro h
    refine ⟨(pw _ _).1 fun n v hv u hu => (h n v hv).2.1 u hu, (memAt _).1 fun n v hv => (h n v hv).1, (memAt _).1 fun n v hv => (h n v hv).2.2.1, (pw _ _).1 fun n v hv u hu => ?_, (lenAt _ _).1 fun n v hv => ?_⟩
    · have := any_no.1 (h n v hv).2.2.2.1 u hu
      simpa using this
    · have := (h n v hv).2.2.2.2.2
      obtain ⟨hn, _⟩ := List.getElem?_eq_some_iff.1 hv
      rw [List.length_take] at this
      omega
  · rintro ⟨h1, h2, h3, h4, h5⟩ n v hv
    have hn := (lenAt _ _).2 h5 n v hv
    refine ⟨(memAt _).2 h2 n v hv, (pw _ _).2 h1 n v hv, (memAt _).2 h3 n v hv, any_no.2 fun u hu => ?_, rfl, by rw [List.length_take]; omega⟩
    simpa using (pw _ _).2 h4 n v hv u hu
theorem flE_iff {vs : List Vx} {es : List Eg} : (∀ n, OkE vs es n) ↔ FlE vs es := by
  unfold OkE
  simp only [cLink_ok]
  constructor
  · intro h
    refine ⟨(pw _ _).1 fun n v hv u hu => (h n v hv).2.1 u hu, (memAt _).1 fun n v hv => (h n v hv).1, (memAt _).1 fun n v hv => ⟨(h n v hv).2.2.1, (h n v hv).2.2.2.1, (h n v hv).2.2.2.2.1⟩, (pw _ _).1 fun n v hv u hu => ?_, (memAt _).1 fun n v hv => (h n v hv).2.2.2.2.2.2.1, (pw _ _).1 fun n v hv u hu => ?_, (lenAt _ _).1 fun n v hv => ?_⟩
    · exact any_no.1 (h n v hv).2.2.2.2.2.1 u hu
    · exact any_no.1 (h n v hv).2.2.2.2.2.2.2.1 u hu
    · have := (h n v hv).2.2.2.2.2.2.2.2
      obtain ⟨hn, _⟩ := List.getElem?_eq_some_iff.1 hv
      rw [List.length_take] at this
      omega
  · rintro ⟨h1, h2, h3, h4, h5, h6, h7⟩ n v hv
    have hn := (lenAt _ _).2 h7 n v hv
    obtain ⟨e1, e2, e3⟩ := (memAt _).2 h3 n v hv
    exact ⟨(memAt _).2 h2 n v hv, (pw _ _).2 h1 n v hv, e1, e2, e3, any_no.2 ((pw _ _).2 h4 n v hv), (memAt _).2 h5 n v hv, any_no.2 ((pw _ _).2 h6 n v hv), by rw [List.length_take]; omega⟩
theorem rt_iff {vs : List Vx} {es : List Eg} : Rt vs es ↔ FlV vs ∧ FlE vs es := by unfold Rt; rw [flV_iff, flE_iff]

/- the place of a number -/
theorem fV_mem {vs : List Vx} {i : Int} {v : Vx} (h : fV vs i = some v) : v ∈ vs ∧ v.id = i := by
  unfold fV at h
  exact ⟨List.mem_of_find?_eq_some h, by simpa using List.find?_some h⟩
theorem fV_of {vs : List Vx} (h : vs.Pairwise fun u v => u.id < v.id) {v : Vx} (hv : v ∈ vs) : fV vs v.id = some v := by
  induction vs with
  | nil => cases hv
  | cons u r ih =>
    rw [List.pairwise_cons] at h
    unfold fV
    rw [List.find?_cons]
    rcases List.mem_cons.1 hv with rfl | hv'
    · simp
    · have := h.1 v hv'
      have e : (u.id == v.id) = false := by simp; omega
      rw [e]
      exact ih h.2 hv'
theorem hasV_iff {vs : List Vx} {i : Int} : hasV vs i = true ↔ ∃ v ∈ vs, v.id = i := by
  unfold hasV fV
  rw [List.find?_isSome]
  simp
theorem hasV_no {vs : List Vx} {i : Int} : hasV vs i = false ↔ ∀ v ∈ vs, v.id ≠ i := by
  rw [← Bool.not_eq_true, hasV_iff]
  simp
theorem hasE_iff {es : List Eg} {i : Int} : hasE es i = true ↔ ∃ v ∈ es, v.id = i := by
  unfold hasE fE
  rw [List.find?_isSome]
  simp
theorem fV_some {vs : List Vx} {i : Int} (h : hasV vs i = true) : ∃ v, fV vs i = some v := by
  unfold hasV at h
  exact Option.isSome_iff_exists.1 h
theorem px_rng {vs : List Vx} (h : ∀ v ∈ vs, inB v.x v.y = true) {i : Int} (hi : hasV vs i = true) : inB (px vs i) (py vs i) = true := by
  obtain ⟨v, hv⟩ := fV_some hi
  unfold px py
  rw [hv]
  exact h v (fV_mem hv).1
theorem px_apart {vs : List Vx} (h : FlV vs) {i j : Int} (hi : hasV vs i = true) (hj : hasV vs j = true) (hij : i ≠ j) : decide (px vs i = px vs j ∧ py vs i = py vs j) = false := by
  obtain ⟨u, hu⟩ := fV_some hi
  obtain ⟨v, hv⟩ := fV_some hj
  unfold px py
  rw [hu, hv]
  obtain ⟨hu1, hu2⟩ := fV_mem hu
  obtain ⟨hv1, hv2⟩ := fV_mem hv
  have hne : u ≠ v := fun e => hij (by rw [← hu2, ← hv2, e])
  have := h.apart
  rw [decide_eq_false_iff_not]
  rw [List.pairwise_iff_getElem] at this
  obtain ⟨m, hm, rfl⟩ := List.mem_iff_getElem.1 hu1
  obtain ⟨n, hn, rfl⟩ := List.mem_iff_getElem.1 hv1
  rcases Nat.lt_trichotomy m n with k | k | k
  · exact this m n hm hn k
  · subst k; exact absurd rfl hne
  · exact fun e => this n m hn hm k ⟨e.1.symm, e.2.symm⟩
/- a vertex more -/
theorem fV_app {vs : List Vx} {n : Vx} {i : Int} (h : hasV vs i = true) : fV (vs ++ [n]) i = fV vs i := by
  obtain ⟨v, hv⟩ := fV_some h
  unfold fV at hv ⊢
  rw [List.find?_append, hv]
  rfl
theorem px_app {vs : List Vx} {n : Vx} {i : Int} (h : hasV vs i = true) : px (vs ++ [n]) i = px vs i ∧ py (vs ++ [n]) i = py vs i := by
  unfold px py
  rw [fV_app h]
  exact ⟨rfl, rfl⟩
theorem hasV_app {vs : List Vx} {n : Vx} {i : Int} (h : hasV vs i = true) : hasV (vs ++ [n]) i = true := by
  unfold hasV
  rw [fV_app h]
  exact h
theorem keep_add {vs : List Vx} {es : List Eg} (h : Rt vs es) {n : Vx} (h0 : 0 < n.id) (hn : ∀ v ∈ vs, v.id < n.id) : Rt (vs ++ [n]) es ↔ cAdd vs es n.x n.y = 0 := by
  rw [rt_iff] at h ⊢
  obtain ⟨hV, hE⟩ := h
  rw [cAdd_ok]
  constructor
  · rintro ⟨kV, kE⟩
    refine ⟨kV.rng n (by simp), any_no.2 fun v hv => ?_, any_no.2 fun e he => ?_, by have := kV.few; simp at this; omega⟩
    · have := (List.pairwise_append.1 kV.apart).2.2 v hv n (by simp)
      simpa using this
    · have := any_no.1 (kE.off e he) n (by simp)
      obtain ⟨_, e1, e2⟩ := hE.ends e he
      rw [(px_app e1).1, (px_app e1).2, (px_app e2).1, (px_app e2).2] at this
      exact this
  · rintro ⟨k1, k2, k3, k4⟩
    have k2 := any_no.1 k2
    have k3 := any_no.1 k3
    refine ⟨⟨?_, ?_, ?_, ?_, by simp; omega⟩, ⟨hE.rise, hE.one, fun e he => ?_, hE.apart, fun e he => ?_, ?_, hE.few⟩⟩
    · exact List.pairwise_append.2 ⟨hV.rise, by simp, fun u hu v hv => by simp at hv; subst hv; exact hn u hu⟩
    · intro v hv
      rcases List.mem_append.1 hv with hv | hv
      · exact hV.one v hv
      · simp at hv; subst hv; exact h0
    · intro v hv
      rcases List.mem_append.1 hv with hv | hv
      · exact hV.rng v hv
      · simp at hv; subst hv; exact k1
    · exact List.pairwise_append.2 ⟨hV.apart, by simp, fun u hu v hv => by simp at hv; subst hv; simpa using k2 u hu⟩
    · obtain ⟨e0, e1, e2⟩ := hE.ends e he
      exact ⟨e0, hasV_app e1, hasV_app e2⟩
    · obtain ⟨e0, e1, e2⟩ := hE.ends e he
      rw [(px_app e1).1, (px_app e1).2, (px_app e2).1, (px_app e2).2]
      refine any_no.2 fun v hv => ?_
      rcases List.mem_append.1 hv with hv | hv
      · exact any_no.1 (hE.off e he) v hv
      · simp at hv; subst hv; exact k3 e he
    · have key : ∀ u ∈ es, ∀ e ∈ es, mtB (px vs e.a) (py vs e.a) (px vs e.b) (py vs e.b) (px vs u.a) (py vs u.a) (px vs u.b) (py vs u.b) = false → mtB (px (vs ++ [n]) e.a) (py (vs ++ [n]) e.a) (px (vs ++ [n]) e.b) (py (vs ++ [n]) e.b) (px (vs ++ [n]) u.a) (py (vs ++ [n]) u.a) (px (vs ++ [n]) u.b) (py (vs ++ [n]) u.b) = false := fun u hu e he k => by
        obtain ⟨_, e1, e2⟩ := hE.ends e he
        obtain ⟨_, u1, u2⟩ := hE.ends u hu
        rw [(px_app e1).1, (px_app e1).2, (px_app e2).1, (px_app e2).2, (px_app u1).1, (px_app u1).2, (px_app u2).1, (px_app u2).2]
        exact k
      exact List.Pairwise.imp_of_mem (fun hu he k => key _ hu _ he k) hE.free
/- an edge more -/
theorem keep_link {vs : List Vx} {es : List Eg} (h : Rt vs es) {n : Eg} (h0 : 0 < n.id) (hn : ∀ v ∈ es, v.id < n.id) : Rt vs (es ++ [n]) ↔ cLink vs es n.a n.b = 0 := by
  constructor
  · intro k
    have := (k.2 es.length n (by simp)).2.2
    rw [List.take_append_of_le_length (Nat.le_refl _), List.take_length] at this
    exact this
  · intro k
    refine ⟨h.1, fun i e he => ?_⟩
    rcases Nat.lt_or_ge i es.length with hi | hi
    · rw [List.getElem?_append_left hi] at he
      have := h.2 i e he
      rwa [List.take_append_of_le_length (by omega)]
    · have hl := (List.getElem?_eq_some_iff.1 he).1
      simp at hl
      obtain rfl : i = es.length := by omega
      simp at he
      subst he
      rw [List.take_append_of_le_length (Nat.le_refl _), List.take_length]
      exact ⟨h0, hn, k⟩
/- a vertex less -/
theorem deg_zero {es : List Eg} {i : Int} : deg es i = 0 ↔ ∀ e ∈ es, e.a ≠ i ∧ e.b ≠ i := by
  unfold deg
  induction es with
  | nil => simp
  | cons e r ih =>
    rw [List.map_cons, List.sum_cons, Nat.add_eq_zero_iff, ih]
    simp only [List.mem_cons, forall_eq_or_imp]
    refine and_congr_left fun _ => ?_
    unfold dg
    by_cases h1 : e.a = i <;> by_cases h2 : e.b = i <;> simp [h1, h2]
theorem fV_drop {vs : List Vx} {i j : Int} (h : j ≠ i) : fV (vs.filter fun v => v.id != i) j = fV vs j := by
  unfold fV
  induction vs with
  | nil => rfl
  | cons v r ih =>
    rw [List.filter_cons, List.find?_cons]
    by_cases hv : v.id = i
    · have e1 : (v.id != i) = false := by simp [hv]
      have e2 : (v.id == j) = false := by simp; omega
      rw [e1, e2]
      simpa using ih
    · have e1 : (v.id != i) = true := by simp [hv]
      rw [e1]
      simp only [if_true, List.find?_cons]
      rw [ih]
theorem keep_drop {vs : List Vx} {es : List Eg} (h : Rt vs es) {i : Int} (hi : hasV vs i = true) : Rt (vs.filter fun v => v.id != i) es ↔ deg es i = 0 := by
  rw [rt_iff] at h ⊢
  obtain ⟨hV, hE⟩ := h
  rw [deg_zero]
  constructor
  · rintro ⟨kV, kE⟩ e he
    obtain ⟨_, e1, e2⟩ := kE.ends e he
    obtain ⟨u, hu, hu2⟩ := hasV_iff.1 e1
    obtain ⟨v, hv, hv2⟩ := hasV_iff.1 e2
    rw [List.mem_filter] at hu hv
    have := hu.2
    have := hv.2
    simp at *
    omega
  · intro hd
    have hp : ∀ j, j ≠ i → px (vs.filter fun v => v.id != i) j = px vs j ∧ py (vs.filter fun v => v.id != i) j = py vs j ∧ hasV (vs.filter fun v => v.id != i) j = hasV vs j := fun j hj => by
      unfold px py hasV
      rw [fV_drop hj]
      exact ⟨rfl, rfl, rfl⟩
    refine ⟨⟨hV.rise.filter _, fun v hv => hV.one v (List.mem_filter.1 hv).1, fun v hv => hV.rng v (List.mem_filter.1 hv).1, hV.apart.filter _, Nat.le_trans (List.length_filter_le _ _) hV.few⟩, ⟨hE.rise, hE.one, fun e he => ?_, hE.apart, fun e he => ?_, ?_, hE.few⟩⟩
    · obtain ⟨e0, e1, e2⟩ := hE.ends e he
      exact ⟨e0, (hp _ (hd e he).1).2.2.trans e1, (hp _ (hd e he).2).2.2.trans e2⟩
    · rw [(hp _ (hd e he).1).1, (hp _ (hd e he).1).2.1, (hp _ (hd e he).2).1, (hp _ (hd e he).2).2.1]
      exact any_no.2 fun v hv => any_no.1 (hE.off e he) v (List.mem_filter.1 hv).1
    · refine List.Pairwise.imp_of_mem (fun {u e} hu he k => ?_) hE.free
      rw [(hp _ (hd e he).1).1, (hp _ (hd e he).1).2.1, (hp _ (hd e he).2).1, (hp _ (hd e he).2).2.1, (hp _ (hd u hu).1).1, (hp _ (hd u hu).1).2.1, (hp _ (hd u hu).2).1, (hp _ (hd u hu).2).2.1]
      exact k
/- an edge less -/
theorem keep_cut {vs : List Vx} {es : List Eg} (h : Rt vs es) (i : Int) : Rt vs (es.filter fun e => e.id != i) := by
  rw [rt_iff] at h ⊢
  obtain ⟨hV, hE⟩ := h
  exact ⟨hV, ⟨hE.rise.filter _, fun v hv => hE.one v (List.mem_filter.1 hv).1, fun v hv => hE.ends v (List.mem_filter.1 hv).1, hE.apart.filter _, fun v hv => hE.off v (List.mem_filter.1 hv).1, hE.free.filter _, Nat.le_trans (List.length_filter_le _ _) hE.few⟩⟩
/- all degrees together -/
theorem sum_zero {α : Type} (l : List α) : (l.map fun _ => 0).sum = 0 := by
  induction l with
  | nil => rfl
  | cons a l ih => rw [List.map_cons, List.sum_cons, ih]
theorem one_sum {vs : List Vx} (h : vs.Pairwise fun u v => u.id < v.id) {i : Int} (hi : hasV vs i = true) : (vs.map fun v => if i = v.id then 1 else 0).sum = 1 := by
  induction vs with
  | nil => simp [hasV, fV] at hi
  | cons u r ih =>
    rw [List.pairwise_cons] at h
    rw [List.map_cons, List.sum_cons]
    by_cases hu : i = u.id
    · rw [if_pos hu]
      have : ∀ v ∈ r, (if i = v.id then 1 else 0) = 0 := fun v hv => by have := h.1 v hv; rw [if_neg (by omega)]
      have e : (r.map fun v => if i = v.id then 1 else 0) = r.map fun _ => 0 := List.map_congr_left this
      rw [e, sum_zero]
    · rw [if_neg hu, ih h.2]
      obtain ⟨v, hv, hv2⟩ := hasV_iff.1 hi
      rcases List.mem_cons.1 hv with rfl | hv
      · exact absurd hv2.symm hu
      · exact hasV_iff.2 ⟨v, hv, hv2⟩
theorem sum_add {α : Type} (l : List α) (f g : α → Nat) : (l.map fun x => f x + g x).sum = (l.map f).sum + (l.map g).sum := by
  induction l with
  | nil => rfl
  | cons a l ih => simp only [List.map_cons, List.sum_cons, ih]; omega
theorem deg_cons (e : Eg) (r : List Eg) (i : Int) : deg (e :: r) i = dg e i + deg r i := by unfold deg; rw [List.map_cons, List.sum_cons]
theorem deg_sum {vs : List Vx} (h : vs.Pairwise fun u v => u.id < v.id) : ∀ {es : List Eg}, (∀ e ∈ es, hasV vs e.a = true ∧ hasV vs e.b = true) → (vs.map fun v => deg es v.id).sum = 2 * es.length
  | [], _ => by
    have : (vs.map fun v => deg [] v.id) = vs.map fun _ => 0 := List.map_congr_left fun v hv => rfl
    rw [this, sum_zero]; rfl
  | e :: r, he => by
    have ih := deg_sum h (es := r) fun x hx => he x (by simp [hx])
    simp only [deg_cons]
    rw [sum_add, ih]
    unfold dg
    rw [sum_add, one_sum h (he e (by simp)).1, one_sum h (he e (by simp)).2]
    simp; omega
end Go.Proofs.Ythakafnecddliaa.Pl