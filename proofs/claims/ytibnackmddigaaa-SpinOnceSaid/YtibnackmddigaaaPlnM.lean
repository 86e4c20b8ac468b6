
/- Plans as lists of vertices and edges: which are right, what may be done with them, and what that makes of them. Plain mathematics. No condition but those that each theorem names. -/
import Derived.Test.YtibnackmddigaaaPlnBr
namespace Go.Proofs.Ytibnackmddigaaa.Pl
open Go.ChangeShapes Go.WideShapes Go.ChangeAt Go.RowKit
set_option linter.unusedVariables false
set_option linter.unusedSimpArgs false

structure Vx where
  id : Int
  x : Int
  y : Int
structure Eg where
  id : Int
  a : Int
  b : Int
/-- the first one of a number -/
def fV (vs : List Vx) (i : Int) : Option Vx := vs.find? fun v => v.id == i
def fE (es : List Eg) (i : Int) : Option Eg := es.find? fun e => e.id == i
def hasV (vs : List Vx) (i : Int) : Bool := (fV vs i).isSome
def hasE (es : List Eg) (i : Int) : Bool := (fE es i).isSome
def px (vs : List Vx) (i : Int) : Int := match fV vs i with
  | some v => v.x
  | none => 0
def py (vs : List Vx) (i : Int) : Int := match fV vs i with
  | some v => v.y
  | none => 0
def atV (vs : List Vx) (x y : Int) : Bool := vs.any fun v => decide (v.x = x ∧ v.y = y)
def onV (vs : List Vx) (p1 p2 q1 q2 : Int) : Bool := vs.any fun v => onB v.x v.y p1 p2 q1 q2
def onL (vs : List Vx) (es : List Eg) (x y : Int) : Bool := es.any fun e => onB x y (px vs e.a) (py vs e.a) (px vs e.b) (py vs e.b)
def mtL (vs : List Vx) (es : List Eg) (p1 p2 q1 q2 : Int) : Bool := es.any fun e => mtB p1 p2 q1 q2 (px vs e.a) (py vs e.a) (px vs e.b) (py vs e.b)
def jn (e : Eg) (a b : Int) : Bool := (e.a == a && e.b == b) || (e.a == b && e.b == a)
def jnL (es : List Eg) (a b : Int) : Bool := es.any fun e => jn e a b
/-- what is answered whether a vertex may be added -/
def cAdd (vs : List Vx) (es : List Eg) (x y : Int) : Int :=
  if inB x y = false then 5 else if atV vs x y then 7 else if onL vs es x y then 14 else if 512 ≤ vs.length then 18 else 0
/-- what is answered whether an edge may be added -/
def cLink (vs : List Vx) (es : List Eg) (a b : Int) : Int :=
  if a = b then 1 else if (hasV vs a && hasV vs b) = false then 6 else if jnL es a b then 7 else if onV vs (px vs a) (py vs a) (px vs b) (py vs b) then 14
  else if mtL vs es (px vs a) (py vs a) (px vs b) (py vs b) then 15 else if 1024 ≤ es.length then 18 else 0
/-- step by step -/
def OkV (vs : List Vx) (n : Nat) : Prop := ∀ v, vs[n]? = some v → 0 < v.id ∧ (∀ u ∈ vs.take n, u.id < v.id) ∧ cAdd (vs.take n) [] v.x v.y = 0
def OkE (vs : List Vx) (es : List Eg) (n : Nat) : Prop := ∀ e, es[n]? = some e → 0 < e.id ∧ (∀ u ∈ es.take n, u.id < e.id) ∧ cLink vs (es.take n) e.a e.b = 0
def Rt (vs : List Vx) (es : List Eg) : Prop := (∀ n, OkV vs n) ∧ ∀ n, OkE vs es n
noncomputable def rtB (vs : List Vx) (es : List Eg) : Bool := @decide (Rt vs es) (Classical.propDecidable _)
theorem rtB_iff {vs : List Vx} {es : List Eg} : rtB vs es = true ↔ Rt vs es := by unfold rtB; exact ⟨fun h => @of_decide_eq_true _ (Classical.propDecidable _) h, fun h => @decide_eq_true _ (Classical.propDecidable _) h⟩
theorem rtB_not {vs : List Vx} {es : List Eg} (h : ¬ Rt vs es) : rtB vs es = false := by
  cases e : rtB vs es with
  | false => rfl
  | true => exact absurd (rtB_iff.1 e) h

theorem pw {α : Type} (R : α → α → Prop) (l : List α) : (∀ (n : Nat) (v : α), l[n]? = some v → ∀ u ∈ l.take n, R u v) ↔ l.Pairwise R := by
  rw [List.pairwise_iff_getElem]
  constructor
  · intro h i j hi hj hij
    refine h j _ (List.getElem?_eq_getElem hj) _ ?_
    rw [List.mem_take_iff_getElem]
    exact ⟨i, by omega, rfl⟩
  · intro h n v hv u hu
    obtain ⟨hn, rfl⟩ := List.getElem?_eq_some_iff.1 hv
    rw [List.mem_take_iff_getElem] at hu
    obtain ⟨i, hi, rfl⟩ := hu
    exact h i n (by omega) hn (by omega)
theorem memAt {α : Type} {P : α → Prop} (l : List α) : (∀ (n : Nat) (v : α), l[n]? = some v → P v) ↔ ∀ v ∈ l, P v :=
  ⟨fun h v hv => by obtain ⟨n, hn⟩ := List.mem_iff_getElem?.1 hv; exact h n v hn, fun h n v hv => h v (List.mem_of_getElem? hv)⟩
theorem lenAt {α : Type} (l : List α) (k : Nat) : (∀ (n : Nat) (v : α), l[n]? = some v → n < k) ↔ l.length ≤ k := by
  constructor
  · intro h
    rcases Nat.lt_or_ge k l.length with hk | hk
    · have := h k _ (List.getElem?_eq_getElem hk); omega
    · exact hk
  · intro h n v hv
    obtain ⟨hn, _⟩ := List.getElem?_eq_some_iff.1 hv
    omega
theorem cAdd_ok {vs : List Vx} {es : List Eg} {x y : Int} : cAdd vs es x y = 0 ↔ inB x y = true ∧ atV vs x y = false ∧ onL vs es x y = false ∧ vs.length < 512 := by
  unfold cAdd
  cases h1 : inB x y <;> cases h2 : atV vs x y <;> cases h3 : onL vs es x y <;> simp
theorem cLink_ok {vs : List Vx} {es : List Eg} {a b : Int} : cLink vs es a b = 0 ↔ a ≠ b ∧ hasV vs a = true ∧ hasV vs b = true ∧ jnL es a b = false ∧ onV vs (px vs a) (py vs a) (px vs b) (py vs b) = false ∧ mtL vs es (px vs a) (py vs a) (px vs b) (py vs b) = false ∧ es.length < 1024 := by
  unfold cLink
  by_cases h0 : a = b
  · simp [h0]
  · rw [if_neg h0]
    cases h1 : hasV vs a <;> cases h2 : hasV vs b <;> simp [h0]
    cases h3 : jnL es a b <;> simp
    cases h4 : onV vs (px vs a) (py vs a) (px vs b) (py vs b) <;> simp
    cases h5 : mtL vs es (px vs a) (py vs a) (px vs b) (py vs b) <;> simp
/-- the document's sentence on plans that are right, all at once -/
structure FlV (vs : List Vx) : Prop where
  rise : vs.Pairwise fun u v => u.id < v.id
  one : ∀ v ∈ vs, 0 < v.id
  rng : ∀ v ∈ vs, inB v.x v.y = true
  apart : vs.Pairwise fun u v => ¬ (u.x = v.x ∧ u.y = v.y)
  few : vs.length ≤ 512
structure FlE (vs : List Vx) (es : List Eg) : Prop where
  rise : es.Pairwise fun u v => u.id < v.id
  one : ∀ e ∈ es, 0 < e.id
  ends : ∀ e ∈ es, e.a ≠ e.b ∧ hasV vs e.a = true ∧ hasV vs e.b = true
  apart : es.Pairwise fun u e => jn u e.a e.b = false
  off : ∀ e ∈ es, onV vs (px vs e.a) (py vs e.a) (px vs e.b) (py vs e.b) = false
  free : es.Pairwise fun u e => mtB (px vs e.a) (py vs e.a) (px vs e.b) (py vs e.b) (px vs u.a) (py vs u.a) (px vs u.b) (py vs u.b) = false
  few : es.length ≤ 1024
theorem any_no {α : Type} {l : List α} {p : α → Bool} : l.any p = false ↔ ∀ x ∈ l, p x = false := by rw [List.any_eq_false]; simp
theorem flV_iff {vs : List Vx} : (∀ n, OkV vs n) ↔ FlV vs := by
  unfold OkV
  simp only [cAdd_ok]
  constructor
  · intro h
    refine ⟨(pw _ _).1 fun n v hv u hu => (h n v hv).2.1 u hu, (memAt _).1 fun n v hv => (h n v hv).1, (memAt _).1 fun n v hv => (h n v hv).2.2.1, (pw _ _).1 fun n v hv u hu => ?_, (lenAt _ _).1 fun n v hv => ?_⟩
    · have := any_no.1 (h n v hv).2.2.2.1 u hu
      simpa using this
    · have := (h n v hv).2.2.2.2.2
      obtain ⟨hn, _⟩ := List.getElem?_eq_some_iff.1 hv
      rw [List.length_take] at this
      omega
  · rintro ⟨h1, h2, h3, h4, h5⟩ n v hv
    have hn := (lenAt _ _).2 h5 n v hv
    refine ⟨(memAt _).2 h2 n v hv, (pw _ _).2 h1 n v hv, (memAt _).2 h3 n v hv, any_no.2 fun u hu => ?_, rfl, by rw [List.length_take]; omega⟩
    simpa using (pw _ _).2 h4 n v hv u hu
theorem flE_iff {vs : List Vx} {es : List Eg} : (∀ n, OkE vs es n) ↔ FlE vs es := by
  unfold OkE
  simp only [cLink_ok]
  constructor
  · intro h
    refine ⟨(pw _ _).1 fun n v hv u hu => (h n v hv).2.1 u hu, (memAt _).1 fun n v hv => (h n v hv).1, (memAt _).1 fun n v hv => ⟨(h n v hv).2.2.1, (h n v hv).2.2.2.1, (h n v hv).2.2.2.2.1⟩, (pw _ _).1 fun n v hv u hu => ?_, (memAt _).1 fun n v hv => (h n v hv).2.2.2.2.2.2.1, (pw _ _).1 fun n v hv u hu => ?_, (lenAt _ _).1 fun n v hv => ?_⟩
    · exact any_no.1 (h n v hv).2.2.2.2.2.1 u hu
    · exact any_no.1 (h n v hv).2.2.2.2.2.2.2.1 u hu
    · have := (h n v hv).2.2.2.2.2.2.2.2
      obtain ⟨hn, _⟩ := List.getElem?_eq_some_iff.1 hv
      rw [List.length_take] at this
      omega
  · rintro ⟨h1, h2, h3, h4, h5, h6, h7⟩ n v hv
    have hn := (lenAt _ _).2 h7 n v hv
    obtain ⟨e1, e2, e3⟩ := (memAt _).2 h3 n v hv
    exact ⟨(memAt _).2 h2 n v hv, (pw _ _).2 h1 n v hv, e1, e2, e3, any_no.2 ((pw _ _).2 h4 n v hv), (memAt _).2 h5 n v hv, any_no.2 ((pw _ _).2 h6 n v hv), by rw [List.length_take]; omega⟩
theorem rt_iff {vs : List Vx} {es : List Eg} : Rt vs es ↔ FlV vs ∧ FlE vs es := by unfold Rt; rw [flV_iff, flE_iff]

/- the place of a number -/
theorem fV_mem {vs : List Vx} {i : Int} {v : Vx} (h : fV vs i = some v) : v ∈ vs ∧ v.id = i := by
  unfold fV at h
  exact ⟨List.mem_of_find?_eq_some h, by simpa using List.find?_some h⟩
theorem hasV_iff {vs : List Vx} {i : Int} : hasV vs i = true ↔ ∃ v ∈ vs, v.id = i := by
  unfold hasV fV
  rw [List.find?_isSome]
  simp
theorem hasV_no {vs : List Vx} {i : Int} : hasV vs i = false ↔ ∀ v ∈ vs, v.id ≠ i := by
  rw [← Bool.not_eq_true, hasV_iff]
  simp
theorem hasE_iff {es : List Eg} {i : Int} : hasE es i = true ↔ ∃ v ∈ es, v.id = i := by
  unfold hasE fE
  rw [List.find?_isSome]
  simp
theorem fV_some {vs : List Vx} {i : Int} (h : hasV vs i = true) : ∃ v, fV vs i = some v := by
  unfold hasV at h
  exact Option.isSome_iff_exists.1 h
theorem px_rng {vs : List Vx} (h : ∀ v ∈ vs, inB v.x v.y = true) {i : Int} (hi : hasV vs i = true) : inB (px vs i) (py vs i) = true := by
  obtain ⟨v, hv⟩ := fV_some hi
  unfold px py
  rw [hv]
  exact h v (fV_mem hv).1
theorem px_apart {vs : List Vx} (h : FlV vs) {i j : Int} (hi : hasV vs i = true) (hj : hasV vs j = true) (hij : i ≠ j) : decide (px vs i = px vs j ∧ py vs i = py vs j) = false := by
  obtain ⟨u, hu⟩ := fV_some hi
  obtain ⟨v, hv⟩ := fV_some hj
  unfold px py
  rw [hu, hv]
  obtain ⟨hu1, hu2⟩ := fV_mem hu
  obtain ⟨hv1, hv2⟩ := fV_mem hv
  have hne : u ≠ v := fun e => hij (by rw [← hu2, ← hv2, e])
  have := h.apart
  rw [decide_eq_false_iff_not]
  rw [List.pairwise_iff_getElem] at this
  obtain ⟨m, hm, rfl⟩ := List.mem_iff_getElem.1 hu1
  obtain ⟨n, hn, rfl⟩ := List.mem_iff_getElem.1 hv1
  rcases Nat.lt_trichotomy m n with k | k | k
  · exact this m n hm hn k
  · subst k; exact absurd rfl hne
  · exact fun e => this n m hn hm k ⟨e.1.symm, e.2.symm⟩
/- a vertex more -/
end Go.Proofs.Ytibnackmddigaaa.Pl