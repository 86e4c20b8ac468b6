
/- The contracts of add, link and draw. Conditions: those that each theorem names. -/
import Derived.Test.YtibnackmddigaaaPlnD
import Derived.Laws.OwnMore
namespace Go.Proofs.Ytibnackmddigaaa.Pl
open Go.ChangeShapes Go.WideShapes Go.ChangeAt Go.RowKit
set_option linter.unusedVariables false
set_option linter.unusedSimpArgs false

/-- a drawing's blocks that calls turn, by what lies in them -/
def DT (w : World) (B q : Nat) : Prop := B ≤ q ∧ ((∃ es ck, w.heap[q]? = some (.map es ck)) ∨ ∃ T cs, Own w q T cs ∧ (T = 124 ∨ T = 37 ∨ T = 148))
section
variable {w w' : World} {B d m1 m2 m3 : Nat} {pv lv : Value} {L : List (Nat × Sg)} {vs : List Vx} {es : List Eg}
theorem own_ne {p q : Nat} {T U : TypeId} {cs ds : Array Value} (h : Own w p T cs) (k : Own w q U ds) (hT : T ≠ U) : p ≠ q := by
  rintro rfl
  unfold Own at h k
  rw [h] at k
  injection k with k
  injection k with _ e
  exact hT e
theorem row_own {T : TypeId} {k n : Nat} {v : Value} {xs : List Value} (h : w.ownsRow B T k v n xs) {g : Nat} (hg : v.ownBlock = some g) : B ≤ g ∧ ∃ cur, Own w g T cur := by
  rcases h.2 with ⟨rfl, _⟩ | ⟨g', cap, cur, rfl, r1, r2, _⟩
  · cases hg
  · injection hg with hg
    have hg : g' = g := hg
    subst hg
    exact ⟨r1, cur, r2⟩
theorem row_keep {T : TypeId} {k n : Nat} {v : Value} {xs : List Value} {Z : Nat → Prop} (hc : Chg Z w w') (h : w.ownsRow B T k v n xs) (hz : ∀ g, v.ownBlock = some g → ¬ Z g) : w'.ownsRow B T k v n xs := by
  have hlt := World.ownsRow.lt h
  refine ⟨h.1, ?_⟩
  rcases h.2 with h2 | ⟨g, cap, cur, rfl, r1, r2, r3⟩
  · exact .inl h2
  · exact .inr ⟨g, cap, cur, rfl, r1, (hc.block g (hlt g rfl).2 (hz g rfl)).trans r2, r3⟩
theorem row_shape {T : TypeId} {k n : Nat} {v : Value} {xs : List Value} (h : w.ownsRow B T k v n xs) : ∃ a c, v = .slice a n c := by
  rcases h.2 with ⟨rfl, h2⟩ | ⟨g, cap, cur, rfl, _⟩
  · exact ⟨none, 0, by rw [h2]⟩
  · exact ⟨_, _, rfl⟩
theorem info_Point : (Try.prog.info? 37).map (fun i => (i.zero, i.size, i.bytes)) = some (some (.agg #[.int .i64 0, .int .i64 0]), 2, 16) := by kernel_rfl
theorem info_ptr : (Try.prog.info? 148).map (fun i => (i.zero, i.size, i.bytes)) = some (some (.pointer none), 1, 8) := by kernel_rfl
theorem info_of {T : TypeId} {z : Value} {s b : Nat} (h : (Try.prog.info? T).map (fun i => (i.zero, i.size, i.bytes)) = some (some z, s, b)) : ∃ i, Try.prog.info? T = some i ∧ i.zero = some z ∧ i.size = s ∧ i.bytes = b := by
  cases e : Try.prog.info? T with
  | none => rw [e] at h; cases h
  | some i =>
    rw [e] at h
    simp only [Option.map_some, Option.some.injEq, Prod.mk.injEq] at h
    exact ⟨i, rfl, h.1, h.2.1, h.2.2⟩
theorem new_two (W : World) (T : TypeId) (x y : Value) (j : Nat) {t : Value} (hu : [x, y][j]? = some t) : (W.alloc (.cells #[x, y] T)).cell? ((⟨W.heap.size, 0, none⟩ : Addr).add j) = some t := by
  have e : (⟨W.heap.size, 0, none⟩ : Addr).add j = ⟨W.heap.size, j, none⟩ := by unfold Addr.add; split <;> simp_all
  rw [e]
  have := (Own.made W T #[x, y]).at_.1 j
  exact this.trans (by simpa using hu)
/-- a drawing whose parts may be of unlike lists -/
structure Dr5 (w : World) (B d m1 m2 m3 : Nat) (pv lv : Value) (L : List (Nat × Sg)) (V1 V2 V3 : List Vx) (E1 : List Eg) : Prop where
  own : Own w d 124 #[.map (some m1), .map (some m2), .map (some m3), pv, lv]
  base : B ≤ d ∧ B ≤ m1 ∧ B ≤ m2 ∧ B ≤ m3
  apart : m1 ≠ m2 ∧ m1 ≠ m3 ∧ m2 ≠ m3
  places : MapAt w m1 .i64 (plF V1)
  met : MapG w m2 k2 (mtF V2)
  joined : MapG w m3 k2 (jnF E1)
  points : w.ownsRow B 37 2 pv V3.length (ptC V3)
  lines : w.ownsRow B 148 1 lv L.length (lpC L)
  each : ∀ x ∈ L, B ≤ x.1 ∧ LnAt w x.1 x.2
theorem Drw.five (h : Drw w B d m1 m2 m3 pv lv L vs es) : Dr5 w B d m1 m2 m3 pv lv L vs vs vs es := ⟨h.own, h.base, h.apart, h.places, h.met, h.joined, h.points, h.lines, h.each⟩
variable {V1 V2 V3 : List Vx} {E1 : List Eg}
theorem Dr5.all (h : Dr5 w B d m1 m2 m3 pv lv L vs vs vs es) (hs : L.map (·.2) = es.map fun e => sgOf vs e.a e.b) : Drw w B d m1 m2 m3 pv lv L vs es := ⟨h.own, h.base, h.apart, h.places, h.met, h.joined, h.points, h.lines, hs, h.each⟩
theorem Dr5.below (h : Dr5 w B d m1 m2 m3 pv lv L V1 V2 V3 E1) (hb : Below w.heap.size w w') : Dr5 w' B d m1 m2 m3 pv lv L V1 V2 V3 E1 :=
  ⟨h.own.keep hb, h.base, h.apart, h.places.keep (hb.block _ h.places.in_), h.met.keep (hb.block _ h.met.in_), h.joined.keep (hb.block _ h.joined.in_), row_below h.points hb, row_below h.lines hb, fun x hx => ⟨(h.each x hx).1, Own.keep (h.each x hx).2 hb⟩⟩
theorem Dr5.put1 (h : Dr5 w B d m1 m2 m3 pv lv L V1 V2 V3 E1) (hc : Chg (· = m1) w w') {U : List Vx} (hf : MapAt w' m1 .i64 (plF U)) : Dr5 w' B d m1 m2 m3 pv lv L U V2 V3 E1 :=
  ⟨hc.own h.own fun k => (h.places.ne h.own) k.symm, h.base, h.apart, hf, h.met.keep (hc.block _ h.met.in_ fun k => h.apart.1 k.symm), h.joined.keep (hc.block _ h.joined.in_ fun k => h.apart.2.1 k.symm),
   row_keep hc h.points fun g hg k => by obtain ⟨_, cur, ho⟩ := row_own h.points hg; exact (h.places.ne ho) k.symm,
   row_keep hc h.lines fun g hg k => by obtain ⟨_, cur, ho⟩ := row_own h.lines hg; exact (h.places.ne ho) k.symm,
   fun x hx => ⟨(h.each x hx).1, hc.own (h.each x hx).2 fun k => (h.places.ne (h.each x hx).2) k.symm⟩⟩
theorem Dr5.put2 (h : Dr5 w B d m1 m2 m3 pv lv L V1 V2 V3 E1) (hc : Chg (· = m2) w w') {U : List Vx} (hf : MapG w' m2 k2 (mtF U)) : Dr5 w' B d m1 m2 m3 pv lv L V1 U V3 E1 :=
  ⟨hc.own h.own fun k => (h.met.ne h.own) k.symm, h.base, h.apart, h.places.keep (hc.block _ h.places.in_ fun k => h.apart.1 k), hf, h.joined.keep (hc.block _ h.joined.in_ fun k => h.apart.2.2 k.symm),
   row_keep hc h.points fun g hg k => by obtain ⟨_, cur, ho⟩ := row_own h.points hg; exact (h.met.ne ho) k.symm,
   row_keep hc h.lines fun g hg k => by obtain ⟨_, cur, ho⟩ := row_own h.lines hg; exact (h.met.ne ho) k.symm,
   fun x hx => ⟨(h.each x hx).1, hc.own (h.each x hx).2 fun k => (h.met.ne (h.each x hx).2) k.symm⟩⟩
theorem Dr5.put3 (h : Dr5 w B d m1 m2 m3 pv lv L V1 V2 V3 E1) (hc : Chg (· = m3) w w') {U : List Eg} (hf : MapG w' m3 k2 (jnF U)) : Dr5 w' B d m1 m2 m3 pv lv L V1 V2 V3 U :=
  ⟨hc.own h.own fun k => (h.joined.ne h.own) k.symm, h.base, h.apart, h.places.keep (hc.block _ h.places.in_ fun k => h.apart.2.1 k), h.met.keep (hc.block _ h.met.in_ fun k => h.apart.2.2 k), hf,
   row_keep hc h.points fun g hg k => by obtain ⟨_, cur, ho⟩ := row_own h.points hg; exact (h.joined.ne ho) k.symm,
   row_keep hc h.lines fun g hg k => by obtain ⟨_, cur, ho⟩ := row_own h.lines hg; exact (h.joined.ne ho) k.symm,
   fun x hx => ⟨(h.each x hx).1, hc.own (h.each x hx).2 fun k => (h.joined.ne (h.each x hx).2) k.symm⟩⟩
/-- points more, and their slice stored -/
theorem Dr5.pts (h : Dr5 w B d m1 m2 m3 pv lv L V1 V2 V3 E1) {n c : Nat} {a : Option Addr} {U : List Vx} (hg : w.grownBy w' pv.ownBlock) (hr : w'.ownsRow B 37 2 (.slice a n c) U.length (ptC U)) :
    Dr5 (w'.setCell ⟨d, 3, none⟩ (.slice a n c)) B d m1 m2 m3 (.slice a n c) lv L V1 V2 U E1 ∧ Chg (DT w B) w (w'.setCell ⟨d, 3, none⟩ (.slice a n c)) := by
  have c1 : Chg (fun q => pv.ownBlock = some q) w w' := (Chg.refl _ _).grown hg fun k hk => .inl hk
  have key : ∀ {q : Nat} {T : TypeId} {cs : Array Value}, Own w q T cs → T ≠ 37 → ¬ pv.ownBlock = some q := fun ho hT e => by
    obtain ⟨_, cur, ho2⟩ := row_own h.points e
    exact own_ne ho ho2 hT rfl
  have keym : ∀ {q : Nat}, (∃ es ck, w.heap[q]? = some (.map es ck)) → ¬ pv.ownBlock = some q := fun ho e => by
    obtain ⟨_, cur, ho2⟩ := row_own h.points e
    obtain ⟨es, ck, e2⟩ := ho
    unfold Own at ho2
    rw [ho2] at e2
    cases e2
  have od := c1.own h.own (key h.own (by decide))
  have c2 : Chg (fun q => q = d) w' (w'.setCell ⟨d, 3, none⟩ (.slice a n c)) := (Chg.refl (fun q => q = d) w').set ⟨d, 3, none⟩ (.inl rfl) _
  have p1 := h.places.keep (c1.block _ h.places.in_ (keym (by obtain ⟨es, ck, e, _⟩ := h.places; exact ⟨es, ck, e⟩)))
  have p2 := h.met.keep (c1.block _ h.met.in_ (keym (by obtain ⟨es, ck, e, _⟩ := h.met; exact ⟨es, ck, e⟩)))
  have p3 := h.joined.keep (c1.block _ h.joined.in_ (keym (by obtain ⟨es, ck, e, _⟩ := h.joined; exact ⟨es, ck, e⟩)))
  have p4 := row_keep c1 h.lines fun g hg k => by obtain ⟨_, cur, ho⟩ := row_own h.lines hg; exact key ho (by decide) k
  have p5 : ∀ x ∈ L, B ≤ x.1 ∧ LnAt w' x.1 x.2 := fun x hx => ⟨(h.each x hx).1, c1.own (h.each x hx).2 (key (h.each x hx).2 (by decide))⟩
  refine ⟨⟨(od.put 3 _).as (by simp), h.base, h.apart, p1.keep (c2.block _ p1.in_ (p1.ne od)), p2.keep (c2.block _ p2.in_ (p2.ne od)), p3.keep (c2.block _ p3.in_ (p3.ne od)),
    row_keep c2 hr fun g hg k => by obtain ⟨_, cur, ho⟩ := row_own hr hg; exact own_ne ho od (by decide) k,
    row_keep c2 p4 fun g hg k => by obtain ⟨_, cur, ho⟩ := row_own p4 hg; exact own_ne ho od (by decide) k,
    fun x hx => ⟨(p5 x hx).1, c2.own (p5 x hx).2 (own_ne (p5 x hx).2 od (by decide))⟩⟩, ?_⟩
  refine Chg.same (c1.mono fun q _ e => ?_) ((c2.mono (T := DT w B) fun q _ e => ?_))
  · obtain ⟨hb, cur, ho⟩ := row_own h.points e
    exact ⟨hb, .inr ⟨_, cur, ho, .inr (.inl rfl)⟩⟩
  · subst e
    exact ⟨h.base.1, .inr ⟨_, _, h.own, .inl rfl⟩⟩
/-- lines more, and their slice stored -/
theorem Dr5.lns (h : Dr5 w B d m1 m2 m3 pv lv L V1 V2 V3 E1) {n c : Nat} {a : Option Addr} {U : List (Nat × Sg)} (hg : w.grownBy w' lv.ownBlock) (hr : w'.ownsRow B 148 1 (.slice a n c) U.length (lpC U)) (hU : ∀ x ∈ U, B ≤ x.1 ∧ LnAt w x.1 x.2) :
    Dr5 (w'.setCell ⟨d, 4, none⟩ (.slice a n c)) B d m1 m2 m3 pv (.slice a n c) U V1 V2 V3 E1 ∧ Chg (DT w B) w (w'.setCell ⟨d, 4, none⟩ (.slice a n c)) := by
  have c1 : Chg (fun q => lv.ownBlock = some q) w w' := (Chg.refl _ _).grown hg fun k hk => .inl hk
  have key : ∀ {q : Nat} {T : TypeId} {cs : Array Value}, Own w q T cs → T ≠ 148 → ¬ lv.ownBlock = some q := fun ho hT e => by
    obtain ⟨_, cur, ho2⟩ := row_own h.lines e
    exact own_ne ho ho2 hT rfl
  have keym : ∀ {q : Nat}, (∃ es ck, w.heap[q]? = some (.map es ck)) → ¬ lv.ownBlock = some q := fun ho e => by
    obtain ⟨_, cur, ho2⟩ := row_own h.lines e
    obtain ⟨es, ck, e2⟩ := ho
    unfold Own at ho2
    rw [ho2] at e2
    cases e2
  have od := c1.own h.own (key h.own (by decide))
  have c2 : Chg (fun q => q = d) w' (w'.setCell ⟨d, 4, none⟩ (.slice a n c)) := (Chg.refl (fun q => q = d) w').set ⟨d, 4, none⟩ (.inl rfl) _
  have p1 := h.places.keep (c1.block _ h.places.in_ (keym (by obtain ⟨es, ck, e, _⟩ := h.places; exact ⟨es, ck, e⟩)))
  have p2 := h.met.keep (c1.block _ h.met.in_ (keym (by obtain ⟨es, ck, e, _⟩ := h.met; exact ⟨es, ck, e⟩)))
  have p3 := h.joined.keep (c1.block _ h.joined.in_ (keym (by obtain ⟨es, ck, e, _⟩ := h.joined; exact ⟨es, ck, e⟩)))
  have p4 := row_keep c1 h.points fun g hg k => by obtain ⟨_, cur, ho⟩ := row_own h.points hg; exact key ho (by decide) k
  have p5 : ∀ x ∈ U, B ≤ x.1 ∧ LnAt w' x.1 x.2 := fun x hx => ⟨(hU x hx).1, c1.own (hU x hx).2 (key (hU x hx).2 (by decide))⟩
  refine ⟨⟨(od.put 4 _).as (by simp), h.base, h.apart, p1.keep (c2.block _ p1.in_ (p1.ne od)), p2.keep (c2.block _ p2.in_ (p2.ne od)), p3.keep (c2.block _ p3.in_ (p3.ne od)),
    row_keep c2 p4 fun g hg k => by obtain ⟨_, cur, ho⟩ := row_own p4 hg; exact own_ne ho od (by decide) k,
    row_keep c2 hr fun g hg k => by obtain ⟨_, cur, ho⟩ := row_own hr hg; exact own_ne ho od (by decide) k,
    fun x hx => ⟨(p5 x hx).1, c2.own (p5 x hx).2 (own_ne (p5 x hx).2 od (by decide))⟩⟩, ?_⟩
  refine Chg.same (c1.mono fun q _ e => ?_) ((c2.mono (T := DT w B) fun q _ e => ?_))
  · obtain ⟨hb, cur, ho⟩ := row_own h.lines e
    exact ⟨hb, .inr ⟨_, cur, ho, .inr (.inr rfl)⟩⟩
  · subst e
    exact ⟨h.base.1, .inr ⟨_, _, h.own, .inl rfl⟩⟩
theorem plF_snoc (vs : List Vx) (v : Vx) (h : hasV vs v.id = false) : (fun j => if j = v.id then some (k2 (v.x, v.y)) else plF vs j) = plF (vs ++ [v]) := by
  funext j
  unfold plF fV
  rw [List.find?_append]
  by_cases e : j = v.id
  · subst e
    have : vs.find? (fun u => u.id == v.id) = none := by
      rw [List.find?_eq_none]
      intro u hu
      simpa using hasV_no.1 h u hu
    rw [if_pos rfl, this]
    simp
  · have : (v.id == j) = false := by simpa using fun k => e k.symm
    rw [if_neg e]
    simp [this]
theorem mtF_snoc (vs : List Vx) (v : Vx) : mtF vs ++ [((v.x, v.y), .int .i64 v.id)] = mtF (vs ++ [v]) := by simp [mtF]
theorem jnF_snoc (es : List Eg) (v : Eg) : jnF es ++ [((min v.a v.b, max v.a v.b), .int .i64 v.id)] = jnF (es ++ [v]) := by simp [jnF]
theorem ptC_snoc (vs : List Vx) (v : Vx) : ptC vs ++ [.int .i64 v.x, .int .i64 v.y] = ptC (vs ++ [v]) := by simp [ptC]
theorem lpC_snoc (L : List (Nat × Sg)) (q : Nat × Sg) : lpC L ++ [.pointer (some ⟨q.1, 0, none⟩)] = lpC (L ++ [q]) := by simp [lpC]
end
end Go.Proofs.Ytibnackmddigaaa.Pl