
/- A plan's halves in memory (spin's web), and the contract of put. Conditions: those that each theorem names. -/
import Derived.Test.YtibnackmddigaaaSpnA
import Derived.Test.YtibnackmddigaaaPlnG
namespace Go.Proofs.Ytibnackmddigaaa.Pl
open Go.ChangeShapes Go.WideShapes Go.ChangeAt Go.RowKit Go.Proofs.Ytibnackmddigaaa.Mp
set_option linter.unusedVariables false
set_option linter.unusedSimpArgs false

/-- a half, from which vertex it goes, and to which -/
abbrev Wy := Hf × Vx × Vx
def wV (x : Vx × Vx) : Value := .agg #[.int .i64 x.1.id, .int .i64 x.1.x, .int .i64 x.1.y, .int .i64 x.2.id, .int .i64 x.2.x, .int .i64 x.2.y]
/-- a vertex' number, its row, what is in it -/
abbrev Rw := Int × Value × List Hf
def mL (M : List Rw) : List (Int × Value) := M.map fun x => (x.1, x.2.1)
structure WebAt (w : World) (B p m2 m3 : Nat) (hv : Value) (H : List Hf) (W2 : List (Hf × Value)) (M : List Rw) : Prop where
  own : Own w p 83 #[hv, .map (some m2), .map (some m3)]
  base : B ≤ p ∧ B ≤ m2 ∧ B ≤ m3
  two : m2 ≠ m3
  halves : HOwn w B hv H
  ways : MapG w m2 hV W2
  leave : MapOf w m3 .i64 (mL M)
  rows : ∀ x ∈ M, HOwn w B x.2.1 x.2.2
  apart : ∀ x ∈ M, ∀ y ∈ M, x.1 ≠ y.1 → ∀ g, x.2.1.ownBlock = some g → y.2.1.ownBlock ≠ some g
  far : ∀ x ∈ M, ∀ g, x.2.1.ownBlock = some g → hv.ownBlock ≠ some g
def WZ (p m2 m3 : Nat) (hv : Value) (M : List Rw) (q : Nat) : Prop := q = p ∨ q = m2 ∨ q = m3 ∨ hv.ownBlock = some q ∨ ∃ x ∈ M, x.2.1.ownBlock = some q
section
variable {w w' : World} {B p m2 m3 : Nat} {hv : Value} {H : List Hf} {W2 : List (Hf × Value)} {M : List Rw}
theorem WebAt.keep {Z : Nat → Prop} (h : WebAt w B p m2 m3 hv H W2 M) (hc : Chg Z w w') (hz : ∀ q, Z q → ¬ WZ p m2 m3 hv M q) : WebAt w' B p m2 m3 hv H W2 M :=
  ⟨hc.own h.own fun k => hz _ k (.inl rfl), h.base, h.two, h.halves.keep hc fun g hg k => hz _ k (.inr (.inr (.inr (.inl hg)))), h.ways.keep (hc.block _ h.ways.in_ fun k => hz _ k (.inr (.inl rfl))),
   h.leave.keep (hc.block _ h.leave.in_ fun k => hz _ k (.inr (.inr (.inl rfl)))), fun x hx => (h.rows x hx).keep hc fun g hg k => hz _ k (.inr (.inr (.inr (.inr ⟨x, hx, hg⟩)))), h.apart, h.far⟩
theorem WebAt.below (h : WebAt w B p m2 m3 hv H W2 M) (hb : Below w.heap.size w w') : WebAt w' B p m2 m3 hv H W2 M := h.keep (Chg.of (S := fun _ => False) hb) fun _ k => k.elim
theorem WebAt.foot (h : WebAt w B p m2 m3 hv H W2 M) {q : Nat} (k : WZ p m2 m3 hv M q) : B ≤ q ∧ q < w.heap.size := by
  rcases k with rfl | rfl | rfl | k | ⟨x, hx, k⟩
  · exact ⟨h.base.1, h.own.in_⟩
  · exact ⟨h.base.2.1, h.ways.in_⟩
  · exact ⟨h.base.2.2, h.leave.in_⟩
  · exact ⟨(h.halves.own k).1, h.halves.lt k⟩
  · exact ⟨((h.rows x hx).own k).1, (h.rows x hx).lt k⟩
/-- a row of halves isn't a map, nor the web -/
theorem row_far {v : Value} {L : List Hf} (h : HOwn w B v L) {g : Nat} (hg : v.ownBlock = some g) : (∀ {q : Nat} {T : TypeId} {cs : Array Value}, Own w q T cs → T ≠ 42 → q ≠ g) ∧ (∀ {q : Nat} {es : Array MapEntry} {ck : Nat}, w.heap[q]? = some (.map es ck) → q ≠ g) := by
  obtain ⟨_, cur, ho⟩ := h.own hg
  refine ⟨fun h1 h2 => own_ne h1 ho h2, fun h1 e => ?_⟩
  subst e
  unfold Own at ho
  rw [ho] at h1
  cases h1
theorem mapG_obj {α : Type} {K : α → Value} {L : List (α × Value)} {b : Nat} (h : MapG w b K L) : ∃ es ck, w.heap[b]? = some (.map es ck) := by
  obtain ⟨es, ck, e, _⟩ := h
  exact ⟨es, ck, e⟩
theorem mapOf_obj {k : IntKind} {L : List (Int × Value)} {b : Nat} (h : MapOf w b k L) : ∃ es ck, w.heap[b]? = some (.map es ck) := by
  obtain ⟨es, ck, e, _⟩ := h
  exact ⟨es, ck, e⟩
/-- halves more, and their slice stored -/
theorem WebAt.up1 (h : WebAt w B p m2 m3 hv H W2 M) {v9 : Value} {H' : List Hf} (hg : w.grownBy w' hv.ownBlock) (hr : HOwn w' B v9 H') (hl : v9.ownBlock = hv.ownBlock ∨ ∀ g, v9.ownBlock = some g → w.heap.size ≤ g) :
    WebAt (w'.setCell ⟨p, 0, none⟩ v9) B p m2 m3 v9 H' W2 M ∧ Chg (WZ p m2 m3 hv M) w (w'.setCell ⟨p, 0, none⟩ v9) ∧ ∀ q, WZ p m2 m3 v9 M q → WZ p m2 m3 hv M q ∨ w.heap.size ≤ q := by
  have c1 : Chg (fun q => hv.ownBlock = some q) w w' := (Chg.refl _ _).grown hg fun k hk => .inl hk
  have op := c1.own h.own fun k => (row_far h.halves k).1 h.own (by decide) rfl
  have c2 : Chg (fun q => q = p) w' (w'.setCell ⟨p, 0, none⟩ v9) := (Chg.refl (fun q => q = p) w').set ⟨p, 0, none⟩ (.inl rfl) _
  obtain ⟨es2, ck2, e2⟩ := mapG_obj h.ways
  obtain ⟨es3, ck3, e3⟩ := mapOf_obj h.leave
  have w1 := h.ways.keep (c1.block _ h.ways.in_ fun k => (row_far h.halves k).2 e2 rfl)
  have l1 := h.leave.keep (c1.block _ h.leave.in_ fun k => (row_far h.halves k).2 e3 rfl)
  have r1 : ∀ x ∈ M, HOwn w' B x.2.1 x.2.2 := fun x hx => (h.rows x hx).keep c1 fun g hg k => h.far x hx g hg k
  refine ⟨⟨(op.put 0 _).as (by simp), h.base, h.two, hr.keep c2 fun g hg k => (row_far hr hg).1 op (by decide) k.symm, w1.keep (c2.block _ w1.in_ (w1.ne op)), l1.keep (c2.block _ l1.in_ (l1.ne op)), fun x hx => (r1 x hx).keep c2 fun g hg k => (row_far (r1 x hx) hg).1 op (by decide) k.symm, h.apart, fun x hx g hg k => ?_⟩, ?_, fun q k => ?_⟩
  · rcases hl with e | e
    · exact h.far x hx g hg (e ▸ k)
    · have := e g k
      have := (h.rows x hx).lt hg
      omega
  · exact (c1.mono (T := WZ p m2 m3 hv M) fun q _ k => .inr (.inr (.inr (.inl k)))).same (c2.mono fun q _ k => .inl k)
  · rcases k with k | k | k | k | k
    · exact .inl (.inl k)
    · exact .inl (.inr (.inl k))
    · exact .inl (.inr (.inr (.inl k)))
    · rcases hl with e | e
      · exact .inl (.inr (.inr (.inr (.inl (e ▸ k)))))
      · exact .inr (e q k)
    · exact .inl (.inr (.inr (.inr (.inr k))))
theorem WebAt.up2 (h : WebAt w B p m2 m3 hv H W2 M) (hc : Chg (· = m2) w w') {U : List (Hf × Value)} (hf : MapG w' m2 hV U) : WebAt w' B p m2 m3 hv H U M ∧ Chg (WZ p m2 m3 hv M) w w' := by
  obtain ⟨es2, ck2, e2⟩ := mapG_obj h.ways
  exact ⟨⟨hc.own h.own fun k => (h.ways.ne h.own) k.symm, h.base, h.two, h.halves.keep hc fun g hg k => (row_far h.halves hg).2 e2 k.symm, hf, h.leave.keep (hc.block _ h.leave.in_ fun k => h.two k.symm),
    fun x hx => (h.rows x hx).keep hc fun g hg k => (row_far (h.rows x hx) hg).2 e2 k.symm, h.apart, h.far⟩, hc.mono fun q _ k => .inr (.inl k)⟩
/-- a row of one's own, or none yet -/
def RowOf (w : World) (B : Nat) (M : List Rw) (i : Int) (v : Value) (L : List Hf) : Prop := (i, v, L) ∈ M ∨ ((∀ x ∈ M, x.1 ≠ i) ∧ v = .slice none 0 0 ∧ L = [])
theorem row_of (w : World) (B : Nat) (M : List Rw) (i : Int) : ∃ v L, RowOf w B M i v L := by
  by_cases h : ∃ x ∈ M, x.1 = i
  · obtain ⟨⟨j, v, L⟩, hx, rfl⟩ := h
    exact ⟨v, L, .inl hx⟩
  · exact ⟨_, _, .inr ⟨fun x hx k => h ⟨x, hx, k⟩, rfl, rfl⟩⟩
theorem RowOf.own {i : Int} {v : Value} {L : List Hf} (hr : RowOf w B M i v L) (h : ∀ x ∈ M, HOwn w B x.2.1 x.2.2) : HOwn w B v L := by
  rcases hr with k | ⟨_, rfl, rfl⟩
  · exact h _ k
  · exact HOwn.nil _ _
theorem RowOf.look {i : Int} {v : Value} {L : List Hf} (hr : RowOf w B M i v L) {W : World} {b : Nat} (h : MapOf W b .i64 (mL M)) : (Instr.lookup 81 (.map (some b)) (.int .i64 i) false).run Try.prog W = .ok v W := by
  rcases hr with k | ⟨k, rfl, rfl⟩
  · exact h.look Try.underlying81 Try.underlying3 (z := .slice none 0 0) (by kernel_rfl) (List.mem_map.2 ⟨_, k, rfl⟩)
  · refine h.miss Try.underlying81 Try.underlying3 (z := .slice none 0 0) (by kernel_rfl) fun u hu => ?_
    obtain ⟨x, hx, e⟩ := List.mem_map.1 hu
    exact k x hx (congrArg Prod.fst e)
def mUp (M : List Rw) (i : Int) (v : Value) (L : List Hf) : List Rw := (i, v, L) :: M.filter fun x => x.1 != i
theorem mL_up (M : List Rw) (i : Int) (v : Value) (L : List Hf) : mL (mUp M i v L) = (i, v) :: (mL M).filter fun x => x.1 != i := by
  unfold mL mUp
  rw [List.map_cons, List.filter_map]
  rfl
/-- a row more, and its slice stored -/
theorem WebAt.up3 (h : WebAt w B p m2 m3 hv H W2 M) {i : Int} {v : Value} {L : List Hf} (hi : RowOf w B M i v L) {w2 : World} {v9 : Value} {L' : List Hf} (hg : w.grownBy w' v.ownBlock) (hr : HOwn w' B v9 L') (hl : v9.ownBlock = v.ownBlock ∨ ∀ g, v9.ownBlock = some g → w.heap.size ≤ g)
    (hc : Chg (· = m3) w' w2) (hf : MapOf w2 m3 .i64 ((i, v9) :: (mL M).filter fun x => x.1 != i)) :
    WebAt w2 B p m2 m3 hv H W2 (mUp M i v9 L') ∧ Chg (WZ p m2 m3 hv M) w w2 ∧ ∀ q, WZ p m2 m3 hv (mUp M i v9 L') q → WZ p m2 m3 hv M q ∨ w.heap.size ≤ q := by
  have hv0 := hi.own h.rows
  have c1 : Chg (fun q => v.ownBlock = some q) w w' := (Chg.refl _ _).grown hg fun k hk => .inl hk
  have hin : ∀ g, v.ownBlock = some g → (i, v, L) ∈ M := fun g hg => by
    rcases hi with k | ⟨_, rfl, _⟩
    · exact k
    · cases hg
  have op := c1.own h.own fun k => (row_far hv0 k).1 h.own (by decide) rfl
  obtain ⟨es2, ck2, e2⟩ := mapG_obj h.ways
  obtain ⟨es3, ck3, e3⟩ := mapOf_obj h.leave
  have w1 := h.ways.keep (c1.block _ h.ways.in_ fun k => (row_far hv0 k).2 e2 rfl)
  have l1 := h.leave.keep (c1.block _ h.leave.in_ fun k => (row_far hv0 k).2 e3 rfl)
  have h1 := h.halves.keep c1 fun g hg k => h.far _ (hin g k) g k hg
  have r1 : ∀ x ∈ M, x.1 ≠ i → HOwn w' B x.2.1 x.2.2 := fun x hx hne => (h.rows x hx).keep c1 fun g hg k => h.apart x hx _ (hin g k) hne g hg k
  obtain ⟨es4, ck4, e4⟩ := mapOf_obj l1
  have old : ∀ x ∈ M, ∀ g, x.2.1.ownBlock = some g → g < w.heap.size := fun x hx g hg => (h.rows x hx).lt hg
  refine ⟨⟨hc.own op fun k => (l1.ne op) k.symm, h.base, h.two, h1.keep hc fun g hg k => (row_far h1 hg).2 e4 k.symm, w1.keep (hc.block _ w1.in_ h.two), by rw [mL_up]; exact hf, fun x hx => ?_, fun x hx y hy hne g hg k => ?_, fun x hx g hg k => ?_⟩, ?_, fun q k => ?_⟩
  · rcases List.mem_cons.1 hx with rfl | hx
    · exact hr.keep hc fun g hg k => (row_far hr hg).2 e4 k.symm
    · obtain ⟨hx1, hx2⟩ := List.mem_filter.1 hx
      have r := r1 x hx1 (by simpa using hx2)
      exact r.keep hc fun g hg k => (row_far r hg).2 e4 k.symm
  · have key : ∀ {z : Rw}, z ∈ M → z.1 ≠ i → ∀ g, v9.ownBlock = some g → z.2.1.ownBlock = some g → False := fun {z} hz hzi g k1 k2 => by
      rcases hl with e | e
      · rw [e] at k1
        exact h.apart z hz _ (hin g k1) hzi g k2 k1
      · have := e g k1
        have := old z hz g k2
        omega
    rcases List.mem_cons.1 hx with rfl | hx
    · rcases List.mem_cons.1 hy with rfl | hy
      · exact hne rfl
      · obtain ⟨hy1, hy2⟩ := List.mem_filter.1 hy
        exact key hy1 (by simpa using hy2) g hg k
    · obtain ⟨hx1, hx2⟩ := List.mem_filter.1 hx
      rcases List.mem_cons.1 hy with rfl | hy
      · exact key hx1 (by simpa using hx2) g k hg
      · exact h.apart x hx1 y (List.mem_filter.1 hy).1 hne g hg k
  · rcases List.mem_cons.1 hx with rfl | hx
    · rcases hl with e | e
      · have hg' : v.ownBlock = some g := e ▸ hg
        exact h.far _ (hin g hg') g hg' k
      · have := e g hg
        have := h.halves.lt k
        omega
    · exact h.far x (List.mem_filter.1 hx).1 g hg k
  · exact (c1.mono (T := WZ p m2 m3 hv M) fun q _ k => .inr (.inr (.inr (.inr ⟨_, hin q k, k⟩)))).same (hc.mono fun q _ k => .inr (.inr (.inl k)))
  · rcases k with k | k | k | k | ⟨x, hx, k⟩
    · exact .inl (.inl k)
    · exact .inl (.inr (.inl k))
    · exact .inl (.inr (.inr (.inl k)))
    · exact .inl (.inr (.inr (.inr (.inl k))))
    · rcases List.mem_cons.1 hx with rfl | hx
      · rcases hl with e | e
        · exact .inl (.inr (.inr (.inr (.inr ⟨_, hin q (e ▸ k), e ▸ k⟩))))
        · exact .inr (e q k)
      · exact .inl (.inr (.inr (.inr (.inr ⟨x, (List.mem_filter.1 hx).1, k⟩))))
end
/-- the rows are those of the ways -/
def Lst2 (P : List Wy) (M : List Rw) : Prop := (∀ x ∈ M, x.2.2 ≠ [] ∧ x.2.2 = (P.filter fun y => y.2.1.id == x.1).map (·.1)) ∧ ∀ y ∈ P, ∃ x ∈ M, x.1 = y.2.1.id
theorem Lst2.row {P : List Wy} {M : List Rw} (h : Lst2 P M) {w : World} {B : Nat} {i : Int} {v : Value} {L : List Hf} (hi : RowOf w B M i v L) : L = (P.filter fun y => y.2.1.id == i).map (·.1) := by
  rcases hi with k | ⟨k, _, rfl⟩
  · exact (h.1 _ k).2
  · have : P.filter (fun y => y.2.1.id == i) = [] := List.filter_eq_nil_iff.2 fun y hy e => by
      obtain ⟨x, hx, e2⟩ := h.2 y hy
      exact k x hx (by rw [e2]; simpa using e)
    rw [this]; rfl
theorem Lst2.up {P : List Wy} {M : List Rw} (h : Lst2 P M) {w : World} {B : Nat} {x : Wy} {v v9 : Value} {L : List Hf} (hi : RowOf w B M x.2.1.id v L) : Lst2 (P ++ [x]) (mUp M x.2.1.id v9 (L ++ [x.1])) := by
  have hL := h.row hi
  refine ⟨fun y hy => ?_, fun y hy => ?_⟩
  · rcases List.mem_cons.1 hy with rfl | hy
    · refine ⟨by simp, ?_⟩
      rw [List.filter_append, List.map_append, ← hL]
      simp
    · obtain ⟨h1, h2⟩ := List.mem_filter.1 hy
      have hne : ¬ x.2.1.id = y.1 := fun e => by rw [← e] at h2; simp at h2
      refine ⟨(h.1 y h1).1, ?_⟩
      rw [List.filter_append, List.map_append, ← (h.1 y h1).2]
      simp [hne]
  · rcases List.mem_append.1 hy with hy | hy
    · obtain ⟨z, hz, e⟩ := h.2 y hy
      by_cases k : z.1 = x.2.1.id
      · exact ⟨_, List.mem_cons_self, k ▸ e⟩
      · exact ⟨z, List.mem_cons_of_mem _ (List.mem_filter.2 ⟨hz, by simpa using k⟩), e⟩
    · rw [List.mem_singleton] at hy
      subst hy
      exact ⟨_, List.mem_cons_self, rfl⟩
def wyP (P : List Wy) : List (Hf × Value) := P.map fun x => (x.1, wV x.2)
theorem wyP_snoc (P : List Wy) (x : Wy) : wyP P ++ [(x.1, wV x.2)] = wyP (P ++ [x]) := by simp [wyP]
theorem wyP_none {P : List Wy} {h : Hf} (hn : ∀ y ∈ P, y.1 ≠ h) : lkG (wyP P) h = none := by
  unfold lkG wyP
  rw [List.find?_eq_none.2]
  · rfl
  · intro q hq
    obtain ⟨y, hy, rfl⟩ := List.mem_map.1 hq
    simpa using fun e => hn y hy e.symm
def Web (w : World) (B p : Nat) (P : List Wy) (Z : Nat → Prop) : Prop := ∃ m2 m3 hv M, WebAt w B p m2 m3 hv (P.map (·.1)) (wyP P) M ∧ Lst2 P M ∧ ∀ q, Z q ↔ WZ p m2 m3 hv M q
theorem Web.keep {w w' : World} {B p : Nat} {P : List Wy} {Z S : Nat → Prop} (h : Web w B p P Z) (hc : Chg S w w') (hz : ∀ q, S q → ¬ Z q) : Web w' B p P Z := by
  obtain ⟨m2, m3, hv, M, h1, h2, h3⟩ := h
  exact ⟨m2, m3, hv, M, h1.keep hc fun q k k2 => hz q k ((h3 q).2 k2), h2, h3⟩
theorem Web.below {w w' : World} {B p : Nat} {P : List Wy} {Z : Nat → Prop} (h : Web w B p P Z) (hb : Below w.heap.size w w') : Web w' B p P Z := h.keep (Chg.of (S := fun _ => False) hb) fun _ k => k.elim
theorem Web.foot {w : World} {B p : Nat} {P : List Wy} {Z : Nat → Prop} (h : Web w B p P Z) {q : Nat} (k : Z q) : B ≤ q ∧ q < w.heap.size := by
  obtain ⟨m2, m3, hv, M, h1, h2, h3⟩ := h
  exact h1.foot ((h3 q).1 k)
theorem six_at {w : World} {p : Nat} {T : TypeId} {a b c d e f : Int} (h : Own w p T #[.int .i64 a, .int .i64 b, .int .i64 c, .int .i64 d, .int .i64 e, .int .i64 f]) : w.cell? ⟨p, 0, none⟩ = some (.int .i64 a) ∧ w.cell? ⟨p, 1, none⟩ = some (.int .i64 b) ∧ w.cell? ⟨p, 2, none⟩ = some (.int .i64 c) ∧ w.cell? ⟨p, 3, none⟩ = some (.int .i64 d) ∧ w.cell? ⟨p, 4, none⟩ = some (.int .i64 e) ∧ w.cell? ⟨p, 5, none⟩ = some (.int .i64 f) := by
  have k := (h.at_).1
  exact ⟨k 0, k 1, k 2, k 3, k 4, k 5⟩
set_option maxRecDepth 10000 in
set_option maxHeartbeats 1000000 in
theorem put_any {w : World} {B p : Nat} {P : List Wy} {Z : Nat → Prop} (h : Web w B p P Z) (x : Wy) (hnew : ∀ y ∈ P, y.1 ≠ x.1) (hn : P.length ≤ 100000) (hB : B ≤ w.heap.size) :
    Calls Try.prog 54 #[.pointer (some ⟨p, 0, none⟩), hV x.1, wV x.2] w fun e w' => e = .returned (.tuple #[]) ∧ ∃ Z', Web w' B p (P ++ [x]) Z' ∧ Chg Z w w' ∧ ∀ q, Z' q → Z q ∨ w.heap.size ≤ q := by
  obtain ⟨m2, m3, hv, M, hW, hL, hZ⟩ := h
  obtain ⟨i0, hi0, hz0, hz1, hz2⟩ := info_of info_Half
  have HLK := Lib.hid (wyP_none hnew)
  have HL := Lib.hid hL
  have HZ := Lib.hid hZ
  obtain ⟨⟨xe, xb⟩, ⟨ai, ax, ay⟩, ⟨bi, bx, by_⟩⟩ := x
  unfold hV wV
  simp only at HLK ⊢
  have B0 : Hid (Below w.heap.size w ((w.alloc (.cells #[.int .i64 xe, .bool xb] 42)).alloc (.cells #[.int .i64 ai, .int .i64 ax, .int .i64 ay, .int .i64 bi, .int .i64 bx, .int .i64 by_] 88))) := Lib.hid (by repeat' (first | (with_reducible exact Below.refl _ _) | (with_reducible assumption) | (with_reducible refine below_drewN ?_ _) | (with_reducible refine Below.drew ?_) | (with_reducible refine Below.alloc ?_ ?_ _) | (with_reducible refine Below.setCell ?_ ?_ _) | (with_reducible refine then_ ?_ (by with_reducible assumption) ?_) | (with_reducible exact Nat.le_refl _) | (with_reducible exact Nat.le_succ _) | (with_reducible exact Nat.le_succ_of_le (by with_reducible assumption)) | omega | (simp; done) | (simp; omega) | (exact Nat.le_succ _) | (exact Nat.le_succ_of_le (by with_reducible assumption))))
  have O0 : Hid (Own ((w.alloc (.cells #[.int .i64 xe, .bool xb] 42)).alloc (.cells #[.int .i64 ai, .int .i64 ax, .int .i64 ay, .int .i64 bi, .int .i64 bx, .int .i64 by_] 88)) w.heap.size 42 #[.int .i64 xe, .bool xb]) := Lib.hid ((Own.made _ _ _).more _)
  have Q0 : Hid (Own ((w.alloc (.cells #[.int .i64 xe, .bool xb] 42)).alloc (.cells #[.int .i64 ai, .int .i64 ax, .int .i64 ay, .int .i64 bi, .int .i64 bx, .int .i64 by_] 88)) (w.heap.size + 1) 88 #[.int .i64 ai, .int .i64 ax, .int .i64 ay, .int .i64 bi, .int .i64 bx, .int .i64 by_]) := Lib.hid (Own.made_at (by simp))
  have H0 := Lib.hid (hW.below B0.out)
  have HB0 := Lib.hid (Nat.le_trans hB B0.out.size)
  have FT : Hid (∀ q, WZ p m2 m3 hv M q → q < w.heap.size) := Lib.hid fun q k => (hW.foot k).2
  have C0 : Hid (Chg Z w ((w.alloc (.cells #[.int .i64 xe, .bool xb] 42)).alloc (.cells #[.int .i64 ai, .int .i64 ax, .int .i64 ay, .int .i64 bi, .int .i64 bx, .int .i64 by_] 88))) := Lib.hid (Chg.of B0.out)
  clear hW hL hZ hnew hB
  go_enter Try.func54, Try.ntmps54
  go_upto_region 1 with fail
  generalize hW0 : ((w.alloc (.cells #[.int .i64 xe, .bool xb] 42)).alloc (.cells #[.int .i64 ai, .int .i64 ax, .int .i64 ay, .int .i64 bi, .int .i64 bx, .int .i64 by_] 88)) = W0 at B0 O0 Q0 H0 HB0 C0 ⊢
  clear hW0
  have hlen : (P.map (·.1)).length = P.length := by rw [List.length_map]
  obtain ⟨a3, c3, hpv⟩ := H0.out.halves.shape
  rw [hlen] at hpv
  subst hpv
  have BX : Hid (Below W0.heap.size W0 (W0.alloc (.cells #[.int .i64 xe, .bool xb] 42)).drew) := Lib.hid ((bx1 _ _ _).drew)
  have RW : Hid (∀ W, Below W0.heap.size W0 W → W.ownsRow B 42 2 (.slice a3 P.length c3) P.length (hC (P.map (·.1)))) := Lib.hid fun W hW => by
    have := H0.out.halves.below hW
    unfold HOwn at this
    rwa [hlen] at this
  have KS : Hid (∀ w9, (W0.alloc (.cells #[.int .i64 xe, .bool xb] 42)).drew.grownBy w9 (Value.slice a3 P.length c3).ownBlock → Own w9 p 83 #[.slice a3 P.length c3, .map (some m2), .map (some m3)] ∧ Own w9 w.heap.size 42 #[.int .i64 xe, .bool xb] ∧ Own w9 (w.heap.size + 1) 88 #[.int .i64 ai, .int .i64 ax, .int .i64 ay, .int .i64 bi, .int .i64 bx, .int .i64 by_]) := Lib.hid fun w9 hg => by
    have hc : Chg (fun q => (Value.slice a3 P.length c3).ownBlock = some q) _ w9 := (Chg.refl _ _).grown hg fun k hk => .inl hk
    have hH := H0.out.halves.below BX.out
    refine ⟨hc.own (H0.out.own.keep BX.out) fun k => (row_far hH k).1 (H0.out.own.keep BX.out) (by decide) rfl, hc.own (O0.out.keep BX.out) fun k => ?_, hc.own (Q0.out.keep BX.out) fun k => (row_far hH k).1 (Q0.out.keep BX.out) (by decide) rfl⟩
    have := FT.out _ (.inr (.inr (.inr (.inl k))))
    omega
  generalize hn9 : P.length = n at *
  refine wp_region_seq (fun W => Own W p 83 #[.slice a3 n c3, .map (some m2), .map (some m3)] ∧ Own W w.heap.size 42 #[.int .i64 xe, .bool xb]) (0 :: 1 :: 2 :: 3 :: 4 :: 5 :: 8 :: 9 :: []) (4 :: 5 :: []) (0 :: 1 :: 2 :: 3 :: 4 :: 5 :: 6 :: 7 :: 8 :: 9 :: 10 :: []) (by kernel_rfl) (by kernel_rfl) rfl (by kernel_rfl) rfl (⟨H0.out.own, O0.out⟩) (by simp only [picked, List.filterMap_cons, List.filterMap_nil, List.getElem?_cons_zero, List.getElem?_cons_succ, Option.map_some]; exact rfl) ?_
  iterate 6
    refine seq_want (v := ?_) rfl rfl (fun W hS => ?_) ?_
    rotate_left
    · first
        | (conv => lhs; simp [go_sem]
           first | done | exact rfl)
        | (have hS := hS rfl
           obtain ⟨q1, q2, q3⟩ := hS.1.at_
           obtain ⟨g1, g2⟩ := half_at hS.2
           conv => lhs; simp [go_sem, *]
           first | done | exact rfl)
    simp only [Act.put, List.setIfInBounds_toArray, List.set_cons_zero, List.set_cons_succ]
  refine seq_on rfl rfl fun K hK => ?_
  go_wp2
  refine hK _ _ (⟨H0.out.own.keep BX.out, O0.out.keep BX.out⟩) ?_
  clear hK K
  refine seq_on rfl rfl fun K hK => ?_
  go_wp2_with (at_builtin; refine wpList_append_own_at _ rfl _ _ 40 rfl B 42 i0 (.agg #[.int .i64 0, .bool false]) 2 16 Try.underlying40 hi0 hz0 hz1 hz2 rfl (by decide) (.slice a3 n c3) n (hC (P.map (·.1))) rfl (RW.out _ BX.out) ⟨W0.heap.size, 0, none⟩ 1 1 [.int .i64 xe, .bool xb] rfl rfl (fun j u hu => new_two W0 _ _ _ j hu) (by intro u hu; simp at hu; rcases hu with rfl | rfl <;> rfl) (by unfold maxLen; omega) (by omega) (by have := BX.out.size; have := HB0.out; omega) ?_; intro v9 w9 hown hgrow hnil hloc; obtain ⟨ya, yc, rfl⟩ := row_shape hown; have HO9 := Lib.hid hown; have HG9 := Lib.hid hgrow; have HX9 := Lib.hid hloc; clear hown hgrow hnil hloc)
  have S9 := Lib.hid (KS.out _ HG9.out)
  obtain ⟨q1, q2, q3⟩ := S9.out.1.at_
  refine hK _ _ ⟨S9.out.1, S9.out.2.1⟩ ?_
  clear hK K
  iterate 2
    refine seq_want (v := ?_) rfl rfl (fun W hS => ?_) ?_
    rotate_left
    · first
        | (conv => lhs; simp [go_sem]
           first | done | exact rfl)
        | (have hS := hS rfl
           obtain ⟨q1, q2, q3⟩ := hS.1.at_
           obtain ⟨g1, g2⟩ := half_at hS.2
           conv => lhs; simp [go_sem, *]
           first | done | exact rfl)
    simp only [Act.put, List.setIfInBounds_toArray, List.set_cons_zero, List.set_cons_succ]
  refine seq_last rfl rfl (by kernel_rfl) rfl fun K hK => ?_
  go_wp2
  refine hK _ _ ?_
  clear hK K
  refine seq_end ?_
  have U1 := (H0.out.below BX.out).up1 (H' := P.map (·.1) ++ [(xe, xb)]) HG9.out (by have := HO9.out; unfold HOwn; rw [hC_app, hC_one, List.length_append, hlen]; exact this) (HX9.out.imp id fun e g k => by rw [e] at k; injection k with k; omega)
  have H1 := Lib.hid U1.1
  have C1 : Hid (Chg Z w (w9.setCell ⟨p, 0, none⟩ (.slice ya (n + 1) yc))) := Lib.hid ((C0.out.same (Chg.of BX.out)).same (U1.2.1.mono fun q _ k => (HZ.out q).2 k))
  have F1 : Hid (∀ q, WZ p m2 m3 (.slice ya (n + 1) yc) M q → Z q ∨ w.heap.size ≤ q) := Lib.hid fun q k => (U1.2.2 q k).imp (HZ.out q).2 fun e => by have := BX.out.size; have := B0.out.size; omega
  have N1 : Hid (∀ q, WZ p m2 m3 (.slice ya (n + 1) yc) M q → q ≠ w.heap.size ∧ q ≠ w.heap.size + 1) := Lib.hid fun q k => by
    have hs : w.heap.size + 2 ≤ W0.heap.size := Q0.out.in_
    rcases U1.2.2 q k with e | e
    · have := FT.out q e; omega
    · have := BX.out.size; omega
  have KH := KS.out _ HG9.out
  have K2 : Chg (· = p) w9 (w9.setCell ⟨p, 0, none⟩ (.slice ya (n + 1) yc)) := (Chg.refl (· = p) w9).set ⟨p, 0, none⟩ (.inl rfl) _
  have hp1 : w.heap.size ≠ p := fun e => own_ne KH.2.1 KH.1 (by decide) e
  have hp2 : w.heap.size + 1 ≠ p := fun e => own_ne KH.2.2 KH.1 (by decide) e
  have O1 := Lib.hid (K2.own KH.2.1 hp1)
  have Q1 := Lib.hid (K2.own KH.2.2 hp2)
  have Z1 : Hid (w.heap.size ≤ (w9.setCell ⟨p, 0, none⟩ (.slice ya (n + 1) yc)).heap.size) := Lib.hid C1.out.size
  clear U1 KH K2 hp1 hp2 KS RW H0 O0 Q0 C0 B0 BX HO9 HG9 HX9 HB0 FT
  generalize hW1 : w9.setCell ⟨p, 0, none⟩ (.slice ya (n + 1) yc) = W1 at *
  clear hW1
  -- the ways
  have B1d : Below W1.heap.size W1 W1.drew := (Below.refl _ _).drew
  have H2 := Lib.hid (H1.out.below B1d)
  have O2 := Lib.hid (O1.out.keep B1d)
  have Q2 := Lib.hid (Q1.out.keep B1d)
  obtain ⟨w2, r2, p2, c2, z2⟩ := H2.out.ways.put (t := 80) Try.underlying80 key_half (xe, xb) (wV (⟨ai, ax, ay⟩, ⟨bi, bx, by_⟩)) HLK.out
  have U2 := H2.out.up2 c2 p2
  have H3 := Lib.hid U2.1
  have C3 : Hid (Chg Z w w2) := Lib.hid ((C1.out.same (Chg.of B1d)).trans U2.2 fun q hq k => (F1.out q k).elim id fun e => absurd hq (Nat.not_lt.2 e))
  have O3 := Lib.hid (c2.own O2.out fun k => (H2.out.ways.ne O2.out) k.symm)
  have Q3 := Lib.hid (c2.own Q2.out fun k => (H2.out.ways.ne Q2.out) k.symm)
  unfold hV wV at r2
  simp only at r2
  clear U2 p2 c2 z2 B1d
  go_upto_region 2 with fail
  refine wp_region_seq (fun W => W = W1.drew) (0 :: 1 :: 2 :: 3 :: 4 :: 5 :: []) (3 :: 4 :: 5 :: []) (0 :: 1 :: 2 :: 3 :: 4 :: 5 :: 6 :: []) (by kernel_rfl) (by kernel_rfl) rfl (by kernel_rfl) rfl (rfl) (by simp only [picked, List.filterMap_cons, List.filterMap_nil, List.getElem?_cons_zero, List.getElem?_cons_succ, Option.map_some]; exact rfl) ?_
  iterate 6
    refine seq_want (v := ?_) rfl rfl (fun W hS => ?_) ?_
    rotate_left
    · first
        | (conv => lhs; simp [go_sem]
           first | done | exact rfl)
        | (have hS := hS rfl
           subst hS
           obtain ⟨q1, q2, q3⟩ := H2.out.own.at_
           obtain ⟨g1, g2⟩ := half_at O2.out
           obtain ⟨f1, f2, f3, f4, f5, f6⟩ := six_at Q2.out
           conv => lhs; simp [go_sem, *]
           first | done | exact rfl)
    simp only [Act.put, List.setIfInBounds_toArray, List.set_cons_zero, List.set_cons_succ]
  refine seq_last rfl rfl (by kernel_rfl) rfl fun K hK => ?_
  go_wp2
  refine hK _ _ ?_
  clear hK K
  refine seq_end ?_
  clear r2 H1 O1 Q1 H2 O2 Q2 C1 HLK
  -- the row
  obtain ⟨v, L, hi⟩ := row_of w2 B M ai
  have HI := Lib.hid hi
  clear hi
  have hLn : L.length ≤ n := by
    rw [HL.out.row HI.out, List.length_map, ← hn9]
    exact List.length_filter_le _ _
  have hv0 := HI.out.own H3.out.rows
  obtain ⟨a4, c4, hpv⟩ := hv0.shape
  subst hpv
  obtain ⟨l, hl⟩ : ∃ l, l = L.length := ⟨_, rfl⟩
  have BX : Hid (Below w2.heap.size w2 (w2.alloc (.cells #[.int .i64 xe, .bool xb] 42)).drew) := Lib.hid ((bx1 _ _ _).drew)
  have RW : Hid (∀ W, Below w2.heap.size w2 W → W.ownsRow B 42 2 (.slice a4 L.length c4) L.length (hC L)) := Lib.hid fun W hW => hv0.below hW
  have LKF : Hid (∀ W, MapOf W m3 .i64 (mL M) → (Instr.lookup 81 (.map (some m3)) (.int .i64 ai) false).run Try.prog W = .ok (.slice a4 L.length c4) W) := Lib.hid fun W hW => HI.out.look hW
  have HB3 : Hid (B ≤ w2.heap.size) := Lib.hid (Nat.le_of_lt (Nat.lt_of_le_of_lt H3.out.base.1 H3.out.own.in_))
  have KS : Hid (∀ w9, (w2.alloc (.cells #[.int .i64 xe, .bool xb] 42)).drew.grownBy w9 (Value.slice a4 L.length c4).ownBlock → Own w9 p 83 #[.slice ya (n + 1) yc, .map (some m2), .map (some m3)] ∧ Own w9 w.heap.size 42 #[.int .i64 xe, .bool xb] ∧ Own w9 (w.heap.size + 1) 88 #[.int .i64 ai, .int .i64 ax, .int .i64 ay, .int .i64 bi, .int .i64 bx, .int .i64 by_] ∧ MapOf w9 m3 .i64 (mL M)) := Lib.hid fun w9 hg => by
    have hc : Chg (fun q => (Value.slice a4 L.length c4).ownBlock = some q) _ w9 := (Chg.refl _ _).grown hg fun k hk => .inl hk
    have hH := hv0.below BX.out
    have hl3 := H3.out.leave.keep (BX.out.block _ H3.out.leave.in_)
    obtain ⟨es3, ck3, e3⟩ := mapOf_obj hl3
    refine ⟨hc.own (H3.out.own.keep BX.out) fun k => (row_far hH k).1 (H3.out.own.keep BX.out) (by decide) rfl, hc.own (O3.out.keep BX.out) fun k => ?_, hc.own (Q3.out.keep BX.out) fun k => (row_far hH k).1 (Q3.out.keep BX.out) (by decide) rfl, hl3.keep (hc.block _ hl3.in_ fun k => (row_far hH k).2 e3 rfl)⟩
    rcases HI.out with j | ⟨_, j, _⟩
    · exact (N1.out _ (.inr (.inr (.inr (.inr ⟨_, j, k⟩))))).1 rfl
    · rw [j] at k; cases k
  rw [← hl] at hLn RW LKF KS HI
  clear hv0
  have hl' := Lib.hid hl
  clear hl
  go_upto_region 3 with fail
  refine wp_region_seq (fun W => Own W p 83 #[.slice ya (n + 1) yc, .map (some m2), .map (some m3)] ∧ Own W w.heap.size 42 #[.int .i64 xe, .bool xb] ∧ Own W (w.heap.size + 1) 88 #[.int .i64 ai, .int .i64 ax, .int .i64 ay, .int .i64 bi, .int .i64 bx, .int .i64 by_] ∧ MapOf W m3 .i64 (mL M)) (0 :: 1 :: 2 :: 3 :: 4 :: 5 :: 6 :: 7 :: 8 :: 9 :: 10 :: 11 :: 12 :: 13 :: 14 :: 15 :: []) (3 :: 6 :: 10 :: 13 :: 14 :: 15 :: []) (0 :: 1 :: 2 :: 3 :: 4 :: 5 :: 6 :: 7 :: 8 :: 9 :: 10 :: 11 :: 12 :: 13 :: 14 :: 15 :: 16 :: 17 :: 18 :: []) (by kernel_rfl) (by kernel_rfl) rfl (by kernel_rfl) rfl (⟨H3.out.own, O3.out, Q3.out, H3.out.leave⟩) (by simp only [picked, List.filterMap_cons, List.filterMap_nil, List.getElem?_cons_zero, List.getElem?_cons_succ, Option.map_some]; exact rfl) ?_
  iterate 16
    refine seq_want (v := ?_) rfl rfl (fun W hS => ?_) ?_
    rotate_left
    · first
        | (conv => lhs; simp [go_sem]
           first | done | exact rfl)
        | (have hS := hS rfl
           obtain ⟨q1, q2, q3⟩ := hS.1.at_
           obtain ⟨g1, g2⟩ := half_at hS.2.1
           obtain ⟨f1, f2, f3, f4, f5, f6⟩ := six_at hS.2.2.1
           have lk9 := LKF.out _ hS.2.2.2
           conv => lhs; simp [go_sem, *]
           first | done | exact rfl)
    simp only [Act.put, List.setIfInBounds_toArray, List.set_cons_zero, List.set_cons_succ]
  refine seq_on rfl rfl fun K hK => ?_
  go_wp2
  refine hK _ _ (⟨H3.out.own.keep BX.out, O3.out.keep BX.out, Q3.out.keep BX.out, H3.out.leave.keep (BX.out.block _ H3.out.leave.in_)⟩) ?_
  clear hK K
  refine seq_on rfl rfl fun K hK => ?_
  go_wp2_with (at_builtin; refine wpList_append_own_at _ rfl _ _ 40 rfl B 42 i0 (.agg #[.int .i64 0, .bool false]) 2 16 Try.underlying40 hi0 hz0 hz1 hz2 rfl (by decide) (.slice a4 l c4) l (hC L) rfl (RW.out _ BX.out) ⟨w2.heap.size, 0, none⟩ 1 1 [.int .i64 xe, .bool xb] rfl rfl (fun j u hu => new_two w2 _ _ _ j hu) (by intro u hu; simp at hu; rcases hu with rfl | rfl <;> rfl) (by unfold maxLen; omega) (by omega) (by have := BX.out.size; have := HB3.out; omega) ?_; intro v8 w8 hown hgrow hnil hloc; obtain ⟨yd, ye, rfl⟩ := row_shape hown; have HO9 := Lib.hid hown; have HG9 := Lib.hid hgrow; have HX9 := Lib.hid hloc; clear hown hgrow hnil hloc)
  have S9 := Lib.hid (KS.out _ HG9.out)
  obtain ⟨w5, r5, p5, c5, z5⟩ := S9.out.2.2.2.up (t := 81) Try.underlying81 Try.underlying3 ai (.slice yd (l + 1) ye)
  have C5 := Lib.hid c5
  have P5 := Lib.hid p5
  clear c5 p5 z5
  refine hK _ _ S9.out ?_
  clear hK K
  refine seq_last rfl rfl (by kernel_rfl) rfl fun K hK => ?_
  go_wp2
  refine hK _ _ ?_
  clear hK K
  refine seq_end ?_
  have U5 := (H3.out.below BX.out).up3 (w' := w8) (L' := L ++ [(xe, xb)]) HI.out HG9.out (by have := HO9.out; unfold HOwn; rw [hC_app, hC_one, List.length_append, ← hl'.out]; exact this) (HX9.out.imp id fun e g k => by rw [e] at k; injection k with k; omega) C5.out P5.out
  have C6 : Chg Z w w5 := (C3.out.same (Chg.of BX.out)).trans U5.2.1 fun q hq k => (F1.out q k).elim id fun e => absurd hq (Nat.not_lt.2 e)
  refine bodyPost_end (v := .tuple #[]) (results_none Try.results54 _ _ _) rfl ⟨rfl, WZ p m2 m3 (.slice ya (n + 1) yc) (mUp M ai (.slice yd (l + 1) ye) (L ++ [(xe, xb)])), ⟨m2, m3, _, _, ?_, HL.out.up (x := ((xe, xb), ⟨ai, ax, ay⟩, ⟨bi, bx, by_⟩)) HI.out, fun q => Iff.rfl⟩, C6, fun q k => ?_⟩
  · have := U5.1
    rw [← wyP_snoc, List.map_append]
    exact this
  · rcases U5.2.2 q k with e | e
    · exact F1.out q e
    · have := C3.out.size; have := BX.out.size; exact .inr (by omega)
end Go.Proofs.Ytibnackmddigaaa.Pl