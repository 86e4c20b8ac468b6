
/- A drawing in memory; the contracts of line, canAdd and canLink. Conditions: those that each theorem names. -/
import Derived.Test.YtibnackmddigaaaPlnC
import Derived.Test.YtibnackmddigaaaMem2
import Derived.Test.YtibnackmddigaaaOps
namespace Go.Proofs.Ytibnackmddigaaa.Pl
open Go.ChangeShapes Go.WideShapes Go.ChangeAt Go.RowKit
set_option linter.unusedVariables false
set_option linter.unusedSimpArgs false

def sgOf (vs : List Vx) (a b : Int) : Sg := ⟨px vs a, py vs a, px vs b, py vs b⟩
def plF (vs : List Vx) (i : Int) : Option Value := (fV vs i).map fun v => k2 (v.x, v.y)
def mtF (vs : List Vx) : List ((Int × Int) × Value) := vs.map fun v => ((v.x, v.y), .int .i64 v.id)
def jnF (es : List Eg) : List ((Int × Int) × Value) := es.map fun e => ((min e.a e.b, max e.a e.b), .int .i64 e.id)
def ptC (vs : List Vx) : List Value := vs.flatMap fun v => [.int .i64 v.x, .int .i64 v.y]
def lpC (L : List (Nat × Sg)) : List Value := L.map fun x => .pointer (some ⟨x.1, 0, none⟩)
/-- a drawing at block d, its maps at m1, m2, m3, its rows pv, lv, its lines L -/
structure Drw (w : World) (B d m1 m2 m3 : Nat) (pv lv : Value) (L : List (Nat × Sg)) (vs : List Vx) (es : List Eg) : Prop where
  own : Own w d 124 #[.map (some m1), .map (some m2), .map (some m3), pv, lv]
  base : B ≤ d ∧ B ≤ m1 ∧ B ≤ m2 ∧ B ≤ m3
  apart : m1 ≠ m2 ∧ m1 ≠ m3 ∧ m2 ≠ m3
  places : MapAt w m1 .i64 (plF vs)
  met : MapG w m2 k2 (mtF vs)
  joined : MapG w m3 k2 (jnF es)
  points : w.ownsRow B 37 2 pv vs.length (ptC vs)
  lines : w.ownsRow B 148 1 lv L.length (lpC L)
  segs : L.map (·.2) = es.map fun e => sgOf vs e.a e.b
  each : ∀ x ∈ L, B ≤ x.1 ∧ LnAt w x.1 x.2
def DrawAt (w : World) (B d : Nat) (vs : List Vx) (es : List Eg) : Prop := ∃ m1 m2 m3 pv lv L, Drw w B d m1 m2 m3 pv lv L vs es
section
variable {w w' : World} {B d m1 m2 m3 : Nat} {pv lv : Value} {L : List (Nat × Sg)} {vs : List Vx} {es : List Eg}
theorem row_below {T : TypeId} {k n : Nat} {v : Value} {xs : List Value} (h : w.ownsRow B T k v n xs) (hb : Below w.heap.size w w') : w'.ownsRow B T k v n xs := by
  have hlt := World.ownsRow.lt h
  refine ⟨h.1, ?_⟩
  rcases h.2 with h2 | ⟨g, cap, cur, rfl, r1, r2, r3⟩
  · exact .inl h2
  · exact .inr ⟨g, cap, cur, rfl, r1, (hb.block g (hlt g rfl).2).trans r2, r3⟩
theorem Drw.below (h : Drw w B d m1 m2 m3 pv lv L vs es) (hb : Below w.heap.size w w') : Drw w' B d m1 m2 m3 pv lv L vs es :=
  ⟨h.own.keep hb, h.base, h.apart, h.places.keep (hb.block _ h.places.in_), h.met.keep (hb.block _ h.met.in_), h.joined.keep (hb.block _ h.joined.in_), row_below h.points hb, row_below h.lines hb, h.segs, fun x hx => ⟨(h.each x hx).1, Own.keep (h.each x hx).2 hb⟩⟩
theorem DrawAt.below (h : DrawAt w B d vs es) (hb : Below w.heap.size w w') : DrawAt w' B d vs es := by
  obtain ⟨m1, m2, m3, pv, lv, L, h⟩ := h
  exact ⟨m1, m2, m3, pv, lv, L, h.below hb⟩
theorem ptC_at : ∀ (vs : List Vx) (i : Nat) (hi : i < vs.length), (ptC vs)[i * 2]? = some (.int .i64 (vs[i]'hi).x) ∧ (ptC vs)[i * 2 + 1]? = some (.int .i64 (vs[i]'hi).y)
  | v :: vs, 0, _ => ⟨rfl, rfl⟩
  | v :: vs, i + 1, hi => by
    have := ptC_at vs i (by simpa using hi)
    rw [show (i + 1) * 2 = i * 2 + 1 + 1 by omega]
    exact this
theorem Drw.ptRd (h : Drw w B d m1 m2 m3 pv lv L vs es) : PtRd w pv (vs.map fun v => (v.x, v.y)) := by
  have hp := h.points
  rcases hp.2 with ⟨h1, h2⟩ | ⟨g, cap, cur, h1, r1, r2, r3, r4, r5, r6⟩
  · exact ⟨none, 0, by rw [h1, List.length_map, h2], by rw [List.length_map]; omega, Nat.zero_le _, fun i hi => by rw [List.length_map] at hi; omega⟩
  · refine ⟨_, cap, by rw [h1, List.length_map], by rw [List.length_map]; exact r3, r4, fun i hi => ⟨g, rfl, fun W hW => ?_⟩⟩
    have ho : Own w g 37 cur := r2
    rw [List.length_map] at hi
    obtain ⟨e1, e2⟩ := ptC_at vs i hi
    have k := (ho.keep hW).at_.1
    rw [k, k, List.getElem_map]
    rw [← r6] at e1 e2
    rw [List.getElem?_take_of_lt (by omega)] at e1 e2
    exact ⟨by simpa using e1, by simpa using e2⟩
theorem Drw.lnRd (h : Drw w B d m1 m2 m3 pv lv L vs es) : LnRd w lv L := by
  have hp := h.lines
  rcases hp.2 with ⟨h1, h2⟩ | ⟨g, cap, cur, h1, r1, r2, r3, r4, r5, r6⟩
  · exact ⟨none, 0, by rw [h1, h2], by omega, Nat.zero_le _, fun x hx => (h.each x hx).2, fun i hi => by omega⟩
  · refine ⟨_, cap, by rw [h1], r3, r4, fun x hx => (h.each x hx).2, fun i hi => ⟨g, rfl, fun W hW => ?_⟩⟩
    have ho : Own w g 148 cur := r2
    have k := (ho.keep hW).at_.1
    rw [k]
    have e : (lpC L)[i]? = some (.pointer (some ⟨(L[i]'hi).1, 0, none⟩)) := by unfold lpC; rw [List.getElem?_map, List.getElem?_eq_getElem hi]; rfl
    rw [← r6, List.getElem?_take_of_lt (by omega)] at e
    simpa using e
theorem Drw.len (h : Drw w B d m1 m2 m3 pv lv L vs es) : L.length = es.length := by
  have := congrArg List.length h.segs
  simpa using this
theorem zero_pt (w : World) : (zeroValue 37).run Try.prog w = .ok (k2 (0, 0)) w := by kernel_rfl
theorem plF_get (vs : List Vx) (i : Int) : (plF vs i).getD (k2 (0, 0)) = .agg #[.int .i64 (px vs i), .int .i64 (py vs i)] := by
  unfold plF px py
  cases fV vs i <;> rfl
set_option maxRecDepth 10000 in
theorem line_of (OD : Own w d 124 #[.map (some m1), .map (some m2), .map (some m3), pv, lv]) (hp : MapAt w m1 .i64 (plF vs)) (i1 i2 : Int) : Calls Try.prog 81 #[.pointer (some ⟨d, 0, none⟩), .int .i64 i1, .int .i64 i2] w fun e w' => ∃ q, e = .returned (.pointer (some ⟨q, 0, none⟩)) ∧ w.heap.size ≤ q ∧ LnAt w' q (sgOf vs i1 i2) ∧ Below w.heap.size w w' := by
  have LK := Lib.hid (fun (i : Int) (W : World) (hW : Below w.heap.size w W) => show (Instr.lookup 118 (.map (some m1)) (.int .i64 i) false).run Try.prog W = .ok (.agg #[.int .i64 (px vs i), .int .i64 (py vs i)]) W from by
    rw [← plF_get]
    exact (hp.keep (hW.block _ hp.in_)).look1 Try.underlying118 Try.underlying3 (zero_pt W) i)
  have hs : sgOf vs i1 i2 = ⟨px vs i1, py vs i1, px vs i2, py vs i2⟩ := rfl
  rw [hs]
  clear hs hp
  have LA := Lib.hid (LK.out i1)
  have LB := Lib.hid (LK.out i2)
  generalize px vs i1 = x1 at *
  generalize py vs i1 = y1 at *
  generalize px vs i2 = x2 at *
  generalize py vs i2 = y2 at *
  clear LK
  go_enter Try.func81, Try.ntmps81
  go_upto_region 1 with fail
  refine region_memo (B := w.heap.size) (L := .val (.pointer (some ⟨d, 0, none⟩)) :: .val (.pointer (some ⟨d, 0, none⟩)) :: .val (.pointer (some ⟨d, 0, none⟩)) :: .val (.map (some m1)) :: .val (.int .i64 i1) :: .val (.agg #[.int .i64 x1, .int .i64 y1]) :: .val (.pointer (some ⟨d, 0, none⟩)) :: .val (.pointer (some ⟨d, 0, none⟩)) :: .val (.pointer (some ⟨d, 0, none⟩)) :: .val (.map (some m1)) :: .val (.int .i64 i2) :: .val (.agg #[.int .i64 x2, .int .i64 y2]) :: .blk 37 2 :: .blk 37 2 :: .put 7 37 #[.int .i64 x1, .int .i64 y1] :: .put 8 37 #[.int .i64 x2, .int .i64 y2] :: []) (by kernel_rfl) (by kernel_rfl) (Nat.le_refl _) (by exact trivial)
    ⟨fun a wv R => (by have h0 : a.tmps[0]? = some (.pointer (some ⟨d, 0, none⟩)) := R.slot 0 rfl; refine .inl ?_; first | (simp [go_sem, execOp, h0]; done) | (simp [go_sem, execOp, h0]; rfl)),
    fun a wv R => (by have h11 : a.tmps[11]? = some (.pointer (some ⟨d, 0, none⟩)) := R.val 0; refine .inl ?_; first | (simp [go_sem, execOp, h11]; done) | (simp [go_sem, execOp, h11]; rfl)),
    fun a wv R => (by have h12 : a.tmps[12]? = some (.pointer (some ⟨d, 0, none⟩)) := R.val 1; refine .inl ?_; first | (simp [go_sem, execOp, h12]; done) | (simp [go_sem, execOp, h12]; rfl)),
    fun a wv R => (by have h13 : a.tmps[13]? = some (.pointer (some ⟨d, 0, none⟩)) := R.val 2; have oc_ := (R.keep OD.drawn trivial).at_.1 0; simp at oc_; refine .inl ?_; first | (simp [go_sem, execOp, h13, oc_]; done) | (simp [go_sem, execOp, h13, oc_]; rfl)),
    fun a wv R => (by have h1 : a.tmps[1]? = some (.int .i64 i1) := R.slot 1 rfl; refine .inl ?_; first | (simp [go_sem, execOp, h1]; done) | (simp [go_sem, execOp, h1]; rfl)),
    fun a wv R => (by have h14 : a.tmps[14]? = some (.map (some m1)) := R.val 3; have h15 : a.tmps[15]? = some (.int .i64 i1) := R.val 4; refine .inl ?_; have hl := LA.out _ (then_ (Below.refl _ _).drew R.below.base (Nat.le_refl _)); simp [go_sem, execOp, h14, h15, hl]),
    fun a wv R => (by have h0 : a.tmps[0]? = some (.pointer (some ⟨d, 0, none⟩)) := R.slot 0 rfl; refine .inl ?_; first | (simp [go_sem, execOp, h0]; done) | (simp [go_sem, execOp, h0]; rfl)),
    fun a wv R => (by have h17 : a.tmps[17]? = some (.pointer (some ⟨d, 0, none⟩)) := R.val 6; refine .inl ?_; first | (simp [go_sem, execOp, h17]; done) | (simp [go_sem, execOp, h17]; rfl)),
    fun a wv R => (by have h18 : a.tmps[18]? = some (.pointer (some ⟨d, 0, none⟩)) := R.val 7; refine .inl ?_; first | (simp [go_sem, execOp, h18]; done) | (simp [go_sem, execOp, h18]; rfl)),
    fun a wv R => (by have h19 : a.tmps[19]? = some (.pointer (some ⟨d, 0, none⟩)) := R.val 8; have oc_ := (R.keep OD.drawn trivial).at_.1 0; simp at oc_; refine .inl ?_; first | (simp [go_sem, execOp, h19, oc_]; done) | (simp [go_sem, execOp, h19, oc_]; rfl)),
    fun a wv R => (by have h2 : a.tmps[2]? = some (.int .i64 i2) := R.slot 2 rfl; refine .inl ?_; first | (simp [go_sem, execOp, h2]; done) | (simp [go_sem, execOp, h2]; rfl)),
    fun a wv R => (by have h20 : a.tmps[20]? = some (.map (some m1)) := R.val 9; have h21 : a.tmps[21]? = some (.int .i64 i2) := R.val 10; refine .inl ?_; have hl := LB.out _ (then_ (Below.refl _ _).drew R.below.base (Nat.le_refl _)); simp [go_sem, execOp, h20, h21, hl]),
    fun a wv R => al_P,
    fun a wv R => al_P,
    fun a wv R => (by have h16 : a.tmps[16]? = some (.agg #[.int .i64 x1, .int .i64 y1]) := R.val 5; exact sb_P (R.dep 12) h16),
    fun a wv R => (by have h22 : a.tmps[22]? = some (.agg #[.int .i64 x2, .int .i64 y2]) := R.val 11; exact sb_P (R.dep 13) h22), trivial⟩ (fun act_ W1 I => ?_)
  obtain ⟨gb7, ew7, lw7, ow7⟩ := I.put 14 rfl rfl
  obtain ⟨gb8, ew8, lw8, ow8⟩ := I.put 15 rfl rfl
  rw [I.act [(11, .pointer (some ⟨d, 0, none⟩)), (12, .pointer (some ⟨d, 0, none⟩)), (13, .pointer (some ⟨d, 0, none⟩)), (14, .map (some m1)), (15, .int .i64 i1), (16, .agg #[.int .i64 x1, .int .i64 y1]), (17, .pointer (some ⟨d, 0, none⟩)), (18, .pointer (some ⟨d, 0, none⟩)), (19, .pointer (some ⟨d, 0, none⟩)), (20, .map (some m1)), (21, .int .i64 i2), (22, .agg #[.int .i64 x2, .int .i64 y2]), (7, .pointer (some ⟨gb7, 0, none⟩)), (8, .pointer (some ⟨gb8, 0, none⟩))]
    ⟨I.val 0, I.val 1, I.val 2, I.val 3, I.val 4, I.val 5, I.val 6, I.val 7, I.val 8, I.val 9, I.val 10, I.val 11, ew7, ew8, trivial⟩ rfl]
  change w.heap.size ≤ gb7 at lw7
  change w.heap.size ≤ gb8 at lw8
  have hW1 : Below w.heap.size w W1 := then_ (Below.refl w.heap.size w).drew I.below.base (Below.refl w.heap.size w).size
  clear ew7 ew8
  clear I
  simp only [List.foldl_cons, List.foldl_nil, List.setIfInBounds_toArray, List.set_cons_zero, List.set_cons_succ]
  obtain ⟨a0, a1⟩ := two_at ow7
  obtain ⟨b0, b1⟩ := two_at ow8
  have G7 := ow7.in_
  have G8 := ow8.in_
  go_wp2
  go_ret
  refine ⟨W1.heap.size + 1 + 1, rfl, by have := hW1.size; omega, Own.made_at (by simp), ?_⟩
  repeat' (first | (with_reducible exact Below.refl _ _) | (with_reducible assumption) | (with_reducible refine below_drewN ?_ _) | (with_reducible refine Below.drew ?_) | (with_reducible refine Below.alloc ?_ ?_ _) | (with_reducible refine Below.setCell ?_ ?_ _) | (with_reducible refine then_ ?_ (by with_reducible assumption) ?_) | (with_reducible exact Nat.le_refl _) | (with_reducible exact Nat.le_succ _) | (with_reducible exact Nat.le_succ_of_le (by with_reducible assumption)) | omega | (simp; done) | (simp; omega) | (exact Nat.le_succ _) | (exact Nat.le_succ_of_le (by with_reducible assumption)))
theorem line_any (h : DrawAt w B d vs es) (i1 i2 : Int) : Calls Try.prog 81 #[.pointer (some ⟨d, 0, none⟩), .int .i64 i1, .int .i64 i2] w fun e w' => ∃ q, e = .returned (.pointer (some ⟨q, 0, none⟩)) ∧ w.heap.size ≤ q ∧ LnAt w' q (sgOf vs i1 i2) ∧ Below w.heap.size w w' := by
  obtain ⟨m1, m2, m3, pv, lv, L, h⟩ := h
  exact line_of h.own h.places i1 i2
theorem lk_isSome {α : Type} [DecidableEq α] (L : List (α × Value)) (a : α) : (lkG L a).isSome = L.any fun p => decide (a = p.1) := by
  unfold lkG
  rw [Option.isSome_map, Bool.eq_iff_iff, List.find?_isSome]
  simp
theorem atV_lk (vs : List Vx) (x y : Int) : (lkG (mtF vs) (x, y)).isSome = atV vs x y := by
  rw [lk_isSome]
  unfold mtF atV
  rw [List.any_map]
  congr 1
  funext v
  rw [Bool.eq_iff_iff]
  simp
  omega
theorem jnL_lk (es : List Eg) (a b : Int) : (lkG (jnF es) (min a b, max a b)).isSome = jnL es a b := by
  rw [lk_isSome]
  unfold jnF jnL
  rw [List.any_map]
  congr 1
  funext e
  rw [Bool.eq_iff_iff]
  simp [jn]
  omega
theorem seg_any {L : List (Nat × Sg)} {vs : List Vx} {es : List Eg} (h : L.map (·.2) = es.map fun e => sgOf vs e.a e.b) (f : Sg → Bool) : (L.any fun x => f x.2) = es.any fun e => f (sgOf vs e.a e.b) := by
  have h1 : (L.any fun x => f x.2) = (L.map (·.2)).any f := by rw [List.any_map]; rfl
  rw [h1, h, List.any_map]
  rfl
theorem onL_seg {L : List (Nat × Sg)} {vs : List Vx} {es : List Eg} (h : L.map (·.2) = es.map fun e => sgOf vs e.a e.b) (x y : Int) : (L.any fun s => s.2.on x y) = onL vs es x y := seg_any h fun s => s.on x y
theorem mtL_seg {L : List (Nat × Sg)} {vs : List Vx} {es : List Eg} (h : L.map (·.2) = es.map fun e => sgOf vs e.a e.b) (t : Sg) : (L.any fun s => t.mt s.2) = mtL vs es t.a t.b t.c t.d := seg_any h fun s => t.mt s
theorem onV_pt (vs : List Vx) (t : Sg) : ((vs.map fun v => (v.x, v.y)).any fun p => t.on p.1 p.2) = onV vs t.a t.b t.c t.d := by rw [List.any_map]; rfl
set_option maxRecDepth 10000 in
theorem allV_any (h : DrawAt w B d vs es) (hn : vs.length ≤ 1000000) : Calls Try.prog 79 #[.pointer (some ⟨d, 0, none⟩)] w fun e w' => e = .returned (.bool (decide (512 ≤ vs.length))) ∧ Below w.heap.size w w' := by
  obtain ⟨m1, m2, m3, pv, lv, L, h⟩ := h
  obtain ⟨a, c, e, _⟩ := h.ptRd
  rw [List.length_map] at e
  subst e
  obtain ⟨q1, q2, q3⟩ := h.own.at_
  have e : decide ((512 : Int) ≤ (vs.length : Int)) = decide (512 ≤ vs.length) := by by_cases k : 512 ≤ vs.length <;> simp [k] <;> omega
  rw [← e]
  clear e
  generalize vs.length = n at *
  clear h
  go_enter Try.func79, Try.ntmps79
  go_wp2
  go_ret
  exact ⟨rfl, Below.refl _ _⟩
set_option maxRecDepth 10000 in
theorem allE_any (h : DrawAt w B d vs es) (hn : es.length ≤ 1000000) : Calls Try.prog 84 #[.pointer (some ⟨d, 0, none⟩)] w fun e w' => e = .returned (.bool (decide (1024 ≤ es.length))) ∧ Below w.heap.size w w' := by
  obtain ⟨m1, m2, m3, pv, lv, L, h⟩ := h
  obtain ⟨a, c, e, _⟩ := h.lnRd
  rw [h.len] at e
  subst e
  obtain ⟨q1, q2, q3⟩ := h.own.at_
  have e : decide ((1024 : Int) ≤ (es.length : Int)) = decide (1024 ≤ es.length) := by by_cases k : 1024 ≤ es.length <;> simp [k] <;> omega
  rw [← e]
  clear e
  generalize es.length = n at *
  clear h
  go_enter Try.func84, Try.ntmps84
  go_wp2
  go_ret
  exact ⟨rfl, Below.refl _ _⟩
set_option maxRecDepth 10000 in
set_option maxHeartbeats 1000000 in
theorem canAdd_any (h : DrawAt w B d vs es) (hn : vs.length ≤ 1000000) (x y : Int) : Calls Try.prog 57 #[.pointer (some ⟨d, 0, none⟩), .agg #[.int .i64 x, .int .i64 y]] w fun e w' => e = .returned (.int .i64 (cAdd vs es x y)) ∧ Below w.heap.size w w' := by
  have HM := Lib.hid (fun W (hW : Below w.heap.size w W) => allV_any (h.below hW) hn)
  obtain ⟨m1, m2, m3, pv, lv, L, h⟩ := h
  have HI := Lib.hid (fun W => In_any x y W)
  have HC := Lib.hid (fun (g : Nat) (W : World) (hW : Below w.heap.size w W) (hg : Own W g 37 #[.int .i64 x, .int .i64 y]) => conL_cap 77 (.pointer (some ⟨g, 0, none⟩)) (fun s => s.2.on x y) lv L W (h.below hW).lnRd (enter_fn Try.func77 rfl rfl)
    fun s hs W2 hW2 => there_any s.1 g s.2 x y W2 (Own.keep ((h.below hW).each s hs).2 hW2) (hg.keep hW2))
  rw [onL_seg h.segs] at HC
  have LK := Lib.hid (fun (W : World) (hW : Below w.heap.size w W) => (h.met.keep (hW.block _ h.met.in_)).look (t := 119) Try.underlying119 key_pt (z := .int .i64 0) (by kernel_rfl) (x, y))
  rw [atV_lk] at LK
  obtain ⟨z, hz⟩ : ∃ z, z = (lkG (mtF vs) (x, y)).getD (.int .i64 0) := ⟨_, rfl⟩
  rw [← hz] at LK
  have E : cAdd vs es x y = if inB x y = false then 5 else if atV vs x y then 7 else if onL vs es x y then 14 else if decide (512 ≤ vs.length) then 18 else 0 := by unfold cAdd; simp
  rw [E]
  have OD := Lib.hid h.own
  clear E hz
  generalize inB x y = i at *
  generalize atV vs x y = t at *
  generalize onL vs es x y = o at *
  generalize decide (512 ≤ vs.length) = m at *
  have B0 : Hid (Below w.heap.size w (w.alloc (.cells #[.int .i64 x, .int .i64 y] 37))) := Lib.hid (bx1 _ _ _)
  have O0 : Hid (Own (w.alloc (.cells #[.int .i64 x, .int .i64 y] 37)) w.heap.size 37 #[.int .i64 x, .int .i64 y]) := Lib.hid (Own.made _ _ _)
  clear h hn
  unfold k2 at LK
  go_enter Try.func57, Try.ntmps57
  go_upto_region 1 with fail
  refine wp_region_seq (fun W => Below w.heap.size w W ∧ Own W w.heap.size 37 #[.int .i64 x, .int .i64 y]) (0 :: 1 :: 2 :: 3 :: 4 :: 5 :: 6 :: 7 :: 8 :: 9 :: 10 :: []) (3 :: 4 :: 5 :: []) (0 :: 1 :: 2 :: 3 :: 4 :: 5 :: 6 :: 7 :: 8 :: 9 :: 10 :: []) (by kernel_rfl) (by kernel_rfl) rfl (by kernel_rfl) rfl (⟨B0.out.drew, O0.out⟩) (by simp only [picked, List.filterMap_cons, List.filterMap_nil, List.getElem?_cons_zero, List.getElem?_cons_succ, Option.map_some]; exact rfl) ?_
  iterate 11
    refine seq_want (v := ?_) rfl rfl (fun W hS => ?_) ?_
    rotate_left
    · first
        | (conv => lhs; simp [go_sem]
           first | done | exact rfl)
        | (have hS := hS rfl
           obtain ⟨q1, q2, q3⟩ := (OD.out.keep hS.1).at_
           obtain ⟨k0, k1⟩ := two_at hS.2
           have lk := LK.out _ hS.1
           conv => lhs; simp [go_sem, *]
           first | done | exact rfl)
    simp only [Act.put, List.setIfInBounds_toArray, List.set_cons_zero, List.set_cons_succ]
  refine seq_end ?_
  have B1 := Lib.hid B0.out.drew
  have O1 := Lib.hid O0.out.drawn
  clear B0 O0 LK
  generalize hW1 : (w.alloc (.cells #[.int .i64 x, .int .i64 y] 37)).drew = W1 at B1 O1 ⊢
  clear hW1
  obtain ⟨k0, k1⟩ := two_at O1.out
  cases i with
  | false =>
    go_wp2_with (go_at_call 75; refine (HI.out _).mono ?_; rintro e w2 ⟨rfl, b2⟩; have B2 := Lib.hid (then_ B1.out b2 B1.out.size); clear b2)
    go_ret
    exact ⟨rfl, B2.out⟩
  | true =>
    cases t with
    | true =>
      go_wp2_with (go_at_call 75; refine (HI.out _).mono ?_; rintro e w2 ⟨rfl, b2⟩; have B2 := Lib.hid (then_ B1.out b2 B1.out.size); clear b2)
      go_ret
      exact ⟨rfl, B2.out⟩
    | false =>
      go_upto_region 6 with (go_at_call 75; refine (HI.out _).mono ?_; rintro e w2 ⟨rfl, b2⟩; have B2 := Lib.hid (then_ B1.out b2 B1.out.size); have O2 := Lib.hid (O1.out.keep b2); clear b2)
      obtain ⟨q1, q2, q3⟩ := (OD.out.keep B2.out).at_
      cases o with
      | true =>
        go_wp2_with (go_at_call 76; refine (HC.out _ _ B2.out O2.out).mono ?_; rintro e w3 ⟨rfl, b3⟩; have B3 := Lib.hid (then_ B2.out b3 B2.out.size); clear b3)
        go_ret
        exact ⟨rfl, B3.out⟩
      | false =>
        cases m with
        | true =>
          go_wp2_with (first
            | (go_at_call 76; refine (HC.out _ _ B2.out O2.out).mono ?_; rintro e w3 ⟨rfl, b3⟩; have B3 := Lib.hid (then_ B2.out b3 B2.out.size); clear b3)
            | (go_at_call 79; refine (HM.out _ B3.out).mono ?_; rintro e w4 ⟨rfl, b4⟩; have B4 := Lib.hid (then_ B3.out b4 B3.out.size); clear b4))
          go_ret
          exact ⟨rfl, B4.out⟩
        | false =>
          go_wp2_with (first
            | (go_at_call 76; refine (HC.out _ _ B2.out O2.out).mono ?_; rintro e w3 ⟨rfl, b3⟩; have B3 := Lib.hid (then_ B2.out b3 B2.out.size); clear b3)
            | (go_at_call 79; refine (HM.out _ B3.out).mono ?_; rintro e w4 ⟨rfl, b4⟩; have B4 := Lib.hid (then_ B3.out b4 B3.out.size); clear b4))
          go_ret
          exact ⟨rfl, B4.out⟩
set_option maxRecDepth 10000 in
set_option maxHeartbeats 2000000 in
theorem canLink_any (h : DrawAt w B d vs es) (hn : es.length ≤ 1000000) (i1 i2 : Int) : Calls Try.prog 59 #[.pointer (some ⟨d, 0, none⟩), .int .i64 i1, .int .i64 i2] w fun e w' => e = .returned (.int .i64 (cLink vs es i1 i2)) ∧ Below w.heap.size w w' := by
  have HM := Lib.hid (fun W (hW : Below w.heap.size w W) => allE_any (h.below hW) hn)
  have HL := Lib.hid (fun W (hW : Below w.heap.size w W) => line_any (h.below hW) i1 i2)
  obtain ⟨m1, m2, m3, pv, lv, L, h⟩ := h
  have HPR := Lib.hid (fun W => pair_any i1 i2 W)
  have HP := Lib.hid (fun (q : Nat) (W : World) (hW : Below w.heap.size w W) (hq : LnAt W q (sgOf vs i1 i2)) => conP_first 78 (.pointer (some ⟨q, 0, none⟩)) (fun p => (sgOf vs i1 i2).on p.1 p.2) pv _ W (h.below hW).ptRd (enter_fn Try.func78 rfl rfl)
    fun p hp W2 hW2 => holds_any q (sgOf vs i1 i2) p.1 p.2 W2 (Own.keep hq hW2))
  rw [onV_pt] at HP
  have HC := Lib.hid (fun (q : Nat) (W : World) (hW : Below w.heap.size w W) (hq : LnAt W q (sgOf vs i1 i2)) => conL_first 83 (.pointer (some ⟨q, 0, none⟩)) (fun s => (sgOf vs i1 i2).mt s.2) lv L W (h.below hW).lnRd (enter_fn Try.func83 rfl rfl)
    fun s hs W2 hW2 => meets_any q s.1 (sgOf vs i1 i2) s.2 W2 (Own.keep hq hW2) (Own.keep ((h.below hW).each s hs).2 hW2))
  rw [mtL_seg h.segs] at HC
  have LJ := Lib.hid (fun (W : World) (hW : Below w.heap.size w W) => (h.joined.keep (hW.block _ h.joined.in_)).look (t := 120) Try.underlying120 key_two (z := .int .i64 0) (by kernel_rfl) (min i1 i2, max i1 i2))
  rw [jnL_lk] at LJ
  obtain ⟨z, hz⟩ : ∃ z, z = (lkG (jnF es) (min i1 i2, max i1 i2)).getD (.int .i64 0) := ⟨_, rfl⟩
  rw [← hz] at LJ
  have LP := Lib.hid (fun (i : Int) (W : World) (hW : Below w.heap.size w W) => show (Instr.lookup 118 (.map (some m1)) (.int .i64 i) true).run Try.prog W = .ok (.tuple #[.agg #[.int .i64 (px vs i), .int .i64 (py vs i)], .bool (hasV vs i)]) W from by
    have k := (h.places.keep (hW.block _ h.places.in_)).look (t := 118) Try.underlying118 Try.underlying3 (zero_pt W) i
    rw [plF_get] at k
    unfold hasV
    rw [k]
    unfold plF
    rw [Option.isSome_map])
  have E : cLink vs es i1 i2 = if (i1 == i2) = true then 1 else if (hasV vs i1 && hasV vs i2) = false then 6 else if jnL es i1 i2 then 7 else if onV vs (sgOf vs i1 i2).a (sgOf vs i1 i2).b (sgOf vs i1 i2).c (sgOf vs i1 i2).d then 14 else if mtL vs es (sgOf vs i1 i2).a (sgOf vs i1 i2).b (sgOf vs i1 i2).c (sgOf vs i1 i2).d then 15 else if decide (1024 ≤ es.length) then 18 else 0 := by unfold cLink sgOf; simp
  rw [E]
  have OD := Lib.hid h.own
  have lkA := LP.out i1 w (Below.refl _ _)
  have lkB := LP.out i2 _ (bx1 w 37 #[.int .i64 (px vs i1), .int .i64 (py vs i1)])
  clear E hz LP
  generalize onV vs (sgOf vs i1 i2).a (sgOf vs i1 i2).b (sgOf vs i1 i2).c (sgOf vs i1 i2).d = o at *
  generalize mtL vs es (sgOf vs i1 i2).a (sgOf vs i1 i2).b (sgOf vs i1 i2).c (sgOf vs i1 i2).d = m at *
  generalize decide (1024 ≤ es.length) = c at *
  generalize sgOf vs i1 i2 = s at *
  generalize hasV vs i1 = ha at *
  generalize hasV vs i2 = hb at *
  generalize px vs i1 = x1 at *
  generalize py vs i1 = y1 at *
  generalize px vs i2 = x2 at *
  generalize py vs i2 = y2 at *
  generalize jnL es i1 i2 = j at *
  clear h hn
  unfold k2 at LJ HPR
  obtain ⟨q1, q2, q3⟩ := OD.out.at_
  have B0 := Lib.hid ((bx1 w 37 #[.int .i64 x1, .int .i64 y1]).alloc (bx1 w 37 #[.int .i64 x1, .int .i64 y1]).size (.cells #[.int .i64 x2, .int .i64 y2] 37))
  obtain ⟨u, hu⟩ : ∃ u, u = (i1 == i2) := ⟨_, rfl⟩
  rw [← hu]
  replace hu := hu.symm
  go_enter Try.func59, Try.ntmps59
  go_upto_region 3 with fail
  generalize hW1 : (w.alloc (.cells #[.int .i64 x1, .int .i64 y1] 37)).alloc (.cells #[.int .i64 x2, .int .i64 y2] 37) = W1 at B0 ⊢
  clear hW1 lkA lkB q1 q2 q3
  refine wp_region_seq (fun W => Below w.heap.size w W) (0 :: 1 :: 2 :: 3 :: 4 :: 5 :: 7 :: 8 :: 9 :: 10 :: 11 :: 12 :: []) (3 :: 7 :: []) (0 :: 1 :: 2 :: 3 :: 4 :: 5 :: 6 :: 7 :: 8 :: 9 :: 10 :: 11 :: 12 :: []) (by kernel_rfl) (by kernel_rfl) rfl (by kernel_rfl) rfl (B0.out.drew) (by simp only [picked, List.filterMap_cons, List.filterMap_nil, List.getElem?_cons_zero, List.getElem?_cons_succ, Option.map_some]; exact rfl) ?_
  iterate 6
    refine seq_want (v := ?_) rfl rfl (fun W hS => ?_) ?_
    rotate_left
    · first
        | (conv => lhs; simp [go_sem]
           first | done | exact rfl)
        | (have hS := hS rfl
           obtain ⟨q1, q2, q3⟩ := (OD.out.keep hS).at_
           have lk := LJ.out _ hS
           conv => lhs; simp [go_sem, *]
           first | done | exact rfl)
    simp only [Act.put, List.setIfInBounds_toArray, List.set_cons_zero, List.set_cons_succ]
  refine seq_on rfl rfl fun K hK => ?_
  go_wp2_with (go_at_call 80; refine (HPR.out _).mono ?_; rintro e w2 ⟨rfl, b2⟩)
  have B2 := Lib.hid (then_ B0.out.drew b2 B0.out.size)
  clear b2
  refine hK _ _ (B2.out) ?_
  clear hK K
  iterate 6
    refine seq_want (v := ?_) rfl rfl (fun W hS => ?_) ?_
    rotate_left
    · first
        | (conv => lhs; simp [go_sem]
           first | done | exact rfl)
        | (have hS := hS rfl
           obtain ⟨q1, q2, q3⟩ := (OD.out.keep hS).at_
           have lk := LJ.out _ hS
           conv => lhs; simp [go_sem, *]
           first | done | exact rfl)
    simp only [Act.put, List.setIfInBounds_toArray, List.set_cons_zero, List.set_cons_succ]
  refine seq_end ?_
  go_upto_region 5 with (go_at_call 81; refine (HL.out _ B2.out).mono ?_; rintro e w5 ⟨q, rfl, lq, l5, b5⟩; have B5 := Lib.hid (then_ B2.out b5 B2.out.size); have L5 := Lib.hid l5; clear b5 lq l5)
  obtain ⟨q1, q2, q3⟩ := (OD.out.keep B5.out).at_
  cases u with
  | true =>
    go_wp2
    go_ret
    exact ⟨rfl, B5.out⟩
  | false =>
    cases ha with
    | false =>
      go_wp2
      go_ret
      exact ⟨rfl, B5.out⟩
    | true =>
      cases hb with
      | false =>
        go_wp2
        go_ret
        exact ⟨rfl, B5.out⟩
      | true =>
        cases j with
        | true =>
          go_wp2
          go_ret
          exact ⟨rfl, B5.out⟩
        | false =>
        cases o with
        | true =>
          go_wp2_with (first
            | (go_at_call 82; refine (HP.out _ _ B5.out L5.out).mono ?_; rintro e w6 ⟨rfl, b6⟩; have B6 := Lib.hid (then_ B5.out b6 B5.out.size); have L6 := Lib.hid (Own.keep L5.out b6); clear b6; obtain ⟨q1, q2, q3⟩ := (OD.out.keep B6.out).at_)
            | (go_at_call 76; refine (HC.out _ _ B6.out L6.out).mono ?_; rintro e w7 ⟨rfl, b7⟩; have B7 := Lib.hid (then_ B6.out b7 B6.out.size); clear b7)
            | (go_at_call 84; refine (HM.out _ B7.out).mono ?_; rintro e w8 ⟨rfl, b8⟩; have B8 := Lib.hid (then_ B7.out b8 B7.out.size); clear b8))
          go_ret
          exact ⟨rfl, B6.out⟩
        | false =>
        cases m with
        | true =>
          go_wp2_with (first
            | (go_at_call 82; refine (HP.out _ _ B5.out L5.out).mono ?_; rintro e w6 ⟨rfl, b6⟩; have B6 := Lib.hid (then_ B5.out b6 B5.out.size); have L6 := Lib.hid (Own.keep L5.out b6); clear b6; obtain ⟨q1, q2, q3⟩ := (OD.out.keep B6.out).at_)
            | (go_at_call 76; refine (HC.out _ _ B6.out L6.out).mono ?_; rintro e w7 ⟨rfl, b7⟩; have B7 := Lib.hid (then_ B6.out b7 B6.out.size); clear b7)
            | (go_at_call 84; refine (HM.out _ B7.out).mono ?_; rintro e w8 ⟨rfl, b8⟩; have B8 := Lib.hid (then_ B7.out b8 B7.out.size); clear b8))
          go_ret
          exact ⟨rfl, B7.out⟩
        | false =>
        cases c with
        | true =>
          go_wp2_with (first
            | (go_at_call 82; refine (HP.out _ _ B5.out L5.out).mono ?_; rintro e w6 ⟨rfl, b6⟩; have B6 := Lib.hid (then_ B5.out b6 B5.out.size); have L6 := Lib.hid (Own.keep L5.out b6); clear b6; obtain ⟨q1, q2, q3⟩ := (OD.out.keep B6.out).at_)
            | (go_at_call 76; refine (HC.out _ _ B6.out L6.out).mono ?_; rintro e w7 ⟨rfl, b7⟩; have B7 := Lib.hid (then_ B6.out b7 B6.out.size); clear b7)
            | (go_at_call 84; refine (HM.out _ B7.out).mono ?_; rintro e w8 ⟨rfl, b8⟩; have B8 := Lib.hid (then_ B7.out b8 B7.out.size); clear b8))
          go_ret
          exact ⟨rfl, B8.out⟩
        | false =>
          go_wp2_with (first
            | (go_at_call 82; refine (HP.out _ _ B5.out L5.out).mono ?_; rintro e w6 ⟨rfl, b6⟩; have B6 := Lib.hid (then_ B5.out b6 B5.out.size); have L6 := Lib.hid (Own.keep L5.out b6); clear b6; obtain ⟨q1, q2, q3⟩ := (OD.out.keep B6.out).at_)
            | (go_at_call 76; refine (HC.out _ _ B6.out L6.out).mono ?_; rintro e w7 ⟨rfl, b7⟩; have B7 := Lib.hid (then_ B6.out b7 B6.out.size); clear b7)
            | (go_at_call 84; refine (HM.out _ B7.out).mono ?_; rintro e w8 ⟨rfl, b8⟩; have B8 := Lib.hid (then_ B7.out b8 B7.out.size); clear b8))
          go_ret
          exact ⟨rfl, B8.out⟩
end
end Go.Proofs.Ytibnackmddigaaa.Pl