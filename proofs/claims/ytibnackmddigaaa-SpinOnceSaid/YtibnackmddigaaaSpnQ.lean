
/- The contract of the closure by which around sorts. Conditions: that both halves are in the web. -/
import Derived.Test.YtibnackmddigaaaSpnC
import Derived.Test.YtibnackmddigaaaGeoV
namespace Go.Proofs.Ytibnackmddigaaa.Pl
open Go.ChangeShapes Go.WideShapes Go.ChangeAt Go.RowKit Go.Proofs.Ytibnackmddigaaa.Mp
set_option linter.unusedVariables false
set_option linter.unusedSimpArgs false

section
variable {α : Type} [DecidableEq α] {Q : Program} {w : World} {t e kt : TypeId} {b : Nat} {K : α → Value} {L : List (α × Value)}
theorem mapG_get (h : MapG w b K L) (ht : Q.underlying t = some (.map kt e)) (hk : KeyG Q kt K) {z : Value} (hz : (zeroValue e).run Q w = .ok z w) (a : α) :
    (Instr.lookup t (.map (some b)) (K a) false).run Q w = .ok ((lkG L a).getD z) w := by
  obtain ⟨es, ck, hb, hL⟩ := h
  obtain ⟨r, hr, hr2⟩ := ask_run (w := w) hk a L es.toList 0 hL
  have hf : (Instr.findKey kt (K a) es.toList).run Q w = .ok r w := by rw [run_findKey_eq w hk.wide]; exact hr
  rw [← hr2]
  cases r with
  | none => simp [Instr.lookup, run_underlying ht, MapKept.run_getObj_map hb, hk.chk, hf, hz, Result.andThen]
  | some x => simp [Instr.lookup, run_underlying ht, MapKept.run_getObj_map hb, hk.chk, hf, hz, Result.andThen]
end
theorem zero_wy (w : World) : (zeroValue 88).run Try.prog w = .ok (.agg #[.int .i64 0, .int .i64 0, .int .i64 0, .int .i64 0, .int .i64 0, .int .i64 0]) w := by kernel_rfl
set_option maxRecDepth 10000 in
set_option maxHeartbeats 2000000 in
theorem clos_any {w : World} {bx p m2 m3 : Nat} {hv : Value} {P : List Wy} (x y : Hf) (a b c d : Vx) (hx : lkG (wyP P) x = some (wV (a, b))) (hy : lkG (wyP P) y = some (wV (c, d)))
    (OB : Own w bx 72 #[.pointer (some ⟨p, 0, none⟩)]) (OW : Own w p 83 #[hv, .map (some m2), .map (some m3)]) (MW : MapG w m2 hV (wyP P)) :
    Calls Try.prog 73 #[hV x, hV y, .pointer (some ⟨bx, 0, none⟩)] w fun e w' => e = .returned (.int .i64 (rdV a.x a.y b.x b.y d.x d.y)) ∧ Bel w.heap.size w w' := by
  have LK := Lib.hid (fun (h : Hf) (W : World) (hW : Bel w.heap.size w W) => mapG_get (MW.keep (hW.block _ MW.in_)) (t := 80) Try.underlying80 key_half (zero_wy W) h)
  have LA := Lib.hid (LK.out x)
  have LB := Lib.hid (LK.out y)
  rw [hx] at LA
  rw [hy] at LB
  simp only [Option.getD_some] at LA LB
  unfold hV wV at LA LB
  clear LK hx hy MW
  obtain ⟨a1, a2, a3⟩ := a
  obtain ⟨b1, b2, b3⟩ := b
  obtain ⟨c1, c2, c3⟩ := c
  obtain ⟨d1, d2, d3⟩ := d
  obtain ⟨xe, xb⟩ := x
  obtain ⟨ye, yb⟩ := y
  unfold hV
  simp only at LA LB ⊢
  have AR := Lib.hid (fun (W : World) => Go.Proofs.Ytibnackmddigaaa.Around_any (o1 := a2) (o2 := a3) (a1 := b2) (a2 := b3) (b1 := d2) (b2 := d3) W)
  generalize rdV a2 a3 b2 b3 d2 d3 = z at *
  obtain ⟨W0, hW0⟩ : ∃ W0, W0 = (w.alloc (.cells #[.int .i64 xe, .bool xb] 42)).alloc (.cells #[.int .i64 ye, .bool yb] 42) := ⟨_, rfl⟩
  have HB0 : Bel w.heap.size w W0 := by rw [hW0]; repeat' (first | (with_reducible exact Bel.refl _ _) | (with_reducible assumption) | (with_reducible refine bel_drewN ?_ _) | (with_reducible refine Bel.drew ?_) | (with_reducible refine Bel.alloc ?_ ?_ _) | (with_reducible refine Bel.setCell ?_ ?_ _) | (with_reducible refine thenB ?_ (by with_reducible assumption) ?_) | (with_reducible exact Nat.le_refl _) | (with_reducible exact Nat.le_succ _) | (with_reducible exact Nat.le_succ_of_le (by with_reducible assumption)) | omega | (simp; done) | (simp; omega) | (exact Nat.le_succ _) | (exact Nat.le_succ_of_le (by with_reducible assumption)))
  have OB0 : Own W0 bx 72 #[.pointer (some ⟨p, 0, none⟩)] := Own.keepB OB HB0
  have OW0 : Own W0 p 83 #[hv, .map (some m2), .map (some m3)] := Own.keepB OW HB0
  have OX0 : Own W0 w.heap.size 42 #[.int .i64 xe, .bool xb] := by rw [hW0]; exact (Own.made _ _ _).more _
  have OY0 : Own W0 (w.heap.size + 1) 42 #[.int .i64 ye, .bool yb] := by rw [hW0]; exact Own.made_at (by simp)
  clear OB OW
  go_enter Try.func73, Try.ntmps73
  go_upto_region 1 with fail
  rw [← hW0]
  clear hW0
  refine region_memo (B := W0.heap.size) (L := .val (.pointer (some ⟨p, 0, none⟩)) :: .val (.pointer (some ⟨p, 0, none⟩)) :: .val (.pointer (some ⟨p, 1, none⟩)) :: .val (.map (some m2)) :: .val (.agg #[.int .i64 xe, .bool xb]) :: .val (.agg #[.int .i64 a1, .int .i64 a2, .int .i64 a3, .int .i64 b1, .int .i64 b2, .int .i64 b3]) :: .val (.pointer (some ⟨p, 0, none⟩)) :: .val (.pointer (some ⟨p, 0, none⟩)) :: .val (.pointer (some ⟨p, 1, none⟩)) :: .val (.map (some m2)) :: .val (.agg #[.int .i64 ye, .bool yb]) :: .val (.agg #[.int .i64 c1, .int .i64 c2, .int .i64 c3, .int .i64 d1, .int .i64 d2, .int .i64 d3]) :: .blk 88 6 :: .blk 88 6 :: .put 6 88 #[.int .i64 a1, .int .i64 a2, .int .i64 a3, .int .i64 b1, .int .i64 b2, .int .i64 b3] :: .put 7 88 #[.int .i64 c1, .int .i64 c2, .int .i64 c3, .int .i64 d1, .int .i64 d2, .int .i64 d3] :: []) (by kernel_rfl) (by kernel_rfl) (Nat.le_refl _) (by exact trivial)
    ⟨fun a wv R => (by have h2 : a.tmps[2]? = some (.pointer (some ⟨bx, 0, none⟩)) := R.slot 2 rfl; have oc_ := (R.keep OB0.drawn trivial).at_.1 0; simp at oc_; refine .inl ?_; first | (simp [go_sem, execOp, h2, oc_]; done) | (simp [go_sem, execOp, h2, oc_]; rfl)),
    fun a wv R => (by have h8 : a.tmps[8]? = some (.pointer (some ⟨p, 0, none⟩)) := R.val 0; refine .inl ?_; first | (simp [go_sem, execOp, h8]; done) | (simp [go_sem, execOp, h8]; rfl)),
    fun a wv R => (by have h9 : a.tmps[9]? = some (.pointer (some ⟨p, 0, none⟩)) := R.val 1; refine .inl ?_; first | (simp [go_sem, execOp, h9]; done) | (simp [go_sem, execOp, h9]; rfl)),
    fun a wv R => (by have h10 : a.tmps[10]? = some (.pointer (some ⟨p, 1, none⟩)) := R.val 2; have oc_ := (R.keep OW0.drawn trivial).at_.1 1; simp at oc_; refine .inl ?_; first | (simp [go_sem, execOp, h10, oc_]; done) | (simp [go_sem, execOp, h10, oc_]; rfl)),
    fun a wv R => (by have h3 : a.tmps[3]? = some (.pointer (some ⟨w.heap.size, 0, none⟩)) := R.slot 3 rfl; obtain ⟨k0, k1⟩ := half_at (R.keep OX0.drawn trivial); refine .inl ?_; simp [go_sem, execOp, h3, k0, k1]),
    fun a wv R => (by have h11 : a.tmps[11]? = some (.map (some m2)) := R.val 3; have h12 : a.tmps[12]? = some (.agg #[.int .i64 xe, .bool xb]) := R.val 4; refine .inl ?_; have hl := LA.out _ (thenB HB0.drew R.below HB0.size); simp [go_sem, execOp, h11, h12, hl]),
    fun a wv R => (by have h2 : a.tmps[2]? = some (.pointer (some ⟨bx, 0, none⟩)) := R.slot 2 rfl; have oc_ := (R.keep OB0.drawn trivial).at_.1 0; simp at oc_; refine .inl ?_; first | (simp [go_sem, execOp, h2, oc_]; done) | (simp [go_sem, execOp, h2, oc_]; rfl)),
    fun a wv R => (by have h14 : a.tmps[14]? = some (.pointer (some ⟨p, 0, none⟩)) := R.val 6; refine .inl ?_; first | (simp [go_sem, execOp, h14]; done) | (simp [go_sem, execOp, h14]; rfl)),
    fun a wv R => (by have h15 : a.tmps[15]? = some (.pointer (some ⟨p, 0, none⟩)) := R.val 7; refine .inl ?_; first | (simp [go_sem, execOp, h15]; done) | (simp [go_sem, execOp, h15]; rfl)),
    fun a wv R => (by have h16 : a.tmps[16]? = some (.pointer (some ⟨p, 1, none⟩)) := R.val 8; have oc_ := (R.keep OW0.drawn trivial).at_.1 1; simp at oc_; refine .inl ?_; first | (simp [go_sem, execOp, h16, oc_]; done) | (simp [go_sem, execOp, h16, oc_]; rfl)),
    fun a wv R => (by have h4 : a.tmps[4]? = some (.pointer (some ⟨w.heap.size + 1, 0, none⟩)) := R.slot 4 rfl; obtain ⟨k0, k1⟩ := half_at (R.keep OY0.drawn trivial); refine .inl ?_; simp [go_sem, execOp, h4, k0, k1]),
    fun a wv R => (by have h17 : a.tmps[17]? = some (.map (some m2)) := R.val 9; have h18 : a.tmps[18]? = some (.agg #[.int .i64 ye, .bool yb]) := R.val 10; refine .inl ?_; have hl := LB.out _ (thenB HB0.drew R.below HB0.size); simp [go_sem, execOp, h17, h18, hl]),
    fun a wv R => al_Y,
    fun a wv R => al_Y,
    fun a wv R => (by have h13 : a.tmps[13]? = some (.agg #[.int .i64 a1, .int .i64 a2, .int .i64 a3, .int .i64 b1, .int .i64 b2, .int .i64 b3]) := R.val 5; exact sb_Y (R.dep 12) h13),
    fun a wv R => (by have h19 : a.tmps[19]? = some (.agg #[.int .i64 c1, .int .i64 c2, .int .i64 c3, .int .i64 d1, .int .i64 d2, .int .i64 d3]) := R.val 11; exact sb_Y (R.dep 13) h19), trivial⟩ (fun act_ W5 I => ?_)
  obtain ⟨gb6, ew6, lw6, ow6⟩ := I.put 14 rfl rfl
  obtain ⟨gb7, ew7, lw7, ow7⟩ := I.put 15 rfl rfl
  rw [I.act [(8, .pointer (some ⟨p, 0, none⟩)), (9, .pointer (some ⟨p, 0, none⟩)), (10, .pointer (some ⟨p, 1, none⟩)), (11, .map (some m2)), (12, .agg #[.int .i64 xe, .bool xb]), (13, .agg #[.int .i64 a1, .int .i64 a2, .int .i64 a3, .int .i64 b1, .int .i64 b2, .int .i64 b3]), (14, .pointer (some ⟨p, 0, none⟩)), (15, .pointer (some ⟨p, 0, none⟩)), (16, .pointer (some ⟨p, 1, none⟩)), (17, .map (some m2)), (18, .agg #[.int .i64 ye, .bool yb]), (19, .agg #[.int .i64 c1, .int .i64 c2, .int .i64 c3, .int .i64 d1, .int .i64 d2, .int .i64 d3]), (6, .pointer (some ⟨gb6, 0, none⟩)), (7, .pointer (some ⟨gb7, 0, none⟩))]
    ⟨I.val 0, I.val 1, I.val 2, I.val 3, I.val 4, I.val 5, I.val 6, I.val 7, I.val 8, I.val 9, I.val 10, I.val 11, ew6, ew7, trivial⟩ rfl]
  change W0.heap.size ≤ gb6 at lw6
  change W0.heap.size ≤ gb7 at lw7
  have hW5 : Bel w.heap.size w W5 := thenB HB0.drew I.below HB0.size
  clear ew6 ew7
  clear I
  simp only [List.foldl_cons, List.foldl_nil, List.setIfInBounds_toArray, List.set_cons_zero, List.set_cons_succ]
  obtain ⟨f0, f1, f2, f3, f4, f5⟩ := six_at ow6
  obtain ⟨g0, g1, g2, g3, g4, g5⟩ := six_at ow7
  have HW5 := Lib.hid hW5
  clear hW5 HB0 OB0 OW0 OX0 OY0 ow6 ow7
  go_wp2_with (go_at_call 74; refine (AR.out _).mono ?_; rintro e w2 ⟨rfl, b2⟩; have B2 := Lib.hid b2; clear b2)
  go_ret
  exact ⟨rfl, thenB HW5.out B2.out HW5.out.size⟩
end Go.Proofs.Ytibnackmddigaaa.Pl