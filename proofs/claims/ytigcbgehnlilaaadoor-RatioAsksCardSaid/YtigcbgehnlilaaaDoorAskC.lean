/- merged: Steps of operations in a region (XMemo), written by gen_opsq.py: those of arrays of four words and of the document's fractions. They speak of no function. The greatest whole number not above a fraction: its mathematics; how two fractions stand to each other. Sign, Floor and Text of any fraction; written by auto_asks.py. Conditions: numbers that a wide.Int can be; of Text: wide's table as the program's text lays it. -/
import Derived.Test.YtigcbgehnlilaaaDoorOps
import Derived.Test.YtigcbgehnlilaaaDoorQatB
import Derived.Test.YtigcbgehnlilaaaDoorMemoY
import Derived.Test.YtigcbgehnlilaaaDoorAskB
import Derived.Test.YtigcbgehnlilaaaDoorRatF
section
namespace Go.Proofs.YtigcbgehnlilaaaDoor
open Go.ChangeShapes Go.WideShapes Go.ChangeAt Go.RowKit
set_option linter.unusedVariables false
set_option linter.unusedSimpArgs false
section
variable {a : Act} {w w0 : World} {af : Array Edge} {pos : String} {t : TypeId} {gd : Option (Nat × Bool)}
theorem ld_Q {s p o d : Nat} {T' : TypeId} {cs : Array Value} {v0 v1 v2 v3 v4 v5 v6 v7 : Value} (h : a.tmps[s]? = some (.pointer (some ⟨p, o, none⟩))) (ho : Own w p T' cs) (c0 : cs[o]? = some v0) (c1 : cs[o + 1]? = some v1) (c2 : cs[o + 2]? = some v2) (c3 : cs[o + 3]? = some v3) (c4 : cs[o + 4]? = some v4) (c5 : cs[o + 5]? = some v5) (c6 : cs[o + 6]? = some v6) (c7 : cs[o + 7]? = some v7) : Step Tryd.prog w0 { dst := some d, op := .load 34 (.tmp s), type := t, pos := pos, after := af, guard := gd } (.val (.agg #[v0, v1, v2, v3, v4, v5, v6, v7])) a w :=
  by
  obtain ⟨h1, h2, h3⟩ := ho.at_
  refine .inl ?_
  simp [go_sem, execOp, h, h1, Nat.add_assoc, c0, c1, c2, c3, c4, c5, c6, c7]
theorem al_Q {d : Nat} : Step Tryd.prog w0 { dst := some d, op := .alloc 34, type := t, pos := pos, after := af, guard := gd } (.blk 34 8) a w :=
  ⟨d, #[.int .u64 0, .int .u64 0, .int .u64 0, .int .u64 0, .int .u64 0, .int .u64 0, .int .u64 0, .int .u64 0], rfl, rfl, by simp [go_sem, execOp]⟩
theorem only_Q {p : Nat} {v0 v1 v2 v3 v4 v5 v6 v7 : Value} {cs : Array Value} (ho : Own w p 34 cs) (hc : cs.size = 8) :
    Own ((((((((w.setCell ⟨p, 0, none⟩ v0).setCell ⟨p, 1, none⟩ v1).setCell ⟨p, 2, none⟩ v2).setCell ⟨p, 3, none⟩ v3).setCell ⟨p, 4, none⟩ v4).setCell ⟨p, 5, none⟩ v5).setCell ⟨p, 6, none⟩ v6).setCell ⟨p, 7, none⟩ v7) p 34 #[v0, v1, v2, v3, v4, v5, v6, v7] ∧ OnlyAt p w ((((((((w.setCell ⟨p, 0, none⟩ v0).setCell ⟨p, 1, none⟩ v1).setCell ⟨p, 2, none⟩ v2).setCell ⟨p, 3, none⟩ v3).setCell ⟨p, 4, none⟩ v4).setCell ⟨p, 5, none⟩ v5).setCell ⟨p, 6, none⟩ v6).setCell ⟨p, 7, none⟩ v7) ∧ (∀ B, B ≤ p → Below B w0 w → Below B w0 ((((((((w.setCell ⟨p, 0, none⟩ v0).setCell ⟨p, 1, none⟩ v1).setCell ⟨p, 2, none⟩ v2).setCell ⟨p, 3, none⟩ v3).setCell ⟨p, 4, none⟩ v4).setCell ⟨p, 5, none⟩ v5).setCell ⟨p, 6, none⟩ v6).setCell ⟨p, 7, none⟩ v7)) := by
  refine ⟨?_, ⟨by simp [World.setCell], fun q hq => ?_⟩, fun B hp hb => ?_⟩
  · have h := ((((((((ho.put 0 v0).put 1 v1).put 2 v2).put 3 v3).put 4 v4).put 5 v5).put 6 v6).put 7 v7)
    refine h.as ?_
    obtain ⟨l⟩ := cs
    have hl : l.length = 8 := hc
    obtain ⟨y0, l, rfl⟩ := List.exists_cons_of_length_eq_add_one hl
    replace hl : l.length = 7 := by simpa using hl
    obtain ⟨y1, l, rfl⟩ := List.exists_cons_of_length_eq_add_one hl
    replace hl : l.length = 6 := by simpa using hl
    obtain ⟨y2, l, rfl⟩ := List.exists_cons_of_length_eq_add_one hl
    replace hl : l.length = 5 := by simpa using hl
    obtain ⟨y3, l, rfl⟩ := List.exists_cons_of_length_eq_add_one hl
    replace hl : l.length = 4 := by simpa using hl
    obtain ⟨y4, l, rfl⟩ := List.exists_cons_of_length_eq_add_one hl
    replace hl : l.length = 3 := by simpa using hl
    obtain ⟨y5, l, rfl⟩ := List.exists_cons_of_length_eq_add_one hl
    replace hl : l.length = 2 := by simpa using hl
    obtain ⟨y6, l, rfl⟩ := List.exists_cons_of_length_eq_add_one hl
    replace hl : l.length = 1 := by simpa using hl
    obtain ⟨y7, l, rfl⟩ := List.exists_cons_of_length_eq_add_one hl
    replace hl : l.length = 0 := by simpa using hl
    obtain rfl := List.length_eq_zero_iff.1 hl
    simp only [List.setIfInBounds_toArray, List.set_cons_zero, List.set_cons_succ]
  · rw [Below.heap_setCell _ _ _ _ hq, Below.heap_setCell _ _ _ _ hq, Below.heap_setCell _ _ _ _ hq, Below.heap_setCell _ _ _ _ hq, Below.heap_setCell _ _ _ _ hq, Below.heap_setCell _ _ _ _ hq, Below.heap_setCell _ _ _ _ hq, Below.heap_setCell _ _ _ _ hq]
  · exact ((((((((hb.setCell hp _).setCell hp _).setCell hp _).setCell hp _).setCell hp _).setCell hp _).setCell hp _).setCell hp _)
theorem st_Q {s s' : Nat} {v0 v1 v2 v3 v4 v5 v6 v7 : Int} {g : Nat} {cs0 : Array Value} (h : a.tmps[s]? = some (.pointer (some ⟨g, 0, none⟩))) (ho : Own w g 34 cs0) (hc : cs0.size = 8) (h' : a.tmps[s']? = some (.agg #[.int .u64 v0, .int .u64 v1, .int .u64 v2, .int .u64 v3, .int .u64 v4, .int .u64 v5, .int .u64 v6, .int .u64 v7])) : Step Tryd.prog w0 { dst := none, op := .store 34 (.tmp s) (.tmp s'), type := t, pos := pos, after := af, guard := gd } (.put s 34 #[.int .u64 v0, .int .u64 v1, .int .u64 v2, .int .u64 v3, .int .u64 v4, .int .u64 v5, .int .u64 v6, .int .u64 v7]) a w :=
  by
  refine ⟨rfl, ((((((((w.setCell ⟨g, 0, none⟩ (.int .u64 v0)).setCell ⟨g, 1, none⟩ (.int .u64 v1)).setCell ⟨g, 2, none⟩ (.int .u64 v2)).setCell ⟨g, 3, none⟩ (.int .u64 v3)).setCell ⟨g, 4, none⟩ (.int .u64 v4)).setCell ⟨g, 5, none⟩ (.int .u64 v5)).setCell ⟨g, 6, none⟩ (.int .u64 v6)).setCell ⟨g, 7, none⟩ (.int .u64 v7)), .inl ?_, fun p cs hp hop hcs => ?_⟩
  rotate_left
  · obtain rfl : g = p := by rw [h] at hp; simpa using hp
    exact only_Q hop hcs
  · obtain ⟨h1, h2, h3⟩ := ho.at_
    have c0 : cs0[0]? = some cs0[0] := by simp [hc]
    have c1 : cs0[1]? = some cs0[1] := by simp [hc]
    have c2 : cs0[2]? = some cs0[2] := by simp [hc]
    have c3 : cs0[3]? = some cs0[3] := by simp [hc]
    have c4 : cs0[4]? = some cs0[4] := by simp [hc]
    have c5 : cs0[5]? = some cs0[5] := by simp [hc]
    have c6 : cs0[6]? = some cs0[6] := by simp [hc]
    have c7 : cs0[7]? = some cs0[7] := by simp [hc]
    simp [go_sem, execOp, h, h', h1, h2, c0, c1, c2, c3, c4, c5, c6, c7]
theorem sb_Q {s s' n0 : Nat} {v0 v1 v2 v3 v4 v5 v6 v7 : Int} (h : Sat n0 (some s) (.blk 34 8) a w) (h' : a.tmps[s']? = some (.agg #[.int .u64 v0, .int .u64 v1, .int .u64 v2, .int .u64 v3, .int .u64 v4, .int .u64 v5, .int .u64 v6, .int .u64 v7])) : Step Tryd.prog w0 { dst := none, op := .store 34 (.tmp s) (.tmp s'), type := t, pos := pos, after := af, guard := gd } (.put s 34 #[.int .u64 v0, .int .u64 v1, .int .u64 v2, .int .u64 v3, .int .u64 v4, .int .u64 v5, .int .u64 v6, .int .u64 v7]) a w :=
  by
  obtain ⟨d, g, cs, hd, ht, _, hc, ho⟩ := h
  obtain rfl : s = d := Option.some.inj hd
  exact st_Q ht ho hc h'
theorem so_Q {s s' : Nat} {v0 v1 v2 v3 v4 v5 v6 v7 : Int} {g : Nat} {cs0 : Array Value} (h : a.tmps[s]? = some (.pointer (some ⟨g, 0, none⟩))) (ho : Own w g 34 cs0) (hc : cs0.size = 8) (h' : a.tmps[s']? = some (.agg #[.int .u64 v0, .int .u64 v1, .int .u64 v2, .int .u64 v3, .int .u64 v4, .int .u64 v5, .int .u64 v6, .int .u64 v7])) : Step Tryd.prog w0 { dst := none, op := .store 34 (.tmp s) (.tmp s'), type := t, pos := pos, after := af, guard := gd } (.sto g 34 #[.int .u64 v0, .int .u64 v1, .int .u64 v2, .int .u64 v3, .int .u64 v4, .int .u64 v5, .int .u64 v6, .int .u64 v7]) a w :=
  by
  refine ⟨rfl, ((((((((w.setCell ⟨g, 0, none⟩ (.int .u64 v0)).setCell ⟨g, 1, none⟩ (.int .u64 v1)).setCell ⟨g, 2, none⟩ (.int .u64 v2)).setCell ⟨g, 3, none⟩ (.int .u64 v3)).setCell ⟨g, 4, none⟩ (.int .u64 v4)).setCell ⟨g, 5, none⟩ (.int .u64 v5)).setCell ⟨g, 6, none⟩ (.int .u64 v6)).setCell ⟨g, 7, none⟩ (.int .u64 v7)), .inl ?_, only_Q ho hc⟩
  · obtain ⟨h1, h2, h3⟩ := ho.at_
    have c0 : cs0[0]? = some cs0[0] := by simp [hc]
    have c1 : cs0[1]? = some cs0[1] := by simp [hc]
    have c2 : cs0[2]? = some cs0[2] := by simp [hc]
    have c3 : cs0[3]? = some cs0[3] := by simp [hc]
    have c4 : cs0[4]? = some cs0[4] := by simp [hc]
    have c5 : cs0[5]? = some cs0[5] := by simp [hc]
    have c6 : cs0[6]? = some cs0[6] := by simp [hc]
    have c7 : cs0[7]? = some cs0[7] := by simp [hc]
    simp [go_sem, execOp, h, h', h1, h2, c0, c1, c2, c3, c4, c5, c6, c7]
theorem bdQ_tt {s s' d : Nat} {x0 x1 x2 x3 y0 y1 y2 y3 : Int} (h : a.tmps[s]? = some (.agg #[.int .u64 x0, .int .u64 x1, .int .u64 x2, .int .u64 x3])) (h' : a.tmps[s']? = some (.agg #[.int .u64 y0, .int .u64 y1, .int .u64 y2, .int .u64 y3])) : Step Tryd.prog w0 { dst := some d, op := .build 34 #[(0, .tmp s), (1, .tmp s')], type := t, pos := pos, after := af, guard := gd } (.val (.agg #[.int .u64 x0, .int .u64 x1, .int .u64 x2, .int .u64 x3, .int .u64 y0, .int .u64 y1, .int .u64 y2, .int .u64 y3])) a w :=
  .inl (by simp [go_sem, execOp, h, h'])
end
end Go.Proofs.YtigcbgehnlilaaaDoor
end
section
namespace Go.Proofs.YtigcbgehnlilaaaDoor
open Go.ChangeShapes Go.WideShapes Go.ChangeAt Go.RowKit
set_option linter.unusedVariables false

/-- the greatest whole number not above n through d -/
def fl (n d : Int) : Int := if n.tmod d < 0 then n.tdiv d - 1 else n.tdiv d
theorem fl_neg {n d : Int} (hn : Fit n) (hd : 0 < d) (h : n.tmod d < 0) : Fit (n.tdiv d - 1) := by
  obtain ⟨r1, r2, r3⟩ := rest_facts (a := n) (b := d) (by omega)
  have e : d * n.tdiv d + n.tmod d = n := Int.mul_tdiv_add_tmod n d
  have hn0 : n < 0 := by
    rcases Int.lt_or_le n 0 with k | k
    · exact k
    · have := r1 k; omega
  obtain ⟨h1, h2⟩ := hn
  have hd2 : 2 ≤ d := by omega
  generalize n.tdiv d = q at *
  generalize n.tmod d = r at *
  have hq : q ≤ 0 := by
    rcases Int.lt_or_le 0 q with k | k
    · have h3 : d * 1 ≤ d * q := Int.mul_le_mul_of_nonneg_left (by omega) (by omega)
      generalize d * q = P at *
      omega
    · exact k
  have h3 : d * q ≤ 2 * q := Int.mul_le_mul_of_nonpos_right hd2 hq
  generalize d * q = P at *
  exact ⟨by omega, by omega⟩
theorem fl_fit {n d : Int} (hn : Fit n) (hd : 0 < d) : Fit (fl n d) := by
  unfold fl
  split
  · rename_i h
    exact fl_neg hn hd h
  · exact tdiv_pos_fit hn hd
theorem cmV_is {an ad bn bd : Int} (h1 : decide (Rgt an ad) = true) (h2 : decide (Rgt bn bd) = true) : cmV an ad bn bd = cmpZ (an * bd) (bn * ad) := by
  unfold cmV
  rw [h1, h2]; rfl
theorem cmV_no1 {an ad bn bd : Int} (h1 : decide (Rgt an ad) = false) : cmV an ad bn bd = 0 := by
  unfold cmV
  rw [h1]; rfl
theorem cmV_no2 {an ad bn bd : Int} (h2 : decide (Rgt bn bd) = false) : cmV an ad bn bd = 0 := by
  unfold cmV
  rw [h2, Bool.and_false]; rfl
end Go.Proofs.YtigcbgehnlilaaaDoor
end
section
namespace Go.Proofs.YtigcbgehnlilaaaDoor
open Go.ChangeShapes Go.WideShapes Go.ChangeAt Go.RowKit
set_option linter.unusedVariables false
set_option linter.unusedSimpArgs false

section
variable {a : Act} {w w0 : World} {af : Array Edge} {pos : String} {t : TypeId} {gd : Option (Nat × Bool)}
theorem neqs_tt {s s' d T : Nat} {x y : ByteArray} (h : a.tmps[s]? = some (.string x)) (h' : a.tmps[s']? = some (.string y)) (hT : Tryd.prog.underlying T = some .string) (e : x = y) :
    Step Tryd.prog w0 { dst := some d, op := .binOp .neq T (.tmp s) (.tmp s') T, type := t, pos := pos, after := af, guard := gd } (.val (.bool false)) a w :=
  .inl (by subst e; simp [go_sem, execOp, h, h', hT])
end
set_option maxHeartbeats 16000000 in
set_option maxRecDepth 20000 in
theorem RSign_no {n d : Int} (hn : Fit n) (hd : Fit d) (ra0 : decide (Rgt n d) = false) (w : World) : Calls Tryd.prog 16 #[.agg #[.int .u64 (L0 n), .int .u64 (L1 n), .int .u64 (L2 n), .int .u64 (L3 n), .int .u64 (L0 d), .int .u64 (L1 d), .int .u64 (L2 d), .int .u64 (L3 d)]] w fun e w' => e = .returned (.int .i64 0) ∧ Below w.heap.size w w' := by
  have ra := Lib.hid ra0
  clear ra0
  go_enter Tryd.func16, Tryd.ntmps16
  go_upto_region 1 with fail
  go_name_world W0 hW0e
  have ow1 : Own W0 w.heap.size 26 #[.int .u64 (L0 n), .int .u64 (L1 n), .int .u64 (L2 n), .int .u64 (L3 n), .int .u64 (L0 d), .int .u64 (L1 d), .int .u64 (L2 d), .int .u64 (L3 d)] := hW0e ▸ (by repeat' (first | (with_reducible assumption) | (with_reducible refine Own.drawnN ?_ _) | (with_reducible refine Own.drawn ?_) | (with_reducible refine Own.made_at ?_; first | rfl | (simp; done) | omega | (simp; omega)) | (with_reducible refine Own.more ?_ _) | (with_reducible refine Own.apart ?_ ?_ _ _; rotate_left; first | omega | (simp; done) | (simp; omega)) | (refine Own.put ?_ _ _)))
  have hW0 : Below w.heap.size w W0 := hW0e ▸ (by repeat' (first | (with_reducible exact Below.refl _ _) | (with_reducible assumption) | (with_reducible refine below_drewN ?_ _) | (with_reducible refine Below.drew ?_) | (with_reducible refine Below.alloc ?_ ?_ _) | (with_reducible refine Below.setCell ?_ ?_ _) | (with_reducible refine then_ ?_ (by with_reducible assumption) ?_) | (with_reducible exact Nat.le_refl _) | (with_reducible exact Nat.le_succ _) | (with_reducible exact Nat.le_succ_of_le (by with_reducible assumption)) | omega | (simp; done) | (simp; omega) | (exact Nat.le_succ _) | (exact Nat.le_succ_of_le (by with_reducible assumption))))
  clear hW0e
  have zown := ow1.in_
  go_upto_region 1 with fail
  refine region_memo_f (B := W0.heap.size) (L := .val (.agg #[.int .u64 (L0 n), .int .u64 (L1 n), .int .u64 (L2 n), .int .u64 (L3 n), .int .u64 (L0 d), .int .u64 (L1 d), .int .u64 (L2 d), .int .u64 (L3 d)]) :: .val (.bool false) :: .val (.bool true) :: []) (by kernel_rfl) (Nat.le_refl _) ((by exact trivial))
    ⟨fun a w R => ld_R (R.slot 1 rfl) (R.keep ow1 trivial) rfl rfl rfl rfl rfl rfl rfl rfl, fun a w R => cl_t (enter_at Tryd.func10) (R.val 0) (Right_is hn hd ra.out _), fun a w R => notb (R.val 1), trivial⟩ (fun act_ W1 I => ?_)
  rw [I.act [(3, .agg #[.int .u64 (L0 n), .int .u64 (L1 n), .int .u64 (L2 n), .int .u64 (L3 n), .int .u64 (L0 d), .int .u64 (L1 d), .int .u64 (L2 d), .int .u64 (L3 d)]), (4, .bool false), (5, .bool true)]
    ⟨I.val 0, I.val 1, I.val 2, trivial⟩ rfl]
  have sW1 : W0.heap.size ≤ W1.heap.size := I.below.size
  replace ow1 := I.keep ow1 trivial
  have hW1 : Below w.heap.size w W1 := then_ hW0 I.below hW0.size
  clear I
  simp only [List.foldl_cons, List.foldl_nil, List.setIfInBounds_toArray, List.set_cons_zero, List.set_cons_succ]
  go_upto_region 2 with fail
  refine region_memo_f (B := W1.heap.size) (L := .val (.int .i64 0) :: []) (by kernel_rfl) (Nat.le_refl _) ((by exact trivial))
    ⟨fun a w R => asc, trivial⟩ (fun act_ W2 I => ?_)
  rw [I.act [(2, .int .i64 0)]
    ⟨I.val 0, trivial⟩ rfl]
  have sW2 : W1.heap.size ≤ W2.heap.size := I.below.size
  replace ow1 := I.keep ow1 trivial
  have hW2 : Below w.heap.size w W2 := then_ hW1 I.below hW1.size
  clear I
  simp only [List.foldl_cons, List.foldl_nil, List.setIfInBounds_toArray, List.set_cons_zero, List.set_cons_succ]
  clear ow1
  go_wp2
  try simp only [setCell_drawn]
  refine bodyPost_ret (by first | (simp [results, Tryd.results16, go_sem]; done) | (simp [results, Tryd.results16, go_sem]; rfl)) rfl ⟨?_, hW2⟩
  rfl
set_option maxHeartbeats 16000000 in
set_option maxRecDepth 20000 in
theorem RFloor_no {n d : Int} (hn : Fit n) (hd : Fit d) (ra0 : decide (Rgt n d) = false) (w : World) : Calls Tryd.prog 17 #[.agg #[.int .u64 (L0 n), .int .u64 (L1 n), .int .u64 (L2 n), .int .u64 (L3 n), .int .u64 (L0 d), .int .u64 (L1 d), .int .u64 (L2 d), .int .u64 (L3 d)]] w fun e w' => e = .returned (.agg #[.int .u64 (L0 0), .int .u64 (L1 0), .int .u64 (L2 0), .int .u64 (L3 0)]) ∧ Below w.heap.size w w' := by
  have ra := Lib.hid ra0
  clear ra0
  go_enter Tryd.func17, Tryd.ntmps17
  go_upto_region 1 with fail
  go_name_world W0 hW0e
  have ow1 : Own W0 w.heap.size 26 #[.int .u64 (L0 n), .int .u64 (L1 n), .int .u64 (L2 n), .int .u64 (L3 n), .int .u64 (L0 d), .int .u64 (L1 d), .int .u64 (L2 d), .int .u64 (L3 d)] := hW0e ▸ (by repeat' (first | (with_reducible assumption) | (with_reducible refine Own.drawnN ?_ _) | (with_reducible refine Own.drawn ?_) | (with_reducible refine Own.made_at ?_; first | rfl | (simp; done) | omega | (simp; omega)) | (with_reducible refine Own.more ?_ _) | (with_reducible refine Own.apart ?_ ?_ _ _; rotate_left; first | omega | (simp; done) | (simp; omega)) | (refine Own.put ?_ _ _)))
  have ow2 : Own W0 (w.heap.size + 1) 24 #[.int .u64 0, .int .u64 0, .int .u64 0, .int .u64 0] := hW0e ▸ (by repeat' (first | (with_reducible assumption) | (with_reducible refine Own.drawnN ?_ _) | (with_reducible refine Own.drawn ?_) | (with_reducible refine Own.made_at ?_; first | rfl | (simp; done) | omega | (simp; omega)) | (with_reducible refine Own.more ?_ _) | (with_reducible refine Own.apart ?_ ?_ _ _; rotate_left; first | omega | (simp; done) | (simp; omega)) | (refine Own.put ?_ _ _)))
  have hW0 : Below w.heap.size w W0 := hW0e ▸ (by repeat' (first | (with_reducible exact Below.refl _ _) | (with_reducible assumption) | (with_reducible refine below_drewN ?_ _) | (with_reducible refine Below.drew ?_) | (with_reducible refine Below.alloc ?_ ?_ _) | (with_reducible refine Below.setCell ?_ ?_ _) | (with_reducible refine then_ ?_ (by with_reducible assumption) ?_) | (with_reducible exact Nat.le_refl _) | (with_reducible exact Nat.le_succ _) | (with_reducible exact Nat.le_succ_of_le (by with_reducible assumption)) | omega | (simp; done) | (simp; omega) | (exact Nat.le_succ _) | (exact Nat.le_succ_of_le (by with_reducible assumption))))
  clear hW0e
  have zown := ow2.in_
  go_upto_region 1 with fail
  refine region_memo_f (B := W0.heap.size) (L := .val (.agg #[.int .u64 (L0 n), .int .u64 (L1 n), .int .u64 (L2 n), .int .u64 (L3 n), .int .u64 (L0 d), .int .u64 (L1 d), .int .u64 (L2 d), .int .u64 (L3 d)]) :: .val (.bool false) :: .val (.bool true) :: []) (by kernel_rfl) (Nat.le_refl _) ((by exact trivial))
    ⟨fun a w R => ld_R (R.slot 1 rfl) (R.keep ow1 trivial) rfl rfl rfl rfl rfl rfl rfl rfl, fun a w R => cl_t (enter_at Tryd.func10) (R.val 0) (Right_is hn hd ra.out _), fun a w R => notb (R.val 1), trivial⟩ (fun act_ W1 I => ?_)
  rw [I.act [(6, .agg #[.int .u64 (L0 n), .int .u64 (L1 n), .int .u64 (L2 n), .int .u64 (L3 n), .int .u64 (L0 d), .int .u64 (L1 d), .int .u64 (L2 d), .int .u64 (L3 d)]), (7, .bool false), (8, .bool true)]
    ⟨I.val 0, I.val 1, I.val 2, trivial⟩ rfl]
  have sW1 : W0.heap.size ≤ W1.heap.size := I.below.size
  replace ow1 := I.keep ow1 trivial
  replace ow2 := I.keep ow2 trivial
  have hW1 : Below w.heap.size w W1 := then_ hW0 I.below hW0.size
  clear I
  simp only [List.foldl_cons, List.foldl_nil, List.setIfInBounds_toArray, List.set_cons_zero, List.set_cons_succ]
  go_upto_region 2 with fail
  refine region_memo_f (B := w.heap.size) (L := .val (.agg #[.int .u64 0, .int .u64 0, .int .u64 0, .int .u64 0]) :: .sto (w.heap.size + 1) 24 #[.int .u64 0, .int .u64 0, .int .u64 0, .int .u64 0] :: []) (by kernel_rfl) (hW1.size) (Olds.v (Olds.s (by omega) ow2.in_ (by repeat' (first | exact trivial | refine Off.v ?_ | refine Off.k ?_ | refine Off.b ?_ | refine Off.n ?_ | refine Off.p ?_ | refine Off.s ?_ ?_ | omega)) (trivial)))
    ⟨fun a w R => bd0_W, fun a w R => so_W (R.slot 2 rfl) (R.own rfl ow2) rfl (R.val 0), trivial⟩ (fun act_ W2 I => ?_)
  rw [I.act [(9, .agg #[.int .u64 0, .int .u64 0, .int .u64 0, .int .u64 0])]
    ⟨I.val 0, trivial⟩ rfl]
  have sW2 : W1.heap.size ≤ W2.heap.size := I.below.size
  replace ow1 := I.keep ow1 (by repeat' (first | exact trivial | refine Off.v ?_ | refine Off.k ?_ | refine Off.b ?_ | refine Off.n ?_ | refine Off.p ?_ | refine Off.s ?_ ?_ | omega))
  replace ow2 := I.sto 1 rfl rfl
  have hW2 : Below w.heap.size w W2 := hW1.trans I.below
  clear I
  simp only [List.foldl_cons, List.foldl_nil, List.setIfInBounds_toArray, List.set_cons_zero, List.set_cons_succ]
  obtain ⟨r2_, r2_1, r2_2⟩ := ow2.at_
  clear ow1 ow2
  go_wp2
  try simp only [setCell_drawn]
  refine bodyPost_ret (by first | (simp [results, Tryd.results17, go_sem, r2_]; done) | (simp [results, Tryd.results17, go_sem, r2_]; rfl)) rfl ⟨?_, hW2⟩
  rfl
set_option maxHeartbeats 16000000 in
set_option maxRecDepth 20000 in
theorem RFloor_ge {n d q r : Int} (hn : Fit n) (hd : Fit d) (ra0 : decide (Rgt n d) = true) (hq : Fit q) (hr : Fit r) (hs0 : decide (sgnZ r < 0) = false) (HD0 : ∀ w, Calls Tryd.prog 43 #[.agg #[.int .u64 (L0 n), .int .u64 (L1 n), .int .u64 (L2 n), .int .u64 (L3 n)], .agg #[.int .u64 (L0 d), .int .u64 (L1 d), .int .u64 (L2 d), .int .u64 (L3 d)]] w fun e w' => e = .returned (.tuple #[.agg #[.int .u64 (L0 q), .int .u64 (L1 q), .int .u64 (L2 q), .int .u64 (L3 q)], .agg #[.int .u64 (L0 r), .int .u64 (L1 r), .int .u64 (L2 r), .int .u64 (L3 r)], .int .i64 0]) ∧ Below w.heap.size w w') (w : World) : Calls Tryd.prog 17 #[.agg #[.int .u64 (L0 n), .int .u64 (L1 n), .int .u64 (L2 n), .int .u64 (L3 n), .int .u64 (L0 d), .int .u64 (L1 d), .int .u64 (L2 d), .int .u64 (L3 d)]] w fun e w' => e = .returned (.agg #[.int .u64 (L0 q), .int .u64 (L1 q), .int .u64 (L2 q), .int .u64 (L3 q)]) ∧ Below w.heap.size w w' := by
  have ra := Lib.hid ra0
  have hs := Lib.hid hs0
  have HD := Lib.hid HD0
  clear ra0 hs0 HD0
  go_enter Tryd.func17, Tryd.ntmps17
  go_upto_region 1 with fail
  go_name_world W0 hW0e
  have ow1 : Own W0 w.heap.size 26 #[.int .u64 (L0 n), .int .u64 (L1 n), .int .u64 (L2 n), .int .u64 (L3 n), .int .u64 (L0 d), .int .u64 (L1 d), .int .u64 (L2 d), .int .u64 (L3 d)] := hW0e ▸ (by repeat' (first | (with_reducible assumption) | (with_reducible refine Own.drawnN ?_ _) | (with_reducible refine Own.drawn ?_) | (with_reducible refine Own.made_at ?_; first | rfl | (simp; done) | omega | (simp; omega)) | (with_reducible refine Own.more ?_ _) | (with_reducible refine Own.apart ?_ ?_ _ _; rotate_left; first | omega | (simp; done) | (simp; omega)) | (refine Own.put ?_ _ _)))
  have ow2 : Own W0 (w.heap.size + 1) 24 #[.int .u64 0, .int .u64 0, .int .u64 0, .int .u64 0] := hW0e ▸ (by repeat' (first | (with_reducible assumption) | (with_reducible refine Own.drawnN ?_ _) | (with_reducible refine Own.drawn ?_) | (with_reducible refine Own.made_at ?_; first | rfl | (simp; done) | omega | (simp; omega)) | (with_reducible refine Own.more ?_ _) | (with_reducible refine Own.apart ?_ ?_ _ _; rotate_left; first | omega | (simp; done) | (simp; omega)) | (refine Own.put ?_ _ _)))
  have hW0 : Below w.heap.size w W0 := hW0e ▸ (by repeat' (first | (with_reducible exact Below.refl _ _) | (with_reducible assumption) | (with_reducible refine below_drewN ?_ _) | (with_reducible refine Below.drew ?_) | (with_reducible refine Below.alloc ?_ ?_ _) | (with_reducible refine Below.setCell ?_ ?_ _) | (with_reducible refine then_ ?_ (by with_reducible assumption) ?_) | (with_reducible exact Nat.le_refl _) | (with_reducible exact Nat.le_succ _) | (with_reducible exact Nat.le_succ_of_le (by with_reducible assumption)) | omega | (simp; done) | (simp; omega) | (exact Nat.le_succ _) | (exact Nat.le_succ_of_le (by with_reducible assumption))))
  clear hW0e
  have zown := ow2.in_
  go_upto_region 1 with fail
  refine region_memo_f (B := W0.heap.size) (L := .val (.agg #[.int .u64 (L0 n), .int .u64 (L1 n), .int .u64 (L2 n), .int .u64 (L3 n), .int .u64 (L0 d), .int .u64 (L1 d), .int .u64 (L2 d), .int .u64 (L3 d)]) :: .val (.bool true) :: .val (.bool false) :: []) (by kernel_rfl) (Nat.le_refl _) ((by exact trivial))
    ⟨fun a w R => ld_R (R.slot 1 rfl) (R.keep ow1 trivial) rfl rfl rfl rfl rfl rfl rfl rfl, fun a w R => cl_t (enter_at Tryd.func10) (R.val 0) (Right_is hn hd ra.out _), fun a w R => notb (R.val 1), trivial⟩ (fun act_ W1 I => ?_)
  rw [I.act [(6, .agg #[.int .u64 (L0 n), .int .u64 (L1 n), .int .u64 (L2 n), .int .u64 (L3 n), .int .u64 (L0 d), .int .u64 (L1 d), .int .u64 (L2 d), .int .u64 (L3 d)]), (7, .bool true), (8, .bool false)]
    ⟨I.val 0, I.val 1, I.val 2, trivial⟩ rfl]
  have sW1 : W0.heap.size ≤ W1.heap.size := I.below.size
  replace ow1 := I.keep ow1 trivial
  replace ow2 := I.keep ow2 trivial
  have hW1 : Below w.heap.size w W1 := then_ hW0 I.below hW0.size
  clear I
  simp only [List.foldl_cons, List.foldl_nil, List.setIfInBounds_toArray, List.set_cons_zero, List.set_cons_succ]
  go_upto_region 3 with fail
  refine region_memo_f (B := W1.heap.size) (L := .val (.pointer (some ⟨w.heap.size, 0, none⟩)) :: .val (.agg #[.int .u64 (L0 n), .int .u64 (L1 n), .int .u64 (L2 n), .int .u64 (L3 n)]) :: .val (.pointer (some ⟨w.heap.size, 4, none⟩)) :: .val (.agg #[.int .u64 (L0 d), .int .u64 (L1 d), .int .u64 (L2 d), .int .u64 (L3 d)]) :: .val (.tuple #[.agg #[.int .u64 (L0 q), .int .u64 (L1 q), .int .u64 (L2 q), .int .u64 (L3 q)], .agg #[.int .u64 (L0 r), .int .u64 (L1 r), .int .u64 (L2 r), .int .u64 (L3 r)], .int .i64 0]) :: .val (.tuple #[.agg #[.int .u64 (L0 q), .int .u64 (L1 q), .int .u64 (L2 q), .int .u64 (L3 q)], .agg #[.int .u64 (L0 r), .int .u64 (L1 r), .int .u64 (L2 r), .int .u64 (L3 r)], .int .i64 0]) :: .val (.agg #[.int .u64 (L0 q), .int .u64 (L1 q), .int .u64 (L2 q), .int .u64 (L3 q)]) :: .val (.agg #[.int .u64 (L0 r), .int .u64 (L1 r), .int .u64 (L2 r), .int .u64 (L3 r)]) :: .val (.int .i64 0) :: .blk 24 4 :: .blk 24 4 :: .put 3 24 #[.int .u64 (L0 q), .int .u64 (L1 q), .int .u64 (L2 q), .int .u64 (L3 q)] :: .put 4 24 #[.int .u64 (L0 r), .int .u64 (L1 r), .int .u64 (L2 r), .int .u64 (L3 r)] :: .val (.int .i64 0) :: []) (by kernel_rfl) (Nat.le_refl _) ((by exact trivial))
    ⟨fun a w R => fa_R_0 (R.slot 1 rfl), fun a w R => ld_W (R.val 0) (R.keep ow1 trivial) rfl rfl rfl rfl, fun a w R => fa_R_1 (R.slot 1 rfl), fun a w R => ld_W (R.val 2) (R.keep ow1 trivial) rfl rfl rfl rfl, fun a w R => cl_tt (enter_at Tryd.func43) (R.val 1) (R.val 3) (HD.out _), fun a w R => mv (R.val 4), fun a w R => x30 (R.val 5), fun a w R => x31 (R.val 5), fun a w R => x32 (R.val 5), fun a w R => al_W, fun a w R => al_W, fun a w R => sb_W (R.dep 9) (R.val 6), fun a w R => sb_W (R.dep 10) (R.val 7), fun a w R => asg (R.val 8), trivial⟩ (fun act_ W2 I => ?_)
  obtain ⟨gb3, ew3, lw3, ow3⟩ := I.put 11 rfl rfl
  obtain ⟨gb4, ew4, lw4, ow4⟩ := I.put 12 rfl rfl
  have nw3_4 := I.apart2 9 10 rfl rfl (by omega) rfl rfl rfl rfl ew3 ew4
  rw [I.act [(11, .pointer (some ⟨w.heap.size, 0, none⟩)), (12, .agg #[.int .u64 (L0 n), .int .u64 (L1 n), .int .u64 (L2 n), .int .u64 (L3 n)]), (13, .pointer (some ⟨w.heap.size, 4, none⟩)), (14, .agg #[.int .u64 (L0 d), .int .u64 (L1 d), .int .u64 (L2 d), .int .u64 (L3 d)]), (15, .tuple #[.agg #[.int .u64 (L0 q), .int .u64 (L1 q), .int .u64 (L2 q), .int .u64 (L3 q)], .agg #[.int .u64 (L0 r), .int .u64 (L1 r), .int .u64 (L2 r), .int .u64 (L3 r)], .int .i64 0]), (10, .tuple #[.agg #[.int .u64 (L0 q), .int .u64 (L1 q), .int .u64 (L2 q), .int .u64 (L3 q)], .agg #[.int .u64 (L0 r), .int .u64 (L1 r), .int .u64 (L2 r), .int .u64 (L3 r)], .int .i64 0]), (16, .agg #[.int .u64 (L0 q), .int .u64 (L1 q), .int .u64 (L2 q), .int .u64 (L3 q)]), (17, .agg #[.int .u64 (L0 r), .int .u64 (L1 r), .int .u64 (L2 r), .int .u64 (L3 r)]), (18, .int .i64 0), (3, .pointer (some ⟨gb3, 0, none⟩)), (4, .pointer (some ⟨gb4, 0, none⟩)), (5, .int .i64 0)]
    ⟨I.val 0, I.val 1, I.val 2, I.val 3, I.val 4, I.val 5, I.val 6, I.val 7, I.val 8, ew3, ew4, I.val 13, trivial⟩ rfl]
  change W1.heap.size ≤ gb3 at lw3
  change W1.heap.size ≤ gb4 at lw4
  have sW2 : W1.heap.size ≤ W2.heap.size := I.below.size
  replace ow1 := I.keep ow1 trivial
  replace ow2 := I.keep ow2 trivial
  have hW2 : Below w.heap.size w W2 := then_ hW1 I.below hW1.size
  clear ew3 ew4
  clear I
  simp only [List.foldl_cons, List.foldl_nil, List.setIfInBounds_toArray, List.set_cons_zero, List.set_cons_succ]
  go_upto_region 4 with fail
  refine region_memo_f (B := W2.heap.size) (L := .val (.agg #[.int .u64 (L0 r), .int .u64 (L1 r), .int .u64 (L2 r), .int .u64 (L3 r)]) :: .val (.int .i64 (sgnZ r)) :: .val (.bool false) :: []) (by kernel_rfl) (Nat.le_refl _) ((by exact trivial))
    ⟨fun a w R => ld_W (R.slot 4 rfl) (R.keep ow4 trivial) rfl rfl rfl rfl, fun a w R => cl_t (enter_at Tryd.func31) (R.val 0) (sign_b _ hr _), fun a w R => c_lss_tk (R.val 1) (Tryd.underlying3) hs.out, trivial⟩ (fun act_ W3 I => ?_)
  rw [I.act [(19, .agg #[.int .u64 (L0 r), .int .u64 (L1 r), .int .u64 (L2 r), .int .u64 (L3 r)]), (20, .int .i64 (sgnZ r)), (21, .bool false)]
    ⟨I.val 0, I.val 1, I.val 2, trivial⟩ rfl]
  have sW3 : W2.heap.size ≤ W3.heap.size := I.below.size
  replace ow1 := I.keep ow1 trivial
  replace ow2 := I.keep ow2 trivial
  replace ow3 := I.keep ow3 trivial
  replace ow4 := I.keep ow4 trivial
  have hW3 : Below w.heap.size w W3 := then_ hW2 I.below hW2.size
  clear I
  simp only [List.foldl_cons, List.foldl_nil, List.setIfInBounds_toArray, List.set_cons_zero, List.set_cons_succ]
  go_upto_region 6 with fail
  refine region_memo_f (B := w.heap.size) (L := .val (.agg #[.int .u64 (L0 q), .int .u64 (L1 q), .int .u64 (L2 q), .int .u64 (L3 q)]) :: .sto (w.heap.size + 1) 24 #[.int .u64 (L0 q), .int .u64 (L1 q), .int .u64 (L2 q), .int .u64 (L3 q)] :: []) (by kernel_rfl) (hW3.size) (Olds.v (Olds.s (by omega) ow2.in_ (by repeat' (first | exact trivial | refine Off.v ?_ | refine Off.k ?_ | refine Off.b ?_ | refine Off.n ?_ | refine Off.p ?_ | refine Off.s ?_ ?_ | omega)) (trivial)))
    ⟨fun a w R => ld_W (R.slot 3 rfl) (R.keep ow3 (by repeat' (first | exact trivial | refine Off.v ?_ | refine Off.k ?_ | refine Off.b ?_ | refine Off.n ?_ | refine Off.p ?_ | refine Off.s ?_ ?_ | omega))) rfl rfl rfl rfl, fun a w R => so_W (R.slot 2 rfl) (R.own rfl ow2) rfl (R.val 0), trivial⟩ (fun act_ W4 I => ?_)
  rw [I.act [(28, .agg #[.int .u64 (L0 q), .int .u64 (L1 q), .int .u64 (L2 q), .int .u64 (L3 q)])]
    ⟨I.val 0, trivial⟩ rfl]
  have sW4 : W3.heap.size ≤ W4.heap.size := I.below.size
  replace ow1 := I.keep ow1 (by repeat' (first | exact trivial | refine Off.v ?_ | refine Off.k ?_ | refine Off.b ?_ | refine Off.n ?_ | refine Off.p ?_ | refine Off.s ?_ ?_ | omega))
  replace ow3 := I.keep ow3 (by repeat' (first | exact trivial | refine Off.v ?_ | refine Off.k ?_ | refine Off.b ?_ | refine Off.n ?_ | refine Off.p ?_ | refine Off.s ?_ ?_ | omega))
  replace ow4 := I.keep ow4 (by repeat' (first | exact trivial | refine Off.v ?_ | refine Off.k ?_ | refine Off.b ?_ | refine Off.n ?_ | refine Off.p ?_ | refine Off.s ?_ ?_ | omega))
  replace ow2 := I.sto 1 rfl rfl
  have hW4 : Below w.heap.size w W4 := hW3.trans I.below
  clear I
  simp only [List.foldl_cons, List.foldl_nil, List.setIfInBounds_toArray, List.set_cons_zero, List.set_cons_succ]
  obtain ⟨r2_, r2_1, r2_2⟩ := ow2.at_
  clear ow1 ow2 ow3 ow4
  go_wp2
  try simp only [setCell_drawn]
  refine bodyPost_ret (by first | (simp [results, Tryd.results17, go_sem, r2_]; done) | (simp [results, Tryd.results17, go_sem, r2_]; rfl)) rfl ⟨?_, hW4⟩
  rfl
theorem RFloor_all {n d : Int} (hn : Fit n) (hd : Fit d) (ra0 : decide (Rgt n d) = true) (w : World) : Calls Tryd.prog 17 #[.agg #[.int .u64 (L0 n), .int .u64 (L1 n), .int .u64 (L2 n), .int .u64 (L3 n), .int .u64 (L0 d), .int .u64 (L1 d), .int .u64 (L2 d), .int .u64 (L3 d)]] w fun e w' => e = .returned (.agg #[.int .u64 (L0 (fl n d)), .int .u64 (L1 (fl n d)), .int .u64 (L2 (fl n d)), .int .u64 (L3 (fl n d))]) ∧ Below w.heap.size w w' := by
  have ra := of_decide_eq_true ra0
  have hp := ra.pos
  have hq := tdiv_pos_fit hn hp
  have hr : Fit (n.tmod d) := tmod_fit hd (by omega)
  have HD := fun w => div_fit n d hn hd (by omega) hq w
  unfold fl
  by_cases h : n.tmod d < 0
  · rw [if_pos h]
    exact RFloor_neg hn hd ra hq hr (fl_neg hn hp h) (decide_eq_true (by unfold sgnZ; rw [if_pos h]; decide)) HD w
  · rw [if_neg h]
    exact RFloor_ge hn hd ra0 hq hr (decide_eq_false (by unfold sgnZ; rw [if_neg h]; split <;> decide)) HD w
set_option maxHeartbeats 16000000 in
set_option maxRecDepth 20000 in
theorem RText_no {n d : Int} (hn : Fit n) (hd : Fit d) (ra0 : decide (Rgt n d) = false) (w : World) : Calls Tryd.prog 18 #[.agg #[.int .u64 (L0 n), .int .u64 (L1 n), .int .u64 (L2 n), .int .u64 (L3 n), .int .u64 (L0 d), .int .u64 (L1 d), .int .u64 (L2 d), .int .u64 (L3 d)]] w fun e w' => e = .returned (.string ⟨#[]⟩) ∧ Below w.heap.size w w' := by
  have ra := Lib.hid ra0
  clear ra0
  go_enter Tryd.func18, Tryd.ntmps18
  go_upto_region 1 with fail
  go_name_world W0 hW0e
  have ow1 : Own W0 w.heap.size 26 #[.int .u64 (L0 n), .int .u64 (L1 n), .int .u64 (L2 n), .int .u64 (L3 n), .int .u64 (L0 d), .int .u64 (L1 d), .int .u64 (L2 d), .int .u64 (L3 d)] := hW0e ▸ (by repeat' (first | (with_reducible assumption) | (with_reducible refine Own.drawnN ?_ _) | (with_reducible refine Own.drawn ?_) | (with_reducible refine Own.made_at ?_; first | rfl | (simp; done) | omega | (simp; omega)) | (with_reducible refine Own.more ?_ _) | (with_reducible refine Own.apart ?_ ?_ _ _; rotate_left; first | omega | (simp; done) | (simp; omega)) | (refine Own.put ?_ _ _)))
  have hW0 : Below w.heap.size w W0 := hW0e ▸ (by repeat' (first | (with_reducible exact Below.refl _ _) | (with_reducible assumption) | (with_reducible refine below_drewN ?_ _) | (with_reducible refine Below.drew ?_) | (with_reducible refine Below.alloc ?_ ?_ _) | (with_reducible refine Below.setCell ?_ ?_ _) | (with_reducible refine then_ ?_ (by with_reducible assumption) ?_) | (with_reducible exact Nat.le_refl _) | (with_reducible exact Nat.le_succ _) | (with_reducible exact Nat.le_succ_of_le (by with_reducible assumption)) | omega | (simp; done) | (simp; omega) | (exact Nat.le_succ _) | (exact Nat.le_succ_of_le (by with_reducible assumption))))
  clear hW0e
  have zown := ow1.in_
  go_upto_region 1 with fail
  refine region_memo_f (B := W0.heap.size) (L := .val (.agg #[.int .u64 (L0 n), .int .u64 (L1 n), .int .u64 (L2 n), .int .u64 (L3 n), .int .u64 (L0 d), .int .u64 (L1 d), .int .u64 (L2 d), .int .u64 (L3 d)]) :: .val (.bool false) :: .val (.bool true) :: .val (.bool true) :: []) (by kernel_rfl) (Nat.le_refl _) ((by exact trivial))
    ⟨fun a w R => ld_R (R.slot 1 rfl) (R.keep ow1 trivial) rfl rfl rfl rfl rfl rfl rfl rfl, fun a w R => cl_t (enter_at Tryd.func10) (R.val 0) (Right_is hn hd ra.out _), fun a w R => notb (R.val 1), fun a w R => asg (R.val 2), trivial⟩ (fun act_ W1 I => ?_)
  rw [I.act [(4, .agg #[.int .u64 (L0 n), .int .u64 (L1 n), .int .u64 (L2 n), .int .u64 (L3 n), .int .u64 (L0 d), .int .u64 (L1 d), .int .u64 (L2 d), .int .u64 (L3 d)]), (5, .bool false), (6, .bool true), (3, .bool true)]
    ⟨I.val 0, I.val 1, I.val 2, I.val 3, trivial⟩ rfl]
  have sW1 : W0.heap.size ≤ W1.heap.size := I.below.size
  replace ow1 := I.keep ow1 trivial
  have hW1 : Below w.heap.size w W1 := then_ hW0 I.below hW0.size
  clear I
  simp only [List.foldl_cons, List.foldl_nil, List.setIfInBounds_toArray, List.set_cons_zero, List.set_cons_succ]
  go_upto_region 2 with fail
  refine region_memo_f (B := W1.heap.size) (L := .val (.string ⟨#[]⟩) :: []) (by kernel_rfl) (Nat.le_refl _) ((by exact trivial))
    ⟨fun a w R => asc, trivial⟩ (fun act_ W2 I => ?_)
  rw [I.act [(2, .string ⟨#[]⟩)]
    ⟨I.val 0, trivial⟩ rfl]
  have sW2 : W1.heap.size ≤ W2.heap.size := I.below.size
  replace ow1 := I.keep ow1 trivial
  have hW2 : Below w.heap.size w W2 := then_ hW1 I.below hW1.size
  clear I
  simp only [List.foldl_cons, List.foldl_nil, List.setIfInBounds_toArray, List.set_cons_zero, List.set_cons_succ]
  clear ow1
  go_wp2
  try simp only [setCell_drawn]
  refine bodyPost_ret (by first | (simp [results, Tryd.results18, go_sem]; done) | (simp [results, Tryd.results18, go_sem]; rfl)) rfl ⟨?_, hW2⟩
  rfl
set_option maxHeartbeats 16000000 in
set_option maxRecDepth 20000 in
theorem RText_one {n d : Int} {X Y : ByteArray} (hn : Fit n) (hd : Fit d) (ra0 : decide (Rgt n d) = true) (h1 : decide (d = 1) = true) (s1 : X.size + (⟨#[47]⟩ : ByteArray).size ≤ 9223372036854775807) (s2 : (X ++ ⟨#[47]⟩).size + Y.size ≤ 9223372036854775807) (TX0 : ∀ w, Pow10 w → Calls Tryd.prog 44 #[.agg #[.int .u64 (L0 n), .int .u64 (L1 n), .int .u64 (L2 n), .int .u64 (L3 n)]] w fun e w' => e = .returned (.string X) ∧ Below w.heap.size w w') (TY0 : ∀ w, Pow10 w → Calls Tryd.prog 44 #[.agg #[.int .u64 (L0 d), .int .u64 (L1 d), .int .u64 (L2 d), .int .u64 (L3 d)]] w fun e w' => e = .returned (.string Y) ∧ Below w.heap.size w w') (w : World) (hp : Pow10 w) : Calls Tryd.prog 18 #[.agg #[.int .u64 (L0 n), .int .u64 (L1 n), .int .u64 (L2 n), .int .u64 (L3 n), .int .u64 (L0 d), .int .u64 (L1 d), .int .u64 (L2 d), .int .u64 (L3 d)]] w fun e w' => e = .returned (.string X) ∧ Below w.heap.size w w' := by
  have ra := Lib.hid ra0
  have E1 := Lib.hid h1
  have hz1 := Lib.hid s1
  have hz2 := Lib.hid s2
  have TX := Lib.hid TX0
  have TY := Lib.hid TY0
  clear ra0 h1 s1 s2 TX0 TY0
  go_enter Tryd.func18, Tryd.ntmps18
  go_upto_region 1 with fail
  go_name_world W0 hW0e
  have ow1 : Own W0 w.heap.size 26 #[.int .u64 (L0 n), .int .u64 (L1 n), .int .u64 (L2 n), .int .u64 (L3 n), .int .u64 (L0 d), .int .u64 (L1 d), .int .u64 (L2 d), .int .u64 (L3 d)] := hW0e ▸ (by repeat' (first | (with_reducible assumption) | (with_reducible refine Own.drawnN ?_ _) | (with_reducible refine Own.drawn ?_) | (with_reducible refine Own.made_at ?_; first | rfl | (simp; done) | omega | (simp; omega)) | (with_reducible refine Own.more ?_ _) | (with_reducible refine Own.apart ?_ ?_ _ _; rotate_left; first | omega | (simp; done) | (simp; omega)) | (refine Own.put ?_ _ _)))
  have hW0 : Below w.heap.size w W0 := hW0e ▸ (by repeat' (first | (with_reducible exact Below.refl _ _) | (with_reducible assumption) | (with_reducible refine below_drewN ?_ _) | (with_reducible refine Below.drew ?_) | (with_reducible refine Below.alloc ?_ ?_ _) | (with_reducible refine Below.setCell ?_ ?_ _) | (with_reducible refine then_ ?_ (by with_reducible assumption) ?_) | (with_reducible exact Nat.le_refl _) | (with_reducible exact Nat.le_succ _) | (with_reducible exact Nat.le_succ_of_le (by with_reducible assumption)) | omega | (simp; done) | (simp; omega) | (exact Nat.le_succ _) | (exact Nat.le_succ_of_le (by with_reducible assumption))))
  clear hW0e
  have zown := ow1.in_
  go_upto_region 1 with fail
  refine region_memo_f (B := W0.heap.size) (L := .val (.agg #[.int .u64 (L0 n), .int .u64 (L1 n), .int .u64 (L2 n), .int .u64 (L3 n), .int .u64 (L0 d), .int .u64 (L1 d), .int .u64 (L2 d), .int .u64 (L3 d)]) :: .val (.bool true) :: .val (.bool false) :: .val (.bool false) :: []) (by kernel_rfl) (Nat.le_refl _) ((by exact trivial))
    ⟨fun a w R => ld_R (R.slot 1 rfl) (R.keep ow1 trivial) rfl rfl rfl rfl rfl rfl rfl rfl, fun a w R => cl_t (enter_at Tryd.func10) (R.val 0) (Right_is hn hd ra.out _), fun a w R => notb (R.val 1), fun a w R => asg (R.val 2), trivial⟩ (fun act_ W1 I => ?_)
  rw [I.act [(4, .agg #[.int .u64 (L0 n), .int .u64 (L1 n), .int .u64 (L2 n), .int .u64 (L3 n), .int .u64 (L0 d), .int .u64 (L1 d), .int .u64 (L2 d), .int .u64 (L3 d)]), (5, .bool true), (6, .bool false), (3, .bool false)]
    ⟨I.val 0, I.val 1, I.val 2, I.val 3, trivial⟩ rfl]
  have sW1 : W0.heap.size ≤ W1.heap.size := I.below.size
  replace ow1 := I.keep ow1 trivial
  have hW1 : Below w.heap.size w W1 := then_ hW0 I.below hW0.size
  clear I
  simp only [List.foldl_cons, List.foldl_nil, List.setIfInBounds_toArray, List.set_cons_zero, List.set_cons_succ]
  go_upto_region 3 with fail
  refine region_memo (B := W1.heap.size) (L := .val (.pointer (some ⟨w.heap.size, 4, none⟩)) :: .val (.agg #[.int .u64 (L0 d), .int .u64 (L1 d), .int .u64 (L2 d), .int .u64 (L3 d)]) :: .val (.agg #[.int .u64 (L0 1), .int .u64 (L1 1), .int .u64 (L2 1), .int .u64 (L3 1)]) :: .val (.bool true) :: .val (.bool true) :: []) (by kernel_rfl) (by kernel_rfl) (Nat.le_refl _) ((by exact trivial))
    ⟨fun a w R => fa_R_1 (R.slot 1 rfl), fun a w R => ld_W (R.val 0) (R.keep ow1.drawn trivial) rfl rfl rfl rfl, fun a w R => cl_k (enter_at Tryd.func30)  (of_b 1 (by decide) (by decide) _), fun a w R => (e_eql_W (R.val 1) (R.val 2) (fun w => (eq_fit (a := d) (b := 1) hd ⟨by decide, by decide⟩ w).trans (by rw [E1.out]))), fun a w R => asg (R.val 3), trivial⟩ (fun act_ W2 I => ?_)
  rw [I.act [(8, .pointer (some ⟨w.heap.size, 4, none⟩)), (9, .agg #[.int .u64 (L0 d), .int .u64 (L1 d), .int .u64 (L2 d), .int .u64 (L3 d)]), (10, .agg #[.int .u64 (L0 1), .int .u64 (L1 1), .int .u64 (L2 1), .int .u64 (L3 1)]), (11, .bool true), (7, .bool true)]
    ⟨I.val 0, I.val 1, I.val 2, I.val 3, I.val 4, trivial⟩ rfl]
  have sW2 : W1.heap.size ≤ W2.heap.size := I.below.size
  replace ow1 := I.keep ow1.drawn trivial
  have hW2 : Below w.heap.size w W2 := then_ hW1.drew I.below hW1.size
  clear I
  simp only [List.foldl_cons, List.foldl_nil, List.setIfInBounds_toArray, List.set_cons_zero, List.set_cons_succ]
  go_upto_region 4 with fail
  refine region_memo_f (B := W2.heap.size) (L := .val (.pointer (some ⟨w.heap.size, 0, none⟩)) :: .val (.agg #[.int .u64 (L0 n), .int .u64 (L1 n), .int .u64 (L2 n), .int .u64 (L3 n)]) :: .val (.string X) :: .val (.string X) :: []) (by kernel_rfl) (Nat.le_refl _) ((by exact trivial))
    ⟨fun a w R => fa_R_0 (R.slot 1 rfl), fun a w R => ld_W (R.val 0) (R.keep ow1 trivial) rfl rfl rfl rfl, fun a w R => cl_t (enter_at Tryd.func44) (R.val 1) (TX.out _ ((hp.keep hW2).keep R.below)), fun a w R => asg (R.val 2), trivial⟩ (fun act_ W3 I => ?_)
  rw [I.act [(12, .pointer (some ⟨w.heap.size, 0, none⟩)), (13, .agg #[.int .u64 (L0 n), .int .u64 (L1 n), .int .u64 (L2 n), .int .u64 (L3 n)]), (14, .string X), (2, .string X)]
    ⟨I.val 0, I.val 1, I.val 2, I.val 3, trivial⟩ rfl]
  have sW3 : W2.heap.size ≤ W3.heap.size := I.below.size
  replace ow1 := I.keep ow1 trivial
  have hW3 : Below w.heap.size w W3 := then_ hW2 I.below hW2.size
  clear I
  simp only [List.foldl_cons, List.foldl_nil, List.setIfInBounds_toArray, List.set_cons_zero, List.set_cons_succ]
  clear ow1
  go_wp2
  try simp only [setCell_drawn]
  refine bodyPost_ret (by first | (simp [results, Tryd.results18, go_sem]; done) | (simp [results, Tryd.results18, go_sem]; rfl)) rfl ⟨?_, hW3⟩
  rfl
set_option maxHeartbeats 16000000 in
set_option maxRecDepth 20000 in
theorem RText_two {n d : Int} {X Y : ByteArray} (hn : Fit n) (hd : Fit d) (ra0 : decide (Rgt n d) = true) (h1 : decide (d = 1) = false) (s1 : X.size + (⟨#[47]⟩ : ByteArray).size ≤ 9223372036854775807) (s2 : (X ++ ⟨#[47]⟩).size + Y.size ≤ 9223372036854775807) (TX0 : ∀ w, Pow10 w → Calls Tryd.prog 44 #[.agg #[.int .u64 (L0 n), .int .u64 (L1 n), .int .u64 (L2 n), .int .u64 (L3 n)]] w fun e w' => e = .returned (.string X) ∧ Below w.heap.size w w') (TY0 : ∀ w, Pow10 w → Calls Tryd.prog 44 #[.agg #[.int .u64 (L0 d), .int .u64 (L1 d), .int .u64 (L2 d), .int .u64 (L3 d)]] w fun e w' => e = .returned (.string Y) ∧ Below w.heap.size w w') (w : World) (hp : Pow10 w) : Calls Tryd.prog 18 #[.agg #[.int .u64 (L0 n), .int .u64 (L1 n), .int .u64 (L2 n), .int .u64 (L3 n), .int .u64 (L0 d), .int .u64 (L1 d), .int .u64 (L2 d), .int .u64 (L3 d)]] w fun e w' => e = .returned (.string (X ++ ⟨#[47]⟩ ++ Y)) ∧ Below w.heap.size w w' := by
  have ra := Lib.hid ra0
  have E1 := Lib.hid h1
  have hz1 := Lib.hid s1
  have hz2 := Lib.hid s2
  have TX := Lib.hid TX0
  have TY := Lib.hid TY0
  clear ra0 h1 s1 s2 TX0 TY0
  go_enter Tryd.func18, Tryd.ntmps18
  go_upto_region 1 with fail
  go_name_world W0 hW0e
  have ow1 : Own W0 w.heap.size 26 #[.int .u64 (L0 n), .int .u64 (L1 n), .int .u64 (L2 n), .int .u64 (L3 n), .int .u64 (L0 d), .int .u64 (L1 d), .int .u64 (L2 d), .int .u64 (L3 d)] := hW0e ▸ (by repeat' (first | (with_reducible assumption) | (with_reducible refine Own.drawnN ?_ _) | (with_reducible refine Own.drawn ?_) | (with_reducible refine Own.made_at ?_; first | rfl | (simp; done) | omega | (simp; omega)) | (with_reducible refine Own.more ?_ _) | (with_reducible refine Own.apart ?_ ?_ _ _; rotate_left; first | omega | (simp; done) | (simp; omega)) | (refine Own.put ?_ _ _)))
  have hW0 : Below w.heap.size w W0 := hW0e ▸ (by repeat' (first | (with_reducible exact Below.refl _ _) | (with_reducible assumption) | (with_reducible refine below_drewN ?_ _) | (with_reducible refine Below.drew ?_) | (with_reducible refine Below.alloc ?_ ?_ _) | (with_reducible refine Below.setCell ?_ ?_ _) | (with_reducible refine then_ ?_ (by with_reducible assumption) ?_) | (with_reducible exact Nat.le_refl _) | (with_reducible exact Nat.le_succ _) | (with_reducible exact Nat.le_succ_of_le (by with_reducible assumption)) | omega | (simp; done) | (simp; omega) | (exact Nat.le_succ _) | (exact Nat.le_succ_of_le (by with_reducible assumption))))
  clear hW0e
  have zown := ow1.in_
  go_upto_region 1 with fail
  refine region_memo_f (B := W0.heap.size) (L := .val (.agg #[.int .u64 (L0 n), .int .u64 (L1 n), .int .u64 (L2 n), .int .u64 (L3 n), .int .u64 (L0 d), .int .u64 (L1 d), .int .u64 (L2 d), .int .u64 (L3 d)]) :: .val (.bool true) :: .val (.bool false) :: .val (.bool false) :: []) (by kernel_rfl) (Nat.le_refl _) ((by exact trivial))
    ⟨fun a w R => ld_R (R.slot 1 rfl) (R.keep ow1 trivial) rfl rfl rfl rfl rfl rfl rfl rfl, fun a w R => cl_t (enter_at Tryd.func10) (R.val 0) (Right_is hn hd ra.out _), fun a w R => notb (R.val 1), fun a w R => asg (R.val 2), trivial⟩ (fun act_ W1 I => ?_)
  rw [I.act [(4, .agg #[.int .u64 (L0 n), .int .u64 (L1 n), .int .u64 (L2 n), .int .u64 (L3 n), .int .u64 (L0 d), .int .u64 (L1 d), .int .u64 (L2 d), .int .u64 (L3 d)]), (5, .bool true), (6, .bool false), (3, .bool false)]
    ⟨I.val 0, I.val 1, I.val 2, I.val 3, trivial⟩ rfl]
  have sW1 : W0.heap.size ≤ W1.heap.size := I.below.size
  replace ow1 := I.keep ow1 trivial
  have hW1 : Below w.heap.size w W1 := then_ hW0 I.below hW0.size
  clear I
  simp only [List.foldl_cons, List.foldl_nil, List.setIfInBounds_toArray, List.set_cons_zero, List.set_cons_succ]
  go_upto_region 3 with fail
  refine region_memo (B := W1.heap.size) (L := .val (.pointer (some ⟨w.heap.size, 4, none⟩)) :: .val (.agg #[.int .u64 (L0 d), .int .u64 (L1 d), .int .u64 (L2 d), .int .u64 (L3 d)]) :: .val (.agg #[.int .u64 (L0 1), .int .u64 (L1 1), .int .u64 (L2 1), .int .u64 (L3 1)]) :: .val (.bool false) :: .val (.bool false) :: []) (by kernel_rfl) (by kernel_rfl) (Nat.le_refl _) ((by exact trivial))
    ⟨fun a w R => fa_R_1 (R.slot 1 rfl), fun a w R => ld_W (R.val 0) (R.keep ow1.drawn trivial) rfl rfl rfl rfl, fun a w R => cl_k (enter_at Tryd.func30)  (of_b 1 (by decide) (by decide) _), fun a w R => (e_eql_W (R.val 1) (R.val 2) (fun w => (eq_fit (a := d) (b := 1) hd ⟨by decide, by decide⟩ w).trans (by rw [E1.out]))), fun a w R => asg (R.val 3), trivial⟩ (fun act_ W2 I => ?_)
  rw [I.act [(8, .pointer (some ⟨w.heap.size, 4, none⟩)), (9, .agg #[.int .u64 (L0 d), .int .u64 (L1 d), .int .u64 (L2 d), .int .u64 (L3 d)]), (10, .agg #[.int .u64 (L0 1), .int .u64 (L1 1), .int .u64 (L2 1), .int .u64 (L3 1)]), (11, .bool false), (7, .bool false)]
    ⟨I.val 0, I.val 1, I.val 2, I.val 3, I.val 4, trivial⟩ rfl]
  have sW2 : W1.heap.size ≤ W2.heap.size := I.below.size
  replace ow1 := I.keep ow1.drawn trivial
  have hW2 : Below w.heap.size w W2 := then_ hW1.drew I.below hW1.size
  clear I
  simp only [List.foldl_cons, List.foldl_nil, List.setIfInBounds_toArray, List.set_cons_zero, List.set_cons_succ]
  go_upto_region 5 with fail
  refine region_memo (B := W2.heap.size) (L := .val (.pointer (some ⟨w.heap.size, 0, none⟩)) :: .val (.agg #[.int .u64 (L0 n), .int .u64 (L1 n), .int .u64 (L2 n), .int .u64 (L3 n)]) :: .val (.string X) :: .val (.string (X ++ ⟨#[47]⟩)) :: .val (.pointer (some ⟨w.heap.size, 4, none⟩)) :: .val (.agg #[.int .u64 (L0 d), .int .u64 (L1 d), .int .u64 (L2 d), .int .u64 (L3 d)]) :: .val (.string Y) :: .val (.string (X ++ ⟨#[47]⟩ ++ Y)) :: .val (.string (X ++ ⟨#[47]⟩ ++ Y)) :: []) (by kernel_rfl) (by kernel_rfl) (Nat.le_refl _) ((by exact trivial))
    ⟨fun a w R => fa_R_0 (R.slot 1 rfl), fun a w R => ld_W (R.val 0) (R.keep ow1.drawn trivial) rfl rfl rfl rfl, fun a w R => cl_t (enter_at Tryd.func44) (R.val 1) (TX.out _ ((hp.keep hW2.drew).keep R.below)), fun a w R => sadd_tk (R.val 2) rfl hz1.out, fun a w R => fa_R_1 (R.slot 1 rfl), fun a w R => ld_W (R.val 4) (R.keep ow1.drawn trivial) rfl rfl rfl rfl, fun a w R => cl_t (enter_at Tryd.func44) (R.val 5) (TY.out _ ((hp.keep hW2.drew).keep R.below)), fun a w R => sadd_tt (R.val 3) (R.val 6) rfl hz2.out, fun a w R => asg (R.val 7), trivial⟩ (fun act_ W3 I => ?_)
  rw [I.act [(15, .pointer (some ⟨w.heap.size, 0, none⟩)), (16, .agg #[.int .u64 (L0 n), .int .u64 (L1 n), .int .u64 (L2 n), .int .u64 (L3 n)]), (17, .string X), (18, .string (X ++ ⟨#[47]⟩)), (19, .pointer (some ⟨w.heap.size, 4, none⟩)), (20, .agg #[.int .u64 (L0 d), .int .u64 (L1 d), .int .u64 (L2 d), .int .u64 (L3 d)]), (21, .string Y), (22, .string (X ++ ⟨#[47]⟩ ++ Y)), (2, .string (X ++ ⟨#[47]⟩ ++ Y))]
    ⟨I.val 0, I.val 1, I.val 2, I.val 3, I.val 4, I.val 5, I.val 6, I.val 7, I.val 8, trivial⟩ rfl]
  have sW3 : W2.heap.size ≤ W3.heap.size := I.below.size
  replace ow1 := I.keep ow1.drawn trivial
  have hW3 : Below w.heap.size w W3 := then_ hW2.drew I.below hW2.size
  clear I
  simp only [List.foldl_cons, List.foldl_nil, List.setIfInBounds_toArray, List.set_cons_zero, List.set_cons_succ]
  clear ow1
  go_wp2
  try simp only [setCell_drawn]
  refine bodyPost_ret (by first | (simp [results, Tryd.results18, go_sem]; done) | (simp [results, Tryd.results18, go_sem]; rfl)) rfl ⟨?_, hW3⟩
  rfl
theorem RText_all {n d : Int} (hn : Fit n) (hd : Fit d) (ra0 : decide (Rgt n d) = true) (w : World) (hp : Pow10 w) : Calls Tryd.prog 18 #[.agg #[.int .u64 (L0 n), .int .u64 (L1 n), .int .u64 (L2 n), .int .u64 (L3 n), .int .u64 (L0 d), .int .u64 (L1 d), .int .u64 (L2 d), .int .u64 (L3 d)]] w fun e w' => e = .returned (.string (tx n d)) ∧ Below w.heap.size w w' := by
  have h1 := tz_size hn
  have h2 := tz_size hd
  have s1 : (tz n).size + (⟨#[47]⟩ : ByteArray).size ≤ 9223372036854775807 := by
    rw [show (⟨#[47]⟩ : ByteArray).size = 1 from rfl]; omega
  have s2 : (tz n ++ ⟨#[47]⟩).size + (tz d).size ≤ 9223372036854775807 := by
    rw [ByteArray.size_append, show (⟨#[47]⟩ : ByteArray).size = 1 from rfl]; omega
  have TX : ∀ w, Pow10 w → Calls Tryd.prog 44 #[.agg #[.int .u64 (L0 n), .int .u64 (L1 n), .int .u64 (L2 n), .int .u64 (L3 n)]] w fun e w' => e = .returned (.string (tz n)) ∧ Below w.heap.size w w' := fun w hp => Text_any n hn w hp
  have TY : ∀ w, Pow10 w → Calls Tryd.prog 44 #[.agg #[.int .u64 (L0 d), .int .u64 (L1 d), .int .u64 (L2 d), .int .u64 (L3 d)]] w fun e w' => e = .returned (.string (tz d)) ∧ Below w.heap.size w w' := fun w hp => Text_any d hd w hp
  unfold tx
  by_cases h : d = 1
  · rw [if_pos h]
    exact RText_one hn hd ra0 (decide_eq_true h) s1 s2 TX TY w hp
  · rw [if_neg h]
    exact RText_two hn hd ra0 (decide_eq_false h) s1 s2 TX TY w hp
set_option maxHeartbeats 16000000 in
set_option maxRecDepth 20000 in
theorem plain_all {n d : Int} (w : World) : Calls Tryd.prog 14 #[.agg #[.int .u64 (L0 n), .int .u64 (L1 n), .int .u64 (L2 n), .int .u64 (L3 n), .int .u64 (L0 d), .int .u64 (L1 d), .int .u64 (L2 d), .int .u64 (L3 d)]] w fun e w' => e = .returned (.agg #[.int .u64 (L0 n), .int .u64 (L1 n), .int .u64 (L2 n), .int .u64 (L3 n), .int .u64 (L0 d), .int .u64 (L1 d), .int .u64 (L2 d), .int .u64 (L3 d)]) ∧ Below w.heap.size w w' := by
  go_enter Tryd.func14, Tryd.ntmps14
  go_upto_region 1 with fail
  go_name_world W0 hW0e
  have ow1 : Own W0 w.heap.size 26 #[.int .u64 (L0 n), .int .u64 (L1 n), .int .u64 (L2 n), .int .u64 (L3 n), .int .u64 (L0 d), .int .u64 (L1 d), .int .u64 (L2 d), .int .u64 (L3 d)] := hW0e ▸ (by repeat' (first | (with_reducible assumption) | (with_reducible refine Own.drawnN ?_ _) | (with_reducible refine Own.drawn ?_) | (with_reducible refine Own.made_at ?_; first | rfl | (simp; done) | omega | (simp; omega)) | (with_reducible refine Own.more ?_ _) | (with_reducible refine Own.apart ?_ ?_ _ _; rotate_left; first | omega | (simp; done) | (simp; omega)) | (refine Own.put ?_ _ _)))
  have ow2 : Own W0 (w.heap.size + 1) 34 #[.int .u64 0, .int .u64 0, .int .u64 0, .int .u64 0, .int .u64 0, .int .u64 0, .int .u64 0, .int .u64 0] := hW0e ▸ (by repeat' (first | (with_reducible assumption) | (with_reducible refine Own.drawnN ?_ _) | (with_reducible refine Own.drawn ?_) | (with_reducible refine Own.made_at ?_; first | rfl | (simp; done) | omega | (simp; omega)) | (with_reducible refine Own.more ?_ _) | (with_reducible refine Own.apart ?_ ?_ _ _; rotate_left; first | omega | (simp; done) | (simp; omega)) | (refine Own.put ?_ _ _)))
  have hW0 : Below w.heap.size w W0 := hW0e ▸ (by repeat' (first | (with_reducible exact Below.refl _ _) | (with_reducible assumption) | (with_reducible refine below_drewN ?_ _) | (with_reducible refine Below.drew ?_) | (with_reducible refine Below.alloc ?_ ?_ _) | (with_reducible refine Below.setCell ?_ ?_ _) | (with_reducible refine then_ ?_ (by with_reducible assumption) ?_) | (with_reducible exact Nat.le_refl _) | (with_reducible exact Nat.le_succ _) | (with_reducible exact Nat.le_succ_of_le (by with_reducible assumption)) | omega | (simp; done) | (simp; omega) | (exact Nat.le_succ _) | (exact Nat.le_succ_of_le (by with_reducible assumption))))
  clear hW0e
  have zown := ow2.in_
  go_upto_region 1 with fail
  refine region_memo_f (B := w.heap.size) (L := .val (.pointer (some ⟨w.heap.size, 0, none⟩)) :: .val (.agg #[.int .u64 (L0 n), .int .u64 (L1 n), .int .u64 (L2 n), .int .u64 (L3 n)]) :: .val (.pointer (some ⟨w.heap.size, 4, none⟩)) :: .val (.agg #[.int .u64 (L0 d), .int .u64 (L1 d), .int .u64 (L2 d), .int .u64 (L3 d)]) :: .val (.agg #[.int .u64 (L0 n), .int .u64 (L1 n), .int .u64 (L2 n), .int .u64 (L3 n), .int .u64 (L0 d), .int .u64 (L1 d), .int .u64 (L2 d), .int .u64 (L3 d)]) :: .sto (w.heap.size + 1) 34 #[.int .u64 (L0 n), .int .u64 (L1 n), .int .u64 (L2 n), .int .u64 (L3 n), .int .u64 (L0 d), .int .u64 (L1 d), .int .u64 (L2 d), .int .u64 (L3 d)] :: []) (by kernel_rfl) (hW0.size) (Olds.v (Olds.v (Olds.v (Olds.v (Olds.v (Olds.s (by omega) ow2.in_ (by repeat' (first | exact trivial | refine Off.v ?_ | refine Off.k ?_ | refine Off.b ?_ | refine Off.n ?_ | refine Off.p ?_ | refine Off.s ?_ ?_ | omega)) (trivial)))))))
    ⟨fun a w R => fa_R_0 (R.slot 1 rfl), fun a w R => ld_W (R.val 0) (R.keep ow1 (by repeat' (first | exact trivial | refine Off.v ?_ | refine Off.k ?_ | refine Off.b ?_ | refine Off.n ?_ | refine Off.p ?_ | refine Off.s ?_ ?_ | omega))) rfl rfl rfl rfl, fun a w R => fa_R_1 (R.slot 1 rfl), fun a w R => ld_W (R.val 2) (R.keep ow1 (by repeat' (first | exact trivial | refine Off.v ?_ | refine Off.k ?_ | refine Off.b ?_ | refine Off.n ?_ | refine Off.p ?_ | refine Off.s ?_ ?_ | omega))) rfl rfl rfl rfl, fun a w R => bdQ_tt (R.val 1) (R.val 3), fun a w R => so_Q (R.slot 2 rfl) (R.own rfl ow2) rfl (R.val 4), trivial⟩ (fun act_ W1 I => ?_)
  rw [I.act [(3, .pointer (some ⟨w.heap.size, 0, none⟩)), (4, .agg #[.int .u64 (L0 n), .int .u64 (L1 n), .int .u64 (L2 n), .int .u64 (L3 n)]), (5, .pointer (some ⟨w.heap.size, 4, none⟩)), (6, .agg #[.int .u64 (L0 d), .int .u64 (L1 d), .int .u64 (L2 d), .int .u64 (L3 d)]), (7, .agg #[.int .u64 (L0 n), .int .u64 (L1 n), .int .u64 (L2 n), .int .u64 (L3 n), .int .u64 (L0 d), .int .u64 (L1 d), .int .u64 (L2 d), .int .u64 (L3 d)])]
    ⟨I.val 0, I.val 1, I.val 2, I.val 3, I.val 4, trivial⟩ rfl]
  have sW1 : W0.heap.size ≤ W1.heap.size := I.below.size
  replace ow1 := I.keep ow1 (by repeat' (first | exact trivial | refine Off.v ?_ | refine Off.k ?_ | refine Off.b ?_ | refine Off.n ?_ | refine Off.p ?_ | refine Off.s ?_ ?_ | omega))
  replace ow2 := I.sto 5 rfl rfl
  have hW1 : Below w.heap.size w W1 := hW0.trans I.below
  clear I
  simp only [List.foldl_cons, List.foldl_nil, List.setIfInBounds_toArray, List.set_cons_zero, List.set_cons_succ]
  obtain ⟨r2_, r2_1, r2_2⟩ := ow2.at_
  clear ow1 ow2
  go_wp2
  try simp only [setCell_drawn]
  refine bodyPost_ret (by first | (simp [results, Tryd.results14, go_sem, r2_]; done) | (simp [results, Tryd.results14, go_sem, r2_]; rfl)) rfl ⟨?_, hW1⟩
  rfl
end Go.Proofs.YtigcbgehnlilaaaDoor
end
