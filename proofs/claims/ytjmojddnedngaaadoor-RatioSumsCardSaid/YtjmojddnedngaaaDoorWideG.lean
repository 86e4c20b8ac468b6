
/- The contracts of wide.Add, Sub, Neg. Conditions: numbers that a wide.Int can be. -/
import Derived.Test.YtjmojddnedngaaaDoorWideC
import Derived.Test.YtjmojddnedngaaaDoorWideV
namespace Go.Proofs.YtjmojddnedngaaaDoor
open Go.ChangeShapes Go.WideShapes Go.ChangeAt Go.RowKit
set_option linter.unusedVariables false

theorem below_b {z : Int} {s : Bool} (h : ngB z = s) (w : World) :
    Calls Tryd.prog 28 #[.agg #[.int .u64 (L0 z), .int .u64 (L1 z), .int .u64 (L2 z), .int .u64 (L3 z)]] w fun e w' => e = .returned (.bool s) ∧ Below w.heap.size w w' :=
  (below_is h w).mono fun e w' ⟨he, c, hw⟩ => ⟨he, by rw [hw]; repeat' (first | (with_reducible exact Below.refl _ _) | (with_reducible assumption) | (with_reducible refine below_drewN ?_ _) | (with_reducible refine Below.drew ?_) | (with_reducible refine Below.alloc ?_ ?_ _) | (with_reducible refine Below.setCell ?_ ?_ _) | (with_reducible refine then_ ?_ (by with_reducible assumption) ?_) | (with_reducible exact Nat.le_refl _) | (with_reducible exact Nat.le_succ _) | (with_reducible exact Nat.le_succ_of_le (by with_reducible assumption)) | omega | (simp; done) | (simp; omega) | (exact Nat.le_succ _) | (exact Nat.le_succ_of_le (by with_reducible assumption)))⟩
theorem plus_b (a b : Int) (w : World) :
    Calls Tryd.prog 27 #[.agg #[.int .u64 (L0 a), .int .u64 (L1 a), .int .u64 (L2 a), .int .u64 (L3 a)], .agg #[.int .u64 (L0 b), .int .u64 (L1 b), .int .u64 (L2 b), .int .u64 (L3 b)]] w fun e w' => e = .returned (.agg #[.int .u64 (L0 (a + b)), .int .u64 (L1 (a + b)), .int .u64 (L2 (a + b)), .int .u64 (L3 (a + b))]) ∧ Below w.heap.size w w' :=
  (plus_any a b w).mono fun e w' ⟨he, c1, c2, c3, c4, m, hw⟩ => ⟨he, by rw [hw]; repeat' (first | (with_reducible exact Below.refl _ _) | (with_reducible assumption) | (with_reducible refine below_drewN ?_ _) | (with_reducible refine Below.drew ?_) | (with_reducible refine Below.alloc ?_ ?_ _) | (with_reducible refine Below.setCell ?_ ?_ _) | (with_reducible refine then_ ?_ (by with_reducible assumption) ?_) | (with_reducible exact Nat.le_refl _) | (with_reducible exact Nat.le_succ _) | (with_reducible exact Nat.le_succ_of_le (by with_reducible assumption)) | omega | (simp; done) | (simp; omega) | (exact Nat.le_succ _) | (exact Nat.le_succ_of_le (by with_reducible assumption)))⟩
set_option maxHeartbeats 1600000 in
set_option maxRecDepth 100000 in
theorem add_same (a b c : Int) (sa : Bool) (hc : c = a + b) (ha : ngB a = sa) (hb : ngB b = sa) (hr : ngB c = sa) (w : World) :
    Calls Tryd.prog 10 #[.agg #[.int .u64 (L0 a), .int .u64 (L1 a), .int .u64 (L2 a), .int .u64 (L3 a)], .agg #[.int .u64 (L0 b), .int .u64 (L1 b), .int .u64 (L2 b), .int .u64 (L3 b)]] w fun e w' => e = .returned (.tuple #[.agg #[.int .u64 (L0 c), .int .u64 (L1 c), .int .u64 (L2 c), .int .u64 (L3 c)], .int .i64 0]) ∧ Below w.heap.size w w' := by
  have PL := Lib.hid (fun w => plus_b a b w)
  rw [← hc] at PL
  have BA := Lib.hid (fun w => below_b ha w)
  have BB := Lib.hid (fun w => below_b hb w)
  have BR := Lib.hid (fun w => below_b hr w)
  clear ha hb hr hc
  generalize L0 a = x0 at *; generalize L1 a = x1 at *; generalize L2 a = x2 at *; generalize L3 a = x3 at *
  generalize L0 b = y0 at *; generalize L1 b = y1 at *; generalize L2 b = y2 at *; generalize L3 b = y3 at *
  generalize L0 c = z0 at *; generalize L1 c = z1 at *; generalize L2 c = z2 at *; generalize L3 c = z3 at *
  go_enter Tryd.func10, Tryd.ntmps10
  go_wp2_with (go_at_call 27; refine (PL.out _).mono ?_; rintro e w1 ⟨rfl, hb1⟩)
  have OA := (((Own.made w 24 #[.int .u64 x0, .int .u64 x1, .int .u64 x2, .int .u64 x3]).more _).more _).keep hb1
  have OB := ((Own.made (w.alloc _) 24 #[.int .u64 y0, .int .u64 y1, .int .u64 y2, .int .u64 y3]).more _).keep hb1
  have OR := (Own.made ((w.alloc _).alloc _) 24 #[.int .u64 0, .int .u64 0, .int .u64 0, .int .u64 0]).keep hb1
  have hB : Below w.heap.size w w1 := then_ (by repeat' (first | (with_reducible exact Below.refl _ _) | (with_reducible assumption) | (with_reducible refine below_drewN ?_ _) | (with_reducible refine Below.drew ?_) | (with_reducible refine Below.alloc ?_ ?_ _) | (with_reducible refine Below.setCell ?_ ?_ _) | (with_reducible refine then_ ?_ (by with_reducible assumption) ?_) | (with_reducible exact Nat.le_refl _) | (with_reducible exact Nat.le_succ _) | (with_reducible exact Nat.le_succ_of_le (by with_reducible assumption)) | omega | (simp; done) | (simp; omega) | (exact Nat.le_succ _) | (exact Nat.le_succ_of_le (by with_reducible assumption)))) hb1 (by simp; omega)
  rw [World.size_alloc] at OB
  rw [World.size_alloc, World.size_alloc] at OR
  obtain ⟨A1, A2, A3⟩ := OA.at_
  obtain ⟨B1, B2, B3⟩ := OB.at_
  obtain ⟨R1, R2, R3⟩ := OR.at_
  go_region_held3 (fun W => Below w.heap.size w W ∧ Own W (w1.heap.size) 24 #[.int .u64 z0, .int .u64 z1, .int .u64 z2, .int .u64 z3] ∧ Own W (w.heap.size + 1 + 1) 24 #[.int .u64 0, .int .u64 0, .int .u64 0, .int .u64 0] ∧ W.cell? ⟨w.heap.size, 0, none⟩ = some (.int .u64 x0) ∧ W.cell? ⟨w.heap.size, 1, none⟩ = some (.int .u64 x1) ∧ W.cell? ⟨w.heap.size, 2, none⟩ = some (.int .u64 x2) ∧ W.cell? ⟨w.heap.size, 3, none⟩ = some (.int .u64 x3) ∧ W.cell? ⟨w.heap.size + 1, 0, none⟩ = some (.int .u64 y0) ∧ W.cell? ⟨w.heap.size + 1, 1, none⟩ = some (.int .u64 y1) ∧ W.cell? ⟨w.heap.size + 1, 2, none⟩ = some (.int .u64 y2) ∧ W.cell? ⟨w.heap.size + 1, 3, none⟩ = some (.int .u64 y3) ∧ W.cell? ⟨w1.heap.size, 0, none⟩ = some (.int .u64 z0) ∧ W.cell? ⟨w1.heap.size, 1, none⟩ = some (.int .u64 z1) ∧ W.cell? ⟨w1.heap.size, 2, none⟩ = some (.int .u64 z2) ∧ W.cell? ⟨w1.heap.size, 3, none⟩ = some (.int .u64 z3))
    (first
      | (refine ⟨by repeat' (first | (with_reducible exact Below.refl _ _) | (with_reducible assumption) | (with_reducible refine below_drewN ?_ _) | (with_reducible refine Below.drew ?_) | (with_reducible refine Below.alloc ?_ ?_ _) | (with_reducible refine Below.setCell ?_ ?_ _) | (with_reducible refine then_ ?_ (by with_reducible assumption) ?_) | (with_reducible exact Nat.le_refl _) | (with_reducible exact Nat.le_succ _) | (with_reducible exact Nat.le_succ_of_le (by with_reducible assumption)) | omega | (simp; done) | (simp; omega) | (exact Nat.le_succ _) | (exact Nat.le_succ_of_le (by with_reducible assumption))), by repeat' (first | (with_reducible assumption) | (with_reducible refine Own.drawnN ?_ _) | (with_reducible refine Own.drawn ?_) | (with_reducible refine Own.made_at ?_; first | rfl | (simp; done) | omega | (simp; omega)) | (with_reducible refine Own.more ?_ _) | (with_reducible refine Own.apart ?_ ?_ _ _; rotate_left; first | omega | (simp; done) | (simp; omega)) | (refine Own.put ?_ _ _)), by repeat' (first | (with_reducible assumption) | (with_reducible refine Own.drawnN ?_ _) | (with_reducible refine Own.drawn ?_) | (with_reducible refine Own.made_at ?_; first | rfl | (simp; done) | omega | (simp; omega)) | (with_reducible refine Own.more ?_ _) | (with_reducible refine Own.apart ?_ ?_ _ _; rotate_left; first | omega | (simp; done) | (simp; omega)) | (refine Own.put ?_ _ _)), ?_⟩; simp [go_sem, *]; done)
      | (obtain ⟨k0, k1, k2, f0, f1, f2, f3, f4, f5, f6, f7, f8, f9, f10, f11⟩ := ‹Below w.heap.size w _ ∧ _›; exact ⟨then_ k0 hb2 k0.size, k1.keep hb2, k2.keep hb2, keep hb2 f0, keep hb2 f1, keep hb2 f2, keep hb2 f3, keep hb2 f4, keep hb2 f5, keep hb2 f6, keep hb2 f7, keep hb2 f8, keep hb2 f9, keep hb2 f10, keep hb2 f11⟩))
    (first
      | (go_at_call 28; with_reducible refine (BA.out _).mono ?_; rintro e w2 ⟨rfl, hb2⟩)
      | (go_at_call 28; with_reducible refine (BB.out _).mono ?_; rintro e w2 ⟨rfl, hb2⟩)
      | (go_at_call 28; with_reducible refine (BR.out _).mono ?_; rintro e w2 ⟨rfl, hb2⟩))
  rename_i hh
  obtain ⟨hBe, OCe, ORe, -⟩ := hh
  rename_i wz hbz
  clear A1 A2 A3 B1 B2 B3 R1 R2 R3 OA OB OR hB hb1
  obtain ⟨R1, R2, R3⟩ := ORe.at_
  obtain ⟨C1, C2, C3⟩ := OCe.at_
  go_wp2
  refine bodyPost_ret (by simp [results, Tryd.results10, go_sem, R1]) rfl ⟨rfl, ?_⟩
  repeat' (first | (with_reducible exact Below.refl _ _) | (with_reducible assumption) | (with_reducible refine below_drewN ?_ _) | (with_reducible refine Below.drew ?_) | (with_reducible refine Below.alloc ?_ ?_ _) | (with_reducible refine Below.setCell ?_ ?_ _) | (with_reducible refine then_ ?_ (by with_reducible assumption) ?_) | (with_reducible exact Nat.le_refl _) | (with_reducible exact Nat.le_succ _) | (with_reducible exact Nat.le_succ_of_le (by with_reducible assumption)) | omega | (simp; done) | (simp; omega) | (exact Nat.le_succ _) | (exact Nat.le_succ_of_le (by with_reducible assumption)))
set_option maxHeartbeats 1600000 in
set_option maxRecDepth 100000 in
theorem add_over (a b c : Int) (sa : Bool) (hc : c = a + b) (ha : ngB a = sa) (hb : ngB b = sa) (hr : ngB c = (!sa)) (w : World) :
    Calls Tryd.prog 10 #[.agg #[.int .u64 (L0 a), .int .u64 (L1 a), .int .u64 (L2 a), .int .u64 (L3 a)], .agg #[.int .u64 (L0 b), .int .u64 (L1 b), .int .u64 (L2 b), .int .u64 (L3 b)]] w fun e w' => e = .returned (.tuple #[.agg #[.int .u64 0, .int .u64 0, .int .u64 0, .int .u64 0], .int .i64 3]) ∧ Below w.heap.size w w' := by
  have PL := Lib.hid (fun w => plus_b a b w)
  rw [← hc] at PL
  have BA := Lib.hid (fun w => below_b ha w)
  have BB := Lib.hid (fun w => below_b hb w)
  have BR := Lib.hid (fun w => below_b hr w)
  clear ha hb hr hc
  generalize L0 a = x0 at *; generalize L1 a = x1 at *; generalize L2 a = x2 at *; generalize L3 a = x3 at *
  generalize L0 b = y0 at *; generalize L1 b = y1 at *; generalize L2 b = y2 at *; generalize L3 b = y3 at *
  generalize L0 c = z0 at *; generalize L1 c = z1 at *; generalize L2 c = z2 at *; generalize L3 c = z3 at *
  go_enter Tryd.func10, Tryd.ntmps10
  go_wp2_with (go_at_call 27; refine (PL.out _).mono ?_; rintro e w1 ⟨rfl, hb1⟩)
  have OA := (((Own.made w 24 #[.int .u64 x0, .int .u64 x1, .int .u64 x2, .int .u64 x3]).more _).more _).keep hb1
  have OB := ((Own.made (w.alloc _) 24 #[.int .u64 y0, .int .u64 y1, .int .u64 y2, .int .u64 y3]).more _).keep hb1
  have OR := (Own.made ((w.alloc _).alloc _) 24 #[.int .u64 0, .int .u64 0, .int .u64 0, .int .u64 0]).keep hb1
  have hB : Below w.heap.size w w1 := then_ (by repeat' (first | (with_reducible exact Below.refl _ _) | (with_reducible assumption) | (with_reducible refine below_drewN ?_ _) | (with_reducible refine Below.drew ?_) | (with_reducible refine Below.alloc ?_ ?_ _) | (with_reducible refine Below.setCell ?_ ?_ _) | (with_reducible refine then_ ?_ (by with_reducible assumption) ?_) | (with_reducible exact Nat.le_refl _) | (with_reducible exact Nat.le_succ _) | (with_reducible exact Nat.le_succ_of_le (by with_reducible assumption)) | omega | (simp; done) | (simp; omega) | (exact Nat.le_succ _) | (exact Nat.le_succ_of_le (by with_reducible assumption)))) hb1 (by simp; omega)
  rw [World.size_alloc] at OB
  rw [World.size_alloc, World.size_alloc] at OR
  obtain ⟨A1, A2, A3⟩ := OA.at_
  obtain ⟨B1, B2, B3⟩ := OB.at_
  obtain ⟨R1, R2, R3⟩ := OR.at_
  go_region_held3 (fun W => Below w.heap.size w W ∧ Own W (w1.heap.size) 24 #[.int .u64 z0, .int .u64 z1, .int .u64 z2, .int .u64 z3] ∧ Own W (w.heap.size + 1 + 1) 24 #[.int .u64 0, .int .u64 0, .int .u64 0, .int .u64 0] ∧ W.cell? ⟨w.heap.size, 0, none⟩ = some (.int .u64 x0) ∧ W.cell? ⟨w.heap.size, 1, none⟩ = some (.int .u64 x1) ∧ W.cell? ⟨w.heap.size, 2, none⟩ = some (.int .u64 x2) ∧ W.cell? ⟨w.heap.size, 3, none⟩ = some (.int .u64 x3) ∧ W.cell? ⟨w.heap.size + 1, 0, none⟩ = some (.int .u64 y0) ∧ W.cell? ⟨w.heap.size + 1, 1, none⟩ = some (.int .u64 y1) ∧ W.cell? ⟨w.heap.size + 1, 2, none⟩ = some (.int .u64 y2) ∧ W.cell? ⟨w.heap.size + 1, 3, none⟩ = some (.int .u64 y3) ∧ W.cell? ⟨w1.heap.size, 0, none⟩ = some (.int .u64 z0) ∧ W.cell? ⟨w1.heap.size, 1, none⟩ = some (.int .u64 z1) ∧ W.cell? ⟨w1.heap.size, 2, none⟩ = some (.int .u64 z2) ∧ W.cell? ⟨w1.heap.size, 3, none⟩ = some (.int .u64 z3))
    (first
      | (refine ⟨by repeat' (first | (with_reducible exact Below.refl _ _) | (with_reducible assumption) | (with_reducible refine below_drewN ?_ _) | (with_reducible refine Below.drew ?_) | (with_reducible refine Below.alloc ?_ ?_ _) | (with_reducible refine Below.setCell ?_ ?_ _) | (with_reducible refine then_ ?_ (by with_reducible assumption) ?_) | (with_reducible exact Nat.le_refl _) | (with_reducible exact Nat.le_succ _) | (with_reducible exact Nat.le_succ_of_le (by with_reducible assumption)) | omega | (simp; done) | (simp; omega) | (exact Nat.le_succ _) | (exact Nat.le_succ_of_le (by with_reducible assumption))), by repeat' (first | (with_reducible assumption) | (with_reducible refine Own.drawnN ?_ _) | (with_reducible refine Own.drawn ?_) | (with_reducible refine Own.made_at ?_; first | rfl | (simp; done) | omega | (simp; omega)) | (with_reducible refine Own.more ?_ _) | (with_reducible refine Own.apart ?_ ?_ _ _; rotate_left; first | omega | (simp; done) | (simp; omega)) | (refine Own.put ?_ _ _)), by repeat' (first | (with_reducible assumption) | (with_reducible refine Own.drawnN ?_ _) | (with_reducible refine Own.drawn ?_) | (with_reducible refine Own.made_at ?_; first | rfl | (simp; done) | omega | (simp; omega)) | (with_reducible refine Own.more ?_ _) | (with_reducible refine Own.apart ?_ ?_ _ _; rotate_left; first | omega | (simp; done) | (simp; omega)) | (refine Own.put ?_ _ _)), ?_⟩; simp [go_sem, *]; done)
      | (obtain ⟨k0, k1, k2, f0, f1, f2, f3, f4, f5, f6, f7, f8, f9, f10, f11⟩ := ‹Below w.heap.size w _ ∧ _›; exact ⟨then_ k0 hb2 k0.size, k1.keep hb2, k2.keep hb2, keep hb2 f0, keep hb2 f1, keep hb2 f2, keep hb2 f3, keep hb2 f4, keep hb2 f5, keep hb2 f6, keep hb2 f7, keep hb2 f8, keep hb2 f9, keep hb2 f10, keep hb2 f11⟩))
    (first
      | (go_at_call 28; with_reducible refine (BA.out _).mono ?_; rintro e w2 ⟨rfl, hb2⟩)
      | (go_at_call 28; with_reducible refine (BB.out _).mono ?_; rintro e w2 ⟨rfl, hb2⟩)
      | (go_at_call 28; with_reducible refine (BR.out _).mono ?_; rintro e w2 ⟨rfl, hb2⟩))
  rename_i hh
  obtain ⟨hBe, OCe, ORe, -⟩ := hh
  rename_i wz hbz
  clear A1 A2 A3 B1 B2 B3 R1 R2 R3 OA OB OR hB hb1
  obtain ⟨R1, R2, R3⟩ := ORe.at_
  obtain ⟨C1, C2, C3⟩ := OCe.at_
  go_wp2
  refine bodyPost_ret (by simp [results, Tryd.results10, go_sem, R1]) rfl ⟨rfl, ?_⟩
  repeat' (first | (with_reducible exact Below.refl _ _) | (with_reducible assumption) | (with_reducible refine below_drewN ?_ _) | (with_reducible refine Below.drew ?_) | (with_reducible refine Below.alloc ?_ ?_ _) | (with_reducible refine Below.setCell ?_ ?_ _) | (with_reducible refine then_ ?_ (by with_reducible assumption) ?_) | (with_reducible exact Nat.le_refl _) | (with_reducible exact Nat.le_succ _) | (with_reducible exact Nat.le_succ_of_le (by with_reducible assumption)) | omega | (simp; done) | (simp; omega) | (exact Nat.le_succ _) | (exact Nat.le_succ_of_le (by with_reducible assumption)))
set_option maxHeartbeats 1600000 in
set_option maxRecDepth 100000 in
theorem add_mixed (a b c : Int) (sa sr : Bool) (hc : c = a + b) (ha : ngB a = sa) (hb : ngB b = (!sa)) (hr : ngB c = sr) (w : World) :
    Calls Tryd.prog 10 #[.agg #[.int .u64 (L0 a), .int .u64 (L1 a), .int .u64 (L2 a), .int .u64 (L3 a)], .agg #[.int .u64 (L0 b), .int .u64 (L1 b), .int .u64 (L2 b), .int .u64 (L3 b)]] w fun e w' => e = .returned (.tuple #[.agg #[.int .u64 (L0 c), .int .u64 (L1 c), .int .u64 (L2 c), .int .u64 (L3 c)], .int .i64 0]) ∧ Below w.heap.size w w' := by
  have PL := Lib.hid (fun w => plus_any a b w)
  rw [← hc] at PL
  have BA := Lib.hid (fun w => below_is ha w)
  have BB := Lib.hid (fun w => below_is hb w)
  have BR := Lib.hid (fun w => below_is hr w)
  clear ha hb hr hc
  generalize L0 a = x0 at *; generalize L1 a = x1 at *; generalize L2 a = x2 at *; generalize L3 a = x3 at *
  generalize L0 b = y0 at *; generalize L1 b = y1 at *; generalize L2 b = y2 at *; generalize L3 b = y3 at *
  generalize L0 c = z0 at *; generalize L1 c = z1 at *; generalize L2 c = z2 at *; generalize L3 c = z3 at *
  go_enter Tryd.func10, Tryd.ntmps10
  go_wp2_with (go_at_call 27; refine (PL.out _).mono ?_; rintro e w1 ⟨rfl, c1, c2, c3, c4, m, rfl⟩)
  go_region_with (first
      | (go_at_call 28; with_reducible refine (BA.out _).mono ?_; rintro e w2 ⟨rfl, c, rfl⟩)
      | (go_at_call 28; with_reducible refine (BB.out _).mono ?_; rintro e w2 ⟨rfl, c, rfl⟩))
  all_goals go_wp2
  all_goals try simp only [setCell_drawn]
  all_goals refine bodyPost_ret (by simp [results, Tryd.results10, go_sem]) rfl ⟨rfl, ?_⟩
  repeat' (first | (with_reducible exact Below.refl _ _) | (with_reducible assumption) | (with_reducible refine below_drewN ?_ _) | (with_reducible refine Below.drew ?_) | (with_reducible refine Below.alloc ?_ ?_ _) | (with_reducible refine Below.setCell ?_ ?_ _) | (with_reducible refine then_ ?_ (by with_reducible assumption) ?_) | (with_reducible exact Nat.le_refl _) | (with_reducible exact Nat.le_succ _) | (with_reducible exact Nat.le_succ_of_le (by with_reducible assumption)) | omega | (simp; done) | (simp; omega) | (exact Nat.le_succ _) | (exact Nat.le_succ_of_le (by with_reducible assumption)))
set_option maxHeartbeats 1600000 in
set_option maxRecDepth 100000 in
theorem sub_same (a b c : Int) (sa sr : Bool) (hc : c = a - b) (ha : ngB a = sa) (hb : ngB b = sa) (hr : ngB c = sr) (w : World) :
    Calls Tryd.prog 11 #[.agg #[.int .u64 (L0 a), .int .u64 (L1 a), .int .u64 (L2 a), .int .u64 (L3 a)], .agg #[.int .u64 (L0 b), .int .u64 (L1 b), .int .u64 (L2 b), .int .u64 (L3 b)]] w fun e w' => e = .returned (.tuple #[.agg #[.int .u64 (L0 c), .int .u64 (L1 c), .int .u64 (L2 c), .int .u64 (L3 c)], .int .i64 0]) ∧ Below w.heap.size w w' := by
  have PL := Lib.hid (fun w => minus_any a b w)
  rw [← hc] at PL
  have BA := Lib.hid (fun w => below_is ha w)
  have BB := Lib.hid (fun w => below_is hb w)
  have BR := Lib.hid (fun w => below_is hr w)
  clear ha hb hr hc
  generalize L0 a = x0 at *; generalize L1 a = x1 at *; generalize L2 a = x2 at *; generalize L3 a = x3 at *
  generalize L0 b = y0 at *; generalize L1 b = y1 at *; generalize L2 b = y2 at *; generalize L3 b = y3 at *
  generalize L0 c = z0 at *; generalize L1 c = z1 at *; generalize L2 c = z2 at *; generalize L3 c = z3 at *
  go_enter Tryd.func11, Tryd.ntmps11
  go_wp2_with (go_at_call 29; refine (PL.out _).mono ?_; rintro e w1 ⟨rfl, c1, c2, c3, c4, m, rfl⟩)
  go_region_with (first
      | (go_at_call 28; with_reducible refine (BA.out _).mono ?_; rintro e w2 ⟨rfl, c, rfl⟩)
      | (go_at_call 28; with_reducible refine (BB.out _).mono ?_; rintro e w2 ⟨rfl, c, rfl⟩))
  all_goals go_wp2
  all_goals try simp only [setCell_drawn]
  all_goals refine bodyPost_ret (by simp [results, Tryd.results11, go_sem]) rfl ⟨rfl, ?_⟩
  repeat' (first | (with_reducible exact Below.refl _ _) | (with_reducible assumption) | (with_reducible refine below_drewN ?_ _) | (with_reducible refine Below.drew ?_) | (with_reducible refine Below.alloc ?_ ?_ _) | (with_reducible refine Below.setCell ?_ ?_ _) | (with_reducible refine then_ ?_ (by with_reducible assumption) ?_) | (with_reducible exact Nat.le_refl _) | (with_reducible exact Nat.le_succ _) | (with_reducible exact Nat.le_succ_of_le (by with_reducible assumption)) | omega | (simp; done) | (simp; omega) | (exact Nat.le_succ _) | (exact Nat.le_succ_of_le (by with_reducible assumption)))
set_option maxHeartbeats 1600000 in
set_option maxRecDepth 100000 in
theorem sub_over (a b c : Int) (sa : Bool) (hc : c = a - b) (ha : ngB a = sa) (hb : ngB b = (!sa)) (hr : ngB c = (!sa)) (w : World) :
    Calls Tryd.prog 11 #[.agg #[.int .u64 (L0 a), .int .u64 (L1 a), .int .u64 (L2 a), .int .u64 (L3 a)], .agg #[.int .u64 (L0 b), .int .u64 (L1 b), .int .u64 (L2 b), .int .u64 (L3 b)]] w fun e w' => e = .returned (.tuple #[.agg #[.int .u64 0, .int .u64 0, .int .u64 0, .int .u64 0], .int .i64 3]) ∧ Below w.heap.size w w' := by
  have PL := Lib.hid (fun w => minus_b a b w)
  rw [← hc] at PL
  have BA := Lib.hid (fun w => below_b ha w)
  have BB := Lib.hid (fun w => below_b hb w)
  have BR := Lib.hid (fun w => below_b hr w)
  clear ha hb hr hc
  generalize L0 a = x0 at *; generalize L1 a = x1 at *; generalize L2 a = x2 at *; generalize L3 a = x3 at *
  generalize L0 b = y0 at *; generalize L1 b = y1 at *; generalize L2 b = y2 at *; generalize L3 b = y3 at *
  generalize L0 c = z0 at *; generalize L1 c = z1 at *; generalize L2 c = z2 at *; generalize L3 c = z3 at *
  go_enter Tryd.func11, Tryd.ntmps11
  go_wp2_with (go_at_call 29; refine (PL.out _).mono ?_; rintro e w1 ⟨rfl, hb1⟩)
  have OA := (((Own.made w 24 #[.int .u64 x0, .int .u64 x1, .int .u64 x2, .int .u64 x3]).more _).more _).keep hb1
  have OB := ((Own.made (w.alloc _) 24 #[.int .u64 y0, .int .u64 y1, .int .u64 y2, .int .u64 y3]).more _).keep hb1
  have OR := (Own.made ((w.alloc _).alloc _) 24 #[.int .u64 0, .int .u64 0, .int .u64 0, .int .u64 0]).keep hb1
  have hB : Below w.heap.size w w1 := then_ (by repeat' (first | (with_reducible exact Below.refl _ _) | (with_reducible assumption) | (with_reducible refine below_drewN ?_ _) | (with_reducible refine Below.drew ?_) | (with_reducible refine Below.alloc ?_ ?_ _) | (with_reducible refine Below.setCell ?_ ?_ _) | (with_reducible refine then_ ?_ (by with_reducible assumption) ?_) | (with_reducible exact Nat.le_refl _) | (with_reducible exact Nat.le_succ _) | (with_reducible exact Nat.le_succ_of_le (by with_reducible assumption)) | omega | (simp; done) | (simp; omega) | (exact Nat.le_succ _) | (exact Nat.le_succ_of_le (by with_reducible assumption)))) hb1 (by simp; omega)
  rw [World.size_alloc] at OB
  rw [World.size_alloc, World.size_alloc] at OR
  obtain ⟨A1, A2, A3⟩ := OA.at_
  obtain ⟨B1, B2, B3⟩ := OB.at_
  obtain ⟨R1, R2, R3⟩ := OR.at_
  go_region_held3 (fun W => Below w.heap.size w W ∧ Own W (w1.heap.size) 24 #[.int .u64 z0, .int .u64 z1, .int .u64 z2, .int .u64 z3] ∧ Own W (w.heap.size + 1 + 1) 24 #[.int .u64 0, .int .u64 0, .int .u64 0, .int .u64 0] ∧ W.cell? ⟨w.heap.size, 0, none⟩ = some (.int .u64 x0) ∧ W.cell? ⟨w.heap.size, 1, none⟩ = some (.int .u64 x1) ∧ W.cell? ⟨w.heap.size, 2, none⟩ = some (.int .u64 x2) ∧ W.cell? ⟨w.heap.size, 3, none⟩ = some (.int .u64 x3) ∧ W.cell? ⟨w.heap.size + 1, 0, none⟩ = some (.int .u64 y0) ∧ W.cell? ⟨w.heap.size + 1, 1, none⟩ = some (.int .u64 y1) ∧ W.cell? ⟨w.heap.size + 1, 2, none⟩ = some (.int .u64 y2) ∧ W.cell? ⟨w.heap.size + 1, 3, none⟩ = some (.int .u64 y3) ∧ W.cell? ⟨w1.heap.size, 0, none⟩ = some (.int .u64 z0) ∧ W.cell? ⟨w1.heap.size, 1, none⟩ = some (.int .u64 z1) ∧ W.cell? ⟨w1.heap.size, 2, none⟩ = some (.int .u64 z2) ∧ W.cell? ⟨w1.heap.size, 3, none⟩ = some (.int .u64 z3))
    (first
      | (refine ⟨by repeat' (first | (with_reducible exact Below.refl _ _) | (with_reducible assumption) | (with_reducible refine below_drewN ?_ _) | (with_reducible refine Below.drew ?_) | (with_reducible refine Below.alloc ?_ ?_ _) | (with_reducible refine Below.setCell ?_ ?_ _) | (with_reducible refine then_ ?_ (by with_reducible assumption) ?_) | (with_reducible exact Nat.le_refl _) | (with_reducible exact Nat.le_succ _) | (with_reducible exact Nat.le_succ_of_le (by with_reducible assumption)) | omega | (simp; done) | (simp; omega) | (exact Nat.le_succ _) | (exact Nat.le_succ_of_le (by with_reducible assumption))), by repeat' (first | (with_reducible assumption) | (with_reducible refine Own.drawnN ?_ _) | (with_reducible refine Own.drawn ?_) | (with_reducible refine Own.made_at ?_; first | rfl | (simp; done) | omega | (simp; omega)) | (with_reducible refine Own.more ?_ _) | (with_reducible refine Own.apart ?_ ?_ _ _; rotate_left; first | omega | (simp; done) | (simp; omega)) | (refine Own.put ?_ _ _)), by repeat' (first | (with_reducible assumption) | (with_reducible refine Own.drawnN ?_ _) | (with_reducible refine Own.drawn ?_) | (with_reducible refine Own.made_at ?_; first | rfl | (simp; done) | omega | (simp; omega)) | (with_reducible refine Own.more ?_ _) | (with_reducible refine Own.apart ?_ ?_ _ _; rotate_left; first | omega | (simp; done) | (simp; omega)) | (refine Own.put ?_ _ _)), ?_⟩; simp [go_sem, *]; done)
      | (obtain ⟨k0, k1, k2, f0, f1, f2, f3, f4, f5, f6, f7, f8, f9, f10, f11⟩ := ‹Below w.heap.size w _ ∧ _›; exact ⟨then_ k0 hb2 k0.size, k1.keep hb2, k2.keep hb2, keep hb2 f0, keep hb2 f1, keep hb2 f2, keep hb2 f3, keep hb2 f4, keep hb2 f5, keep hb2 f6, keep hb2 f7, keep hb2 f8, keep hb2 f9, keep hb2 f10, keep hb2 f11⟩))
    (first
      | (go_at_call 28; with_reducible refine (BA.out _).mono ?_; rintro e w2 ⟨rfl, hb2⟩)
      | (go_at_call 28; with_reducible refine (BB.out _).mono ?_; rintro e w2 ⟨rfl, hb2⟩)
      | (go_at_call 28; with_reducible refine (BR.out _).mono ?_; rintro e w2 ⟨rfl, hb2⟩))
  rename_i hh
  obtain ⟨hBe, OCe, ORe, -⟩ := hh
  rename_i wz hbz
  clear A1 A2 A3 B1 B2 B3 R1 R2 R3 OA OB OR hB hb1
  obtain ⟨R1, R2, R3⟩ := ORe.at_
  obtain ⟨C1, C2, C3⟩ := OCe.at_
  go_wp2
  refine bodyPost_ret (by simp [results, Tryd.results11, go_sem, R1]) rfl ⟨rfl, ?_⟩
  repeat' (first | (with_reducible exact Below.refl _ _) | (with_reducible assumption) | (with_reducible refine below_drewN ?_ _) | (with_reducible refine Below.drew ?_) | (with_reducible refine Below.alloc ?_ ?_ _) | (with_reducible refine Below.setCell ?_ ?_ _) | (with_reducible refine then_ ?_ (by with_reducible assumption) ?_) | (with_reducible exact Nat.le_refl _) | (with_reducible exact Nat.le_succ _) | (with_reducible exact Nat.le_succ_of_le (by with_reducible assumption)) | omega | (simp; done) | (simp; omega) | (exact Nat.le_succ _) | (exact Nat.le_succ_of_le (by with_reducible assumption)))
set_option maxHeartbeats 1600000 in
set_option maxRecDepth 100000 in
theorem sub_mixed (a b c : Int) (sa : Bool) (hc : c = a - b) (ha : ngB a = sa) (hb : ngB b = (!sa)) (hr : ngB c = sa) (w : World) :
    Calls Tryd.prog 11 #[.agg #[.int .u64 (L0 a), .int .u64 (L1 a), .int .u64 (L2 a), .int .u64 (L3 a)], .agg #[.int .u64 (L0 b), .int .u64 (L1 b), .int .u64 (L2 b), .int .u64 (L3 b)]] w fun e w' => e = .returned (.tuple #[.agg #[.int .u64 (L0 c), .int .u64 (L1 c), .int .u64 (L2 c), .int .u64 (L3 c)], .int .i64 0]) ∧ Below w.heap.size w w' := by
  have PL := Lib.hid (fun w => minus_b a b w)
  rw [← hc] at PL
  have BA := Lib.hid (fun w => below_b ha w)
  have BB := Lib.hid (fun w => below_b hb w)
  have BR := Lib.hid (fun w => below_b hr w)
  clear ha hb hr hc
  generalize L0 a = x0 at *; generalize L1 a = x1 at *; generalize L2 a = x2 at *; generalize L3 a = x3 at *
  generalize L0 b = y0 at *; generalize L1 b = y1 at *; generalize L2 b = y2 at *; generalize L3 b = y3 at *
  generalize L0 c = z0 at *; generalize L1 c = z1 at *; generalize L2 c = z2 at *; generalize L3 c = z3 at *
  go_enter Tryd.func11, Tryd.ntmps11
  go_wp2_with (go_at_call 29; refine (PL.out _).mono ?_; rintro e w1 ⟨rfl, hb1⟩)
  have OA := (((Own.made w 24 #[.int .u64 x0, .int .u64 x1, .int .u64 x2, .int .u64 x3]).more _).more _).keep hb1
  have OB := ((Own.made (w.alloc _) 24 #[.int .u64 y0, .int .u64 y1, .int .u64 y2, .int .u64 y3]).more _).keep hb1
  have OR := (Own.made ((w.alloc _).alloc _) 24 #[.int .u64 0, .int .u64 0, .int .u64 0, .int .u64 0]).keep hb1
  have hB : Below w.heap.size w w1 := then_ (by repeat' (first | (with_reducible exact Below.refl _ _) | (with_reducible assumption) | (with_reducible refine below_drewN ?_ _) | (with_reducible refine Below.drew ?_) | (with_reducible refine Below.alloc ?_ ?_ _) | (with_reducible refine Below.setCell ?_ ?_ _) | (with_reducible refine then_ ?_ (by with_reducible assumption) ?_) | (with_reducible exact Nat.le_refl _) | (with_reducible exact Nat.le_succ _) | (with_reducible exact Nat.le_succ_of_le (by with_reducible assumption)) | omega | (simp; done) | (simp; omega) | (exact Nat.le_succ _) | (exact Nat.le_succ_of_le (by with_reducible assumption)))) hb1 (by simp; omega)
  rw [World.size_alloc] at OB
  rw [World.size_alloc, World.size_alloc] at OR
  obtain ⟨A1, A2, A3⟩ := OA.at_
  obtain ⟨B1, B2, B3⟩ := OB.at_
  obtain ⟨R1, R2, R3⟩ := OR.at_
  go_region_held3 (fun W => Below w.heap.size w W ∧ Own W (w1.heap.size) 24 #[.int .u64 z0, .int .u64 z1, .int .u64 z2, .int .u64 z3] ∧ Own W (w.heap.size + 1 + 1) 24 #[.int .u64 0, .int .u64 0, .int .u64 0, .int .u64 0] ∧ W.cell? ⟨w.heap.size, 0, none⟩ = some (.int .u64 x0) ∧ W.cell? ⟨w.heap.size, 1, none⟩ = some (.int .u64 x1) ∧ W.cell? ⟨w.heap.size, 2, none⟩ = some (.int .u64 x2) ∧ W.cell? ⟨w.heap.size, 3, none⟩ = some (.int .u64 x3) ∧ W.cell? ⟨w.heap.size + 1, 0, none⟩ = some (.int .u64 y0) ∧ W.cell? ⟨w.heap.size + 1, 1, none⟩ = some (.int .u64 y1) ∧ W.cell? ⟨w.heap.size + 1, 2, none⟩ = some (.int .u64 y2) ∧ W.cell? ⟨w.heap.size + 1, 3, none⟩ = some (.int .u64 y3) ∧ W.cell? ⟨w1.heap.size, 0, none⟩ = some (.int .u64 z0) ∧ W.cell? ⟨w1.heap.size, 1, none⟩ = some (.int .u64 z1) ∧ W.cell? ⟨w1.heap.size, 2, none⟩ = some (.int .u64 z2) ∧ W.cell? ⟨w1.heap.size, 3, none⟩ = some (.int .u64 z3))
    (first
      | (refine ⟨by repeat' (first | (with_reducible exact Below.refl _ _) | (with_reducible assumption) | (with_reducible refine below_drewN ?_ _) | (with_reducible refine Below.drew ?_) | (with_reducible refine Below.alloc ?_ ?_ _) | (with_reducible refine Below.setCell ?_ ?_ _) | (with_reducible refine then_ ?_ (by with_reducible assumption) ?_) | (with_reducible exact Nat.le_refl _) | (with_reducible exact Nat.le_succ _) | (with_reducible exact Nat.le_succ_of_le (by with_reducible assumption)) | omega | (simp; done) | (simp; omega) | (exact Nat.le_succ _) | (exact Nat.le_succ_of_le (by with_reducible assumption))), by repeat' (first | (with_reducible assumption) | (with_reducible refine Own.drawnN ?_ _) | (with_reducible refine Own.drawn ?_) | (with_reducible refine Own.made_at ?_; first | rfl | (simp; done) | omega | (simp; omega)) | (with_reducible refine Own.more ?_ _) | (with_reducible refine Own.apart ?_ ?_ _ _; rotate_left; first | omega | (simp; done) | (simp; omega)) | (refine Own.put ?_ _ _)), by repeat' (first | (with_reducible assumption) | (with_reducible refine Own.drawnN ?_ _) | (with_reducible refine Own.drawn ?_) | (with_reducible refine Own.made_at ?_; first | rfl | (simp; done) | omega | (simp; omega)) | (with_reducible refine Own.more ?_ _) | (with_reducible refine Own.apart ?_ ?_ _ _; rotate_left; first | omega | (simp; done) | (simp; omega)) | (refine Own.put ?_ _ _)), ?_⟩; simp [go_sem, *]; done)
      | (obtain ⟨k0, k1, k2, f0, f1, f2, f3, f4, f5, f6, f7, f8, f9, f10, f11⟩ := ‹Below w.heap.size w _ ∧ _›; exact ⟨then_ k0 hb2 k0.size, k1.keep hb2, k2.keep hb2, keep hb2 f0, keep hb2 f1, keep hb2 f2, keep hb2 f3, keep hb2 f4, keep hb2 f5, keep hb2 f6, keep hb2 f7, keep hb2 f8, keep hb2 f9, keep hb2 f10, keep hb2 f11⟩))
    (first
      | (go_at_call 28; with_reducible refine (BA.out _).mono ?_; rintro e w2 ⟨rfl, hb2⟩)
      | (go_at_call 28; with_reducible refine (BB.out _).mono ?_; rintro e w2 ⟨rfl, hb2⟩)
      | (go_at_call 28; with_reducible refine (BR.out _).mono ?_; rintro e w2 ⟨rfl, hb2⟩))
  rename_i hh
  obtain ⟨hBe, OCe, ORe, -⟩ := hh
  rename_i wz hbz
  clear A1 A2 A3 B1 B2 B3 R1 R2 R3 OA OB OR hB hb1
  obtain ⟨R1, R2, R3⟩ := ORe.at_
  obtain ⟨C1, C2, C3⟩ := OCe.at_
  go_wp2
  refine bodyPost_ret (by simp [results, Tryd.results11, go_sem, R1]) rfl ⟨rfl, ?_⟩
  repeat' (first | (with_reducible exact Below.refl _ _) | (with_reducible assumption) | (with_reducible refine below_drewN ?_ _) | (with_reducible refine Below.drew ?_) | (with_reducible refine Below.alloc ?_ ?_ _) | (with_reducible refine Below.setCell ?_ ?_ _) | (with_reducible refine then_ ?_ (by with_reducible assumption) ?_) | (with_reducible exact Nat.le_refl _) | (with_reducible exact Nat.le_succ _) | (with_reducible exact Nat.le_succ_of_le (by with_reducible assumption)) | omega | (simp; done) | (simp; omega) | (exact Nat.le_succ _) | (exact Nat.le_succ_of_le (by with_reducible assumption)))
theorem add_fit (a b : Int) (ha : Fit a) (hb : Fit b) (hc : Fit (a + b)) (w : World) :
    Calls Tryd.prog 10 #[.agg #[.int .u64 (L0 a), .int .u64 (L1 a), .int .u64 (L2 a), .int .u64 (L3 a)], .agg #[.int .u64 (L0 b), .int .u64 (L1 b), .int .u64 (L2 b), .int .u64 (L3 b)]] w fun e w' => e = .returned (.tuple #[.agg #[.int .u64 (L0 (a + b)), .int .u64 (L1 (a + b)), .int .u64 (L2 (a + b)), .int .u64 (L3 (a + b))], .int .i64 0]) ∧ Below w.heap.size w w' := by
  have ea := ngB_fit ha; have eb := ngB_fit hb; have ec := ngB_fit hc
  by_cases h : ngB b = ngB a
  · by_cases h2 : ngB (a + b) = ngB a
    · exact add_same a b _ (ngB a) rfl rfl h h2 w
    · exfalso; rw [ea, eb] at h; rw [ea, ec] at h2; apply h2; rw [Bool.eq_iff_iff] at h ⊢; simp only [decide_eq_true_eq] at h ⊢; omega
  · exact add_mixed a b _ (ngB a) (ngB (a + b)) rfl rfl (by revert h; cases ngB a <;> cases ngB b <;> simp) rfl w
theorem add_large (a b : Int) (ha : Fit a) (hb : Fit b) (hc : ¬ Fit (a + b)) (w : World) :
    Calls Tryd.prog 10 #[.agg #[.int .u64 (L0 a), .int .u64 (L1 a), .int .u64 (L2 a), .int .u64 (L3 a)], .agg #[.int .u64 (L0 b), .int .u64 (L1 b), .int .u64 (L2 b), .int .u64 (L3 b)]] w fun e w' => e = .returned (.tuple #[.agg #[.int .u64 0, .int .u64 0, .int .u64 0, .int .u64 0], .int .i64 3]) ∧ Below w.heap.size w w' := by
  have ea := ngB_fit ha; have eb := ngB_fit hb
  have ec := ngB_iff (a + b)
  obtain ⟨a0, a1⟩ := ha; obtain ⟨b0, b1⟩ := hb
  have hf : a + b < -57896044618658097711785492504343953926634992332820282019728792003956564819968 ∨ 57896044618658097711785492504343953926634992332820282019728792003956564819967 < a + b := by
    by_cases h1 : a + b < -57896044618658097711785492504343953926634992332820282019728792003956564819968
    · exact .inl h1
    · by_cases h2 : 57896044618658097711785492504343953926634992332820282019728792003956564819967 < a + b
      · exact .inr h2
      · exact absurd ⟨by omega, by omega⟩ hc
  have h : ngB b = ngB a := by
    rw [ea, eb, Bool.eq_iff_iff]; simp only [decide_eq_true_eq]; omega
  refine add_over a b _ (ngB a) rfl rfl h ?_ w
  rw [Bool.eq_iff_iff, ec, ea]; simp; omega
theorem sub_fit (a b : Int) (ha : Fit a) (hb : Fit b) (hc : Fit (a - b)) (w : World) :
    Calls Tryd.prog 11 #[.agg #[.int .u64 (L0 a), .int .u64 (L1 a), .int .u64 (L2 a), .int .u64 (L3 a)], .agg #[.int .u64 (L0 b), .int .u64 (L1 b), .int .u64 (L2 b), .int .u64 (L3 b)]] w fun e w' => e = .returned (.tuple #[.agg #[.int .u64 (L0 (a - b)), .int .u64 (L1 (a - b)), .int .u64 (L2 (a - b)), .int .u64 (L3 (a - b))], .int .i64 0]) ∧ Below w.heap.size w w' := by
  have ea := ngB_fit ha; have eb := ngB_fit hb; have ec := ngB_fit hc
  by_cases h : ngB b = ngB a
  · exact sub_same a b _ (ngB a) (ngB (a - b)) rfl rfl h rfl w
  · by_cases h2 : ngB (a - b) = ngB a
    · exact sub_mixed a b _ (ngB a) rfl rfl (by revert h; cases ngB a <;> cases ngB b <;> simp) h2 w
    · exfalso; rw [ea, eb, Bool.eq_iff_iff] at h; rw [ea, ec, Bool.eq_iff_iff] at h2; simp only [decide_eq_true_eq] at h h2; omega
theorem sub_large (a b : Int) (ha : Fit a) (hb : Fit b) (hc : ¬ Fit (a - b)) (w : World) :
    Calls Tryd.prog 11 #[.agg #[.int .u64 (L0 a), .int .u64 (L1 a), .int .u64 (L2 a), .int .u64 (L3 a)], .agg #[.int .u64 (L0 b), .int .u64 (L1 b), .int .u64 (L2 b), .int .u64 (L3 b)]] w fun e w' => e = .returned (.tuple #[.agg #[.int .u64 0, .int .u64 0, .int .u64 0, .int .u64 0], .int .i64 3]) ∧ Below w.heap.size w w' := by
  have ea := ngB_fit ha; have eb := ngB_fit hb
  have ec := ngB_iff (a - b)
  obtain ⟨a0, a1⟩ := ha; obtain ⟨b0, b1⟩ := hb
  have hf : a - b < -57896044618658097711785492504343953926634992332820282019728792003956564819968 ∨ 57896044618658097711785492504343953926634992332820282019728792003956564819967 < a - b := by
    by_cases h1 : a - b < -57896044618658097711785492504343953926634992332820282019728792003956564819968
    · exact .inl h1
    · by_cases h2 : 57896044618658097711785492504343953926634992332820282019728792003956564819967 < a - b
      · exact .inr h2
      · exact absurd ⟨by omega, by omega⟩ hc
  have h : ngB b = !(ngB a) := by
    rw [ea, eb, Bool.eq_iff_iff]; simp only [Bool.not_eq_true', decide_eq_true_eq, decide_eq_false_iff_not]; omega
  refine sub_over a b _ (ngB a) rfl rfl h ?_ w
  rw [Bool.eq_iff_iff, ec, ea]; simp; omega
end Go.Proofs.YtjmojddnedngaaaDoor
