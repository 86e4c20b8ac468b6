
/- The contracts of wide.Neg, Mul. Conditions: numbers that a wide.Int can be. -/
import Derived.Test.YtjmojddnedngaaaDoorWideG
import Derived.Test.YtjmojddnedngaaaDoorRefS
import Derived.Test.YtjmojddnedngaaaDoorWideP
import Derived.Lib.Walk
import Derived.Deep.DeepCutAuto
import Derived.Deep.RegionHeld3
import Derived.Lib.ItoaWalk
namespace Go.Proofs.YtjmojddnedngaaaDoor
open Go.ChangeShapes Go.WideShapes Go.ChangeAt Go.RowKit
set_option linter.unusedVariables false

theorem neg_fit (a : Int) (ha : Fit a) (hc : Fit (0 - a)) (w : World) :
    Calls Tryd.prog 41 #[.agg #[.int .u64 (L0 a), .int .u64 (L1 a), .int .u64 (L2 a), .int .u64 (L3 a)]] w fun e w' => e = .returned (.tuple #[.agg #[.int .u64 (L0 (0 - a)), .int .u64 (L1 (0 - a)), .int .u64 (L2 (0 - a)), .int .u64 (L3 (0 - a))], .int .i64 0]) ∧ Below w.heap.size w w' := by
  have S1 : ∀ w : World, Calls Tryd.prog 11 #[.agg #[.int .u64 0, .int .u64 0, .int .u64 0, .int .u64 0], .agg #[.int .u64 (L0 a), .int .u64 (L1 a), .int .u64 (L2 a), .int .u64 (L3 a)]] w fun e w' => e = .returned (.tuple #[.agg #[.int .u64 (L0 (0 - a)), .int .u64 (L1 (0 - a)), .int .u64 (L2 (0 - a)), .int .u64 (L3 (0 - a))], .int .i64 0]) ∧ Below w.heap.size w w' := fun w => sub_fit 0 a fit0 ha hc w
  have S := Lib.hid S1
  clear S1 hc ha
  generalize (0 : Int) - a = c at *
  go_enter Tryd.func41, Tryd.ntmps41
  go_wp2_with
    (go_at_call 11; refine (S.out _).mono ?_; rintro e w1 ⟨rfl, hb1⟩
     have OR : Own w1 (w.heap.size + 1) 24 #[.int .u64 0, .int .u64 0, .int .u64 0, .int .u64 0] := Own.keep (by repeat' (first | (with_reducible assumption) | (with_reducible refine Own.drawnN ?_ _) | (with_reducible refine Own.drawn ?_) | (with_reducible refine Own.made_at ?_; first | rfl | (simp; done) | omega | (simp; omega)) | (with_reducible refine Own.more ?_ _) | (with_reducible refine Own.apart ?_ ?_ _ _; rotate_left; first | omega | (simp; done) | (simp; omega)) | (refine Own.put ?_ _ _))) hb1
     have hB : Below w.heap.size w w1 := then_ (by repeat' (first | (with_reducible exact Below.refl _ _) | (with_reducible assumption) | (with_reducible refine below_drewN ?_ _) | (with_reducible refine Below.drew ?_) | (with_reducible refine Below.alloc ?_ ?_ _) | (with_reducible refine Below.setCell ?_ ?_ _) | (with_reducible refine then_ ?_ (by with_reducible assumption) ?_) | (with_reducible exact Nat.le_refl _) | (with_reducible exact Nat.le_succ _) | (with_reducible exact Nat.le_succ_of_le (by with_reducible assumption)) | omega | (simp; done) | (simp; omega) | (exact Nat.le_succ _) | (exact Nat.le_succ_of_le (by with_reducible assumption)))) hb1 (by simp; omega)
     obtain ⟨R1, R2, R3⟩ := OR.at_)
  try simp only [setCell_drawn]
  refine bodyPost_ret (by simp [results, Tryd.results41, go_sem, R1]) rfl ⟨rfl, ?_⟩
  repeat' (first | (with_reducible exact Below.refl _ _) | (with_reducible assumption) | (with_reducible refine below_drewN ?_ _) | (with_reducible refine Below.drew ?_) | (with_reducible refine Below.alloc ?_ ?_ _) | (with_reducible refine Below.setCell ?_ ?_ _) | (with_reducible refine then_ ?_ (by with_reducible assumption) ?_) | (with_reducible exact Nat.le_refl _) | (with_reducible exact Nat.le_succ _) | (with_reducible exact Nat.le_succ_of_le (by with_reducible assumption)) | omega | (simp; done) | (simp; omega) | (exact Nat.le_succ _) | (exact Nat.le_succ_of_le (by with_reducible assumption)))
theorem siz_words {a : Int} (h : Siz a) : a = L0 a + 18446744073709551616 * L1 a + 340282366920938463463374607431768211456 * L2 a + 6277101735386680763835789423207666416102355444464034512896 * L3 a := by
  obtain ⟨_, _⟩ := h; unfold L0 L1 L2 L3; omega
theorem mul_words (a b x0 x1 x2 x3 y0 y1 y2 y3 : Int) (ea : a = x0 + 18446744073709551616 * x1 + 340282366920938463463374607431768211456 * x2 + 6277101735386680763835789423207666416102355444464034512896 * x3) (eb : b = y0 + 18446744073709551616 * y1 + 340282366920938463463374607431768211456 * y2 + 6277101735386680763835789423207666416102355444464034512896 * y3) :
    a * b = x0 * y0 + 18446744073709551616 * (x0 * y1) + 340282366920938463463374607431768211456 * (x0 * y2) + 6277101735386680763835789423207666416102355444464034512896 * (x0 * y3) + 18446744073709551616 * (x1 * y0) + 340282366920938463463374607431768211456 * (x1 * y1) + 6277101735386680763835789423207666416102355444464034512896 * (x1 * y2) + 115792089237316195423570985008687907853269984665640564039457584007913129639936 * (x1 * y3) + 340282366920938463463374607431768211456 * (x2 * y0) + 6277101735386680763835789423207666416102355444464034512896 * (x2 * y1) + 115792089237316195423570985008687907853269984665640564039457584007913129639936 * (x2 * y2) + 2135987035920910082395021706169552114602704522356652769947041607822219725780640550022962086936576 * (x2 * y3) + 6277101735386680763835789423207666416102355444464034512896 * (x3 * y0) + 115792089237316195423570985008687907853269984665640564039457584007913129639936 * (x3 * y1) + 2135987035920910082395021706169552114602704522356652769947041607822219725780640550022962086936576 * (x3 * y2) + 39402006196394479212279040100143613805079739270465446667948293404245721771497210611414266254884915640806627990306816 * (x3 * y3) := by
  have ha : a * b = x0 * b + 18446744073709551616 * (x1 * b) + 340282366920938463463374607431768211456 * (x2 * b) + 6277101735386680763835789423207666416102355444464034512896 * (x3 * b) := by
    rw [ea, Int.add_mul, Int.add_mul, Int.add_mul, Int.mul_assoc, Int.mul_assoc, Int.mul_assoc]
  have hx : ∀ x : Int, x * b = x * y0 + 18446744073709551616 * (x * y1) + 340282366920938463463374607431768211456 * (x * y2) + 6277101735386680763835789423207666416102355444464034512896 * (x * y3) := fun x => by
    rw [eb, Int.mul_add, Int.mul_add, Int.mul_add, Int.mul_left_comm x 18446744073709551616 y1, Int.mul_left_comm x 340282366920938463463374607431768211456 y2, Int.mul_left_comm x 6277101735386680763835789423207666416102355444464034512896 y3]
  rw [ha, hx x0, hx x1, hx x2, hx x3]
  omega
/-- the eight words of a product -/
theorem product_b (a b n : Int) (ha : Siz a) (hb : Siz b) (hn : n = a * b) (w : World) : Calls Tryd.prog 46 #[.agg #[.int .u64 (L0 a), .int .u64 (L1 a), .int .u64 (L2 a), .int .u64 (L3 a)], .agg #[.int .u64 (L0 b), .int .u64 (L1 b), .int .u64 (L2 b), .int .u64 (L3 b)]] w fun e w' => e = .returned (.agg #[.int .u64 (L0 n), .int .u64 (L1 n), .int .u64 (L2 n), .int .u64 (L3 n), .int .u64 (L0 (n / 115792089237316195423570985008687907853269984665640564039457584007913129639936)), .int .u64 (L1 (n / 115792089237316195423570985008687907853269984665640564039457584007913129639936)), .int .u64 (L2 (n / 115792089237316195423570985008687907853269984665640564039457584007913129639936)), .int .u64 (L3 (n / 115792089237316195423570985008687907853269984665640564039457584007913129639936))]) ∧ Below w.heap.size w w' := by
  refine (product_gen _ _ _ _ _ _ _ _ (W4.of a) (W4.of b) w).mono ?_
  rintro e w' ⟨p0, p1, p2, p3, p4, p5, p6, p7, hp, hq, hs, rfl, c1, c2, c3, c4, hw⟩
  obtain ⟨e0, e1, e2, e3⟩ := L_num4 hp
  obtain ⟨e4, e5, e6, e7⟩ := L_num4 hq
  have hm := mul_words a b _ _ _ _ _ _ _ _ (siz_words ha) (siz_words hb)
  rw [← hs, ← hn] at hm
  have q1 : n / 115792089237316195423570985008687907853269984665640564039457584007913129639936 = num4 p4 p5 p6 p7 := by
    obtain ⟨_, _, _, _, _, _, _, _⟩ := hp; obtain ⟨_, _, _, _, _, _, _, _⟩ := hq
    unfold num4; omega
  have q2 : n % 115792089237316195423570985008687907853269984665640564039457584007913129639936 = num4 p0 p1 p2 p3 := by
    obtain ⟨_, _, _, _, _, _, _, _⟩ := hp; obtain ⟨_, _, _, _, _, _, _, _⟩ := hq
    unfold num4; omega
  have l : ∀ z : Int, L0 z = L0 (z % 115792089237316195423570985008687907853269984665640564039457584007913129639936) ∧ L1 z = L1 (z % 115792089237316195423570985008687907853269984665640564039457584007913129639936) ∧ L2 z = L2 (z % 115792089237316195423570985008687907853269984665640564039457584007913129639936) ∧ L3 z = L3 (z % 115792089237316195423570985008687907853269984665640564039457584007913129639936) := fun z => by unfold L0 L1 L2 L3; omega
  obtain ⟨l0, l1, l2, l3⟩ := l n
  rw [l0, l1, l2, l3, q1, q2, e0, e1, e2, e3, e4, e5, e6, e7]
  exact ⟨rfl, by rw [hw]; repeat' (first | (with_reducible exact Below.refl _ _) | (with_reducible assumption) | (with_reducible refine below_drewN ?_ _) | (with_reducible refine Below.drew ?_) | (with_reducible refine Below.alloc ?_ ?_ _) | (with_reducible refine Below.setCell ?_ ?_ _) | (with_reducible refine then_ ?_ (by with_reducible assumption) ?_) | (with_reducible exact Nat.le_refl _) | (with_reducible exact Nat.le_succ _) | (with_reducible exact Nat.le_succ_of_le (by with_reducible assumption)) | omega | (simp; done) | (simp; omega) | (exact Nat.le_succ _) | (exact Nat.le_succ_of_le (by with_reducible assumption)))⟩
theorem arr_hi (g : Nat) (w : World) : (Instr.arrayAt 23 (.slice (some ⟨g, 4, none⟩) 4 4)).run Tryd.prog w = .ok (.pointer (some ⟨g, 4, none⟩)) w := by
  simp [Instr.arrayAt, run_underlying Tryd.underlying23]
theorem arr_lo (g : Nat) (w : World) : (Instr.arrayAt 58 (.slice (some ⟨g, 0, none⟩) 4 8)).run Tryd.prog w = .ok (.pointer (some ⟨g, 0, none⟩)) w := by
  simp [Instr.arrayAt, run_underlying Tryd.underlying58]
theorem L_prod_hi (a b : Int) (ha : Fit a) (hb : Fit b) : Siz (((a.natAbs : Int) * b.natAbs) / 115792089237316195423570985008687907853269984665640564039457584007913129639936) := by
  have h1 := Int.mul_le_mul (show (a.natAbs : Int) ≤ 57896044618658097711785492504343953926634992332820282019728792003956564819968 by have := ha.lo; have := ha.hi; omega) (show (b.natAbs : Int) ≤ 57896044618658097711785492504343953926634992332820282019728792003956564819968 by have := hb.lo; have := hb.hi; omega) (by omega) (by decide)
  have h0 : (0 : Int) ≤ (a.natAbs : Int) * b.natAbs := Int.mul_nonneg (by omega) (by omega)
  generalize (a.natAbs : Int) * b.natAbs = n at *
  constructor <;> omega
set_option maxHeartbeats 6400000 in
set_option maxRecDepth 20000 in
theorem Mul_hi (a b : Int) (ha : Fit a) (hb : Fit b) (hh : ¬ ((a.natAbs : Int) * b.natAbs) / 115792089237316195423570985008687907853269984665640564039457584007913129639936 = 0) (w : World) :
    Calls Tryd.prog 26 #[.agg #[.int .u64 (L0 a), .int .u64 (L1 a), .int .u64 (L2 a), .int .u64 (L3 a)], .agg #[.int .u64 (L0 b), .int .u64 (L1 b), .int .u64 (L2 b), .int .u64 (L3 b)]] w fun e w' => e = .returned (.tuple #[.agg #[.int .u64 0, .int .u64 0, .int .u64 0, .int .u64 0], .int .i64 3]) ∧ Below w.heap.size w w' := by
  have SA := Lib.hid (fun w => sizeOf_any a ha w)
  have SB := Lib.hid (fun w => sizeOf_any b hb w)
  have sza : Siz (a.natAbs : Int) := ⟨by omega, by have := ha.lo; have := ha.hi; omega⟩
  have szb : Siz (b.natAbs : Int) := ⟨by omega, by have := hb.lo; have := hb.hi; omega⟩
  have PR := Lib.hid (fun w => product_b a.natAbs b.natAbs _ sza szb rfl w)
  have EQ : ∀ w, (Op.equalIn 10000 23 (.agg #[.int .u64 (L0 (((a.natAbs : Int) * b.natAbs) / 115792089237316195423570985008687907853269984665640564039457584007913129639936)), .int .u64 (L1 (((a.natAbs : Int) * b.natAbs) / 115792089237316195423570985008687907853269984665640564039457584007913129639936)), .int .u64 (L2 (((a.natAbs : Int) * b.natAbs) / 115792089237316195423570985008687907853269984665640564039457584007913129639936)), .int .u64 (L3 (((a.natAbs : Int) * b.natAbs) / 115792089237316195423570985008687907853269984665640564039457584007913129639936))]) (.agg #[.int .u64 0, .int .u64 0, .int .u64 0, .int .u64 0])).run Tryd.prog w = .ok false w := fun w => by
    have hz := L_prod_hi a b ha hb
    refine (eq_arr _ _ _ _ _ _ _ _ w).trans ?_
    have := dec_siz hz siz0
    rw [decide_eq_false hh] at this
    rw [← this]; rfl
  clear hh
  clear sza szb
  generalize ((a.natAbs : Nat) : Int) = aa at *
  generalize ((b.natAbs : Nat) : Int) = bb at *
  generalize hn : aa * bb = n at *
  have Hn := Lib.hid hn
  clear hn
  go_enter Tryd.func26, Tryd.ntmps26
  go_upto_region 1 with fail
  go_cut [6] (fun s6 wx => ∃ g, s6 = .pointer (some ⟨g, 0, none⟩) ∧ w.heap.size + 1 + 1 < g ∧ Own wx g 78 #[.int .u64 (L0 n), .int .u64 (L1 n), .int .u64 (L2 n), .int .u64 (L3 n), .int .u64 (L0 (n / 115792089237316195423570985008687907853269984665640564039457584007913129639936)), .int .u64 (L1 (n / 115792089237316195423570985008687907853269984665640564039457584007913129639936)), .int .u64 (L2 (n / 115792089237316195423570985008687907853269984665640564039457584007913129639936)), .int .u64 (L3 (n / 115792089237316195423570985008687907853269984665640564039457584007913129639936))] ∧ Own wx w.heap.size 24 #[.int .u64 (L0 a), .int .u64 (L1 a), .int .u64 (L2 a), .int .u64 (L3 a)] ∧ Own wx (w.heap.size + 1) 24 #[.int .u64 (L0 b), .int .u64 (L1 b), .int .u64 (L2 b), .int .u64 (L3 b)] ∧ Own wx (w.heap.size + 1 + 1) 24 #[.int .u64 0, .int .u64 0, .int .u64 0, .int .u64 0] ∧ Below w.heap.size w wx)
  case first =>
    go_name_world W0 hW0
    have OA : Own W0 w.heap.size 24 #[.int .u64 (L0 a), .int .u64 (L1 a), .int .u64 (L2 a), .int .u64 (L3 a)] := hW0 ▸ (by repeat' (first | (with_reducible assumption) | (with_reducible refine Own.drawnN ?_ _) | (with_reducible refine Own.drawn ?_) | (with_reducible refine Own.made_at ?_; first | rfl | (simp; done) | omega | (simp; omega)) | (with_reducible refine Own.more ?_ _) | (with_reducible refine Own.apart ?_ ?_ _ _; rotate_left; first | omega | (simp; done) | (simp; omega)) | (refine Own.put ?_ _ _)))
    have OB : Own W0 (w.heap.size + 1) 24 #[.int .u64 (L0 b), .int .u64 (L1 b), .int .u64 (L2 b), .int .u64 (L3 b)] := hW0 ▸ (by repeat' (first | (with_reducible assumption) | (with_reducible refine Own.drawnN ?_ _) | (with_reducible refine Own.drawn ?_) | (with_reducible refine Own.made_at ?_; first | rfl | (simp; done) | omega | (simp; omega)) | (with_reducible refine Own.more ?_ _) | (with_reducible refine Own.apart ?_ ?_ _ _; rotate_left; first | omega | (simp; done) | (simp; omega)) | (refine Own.put ?_ _ _)))
    have OR : Own W0 (w.heap.size + 1 + 1) 24 #[.int .u64 0, .int .u64 0, .int .u64 0, .int .u64 0] := hW0 ▸ (by repeat' (first | (with_reducible assumption) | (with_reducible refine Own.drawnN ?_ _) | (with_reducible refine Own.drawn ?_) | (with_reducible refine Own.made_at ?_; first | rfl | (simp; done) | omega | (simp; omega)) | (with_reducible refine Own.more ?_ _) | (with_reducible refine Own.apart ?_ ?_ _ _; rotate_left; first | omega | (simp; done) | (simp; omega)) | (refine Own.put ?_ _ _)))
    have hBW0 : Below w.heap.size w W0 := hW0 ▸ (by repeat' (first | (with_reducible exact Below.refl _ _) | (with_reducible assumption) | (with_reducible refine below_drewN ?_ _) | (with_reducible refine Below.drew ?_) | (with_reducible refine Below.alloc ?_ ?_ _) | (with_reducible refine Below.setCell ?_ ?_ _) | (with_reducible refine then_ ?_ (by with_reducible assumption) ?_) | (with_reducible exact Nat.le_refl _) | (with_reducible exact Nat.le_succ _) | (with_reducible exact Nat.le_succ_of_le (by with_reducible assumption)) | omega | (simp; done) | (simp; omega) | (exact Nat.le_succ _) | (exact Nat.le_succ_of_le (by with_reducible assumption))))
    clear hW0
    obtain ⟨A1, A2, A3⟩ := OA.at_
    obtain ⟨B1, B2, B3⟩ := OB.at_
    have hz0 := OR.in_
    have f0 : W0.cell? ⟨w.heap.size, 0, none⟩ = some (.int .u64 (L0 a)) := by simp [go_sem, *]
    have f1 : W0.cell? ⟨w.heap.size, 1, none⟩ = some (.int .u64 (L1 a)) := by simp [go_sem, *]
    have f2 : W0.cell? ⟨w.heap.size, 2, none⟩ = some (.int .u64 (L2 a)) := by simp [go_sem, *]
    have f3 : W0.cell? ⟨w.heap.size, 3, none⟩ = some (.int .u64 (L3 a)) := by simp [go_sem, *]
    have f4 : W0.cell? ⟨w.heap.size + 1, 0, none⟩ = some (.int .u64 (L0 b)) := by simp [go_sem, *]
    have f5 : W0.cell? ⟨w.heap.size + 1, 1, none⟩ = some (.int .u64 (L1 b)) := by simp [go_sem, *]
    have f6 : W0.cell? ⟨w.heap.size + 1, 2, none⟩ = some (.int .u64 (L2 b)) := by simp [go_sem, *]
    have f7 : W0.cell? ⟨w.heap.size + 1, 3, none⟩ = some (.int .u64 (L3 b)) := by simp [go_sem, *]
    go_region_held3 (fun W => Below w.heap.size w W ∧ W.cell? ⟨w.heap.size, 0, none⟩ = some (.int .u64 (L0 a)) ∧ W.cell? ⟨w.heap.size, 1, none⟩ = some (.int .u64 (L1 a)) ∧ W.cell? ⟨w.heap.size, 2, none⟩ = some (.int .u64 (L2 a)) ∧ W.cell? ⟨w.heap.size, 3, none⟩ = some (.int .u64 (L3 a)) ∧ W.cell? ⟨w.heap.size + 1, 0, none⟩ = some (.int .u64 (L0 b)) ∧ W.cell? ⟨w.heap.size + 1, 1, none⟩ = some (.int .u64 (L1 b)) ∧ W.cell? ⟨w.heap.size + 1, 2, none⟩ = some (.int .u64 (L2 b)) ∧ W.cell? ⟨w.heap.size + 1, 3, none⟩ = some (.int .u64 (L3 b)))
      (first
        | (refine (fun HB => ⟨then_ hBW0 HB hBW0.size, keep HB f0, keep HB f1, keep HB f2, keep HB f3, keep HB f4, keep HB f5, keep HB f6, keep HB f7⟩ : Below W0.heap.size W0 _ → _) ?_; (repeat' (first | (with_reducible exact Below.refl _ _) | (with_reducible assumption) | (with_reducible refine below_drewN ?_ _) | (with_reducible refine Below.drew ?_) | (with_reducible refine Below.alloc ?_ ?_ _) | (with_reducible refine Below.setCell ?_ ?_ _) | (with_reducible refine then_ ?_ (by with_reducible assumption) ?_) | (with_reducible exact Nat.le_refl _) | (with_reducible exact Nat.le_succ _) | (with_reducible exact Nat.le_succ_of_le (by with_reducible assumption)) | omega | (simp; done) | (simp; omega) | (exact Nat.le_succ _) | (exact Nat.le_succ_of_le (by with_reducible assumption)))); done)
        | (obtain ⟨kb, g0, g1, g2, g3, g4, g5, g6, g7⟩ := ‹Below w.heap.size w _ ∧ _›; refine ⟨by repeat' (first | (with_reducible exact Below.refl _ _) | (with_reducible assumption) | (with_reducible refine below_drewN ?_ _) | (with_reducible refine Below.drew ?_) | (with_reducible refine Below.alloc ?_ ?_ _) | (with_reducible refine Below.setCell ?_ ?_ _) | (with_reducible refine then_ ?_ (by with_reducible assumption) ?_) | (with_reducible exact Nat.le_refl _) | (with_reducible exact Nat.le_succ _) | (with_reducible exact Nat.le_succ_of_le (by with_reducible assumption)) | omega | (simp; done) | (simp; omega) | (exact Nat.le_succ _) | (exact Nat.le_succ_of_le (by with_reducible assumption))), ?_, ?_, ?_, ?_, ?_, ?_, ?_, ?_⟩ <;> (simp [go_sem, *]; done)))
      (first
        | (go_at_call 47; with_reducible refine (SA.out _).mono ?_; rintro e wN ⟨rfl, hbN⟩; have hwN : Below W0.heap.size W0 wN := (fun HB => then_ HB hbN HB.size) (by repeat' (first | (with_reducible exact Below.refl _ _) | (with_reducible assumption) | (with_reducible refine below_drewN ?_ _) | (with_reducible refine Below.drew ?_) | (with_reducible refine Below.alloc ?_ ?_ _) | (with_reducible refine Below.setCell ?_ ?_ _) | (with_reducible refine then_ ?_ (by with_reducible assumption) ?_) | (with_reducible exact Nat.le_refl _) | (with_reducible exact Nat.le_succ _) | (with_reducible exact Nat.le_succ_of_le (by with_reducible assumption)) | omega | (simp; done) | (simp; omega) | (exact Nat.le_succ _) | (exact Nat.le_succ_of_le (by with_reducible assumption)))); have hzN := hwN.size; (try have Q0 := Own.keep (by with_reducible first | exact Own.made _ _ _ | exact (Own.made _ _ _).drawn) hbN); (try have Q0' := Own.keep (by with_reducible first | exact (Own.made _ _ _).more _ | exact ((Own.made _ _ _).more _).drawn) hbN))
        | (go_at_call 47; with_reducible refine (SB.out _).mono ?_; rintro e wN ⟨rfl, hbN⟩; have hwN : Below W0.heap.size W0 wN := (fun HB => then_ HB hbN HB.size) (by repeat' (first | (with_reducible exact Below.refl _ _) | (with_reducible assumption) | (with_reducible refine below_drewN ?_ _) | (with_reducible refine Below.drew ?_) | (with_reducible refine Below.alloc ?_ ?_ _) | (with_reducible refine Below.setCell ?_ ?_ _) | (with_reducible refine then_ ?_ (by with_reducible assumption) ?_) | (with_reducible exact Nat.le_refl _) | (with_reducible exact Nat.le_succ _) | (with_reducible exact Nat.le_succ_of_le (by with_reducible assumption)) | omega | (simp; done) | (simp; omega) | (exact Nat.le_succ _) | (exact Nat.le_succ_of_le (by with_reducible assumption)))); have hzN := hwN.size; (try replace Q0 := Own.keep (by with_reducible first | exact Q0 | exact Q0.drawn | exact Q0.more _ | exact (Q0.more _).drawn | exact (Q0.more _).more _ | exact ((Q0.more _).more _).drawn) hbN); (try replace Q0' := Own.keep (by with_reducible first | exact Q0' | exact Q0'.drawn | exact Q0'.more _ | exact (Q0'.more _).drawn | exact (Q0'.more _).more _ | exact ((Q0'.more _).more _).drawn) hbN); (try have Q1 := Own.keep (by with_reducible first | exact Own.made _ _ _ | exact (Own.made _ _ _).drawn) hbN); (try have Q1' := Own.keep (by with_reducible first | exact (Own.made _ _ _).more _ | exact ((Own.made _ _ _).more _).drawn) hbN))
        | (go_at_call 46; with_reducible refine (PR.out _).mono ?_; rintro e wN ⟨rfl, hbN⟩; have hwN : Below W0.heap.size W0 wN := (fun HB => then_ HB hbN HB.size) (by repeat' (first | (with_reducible exact Below.refl _ _) | (with_reducible assumption) | (with_reducible refine below_drewN ?_ _) | (with_reducible refine Below.drew ?_) | (with_reducible refine Below.alloc ?_ ?_ _) | (with_reducible refine Below.setCell ?_ ?_ _) | (with_reducible refine then_ ?_ (by with_reducible assumption) ?_) | (with_reducible exact Nat.le_refl _) | (with_reducible exact Nat.le_succ _) | (with_reducible exact Nat.le_succ_of_le (by with_reducible assumption)) | omega | (simp; done) | (simp; omega) | (exact Nat.le_succ _) | (exact Nat.le_succ_of_le (by with_reducible assumption)))); have hzN := hwN.size; (try replace Q0 := Own.keep (by with_reducible first | exact Q0 | exact Q0.drawn | exact Q0.more _ | exact (Q0.more _).drawn | exact (Q0.more _).more _ | exact ((Q0.more _).more _).drawn) hbN); (try replace Q0' := Own.keep (by with_reducible first | exact Q0' | exact Q0'.drawn | exact Q0'.more _ | exact (Q0'.more _).drawn | exact (Q0'.more _).more _ | exact ((Q0'.more _).more _).drawn) hbN); (try replace Q1 := Own.keep (by with_reducible first | exact Q1 | exact Q1.drawn | exact Q1.more _ | exact (Q1.more _).drawn | exact (Q1.more _).more _ | exact ((Q1.more _).more _).drawn) hbN); (try replace Q1' := Own.keep (by with_reducible first | exact Q1' | exact Q1'.drawn | exact Q1'.more _ | exact (Q1'.more _).drawn | exact (Q1'.more _).more _ | exact ((Q1'.more _).more _).drawn) hbN); (try have Q2 := Own.keep (by with_reducible first | exact Own.made _ _ _ | exact (Own.made _ _ _).drawn) hbN); (try have Q2' := Own.keep (by with_reducible first | exact (Own.made _ _ _).more _ | exact ((Own.made _ _ _).more _).drawn) hbN); (try obtain ⟨Q0a, Q0b, Q0c⟩ := Q0.at_); (try simp at Q0a Q0b Q0c); (try obtain ⟨Q0'a, Q0'b, Q0'c⟩ := Q0'.at_); (try simp at Q0'a Q0'b Q0'c); (try obtain ⟨Q1a, Q1b, Q1c⟩ := Q1.at_); (try simp at Q1a Q1b Q1c); (try obtain ⟨Q1'a, Q1'b, Q1'c⟩ := Q1'.at_); (try simp at Q1'a Q1'b Q1'c); (try obtain ⟨Q2a, Q2b, Q2c⟩ := Q2.at_); (try simp at Q2a Q2b Q2c); (try obtain ⟨Q2'a, Q2'b, Q2'c⟩ := Q2'.at_); (try simp at Q2'a Q2'b Q2'c)))
    all_goals
      have OAN := OA.keep hwN; have OBN := OB.keep hwN; have ORN := OR.keep hwN
      have hBN := then_ hBW0 hwN hBW0.size
      have hzw := hBW0.size
      go_wp2_with fail
      go_meet
      refine ⟨_, rfl, by omega, ?_, by repeat' (first | (with_reducible assumption) | (with_reducible refine Own.drawnN ?_ _) | (with_reducible refine Own.drawn ?_) | (with_reducible refine Own.made_at ?_; first | rfl | (simp; done) | omega | (simp; omega)) | (with_reducible refine Own.more ?_ _) | (with_reducible refine Own.apart ?_ ?_ _ _; rotate_left; first | omega | (simp; done) | (simp; omega)) | (refine Own.put ?_ _ _)), by repeat' (first | (with_reducible assumption) | (with_reducible refine Own.drawnN ?_ _) | (with_reducible refine Own.drawn ?_) | (with_reducible refine Own.made_at ?_; first | rfl | (simp; done) | omega | (simp; omega)) | (with_reducible refine Own.more ?_ _) | (with_reducible refine Own.apart ?_ ?_ _ _; rotate_left; first | omega | (simp; done) | (simp; omega)) | (refine Own.put ?_ _ _)), by repeat' (first | (with_reducible assumption) | (with_reducible refine Own.drawnN ?_ _) | (with_reducible refine Own.drawn ?_) | (with_reducible refine Own.made_at ?_; first | rfl | (simp; done) | omega | (simp; omega)) | (with_reducible refine Own.more ?_ _) | (with_reducible refine Own.apart ?_ ?_ _ _; rotate_left; first | omega | (simp; done) | (simp; omega)) | (refine Own.put ?_ _ _)), by repeat' (first | (with_reducible exact Below.refl _ _) | (with_reducible assumption) | (with_reducible refine below_drewN ?_ _) | (with_reducible refine Below.drew ?_) | (with_reducible refine Below.alloc ?_ ?_ _) | (with_reducible refine Below.setCell ?_ ?_ _) | (with_reducible refine then_ ?_ (by with_reducible assumption) ?_) | (with_reducible exact Nat.le_refl _) | (with_reducible exact Nat.le_succ _) | (with_reducible exact Nat.le_succ_of_le (by with_reducible assumption)) | omega | (simp; done) | (simp; omega) | (exact Nat.le_succ _) | (exact Nat.le_succ_of_le (by with_reducible assumption)))⟩
      first
        | (with_reducible refine Own.made_at ?_; rfl)
        | (refine Own.as (cs := (((((((((#[.int .u64 0, .int .u64 0, .int .u64 0, .int .u64 0, .int .u64 0, .int .u64 0, .int .u64 0, .int .u64 0] : Array Value).setIfInBounds 0 (.int .u64 (L0 n))).setIfInBounds 1 (.int .u64 (L1 n))).setIfInBounds 2 (.int .u64 (L2 n))).setIfInBounds 3 (.int .u64 (L3 n))).setIfInBounds 4 (.int .u64 (L0 (n / 115792089237316195423570985008687907853269984665640564039457584007913129639936)))).setIfInBounds 5 (.int .u64 (L1 (n / 115792089237316195423570985008687907853269984665640564039457584007913129639936)))).setIfInBounds 6 (.int .u64 (L2 (n / 115792089237316195423570985008687907853269984665640564039457584007913129639936)))).setIfInBounds 7 (.int .u64 (L3 (n / 115792089237316195423570985008687907853269984665640564039457584007913129639936))))) ?_ (by simp); iterate 8 (refine Own.put ?_ _ _)
           with_reducible assumption)
  case rest =>
    obtain ⟨g, rfl, hg, OP, OA, OB, OR, hB⟩ := hcut
    clear SA SB PR
    have HI4 := arr_hi g
    have LO4 := arr_lo g
    obtain ⟨P1, P2, P3⟩ := OP.at_
    obtain ⟨R1, R2, R3⟩ := OR.at_
    generalize n / 115792089237316195423570985008687907853269984665640564039457584007913129639936 = h at *
    go_wp2
    try simp only [setCell_drawn]
    refine bodyPost_ret (by simp [results, Tryd.results26, go_sem, R1]) rfl ⟨rfl, ?_⟩
    repeat' (first | (with_reducible exact Below.refl _ _) | (with_reducible assumption) | (with_reducible refine below_drewN ?_ _) | (with_reducible refine Below.drew ?_) | (with_reducible refine Below.alloc ?_ ?_ _) | (with_reducible refine Below.setCell ?_ ?_ _) | (with_reducible refine then_ ?_ (by with_reducible assumption) ?_) | (with_reducible exact Nat.le_refl _) | (with_reducible exact Nat.le_succ _) | (with_reducible exact Nat.le_succ_of_le (by with_reducible assumption)) | omega | (simp; done) | (simp; omega) | (exact Nat.le_succ _) | (exact Nat.le_succ_of_le (by with_reducible assumption)))
set_option maxHeartbeats 6400000 in
set_option maxRecDepth 20000 in
theorem Mul_core (a b : Int) (ha : Fit a) (hb : Fit b) (sa sb : Bool) (hsa : ngB a = sa) (hsb : ngB b = sb) (r0 r1 r2 r3 er : Int) (hh : ((a.natAbs : Int) * b.natAbs) / 115792089237316195423570985008687907853269984665640564039457584007913129639936 = 0) (SG : ∀ w : World, Calls Tryd.prog 48 #[.agg #[.int .u64 (L0 ((a.natAbs : Int) * b.natAbs)), .int .u64 (L1 ((a.natAbs : Int) * b.natAbs)), .int .u64 (L2 ((a.natAbs : Int) * b.natAbs)), .int .u64 (L3 ((a.natAbs : Int) * b.natAbs))], .bool (!(sa == sb))] w fun e w' => e = .returned (.tuple #[.agg #[.int .u64 r0, .int .u64 r1, .int .u64 r2, .int .u64 r3], .int .i64 er]) ∧ Below w.heap.size w w') (w : World) :
    Calls Tryd.prog 26 #[.agg #[.int .u64 (L0 a), .int .u64 (L1 a), .int .u64 (L2 a), .int .u64 (L3 a)], .agg #[.int .u64 (L0 b), .int .u64 (L1 b), .int .u64 (L2 b), .int .u64 (L3 b)]] w fun e w' => e = .returned (.tuple #[.agg #[.int .u64 r0, .int .u64 r1, .int .u64 r2, .int .u64 r3], .int .i64 er]) ∧ Below w.heap.size w w' := by
  have SA := Lib.hid (fun w => sizeOf_any a ha w)
  have SB := Lib.hid (fun w => sizeOf_any b hb w)
  have sza : Siz (a.natAbs : Int) := ⟨by omega, by have := ha.lo; have := ha.hi; omega⟩
  have szb : Siz (b.natAbs : Int) := ⟨by omega, by have := hb.lo; have := hb.hi; omega⟩
  have PR := Lib.hid (fun w => product_b a.natAbs b.natAbs _ sza szb rfl w)
  have EQ : ∀ w, (Op.equalIn 10000 23 (.agg #[.int .u64 (L0 (((a.natAbs : Int) * b.natAbs) / 115792089237316195423570985008687907853269984665640564039457584007913129639936)), .int .u64 (L1 (((a.natAbs : Int) * b.natAbs) / 115792089237316195423570985008687907853269984665640564039457584007913129639936)), .int .u64 (L2 (((a.natAbs : Int) * b.natAbs) / 115792089237316195423570985008687907853269984665640564039457584007913129639936)), .int .u64 (L3 (((a.natAbs : Int) * b.natAbs) / 115792089237316195423570985008687907853269984665640564039457584007913129639936))]) (.agg #[.int .u64 0, .int .u64 0, .int .u64 0, .int .u64 0])).run Tryd.prog w = .ok true w := fun w => by
    rw [hh]; exact (eq_arr _ _ _ _ _ _ _ _ w).trans rfl
  have BA := Lib.hid (fun w => below_o hsa w)
  have BB := Lib.hid (fun w => below_o hsb w)
  have SGH := Lib.hid SG
  clear hh SG hsa hsb
  clear sza szb
  generalize ((a.natAbs : Nat) : Int) = aa at *
  generalize ((b.natAbs : Nat) : Int) = bb at *
  generalize hn : aa * bb = n at *
  have Hn := Lib.hid hn
  clear hn
  go_enter Tryd.func26, Tryd.ntmps26
  go_upto_region 1 with fail
  go_cut [6] (fun s6 wx => ∃ g, s6 = .pointer (some ⟨g, 0, none⟩) ∧ w.heap.size + 1 + 1 < g ∧ Own wx g 78 #[.int .u64 (L0 n), .int .u64 (L1 n), .int .u64 (L2 n), .int .u64 (L3 n), .int .u64 (L0 (n / 115792089237316195423570985008687907853269984665640564039457584007913129639936)), .int .u64 (L1 (n / 115792089237316195423570985008687907853269984665640564039457584007913129639936)), .int .u64 (L2 (n / 115792089237316195423570985008687907853269984665640564039457584007913129639936)), .int .u64 (L3 (n / 115792089237316195423570985008687907853269984665640564039457584007913129639936))] ∧ Own wx w.heap.size 24 #[.int .u64 (L0 a), .int .u64 (L1 a), .int .u64 (L2 a), .int .u64 (L3 a)] ∧ Own wx (w.heap.size + 1) 24 #[.int .u64 (L0 b), .int .u64 (L1 b), .int .u64 (L2 b), .int .u64 (L3 b)] ∧ Own wx (w.heap.size + 1 + 1) 24 #[.int .u64 0, .int .u64 0, .int .u64 0, .int .u64 0] ∧ Below w.heap.size w wx)
  case first =>
    go_name_world W0 hW0
    have OA : Own W0 w.heap.size 24 #[.int .u64 (L0 a), .int .u64 (L1 a), .int .u64 (L2 a), .int .u64 (L3 a)] := hW0 ▸ (by repeat' (first | (with_reducible assumption) | (with_reducible refine Own.drawnN ?_ _) | (with_reducible refine Own.drawn ?_) | (with_reducible refine Own.made_at ?_; first | rfl | (simp; done) | omega | (simp; omega)) | (with_reducible refine Own.more ?_ _) | (with_reducible refine Own.apart ?_ ?_ _ _; rotate_left; first | omega | (simp; done) | (simp; omega)) | (refine Own.put ?_ _ _)))
    have OB : Own W0 (w.heap.size + 1) 24 #[.int .u64 (L0 b), .int .u64 (L1 b), .int .u64 (L2 b), .int .u64 (L3 b)] := hW0 ▸ (by repeat' (first | (with_reducible assumption) | (with_reducible refine Own.drawnN ?_ _) | (with_reducible refine Own.drawn ?_) | (with_reducible refine Own.made_at ?_; first | rfl | (simp; done) | omega | (simp; omega)) | (with_reducible refine Own.more ?_ _) | (with_reducible refine Own.apart ?_ ?_ _ _; rotate_left; first | omega | (simp; done) | (simp; omega)) | (refine Own.put ?_ _ _)))
    have OR : Own W0 (w.heap.size + 1 + 1) 24 #[.int .u64 0, .int .u64 0, .int .u64 0, .int .u64 0] := hW0 ▸ (by repeat' (first | (with_reducible assumption) | (with_reducible refine Own.drawnN ?_ _) | (with_reducible refine Own.drawn ?_) | (with_reducible refine Own.made_at ?_; first | rfl | (simp; done) | omega | (simp; omega)) | (with_reducible refine Own.more ?_ _) | (with_reducible refine Own.apart ?_ ?_ _ _; rotate_left; first | omega | (simp; done) | (simp; omega)) | (refine Own.put ?_ _ _)))
    have hBW0 : Below w.heap.size w W0 := hW0 ▸ (by repeat' (first | (with_reducible exact Below.refl _ _) | (with_reducible assumption) | (with_reducible refine below_drewN ?_ _) | (with_reducible refine Below.drew ?_) | (with_reducible refine Below.alloc ?_ ?_ _) | (with_reducible refine Below.setCell ?_ ?_ _) | (with_reducible refine then_ ?_ (by with_reducible assumption) ?_) | (with_reducible exact Nat.le_refl _) | (with_reducible exact Nat.le_succ _) | (with_reducible exact Nat.le_succ_of_le (by with_reducible assumption)) | omega | (simp; done) | (simp; omega) | (exact Nat.le_succ _) | (exact Nat.le_succ_of_le (by with_reducible assumption))))
    clear hW0
    obtain ⟨A1, A2, A3⟩ := OA.at_
    obtain ⟨B1, B2, B3⟩ := OB.at_
    have hz0 := OR.in_
    have f0 : W0.cell? ⟨w.heap.size, 0, none⟩ = some (.int .u64 (L0 a)) := by simp [go_sem, *]
    have f1 : W0.cell? ⟨w.heap.size, 1, none⟩ = some (.int .u64 (L1 a)) := by simp [go_sem, *]
    have f2 : W0.cell? ⟨w.heap.size, 2, none⟩ = some (.int .u64 (L2 a)) := by simp [go_sem, *]
    have f3 : W0.cell? ⟨w.heap.size, 3, none⟩ = some (.int .u64 (L3 a)) := by simp [go_sem, *]
    have f4 : W0.cell? ⟨w.heap.size + 1, 0, none⟩ = some (.int .u64 (L0 b)) := by simp [go_sem, *]
    have f5 : W0.cell? ⟨w.heap.size + 1, 1, none⟩ = some (.int .u64 (L1 b)) := by simp [go_sem, *]
    have f6 : W0.cell? ⟨w.heap.size + 1, 2, none⟩ = some (.int .u64 (L2 b)) := by simp [go_sem, *]
    have f7 : W0.cell? ⟨w.heap.size + 1, 3, none⟩ = some (.int .u64 (L3 b)) := by simp [go_sem, *]
    go_region_held3 (fun W => Below w.heap.size w W ∧ W.cell? ⟨w.heap.size, 0, none⟩ = some (.int .u64 (L0 a)) ∧ W.cell? ⟨w.heap.size, 1, none⟩ = some (.int .u64 (L1 a)) ∧ W.cell? ⟨w.heap.size, 2, none⟩ = some (.int .u64 (L2 a)) ∧ W.cell? ⟨w.heap.size, 3, none⟩ = some (.int .u64 (L3 a)) ∧ W.cell? ⟨w.heap.size + 1, 0, none⟩ = some (.int .u64 (L0 b)) ∧ W.cell? ⟨w.heap.size + 1, 1, none⟩ = some (.int .u64 (L1 b)) ∧ W.cell? ⟨w.heap.size + 1, 2, none⟩ = some (.int .u64 (L2 b)) ∧ W.cell? ⟨w.heap.size + 1, 3, none⟩ = some (.int .u64 (L3 b)))
      (first
        | (refine (fun HB => ⟨then_ hBW0 HB hBW0.size, keep HB f0, keep HB f1, keep HB f2, keep HB f3, keep HB f4, keep HB f5, keep HB f6, keep HB f7⟩ : Below W0.heap.size W0 _ → _) ?_; (repeat' (first | (with_reducible exact Below.refl _ _) | (with_reducible assumption) | (with_reducible refine below_drewN ?_ _) | (with_reducible refine Below.drew ?_) | (with_reducible refine Below.alloc ?_ ?_ _) | (with_reducible refine Below.setCell ?_ ?_ _) | (with_reducible refine then_ ?_ (by with_reducible assumption) ?_) | (with_reducible exact Nat.le_refl _) | (with_reducible exact Nat.le_succ _) | (with_reducible exact Nat.le_succ_of_le (by with_reducible assumption)) | omega | (simp; done) | (simp; omega) | (exact Nat.le_succ _) | (exact Nat.le_succ_of_le (by with_reducible assumption)))); done)
        | (obtain ⟨kb, g0, g1, g2, g3, g4, g5, g6, g7⟩ := ‹Below w.heap.size w _ ∧ _›; refine ⟨by repeat' (first | (with_reducible exact Below.refl _ _) | (with_reducible assumption) | (with_reducible refine below_drewN ?_ _) | (with_reducible refine Below.drew ?_) | (with_reducible refine Below.alloc ?_ ?_ _) | (with_reducible refine Below.setCell ?_ ?_ _) | (with_reducible refine then_ ?_ (by with_reducible assumption) ?_) | (with_reducible exact Nat.le_refl _) | (with_reducible exact Nat.le_succ _) | (with_reducible exact Nat.le_succ_of_le (by with_reducible assumption)) | omega | (simp; done) | (simp; omega) | (exact Nat.le_succ _) | (exact Nat.le_succ_of_le (by with_reducible assumption))), ?_, ?_, ?_, ?_, ?_, ?_, ?_, ?_⟩ <;> (simp [go_sem, *]; done)))
      (first
        | (go_at_call 47; with_reducible refine (SA.out _).mono ?_; rintro e wN ⟨rfl, hbN⟩; have hwN : Below W0.heap.size W0 wN := (fun HB => then_ HB hbN HB.size) (by repeat' (first | (with_reducible exact Below.refl _ _) | (with_reducible assumption) | (with_reducible refine below_drewN ?_ _) | (with_reducible refine Below.drew ?_) | (with_reducible refine Below.alloc ?_ ?_ _) | (with_reducible refine Below.setCell ?_ ?_ _) | (with_reducible refine then_ ?_ (by with_reducible assumption) ?_) | (with_reducible exact Nat.le_refl _) | (with_reducible exact Nat.le_succ _) | (with_reducible exact Nat.le_succ_of_le (by with_reducible assumption)) | omega | (simp; done) | (simp; omega) | (exact Nat.le_succ _) | (exact Nat.le_succ_of_le (by with_reducible assumption)))); have hzN := hwN.size; (try have Q0 := Own.keep (by with_reducible first | exact Own.made _ _ _ | exact (Own.made _ _ _).drawn) hbN); (try have Q0' := Own.keep (by with_reducible first | exact (Own.made _ _ _).more _ | exact ((Own.made _ _ _).more _).drawn) hbN))
        | (go_at_call 47; with_reducible refine (SB.out _).mono ?_; rintro e wN ⟨rfl, hbN⟩; have hwN : Below W0.heap.size W0 wN := (fun HB => then_ HB hbN HB.size) (by repeat' (first | (with_reducible exact Below.refl _ _) | (with_reducible assumption) | (with_reducible refine below_drewN ?_ _) | (with_reducible refine Below.drew ?_) | (with_reducible refine Below.alloc ?_ ?_ _) | (with_reducible refine Below.setCell ?_ ?_ _) | (with_reducible refine then_ ?_ (by with_reducible assumption) ?_) | (with_reducible exact Nat.le_refl _) | (with_reducible exact Nat.le_succ _) | (with_reducible exact Nat.le_succ_of_le (by with_reducible assumption)) | omega | (simp; done) | (simp; omega) | (exact Nat.le_succ _) | (exact Nat.le_succ_of_le (by with_reducible assumption)))); have hzN := hwN.size; (try replace Q0 := Own.keep (by with_reducible first | exact Q0 | exact Q0.drawn | exact Q0.more _ | exact (Q0.more _).drawn | exact (Q0.more _).more _ | exact ((Q0.more _).more _).drawn) hbN); (try replace Q0' := Own.keep (by with_reducible first | exact Q0' | exact Q0'.drawn | exact Q0'.more _ | exact (Q0'.more _).drawn | exact (Q0'.more _).more _ | exact ((Q0'.more _).more _).drawn) hbN); (try have Q1 := Own.keep (by with_reducible first | exact Own.made _ _ _ | exact (Own.made _ _ _).drawn) hbN); (try have Q1' := Own.keep (by with_reducible first | exact (Own.made _ _ _).more _ | exact ((Own.made _ _ _).more _).drawn) hbN))
        | (go_at_call 46; with_reducible refine (PR.out _).mono ?_; rintro e wN ⟨rfl, hbN⟩; have hwN : Below W0.heap.size W0 wN := (fun HB => then_ HB hbN HB.size) (by repeat' (first | (with_reducible exact Below.refl _ _) | (with_reducible assumption) | (with_reducible refine below_drewN ?_ _) | (with_reducible refine Below.drew ?_) | (with_reducible refine Below.alloc ?_ ?_ _) | (with_reducible refine Below.setCell ?_ ?_ _) | (with_reducible refine then_ ?_ (by with_reducible assumption) ?_) | (with_reducible exact Nat.le_refl _) | (with_reducible exact Nat.le_succ _) | (with_reducible exact Nat.le_succ_of_le (by with_reducible assumption)) | omega | (simp; done) | (simp; omega) | (exact Nat.le_succ _) | (exact Nat.le_succ_of_le (by with_reducible assumption)))); have hzN := hwN.size; (try replace Q0 := Own.keep (by with_reducible first | exact Q0 | exact Q0.drawn | exact Q0.more _ | exact (Q0.more _).drawn | exact (Q0.more _).more _ | exact ((Q0.more _).more _).drawn) hbN); (try replace Q0' := Own.keep (by with_reducible first | exact Q0' | exact Q0'.drawn | exact Q0'.more _ | exact (Q0'.more _).drawn | exact (Q0'.more _).more _ | exact ((Q0'.more _).more _).drawn) hbN); (try replace Q1 := Own.keep (by with_reducible first | exact Q1 | exact Q1.drawn | exact Q1.more _ | exact (Q1.more _).drawn | exact (Q1.more _).more _ | exact ((Q1.more _).more _).drawn) hbN); (try replace Q1' := Own.keep (by with_reducible first | exact Q1' | exact Q1'.drawn | exact Q1'.more _ | exact (Q1'.more _).drawn | exact (Q1'.more _).more _ | exact ((Q1'.more _).more _).drawn) hbN); (try have Q2 := Own.keep (by with_reducible first | exact Own.made _ _ _ | exact (Own.made _ _ _).drawn) hbN); (try have Q2' := Own.keep (by with_reducible first | exact (Own.made _ _ _).more _ | exact ((Own.made _ _ _).more _).drawn) hbN); (try obtain ⟨Q0a, Q0b, Q0c⟩ := Q0.at_); (try simp at Q0a Q0b Q0c); (try obtain ⟨Q0'a, Q0'b, Q0'c⟩ := Q0'.at_); (try simp at Q0'a Q0'b Q0'c); (try obtain ⟨Q1a, Q1b, Q1c⟩ := Q1.at_); (try simp at Q1a Q1b Q1c); (try obtain ⟨Q1'a, Q1'b, Q1'c⟩ := Q1'.at_); (try simp at Q1'a Q1'b Q1'c); (try obtain ⟨Q2a, Q2b, Q2c⟩ := Q2.at_); (try simp at Q2a Q2b Q2c); (try obtain ⟨Q2'a, Q2'b, Q2'c⟩ := Q2'.at_); (try simp at Q2'a Q2'b Q2'c)))
    all_goals
      have OAN := OA.keep hwN; have OBN := OB.keep hwN; have ORN := OR.keep hwN
      have hBN := then_ hBW0 hwN hBW0.size
      have hzw := hBW0.size
      go_wp2_with fail
      go_meet
      refine ⟨_, rfl, by omega, ?_, by repeat' (first | (with_reducible assumption) | (with_reducible refine Own.drawnN ?_ _) | (with_reducible refine Own.drawn ?_) | (with_reducible refine Own.made_at ?_; first | rfl | (simp; done) | omega | (simp; omega)) | (with_reducible refine Own.more ?_ _) | (with_reducible refine Own.apart ?_ ?_ _ _; rotate_left; first | omega | (simp; done) | (simp; omega)) | (refine Own.put ?_ _ _)), by repeat' (first | (with_reducible assumption) | (with_reducible refine Own.drawnN ?_ _) | (with_reducible refine Own.drawn ?_) | (with_reducible refine Own.made_at ?_; first | rfl | (simp; done) | omega | (simp; omega)) | (with_reducible refine Own.more ?_ _) | (with_reducible refine Own.apart ?_ ?_ _ _; rotate_left; first | omega | (simp; done) | (simp; omega)) | (refine Own.put ?_ _ _)), by repeat' (first | (with_reducible assumption) | (with_reducible refine Own.drawnN ?_ _) | (with_reducible refine Own.drawn ?_) | (with_reducible refine Own.made_at ?_; first | rfl | (simp; done) | omega | (simp; omega)) | (with_reducible refine Own.more ?_ _) | (with_reducible refine Own.apart ?_ ?_ _ _; rotate_left; first | omega | (simp; done) | (simp; omega)) | (refine Own.put ?_ _ _)), by repeat' (first | (with_reducible exact Below.refl _ _) | (with_reducible assumption) | (with_reducible refine below_drewN ?_ _) | (with_reducible refine Below.drew ?_) | (with_reducible refine Below.alloc ?_ ?_ _) | (with_reducible refine Below.setCell ?_ ?_ _) | (with_reducible refine then_ ?_ (by with_reducible assumption) ?_) | (with_reducible exact Nat.le_refl _) | (with_reducible exact Nat.le_succ _) | (with_reducible exact Nat.le_succ_of_le (by with_reducible assumption)) | omega | (simp; done) | (simp; omega) | (exact Nat.le_succ _) | (exact Nat.le_succ_of_le (by with_reducible assumption)))⟩
      first
        | (with_reducible refine Own.made_at ?_; rfl)
        | (refine Own.as (cs := (((((((((#[.int .u64 0, .int .u64 0, .int .u64 0, .int .u64 0, .int .u64 0, .int .u64 0, .int .u64 0, .int .u64 0] : Array Value).setIfInBounds 0 (.int .u64 (L0 n))).setIfInBounds 1 (.int .u64 (L1 n))).setIfInBounds 2 (.int .u64 (L2 n))).setIfInBounds 3 (.int .u64 (L3 n))).setIfInBounds 4 (.int .u64 (L0 (n / 115792089237316195423570985008687907853269984665640564039457584007913129639936)))).setIfInBounds 5 (.int .u64 (L1 (n / 115792089237316195423570985008687907853269984665640564039457584007913129639936)))).setIfInBounds 6 (.int .u64 (L2 (n / 115792089237316195423570985008687907853269984665640564039457584007913129639936)))).setIfInBounds 7 (.int .u64 (L3 (n / 115792089237316195423570985008687907853269984665640564039457584007913129639936))))) ?_ (by simp); iterate 8 (refine Own.put ?_ _ _)
           with_reducible assumption)
  case rest =>
    obtain ⟨g, rfl, hg, OP, OA, OB, OR, hB⟩ := hcut
    clear SA SB PR
    have HI4 := arr_hi g
    have LO4 := arr_lo g
    obtain ⟨P1, P2, P3⟩ := OP.at_
    obtain ⟨R1, R2, R3⟩ := OR.at_
    obtain ⟨A1, A2, A3⟩ := OA.at_
    obtain ⟨B1, B2, B3⟩ := OB.at_
    generalize n / 115792089237316195423570985008687907853269984665640564039457584007913129639936 = h at *
    go_wp2
    obtain ⟨W0, hW0⟩ : ∃ W, W = wc := ⟨_, rfl⟩
    subst hW0
    have hBW0 := hB
    have gne : ¬ g = w.heap.size + 1 + 1 := by omega
    have f0 : W0.cell? ⟨g, 0, none⟩ = some (.int .u64 (L0 n)) := by simp [go_sem, *]
    have f1 : W0.cell? ⟨g, 1, none⟩ = some (.int .u64 (L1 n)) := by simp [go_sem, *]
    have f2 : W0.cell? ⟨g, 2, none⟩ = some (.int .u64 (L2 n)) := by simp [go_sem, *]
    have f3 : W0.cell? ⟨g, 3, none⟩ = some (.int .u64 (L3 n)) := by simp [go_sem, *]
    have f4 : W0.cell? ⟨w.heap.size, 0, none⟩ = some (.int .u64 (L0 a)) := by simp [go_sem, *]
    have f5 : W0.cell? ⟨w.heap.size, 1, none⟩ = some (.int .u64 (L1 a)) := by simp [go_sem, *]
    have f6 : W0.cell? ⟨w.heap.size, 2, none⟩ = some (.int .u64 (L2 a)) := by simp [go_sem, *]
    have f7 : W0.cell? ⟨w.heap.size, 3, none⟩ = some (.int .u64 (L3 a)) := by simp [go_sem, *]
    have f8 : W0.cell? ⟨w.heap.size + 1, 0, none⟩ = some (.int .u64 (L0 b)) := by simp [go_sem, *]
    have f9 : W0.cell? ⟨w.heap.size + 1, 1, none⟩ = some (.int .u64 (L1 b)) := by simp [go_sem, *]
    have f10 : W0.cell? ⟨w.heap.size + 1, 2, none⟩ = some (.int .u64 (L2 b)) := by simp [go_sem, *]
    have f11 : W0.cell? ⟨w.heap.size + 1, 3, none⟩ = some (.int .u64 (L3 b)) := by simp [go_sem, *]
    go_region_held3 (fun W => Below w.heap.size w W ∧ W.cell? ⟨g, 0, none⟩ = some (.int .u64 (L0 n)) ∧ W.cell? ⟨g, 1, none⟩ = some (.int .u64 (L1 n)) ∧ W.cell? ⟨g, 2, none⟩ = some (.int .u64 (L2 n)) ∧ W.cell? ⟨g, 3, none⟩ = some (.int .u64 (L3 n)) ∧ W.cell? ⟨w.heap.size, 0, none⟩ = some (.int .u64 (L0 a)) ∧ W.cell? ⟨w.heap.size, 1, none⟩ = some (.int .u64 (L1 a)) ∧ W.cell? ⟨w.heap.size, 2, none⟩ = some (.int .u64 (L2 a)) ∧ W.cell? ⟨w.heap.size, 3, none⟩ = some (.int .u64 (L3 a)) ∧ W.cell? ⟨w.heap.size + 1, 0, none⟩ = some (.int .u64 (L0 b)) ∧ W.cell? ⟨w.heap.size + 1, 1, none⟩ = some (.int .u64 (L1 b)) ∧ W.cell? ⟨w.heap.size + 1, 2, none⟩ = some (.int .u64 (L2 b)) ∧ W.cell? ⟨w.heap.size + 1, 3, none⟩ = some (.int .u64 (L3 b)))
      (first
        | (refine (fun HB => ⟨then_ hBW0 HB hBW0.size, keep HB f0, keep HB f1, keep HB f2, keep HB f3, keep HB f4, keep HB f5, keep HB f6, keep HB f7, keep HB f8, keep HB f9, keep HB f10, keep HB f11⟩ : Below W0.heap.size W0 _ → _) ?_; (repeat' (first | (with_reducible exact Below.refl _ _) | (with_reducible assumption) | (with_reducible refine below_drewN ?_ _) | (with_reducible refine Below.drew ?_) | (with_reducible refine Below.alloc ?_ ?_ _) | (with_reducible refine Below.setCell ?_ ?_ _) | (with_reducible refine then_ ?_ (by with_reducible assumption) ?_) | (with_reducible exact Nat.le_refl _) | (with_reducible exact Nat.le_succ _) | (with_reducible exact Nat.le_succ_of_le (by with_reducible assumption)) | omega | (simp; done) | (simp; omega) | (exact Nat.le_succ _) | (exact Nat.le_succ_of_le (by with_reducible assumption)))); done)
        | (obtain ⟨kb, g0, g1, g2, g3, g4, g5, g6, g7, g8, g9, g10, g11⟩ := ‹Below w.heap.size w _ ∧ _›; refine ⟨by repeat' (first | (with_reducible exact Below.refl _ _) | (with_reducible assumption) | (with_reducible refine below_drewN ?_ _) | (with_reducible refine Below.drew ?_) | (with_reducible refine Below.alloc ?_ ?_ _) | (with_reducible refine Below.setCell ?_ ?_ _) | (with_reducible refine then_ ?_ (by with_reducible assumption) ?_) | (with_reducible exact Nat.le_refl _) | (with_reducible exact Nat.le_succ _) | (with_reducible exact Nat.le_succ_of_le (by with_reducible assumption)) | omega | (simp; done) | (simp; omega) | (exact Nat.le_succ _) | (exact Nat.le_succ_of_le (by with_reducible assumption))), ?_, ?_, ?_, ?_, ?_, ?_, ?_, ?_, ?_, ?_, ?_, ?_⟩ <;> (simp [go_sem, *]; done)))
      (first
        | (go_at_call 28; with_reducible refine (BA.out _).mono ?_; rintro e wN ⟨rfl, hbN⟩; have hwN : Below W0.heap.size W0 wN := (fun HB => then_ HB hbN HB.size) (by repeat' (first | (with_reducible exact Below.refl _ _) | (with_reducible assumption) | (with_reducible refine below_drewN ?_ _) | (with_reducible refine Below.drew ?_) | (with_reducible refine Below.alloc ?_ ?_ _) | (with_reducible refine Below.setCell ?_ ?_ _) | (with_reducible refine then_ ?_ (by with_reducible assumption) ?_) | (with_reducible exact Nat.le_refl _) | (with_reducible exact Nat.le_succ _) | (with_reducible exact Nat.le_succ_of_le (by with_reducible assumption)) | omega | (simp; done) | (simp; omega) | (exact Nat.le_succ _) | (exact Nat.le_succ_of_le (by with_reducible assumption)))); have hzN := hwN.size; clear R1 R2 R3; have ORN := OR.keep hwN; obtain ⟨R1, R2, R3⟩ := ORN.at_)
        | (go_at_call 28; with_reducible refine (BB.out _).mono ?_; rintro e wN ⟨rfl, hbN⟩; have hwN : Below W0.heap.size W0 wN := (fun HB => then_ HB hbN HB.size) (by repeat' (first | (with_reducible exact Below.refl _ _) | (with_reducible assumption) | (with_reducible refine below_drewN ?_ _) | (with_reducible refine Below.drew ?_) | (with_reducible refine Below.alloc ?_ ?_ _) | (with_reducible refine Below.setCell ?_ ?_ _) | (with_reducible refine then_ ?_ (by with_reducible assumption) ?_) | (with_reducible exact Nat.le_refl _) | (with_reducible exact Nat.le_succ _) | (with_reducible exact Nat.le_succ_of_le (by with_reducible assumption)) | omega | (simp; done) | (simp; omega) | (exact Nat.le_succ _) | (exact Nat.le_succ_of_le (by with_reducible assumption)))); have hzN := hwN.size; clear R1 R2 R3; have ORN := OR.keep hwN; obtain ⟨R1, R2, R3⟩ := ORN.at_)
        | (go_at_call 48; with_reducible refine (SGH.out _).mono ?_; rintro e wN ⟨rfl, hbN⟩; have hwN : Below W0.heap.size W0 wN := (fun HB => then_ HB hbN HB.size) (by repeat' (first | (with_reducible exact Below.refl _ _) | (with_reducible assumption) | (with_reducible refine below_drewN ?_ _) | (with_reducible refine Below.drew ?_) | (with_reducible refine Below.alloc ?_ ?_ _) | (with_reducible refine Below.setCell ?_ ?_ _) | (with_reducible refine then_ ?_ (by with_reducible assumption) ?_) | (with_reducible exact Nat.le_refl _) | (with_reducible exact Nat.le_succ _) | (with_reducible exact Nat.le_succ_of_le (by with_reducible assumption)) | omega | (simp; done) | (simp; omega) | (exact Nat.le_succ _) | (exact Nat.le_succ_of_le (by with_reducible assumption)))); have hzN := hwN.size; clear R1 R2 R3; have ORN := OR.keep hwN; obtain ⟨R1, R2, R3⟩ := ORN.at_))
    all_goals
      have hBN := then_ hB hwN hB.size
      go_wp2
      try simp only [setCell_drawn]
      refine bodyPost_ret (by simp [results, Tryd.results26, go_sem, R1]) rfl ⟨rfl, ?_⟩
      repeat' (first | (with_reducible exact Below.refl _ _) | (with_reducible assumption) | (with_reducible refine below_drewN ?_ _) | (with_reducible refine Below.drew ?_) | (with_reducible refine Below.alloc ?_ ?_ _) | (with_reducible refine Below.setCell ?_ ?_ _) | (with_reducible refine then_ ?_ (by with_reducible assumption) ?_) | (with_reducible exact Nat.le_refl _) | (with_reducible exact Nat.le_succ _) | (with_reducible exact Nat.le_succ_of_le (by with_reducible assumption)) | omega | (simp; done) | (simp; omega) | (exact Nat.le_succ _) | (exact Nat.le_succ_of_le (by with_reducible assumption)))
theorem natAbs_mul (a b : Int) : a * b = if (!(decide (a < 0) == decide (b < 0))) = true then 0 - (a.natAbs : Int) * b.natAbs else (a.natAbs : Int) * b.natAbs := by
  by_cases h1 : a < 0 <;> by_cases h2 : b < 0
  · have e1 : (a.natAbs : Int) = -a := by omega
    have e2 : (b.natAbs : Int) = -b := by omega
    simp only [h1, h2, decide_true, beq_self_eq_true, Bool.not_true, Bool.false_eq_true, if_false]
    rw [e1, e2, Int.neg_mul_neg]
  · have e1 : (a.natAbs : Int) = -a := by omega
    have e2 : (b.natAbs : Int) = b := by omega
    have d : (!(decide (a < 0) == decide (b < 0))) = true := by simp [h1, h2]
    rw [if_pos d, e1, e2, Int.neg_mul]; omega
  · have e1 : (a.natAbs : Int) = a := by omega
    have e2 : (b.natAbs : Int) = -b := by omega
    have d : (!(decide (a < 0) == decide (b < 0))) = true := by simp [h1, h2]
    rw [if_pos d, e1, e2, Int.mul_neg]; omega
  · have e1 : (a.natAbs : Int) = a := by omega
    have e2 : (b.natAbs : Int) = b := by omega
    have d : (!(decide (a < 0) == decide (b < 0))) = false := by simp [h1, h2]
    rw [if_neg (by rw [d]; decide), e1, e2]
theorem prod_siz (a b : Int) (h : ((a.natAbs : Int) * b.natAbs) / 115792089237316195423570985008687907853269984665640564039457584007913129639936 = 0) : Siz ((a.natAbs : Int) * b.natAbs) := by
  have h0 : (0 : Int) ≤ (a.natAbs : Int) * b.natAbs := Int.mul_nonneg (by omega) (by omega)
  generalize (a.natAbs : Int) * b.natAbs = n at *
  constructor <;> omega
theorem mul_fit (a b : Int) (ha : Fit a) (hb : Fit b) (hc : Fit (a * b)) (w : World) :
    Calls Tryd.prog 26 #[.agg #[.int .u64 (L0 a), .int .u64 (L1 a), .int .u64 (L2 a), .int .u64 (L3 a)], .agg #[.int .u64 (L0 b), .int .u64 (L1 b), .int .u64 (L2 b), .int .u64 (L3 b)]] w fun e w' => e = .returned (.tuple #[.agg #[.int .u64 (L0 (a * b)), .int .u64 (L1 (a * b)), .int .u64 (L2 (a * b)), .int .u64 (L3 (a * b))], .int .i64 0]) ∧ Below w.heap.size w w' := by
  have e := natAbs_mul a b
  have h0 : (0 : Int) ≤ (a.natAbs : Int) * b.natAbs := Int.mul_nonneg (by omega) (by omega)
  have hh : ((a.natAbs : Int) * b.natAbs) / 115792089237316195423570985008687907853269984665640564039457584007913129639936 = 0 := by
    obtain ⟨c0, c1⟩ := hc
    split at e <;> omega
  exact Mul_core a b ha hb _ _ (ngB_fit ha) (ngB_fit hb) _ _ _ _ 0 hh (fun w => signed_fit _ (a * b) _ (prod_siz a b hh) e hc w) w
theorem mul_large (a b : Int) (ha : Fit a) (hb : Fit b) (hc : ¬ Fit (a * b)) (w : World) :
    Calls Tryd.prog 26 #[.agg #[.int .u64 (L0 a), .int .u64 (L1 a), .int .u64 (L2 a), .int .u64 (L3 a)], .agg #[.int .u64 (L0 b), .int .u64 (L1 b), .int .u64 (L2 b), .int .u64 (L3 b)]] w fun e w' => e = .returned (.tuple #[.agg #[.int .u64 0, .int .u64 0, .int .u64 0, .int .u64 0], .int .i64 3]) ∧ Below w.heap.size w w' := by
  have e := natAbs_mul a b
  by_cases hh : ((a.natAbs : Int) * b.natAbs) / 115792089237316195423570985008687907853269984665640564039457584007913129639936 = 0
  · exact Mul_core a b ha hb _ _ (ngB_fit ha) (ngB_fit hb) 0 0 0 0 3 hh (fun w => signed_large _ (a * b) _ (prod_siz a b hh) e hc w) w
  · exact Mul_hi a b ha hb hh w
end Go.Proofs.YtjmojddnedngaaaDoor
