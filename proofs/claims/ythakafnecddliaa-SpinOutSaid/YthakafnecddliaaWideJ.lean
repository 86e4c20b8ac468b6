/- -/
import Derived.Test.YthakafnecddliaaWideQ
import Derived.Test.YthakafnecddliaaMemoW
import Derived.Test.YthakafnecddliaaGeoN
import Derived.Test.YthakafnecddliaaRatM
import Derived.Test.YthakafnecddliaaWideP
import Derived.Lib.Walk
import Derived.Deep.DeepCutAuto
import Derived.Deep.RegionHeld3
import Derived.Lib.ItoaWalk
section
namespace Go.Proofs.Ythakafnecddliaa
open Go.ChangeShapes Go.WideShapes Go.ChangeAt Go.RowKit
set_option linter.unusedVariables false

theorem of_b (n : Int) (h0 : -9223372036854775808 ≤ n) (h1 : n ≤ 9223372036854775807) (w : World) :
    Calls Try.prog 102 #[.int .i64 n] w fun e w' => e = .returned (.agg #[.int .u64 (L0 n), .int .u64 (L1 n), .int .u64 (L2 n), .int .u64 (L3 n)]) ∧ Bel w.heap.size w w' :=
  (of_any n h0 h1 w).mono fun e w' ⟨he, c, hw⟩ => ⟨he, by rw [hw]; repeat' (first | (with_reducible exact Bel.refl _ _) | (with_reducible assumption) | (with_reducible refine bel_drewN ?_ _) | (with_reducible refine Bel.drew ?_) | (with_reducible refine Bel.alloc ?_ ?_ _) | (with_reducible refine Bel.setCell ?_ ?_ _) | (with_reducible refine thenB ?_ (by with_reducible assumption) ?_) | (with_reducible exact Nat.le_refl _) | (with_reducible exact Nat.le_succ _) | (with_reducible exact Nat.le_succ_of_le (by with_reducible assumption)) | omega | (simp; done) | (simp; omega) | (exact Nat.le_succ _) | (exact Nat.le_succ_of_le (by with_reducible assumption)))⟩
end Go.Proofs.Ythakafnecddliaa
end
section
namespace Go.Proofs.Ythakafnecddliaa
open Go.ChangeShapes Go.WideShapes Go.ChangeAt Go.RowKit
set_option linter.unusedVariables false
set_option linter.unusedSimpArgs false

theorem eq_Point (a1 a2 b1 b2 : Int) (w : World) : (Op.equalIn 10000 37 (.agg #[.int .i64 a1, .int .i64 a2]) (.agg #[.int .i64 b1, .int .i64 b2])).run Try.prog w = .ok (decide (a1 = b1 ∧ a2 = b2)) w := by
  have u3 := Try.underlying3
  have a3 := Try.isAgg3
  have z3 := Try.sizeOf3
  rw [show (10000 : Nat) = 9999 + 1 from rfl, run_equalIn_struct w 9999 37 _ _ (by simp [Program.fieldsOf, Try.underlying37]) (by kernel_rfl)]
  simp only [Program.fieldsOf, Try.underlying37]
  by_cases h0 : a1 = b1 <;> by_cases h1 : a2 = b2 <;> simp [Op.eqFields, go_sem, part, u3, a3, z3, h0, h1]
/-- a coordinate that an int can be -/
structure I64 (x : Int) : Prop where
  lo : -9223372036854775808 ≤ x
  hi : x ≤ 9223372036854775807
def inB (x y : Int) : Bool := decide (-268435456 ≤ x) && decide (x ≤ 268435456) && decide (-268435456 ≤ y) && decide (y ≤ 268435456)
theorem inB_iff {x y : Int} : inB x y = true ↔ -268435456 ≤ x ∧ x ≤ 268435456 ∧ -268435456 ≤ y ∧ y ≤ 268435456 := by unfold inB; simp; omega
set_option maxRecDepth 20000 in
theorem In_any (x y : Int) (w : World) : Calls Try.prog 57 #[.agg #[.int .i64 x, .int .i64 y]] w fun e w' => e = .returned (.bool (inB x y)) ∧ Bel w.heap.size w w' := by
  go_enter Try.func57, Try.ntmps57
  go_wp2
  all_goals
    try simp only [setCell_drawn]
    refine bodyPost_ret (by first | (simp [results, Try.results57, go_sem, *]; done) | (simp [results, Try.results57, go_sem, *]; rfl)) rfl ⟨?_, ?_⟩
    · first | rfl | (first | refine retb_eq ?_ | refine ret_eq ?_); (try unfold inB); first | (simp [*]; done) | (simp [*] <;> omega) | omega
    · repeat' (first | (with_reducible exact Bel.refl _ _) | (with_reducible assumption) | (with_reducible refine bel_drewN ?_ _) | (with_reducible refine Bel.drew ?_) | (with_reducible refine Bel.alloc ?_ ?_ _) | (with_reducible refine Bel.setCell ?_ ?_ _) | (with_reducible refine thenB ?_ (by with_reducible assumption) ?_) | (with_reducible exact Nat.le_refl _) | (with_reducible exact Nat.le_succ _) | (with_reducible exact Nat.le_succ_of_le (by with_reducible assumption)) | omega | (simp; done) | (simp; omega) | (exact Nat.le_succ _) | (exact Nat.le_succ_of_le (by with_reducible assumption)))
set_option maxRecDepth 20000 in
theorem Less_any (a1 a2 b1 b2 : Int) (w : World) : Calls Try.prog 91 #[.agg #[.int .i64 a1, .int .i64 a2], .agg #[.int .i64 b1, .int .i64 b2]] w fun e w' => e = .returned (.bool (lsB a1 a2 b1 b2)) ∧ Bel w.heap.size w w' := by
  go_enter Try.func91, Try.ntmps91
  go_wp2
  all_goals
    try simp only [setCell_drawn]
    refine bodyPost_ret (by first | (simp [results, Try.results91, go_sem, *]; done) | (simp [results, Try.results91, go_sem, *]; rfl)) rfl ⟨?_, ?_⟩
    · first | rfl | (first | refine retb_eq ?_ | refine ret_eq ?_); (try unfold lsB); first | (simp [*]; done) | (simp [*] <;> omega) | omega
    · repeat' (first | (with_reducible exact Bel.refl _ _) | (with_reducible assumption) | (with_reducible refine bel_drewN ?_ _) | (with_reducible refine Bel.drew ?_) | (with_reducible refine Bel.alloc ?_ ?_ _) | (with_reducible refine Bel.setCell ?_ ?_ _) | (with_reducible refine thenB ?_ (by with_reducible assumption) ?_) | (with_reducible exact Nat.le_refl _) | (with_reducible exact Nat.le_succ _) | (with_reducible exact Nat.le_succ_of_le (by with_reducible assumption)) | omega | (simp; done) | (simp; omega) | (exact Nat.le_succ _) | (exact Nat.le_succ_of_le (by with_reducible assumption)))
set_option maxRecDepth 20000 in
theorem late_any (o1 o2 p1 p2 : Int) (w : World) : Calls Try.prog 69 #[.agg #[.int .i64 o1, .int .i64 o2], .agg #[.int .i64 p1, .int .i64 p2]] w fun e w' => e = .returned (.bool (decide (Late o1 o2 p1 p2))) ∧ Bel w.heap.size w w' := by
  go_enter Try.func69, Try.ntmps69
  go_wp2
  all_goals
    try simp only [setCell_drawn]
    refine bodyPost_ret (by first | (simp [results, Try.results69, go_sem, *]; done) | (simp [results, Try.results69, go_sem, *]; rfl)) rfl ⟨?_, ?_⟩
    · first | rfl | (first | refine retb_eq ?_ | refine ret_eq ?_); (try unfold Late); first | (simp [*]; done) | (simp [*] <;> omega) | omega
    · repeat' (first | (with_reducible exact Bel.refl _ _) | (with_reducible assumption) | (with_reducible refine bel_drewN ?_ _) | (with_reducible refine Bel.drew ?_) | (with_reducible refine Bel.alloc ?_ ?_ _) | (with_reducible refine Bel.setCell ?_ ?_ _) | (with_reducible refine thenB ?_ (by with_reducible assumption) ?_) | (with_reducible exact Nat.le_refl _) | (with_reducible exact Nat.le_succ _) | (with_reducible exact Nat.le_succ_of_le (by with_reducible assumption)) | omega | (simp; done) | (simp; omega) | (exact Nat.le_succ _) | (exact Nat.le_succ_of_le (by with_reducible assumption)))
set_option maxRecDepth 20000 in
theorem gap_any (x y : Int) (hx : -268435456 ≤ x ∧ x ≤ 268435456) (hy : -268435456 ≤ y ∧ y ≤ 268435456) (w : World) : Calls Try.prog 90 #[.int .i64 x, .int .i64 y] w fun e w' => e = .returned (.agg #[.int .u64 (L0 (y - x)), .int .u64 (L1 (y - x)), .int .u64 (L2 (y - x)), .int .u64 (L3 (y - x))]) ∧ Bel w.heap.size w w' := by
  have hz : IntKind.i64.wrap (y - x) = y - x := by simp only [IntKind.wrap_i64]; omega
  have H := Lib.hid (fun w => of_b (y - x) (by omega) (by omega) w)
  go_enter Try.func90, Try.ntmps90
  go_wp2_with (go_at_call 102; refine (H.out _).mono ?_; rintro e w1 ⟨rfl, hb⟩; have hs := hb.size; obtain ⟨o1, o2, o3⟩ := (Own.keepB (Own.made _ _ _) hb).at_)
  all_goals
    try simp only [setCell_drawn]
    refine bodyPost_ret (by first | (simp [results, Try.results90, go_sem, *]; done) | (simp [results, Try.results90, go_sem, *]; rfl)) rfl ⟨?_, ?_⟩
    · first | rfl | (first | refine retb_eq ?_ | refine ret_eq ?_); first | (simp [*]; done) | (simp [*] <;> omega) | omega
    · repeat' (first | (with_reducible exact Bel.refl _ _) | (with_reducible assumption) | (with_reducible refine bel_drewN ?_ _) | (with_reducible refine Bel.drew ?_) | (with_reducible refine Bel.alloc ?_ ?_ _) | (with_reducible refine Bel.setCell ?_ ?_ _) | (with_reducible refine thenB ?_ (by with_reducible assumption) ?_) | (with_reducible exact Nat.le_refl _) | (with_reducible exact Nat.le_succ _) | (with_reducible exact Nat.le_succ_of_le (by with_reducible assumption)) | omega | (simp; done) | (simp; omega) | (exact Nat.le_succ _) | (exact Nat.le_succ_of_le (by with_reducible assumption)))
end Go.Proofs.Ythakafnecddliaa
end
section
namespace Go.Proofs.Ythakafnecddliaa
open Go.ChangeShapes Go.WideShapes Go.ChangeAt Go.RowKit
set_option linter.unusedVariables false
set_option linter.unusedSimpArgs false

def allB (X Y : Nat → Int) : Nat → Bool
  | 0 => true
  | n + 1 => allB X Y n && inB (X n) (Y n)
theorem allB_no {X Y : Nat → Int} {k : Nat} (h : inB (X k) (Y k) = false) : ∀ n, k < n → allB X Y n = false
  | n + 1, hk => by
    by_cases e : k = n
    · subst e; simp [allB, h]
    · simp [allB, allB_no h n (by omega)]
set_option maxHeartbeats 4000000 in
set_option maxRecDepth 20000 in
theorem allIn_any (X Y : Nat → Int) (p n c : Nat) (hn : n ≤ 8) (w : World) (hX : ∀ i, i < n → w.cell? ⟨p, i * 2, none⟩ = some (.int .i64 (X i)) ∧ w.cell? ⟨p, i * 2 + 1, none⟩ = some (.int .i64 (Y i))) :
    Calls Try.prog 70 #[.slice (some ⟨p, 0, none⟩) n c] w fun e w' => e = .returned (.bool (allB X Y n)) ∧ Bel w.heap.size w w' := by
  have HX := Lib.hid hX
  clear hX
  go_enter Try.func70, Try.ntmps70
  go_wp2
  go_loopw [7] (fun i wr => ∃ k : Nat, k ≤ n ∧ Hid (allB X Y k = true) ∧ i = .int .i64 (k : Int) ∧ Bel w.heap.size w wr) (fun i _ => ((n : Int) - intOf i).toNat)
  case atStart => exact ⟨0, Nat.zero_le _, rfl, rfl, Bel.refl _ _⟩
  case round =>
    obtain ⟨k, hk, HK, rfl, hB⟩ := hrel
    have hBs := hB.size
    by_cases hkn : k = n
    · subst hkn
      go_wp2
      all_goals
        try simp only [setCell_drawn]
        refine bodyPost_ret (by first | (simp [results, Try.results70, go_sem, *]; done) | (simp [results, Try.results70, go_sem, *]; rfl)) rfl ⟨?_, ?_⟩
        · exact retb_eq HK.out.symm
        · repeat' (first | (with_reducible exact Bel.refl _ _) | (with_reducible assumption) | (with_reducible refine bel_drewN ?_ _) | (with_reducible refine Bel.drew ?_) | (with_reducible refine Bel.alloc ?_ ?_ _) | (with_reducible refine Bel.setCell ?_ ?_ _) | (with_reducible refine thenB ?_ (by with_reducible assumption) ?_) | (with_reducible exact Nat.le_refl _) | (with_reducible exact Nat.le_succ _) | (with_reducible exact Nat.le_succ_of_le (by with_reducible assumption)) | omega | (simp; done) | (simp; omega) | (exact Nat.le_succ _) | (exact Nat.le_succ_of_le (by with_reducible assumption)))
    · have hlt : k < n := by omega
      obtain ⟨hx, hy⟩ := HX.out k hlt
      replace hx := (hB.cell (p := ⟨p, k * 2, none⟩) (cell_lt hx)).trans hx
      replace hy := (hB.cell (p := ⟨p, k * 2 + 1, none⟩) (cell_lt hy)).trans hy
      have i0 : (0 : Int) ≤ (k : Int) := by omega
      have i1 : (k : Int) < (n : Int) := by omega
      clear hkn
      have HI := Lib.hid (fun w => In_any (X k) (Y k) w)
      cases hv : inB (X k) (Y k)
      · rw [hv] at HI
        have HV := Lib.hid (allB_no hv n hlt)
        clear hv
        go_wp2_with (go_at_call 57; refine (HI.out _).mono ?_; rintro e w1 ⟨rfl, hb1⟩; have hs1 := hb1.size)
        all_goals
          try simp only [setCell_drawn]
          refine bodyPost_ret (by first | (simp [results, Try.results70, go_sem, *]; done) | (simp [results, Try.results70, go_sem, *]; rfl)) rfl ⟨?_, ?_⟩
          · exact retb_eq HV.out.symm
          · repeat' (first | (with_reducible exact Bel.refl _ _) | (with_reducible assumption) | (with_reducible refine bel_drewN ?_ _) | (with_reducible refine Bel.drew ?_) | (with_reducible refine Bel.alloc ?_ ?_ _) | (with_reducible refine Bel.setCell ?_ ?_ _) | (with_reducible refine thenB ?_ (by with_reducible assumption) ?_) | (with_reducible exact Nat.le_refl _) | (with_reducible exact Nat.le_succ _) | (with_reducible exact Nat.le_succ_of_le (by with_reducible assumption)) | omega | (simp; done) | (simp; omega) | (exact Nat.le_succ _) | (exact Nat.le_succ_of_le (by with_reducible assumption)))
      · rw [hv] at HI
        have HV := Lib.hid (show allB X Y (k + 1) = true by simp [allB, HK.out, hv])
        clear hv
        go_wp2_with (go_at_call 57; refine (HI.out _).mono ?_; rintro e w1 ⟨rfl, hb1⟩; have hs1 := hb1.size)
        go_roundw
        case rel => exact ⟨k + 1, by omega, HV, by go_num, by repeat' (first | (with_reducible exact Bel.refl _ _) | (with_reducible assumption) | (with_reducible refine bel_drewN ?_ _) | (with_reducible refine Bel.drew ?_) | (with_reducible refine Bel.alloc ?_ ?_ _) | (with_reducible refine Bel.setCell ?_ ?_ _) | (with_reducible refine thenB ?_ (by with_reducible assumption) ?_) | (with_reducible exact Nat.le_refl _) | (with_reducible exact Nat.le_succ _) | (with_reducible exact Nat.le_succ_of_le (by with_reducible assumption)) | omega | (simp; done) | (simp; omega) | (exact Nat.le_succ _) | (exact Nat.le_succ_of_le (by with_reducible assumption)))⟩
        case measure => simp [intOf]; omega
set_option maxRecDepth 20000 in
theorem RIn_any (x y : Int) (w : World) : Calls Try.prog 38 #[.agg #[.int .i64 x, .int .i64 y]] w fun e w' => e = .returned (.bool (inB x y)) ∧ Bel w.heap.size w w' := by
  go_enter Try.func38, Try.ntmps38
  go_wp2
  all_goals
    try simp only [setCell_drawn]
    refine bodyPost_ret (by first | (simp [results, Try.results38, go_sem, *]; done) | (simp [results, Try.results38, go_sem, *]; rfl)) rfl ⟨?_, ?_⟩
    · first | rfl | (first | refine retb_eq ?_ | refine ret_eq ?_); (try unfold inB); first | (simp [*]; done) | (simp [*] <;> omega) | omega
    · repeat' (first | (with_reducible exact Bel.refl _ _) | (with_reducible assumption) | (with_reducible refine bel_drewN ?_ _) | (with_reducible refine Bel.drew ?_) | (with_reducible refine Bel.alloc ?_ ?_ _) | (with_reducible refine Bel.setCell ?_ ?_ _) | (with_reducible refine thenB ?_ (by with_reducible assumption) ?_) | (with_reducible exact Nat.le_refl _) | (with_reducible exact Nat.le_succ _) | (with_reducible exact Nat.le_succ_of_le (by with_reducible assumption)) | omega | (simp; done) | (simp; omega) | (exact Nat.le_succ _) | (exact Nat.le_succ_of_le (by with_reducible assumption)))
end Go.Proofs.Ythakafnecddliaa
end
section
namespace Go.Proofs.Ythakafnecddliaa
open Go.ChangeShapes Go.WideShapes Go.ChangeAt Go.RowKit
set_option linter.unusedVariables false

theorem siz_words {a : Int} (h : Siz a) : a = L0 a + 18446744073709551616 * L1 a + 340282366920938463463374607431768211456 * L2 a + 6277101735386680763835789423207666416102355444464034512896 * L3 a := by
  obtain ⟨_, _⟩ := h; unfold L0 L1 L2 L3; omega
theorem mul_words (a b x0 x1 x2 x3 y0 y1 y2 y3 : Int) (ea : a = x0 + 18446744073709551616 * x1 + 340282366920938463463374607431768211456 * x2 + 6277101735386680763835789423207666416102355444464034512896 * x3) (eb : b = y0 + 18446744073709551616 * y1 + 340282366920938463463374607431768211456 * y2 + 6277101735386680763835789423207666416102355444464034512896 * y3) :
    a * b = x0 * y0 + 18446744073709551616 * (x0 * y1) + 340282366920938463463374607431768211456 * (x0 * y2) + 6277101735386680763835789423207666416102355444464034512896 * (x0 * y3) + 18446744073709551616 * (x1 * y0) + 340282366920938463463374607431768211456 * (x1 * y1) + 6277101735386680763835789423207666416102355444464034512896 * (x1 * y2) + 115792089237316195423570985008687907853269984665640564039457584007913129639936 * (x1 * y3) + 340282366920938463463374607431768211456 * (x2 * y0) + 6277101735386680763835789423207666416102355444464034512896 * (x2 * y1) + 115792089237316195423570985008687907853269984665640564039457584007913129639936 * (x2 * y2) + 2135987035920910082395021706169552114602704522356652769947041607822219725780640550022962086936576 * (x2 * y3) + 6277101735386680763835789423207666416102355444464034512896 * (x3 * y0) + 115792089237316195423570985008687907853269984665640564039457584007913129639936 * (x3 * y1) + 2135987035920910082395021706169552114602704522356652769947041607822219725780640550022962086936576 * (x3 * y2) + 39402006196394479212279040100143613805079739270465446667948293404245721771497210611414266254884915640806627990306816 * (x3 * y3) := by
  have ha : a * b = x0 * b + 18446744073709551616 * (x1 * b) + 340282366920938463463374607431768211456 * (x2 * b) + 6277101735386680763835789423207666416102355444464034512896 * (x3 * b) := by
    rw [ea, Int.add_mul, Int.add_mul, Int.add_mul, Int.mul_assoc, Int.mul_assoc, Int.mul_assoc]
  have hx : ∀ x : Int, x * b = x * y0 + 18446744073709551616 * (x * y1) + 340282366920938463463374607431768211456 * (x * y2) + 6277101735386680763835789423207666416102355444464034512896 * (x * y3) := fun x => by
    rw [eb, Int.mul_add, Int.mul_add, Int.mul_add, Int.mul_left_comm x 18446744073709551616 y1, Int.mul_left_comm x 340282366920938463463374607431768211456 y2, Int.mul_left_comm x 6277101735386680763835789423207666416102355444464034512896 y3]
  rw [ha, hx x0, hx x1, hx x2, hx x3]
  omega
/-- the eight words of a product -/
theorem product_b (a b n : Int) (ha : Siz a) (hb : Siz b) (hn : n = a * b) (w : World) : Calls Try.prog 99 #[.agg #[.int .u64 (L0 a), .int .u64 (L1 a), .int .u64 (L2 a), .int .u64 (L3 a)], .agg #[.int .u64 (L0 b), .int .u64 (L1 b), .int .u64 (L2 b), .int .u64 (L3 b)]] w fun e w' => e = .returned (.agg #[.int .u64 (L0 n), .int .u64 (L1 n), .int .u64 (L2 n), .int .u64 (L3 n), .int .u64 (L0 (n / 115792089237316195423570985008687907853269984665640564039457584007913129639936)), .int .u64 (L1 (n / 115792089237316195423570985008687907853269984665640564039457584007913129639936)), .int .u64 (L2 (n / 115792089237316195423570985008687907853269984665640564039457584007913129639936)), .int .u64 (L3 (n / 115792089237316195423570985008687907853269984665640564039457584007913129639936))]) ∧ Bel w.heap.size w w' := by
  refine (product_gen _ _ _ _ _ _ _ _ (W4.of a) (W4.of b) w).mono ?_
  rintro e w' ⟨p0, p1, p2, p3, p4, p5, p6, p7, hp, hq, hs, rfl, c1, c2, c3, c4, hw⟩
  obtain ⟨e0, e1, e2, e3⟩ := L_num4 hp
  obtain ⟨e4, e5, e6, e7⟩ := L_num4 hq
  have hm := mul_words a b _ _ _ _ _ _ _ _ (siz_words ha) (siz_words hb)
  rw [← hs, ← hn] at hm
  have q1 : n / 115792089237316195423570985008687907853269984665640564039457584007913129639936 = num4 p4 p5 p6 p7 := by
    obtain ⟨_, _, _, _, _, _, _, _⟩ := hp; obtain ⟨_, _, _, _, _, _, _, _⟩ := hq
    unfold num4; omega
  have q2 : n % 115792089237316195423570985008687907853269984665640564039457584007913129639936 = num4 p0 p1 p2 p3 := by
    obtain ⟨_, _, _, _, _, _, _, _⟩ := hp; obtain ⟨_, _, _, _, _, _, _, _⟩ := hq
    unfold num4; omega
  have l : ∀ z : Int, L0 z = L0 (z % 115792089237316195423570985008687907853269984665640564039457584007913129639936) ∧ L1 z = L1 (z % 115792089237316195423570985008687907853269984665640564039457584007913129639936) ∧ L2 z = L2 (z % 115792089237316195423570985008687907853269984665640564039457584007913129639936) ∧ L3 z = L3 (z % 115792089237316195423570985008687907853269984665640564039457584007913129639936) := fun z => by unfold L0 L1 L2 L3; omega
  obtain ⟨l0, l1, l2, l3⟩ := l n
  rw [l0, l1, l2, l3, q1, q2, e0, e1, e2, e3, e4, e5, e6, e7]
  exact ⟨rfl, by rw [hw]; repeat' (first | (with_reducible exact Bel.refl _ _) | (with_reducible assumption) | (with_reducible refine bel_drewN ?_ _) | (with_reducible refine Bel.drew ?_) | (with_reducible refine Bel.alloc ?_ ?_ _) | (with_reducible refine Bel.setCell ?_ ?_ _) | (with_reducible refine thenB ?_ (by with_reducible assumption) ?_) | (with_reducible exact Nat.le_refl _) | (with_reducible exact Nat.le_succ _) | (with_reducible exact Nat.le_succ_of_le (by with_reducible assumption)) | omega | (simp; done) | (simp; omega) | (exact Nat.le_succ _) | (exact Nat.le_succ_of_le (by with_reducible assumption)))⟩
theorem L_prod_hi (a b : Int) (ha : Fit a) (hb : Fit b) : Siz (((a.natAbs : Int) * b.natAbs) / 115792089237316195423570985008687907853269984665640564039457584007913129639936) := by
  have h1 := Int.mul_le_mul (show (a.natAbs : Int) ≤ 57896044618658097711785492504343953926634992332820282019728792003956564819968 by have := ha.lo; have := ha.hi; omega) (show (b.natAbs : Int) ≤ 57896044618658097711785492504343953926634992332820282019728792003956564819968 by have := hb.lo; have := hb.hi; omega) (by omega) (by decide)
  have h0 : (0 : Int) ≤ (a.natAbs : Int) * b.natAbs := Int.mul_nonneg (by omega) (by omega)
  generalize (a.natAbs : Int) * b.natAbs = n at *
  constructor <;> omega
theorem natAbs_mul (a b : Int) : a * b = if (!(decide (a < 0) == decide (b < 0))) = true then 0 - (a.natAbs : Int) * b.natAbs else (a.natAbs : Int) * b.natAbs := by
  by_cases h1 : a < 0 <;> by_cases h2 : b < 0
  · have e1 : (a.natAbs : Int) = -a := by omega
    have e2 : (b.natAbs : Int) = -b := by omega
    simp only [h1, h2, decide_true, beq_self_eq_true, Bool.not_true, Bool.false_eq_true, if_false]
    rw [e1, e2, Int.neg_mul_neg]
  · have e1 : (a.natAbs : Int) = -a := by omega
    have e2 : (b.natAbs : Int) = b := by omega
    have d : (!(decide (a < 0) == decide (b < 0))) = true := by simp [h1, h2]
    rw [if_pos d, e1, e2, Int.neg_mul]; omega
  · have e1 : (a.natAbs : Int) = a := by omega
    have e2 : (b.natAbs : Int) = -b := by omega
    have d : (!(decide (a < 0) == decide (b < 0))) = true := by simp [h1, h2]
    rw [if_pos d, e1, e2, Int.mul_neg]; omega
  · have e1 : (a.natAbs : Int) = a := by omega
    have e2 : (b.natAbs : Int) = b := by omega
    have d : (!(decide (a < 0) == decide (b < 0))) = false := by simp [h1, h2]
    rw [if_neg (by rw [d]; decide), e1, e2]
end Go.Proofs.Ythakafnecddliaa
end
