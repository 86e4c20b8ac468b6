/- merged: The contract of wide.divide: the short ways. Conditions: sizes, b not nought. The contracts of wide.Sign, Small, Cmp, Shr. Conditions: numbers that a wide.Int can be. -/
import Derived.Test.YtigcbgehnlilaaaDoorDivM
import Derived.Test.YtigcbgehnlilaaaDoorEq
import Derived.Test.YtigcbgehnlilaaaDoorWideB
import Derived.Test.YtigcbgehnlilaaaDoorWideL
import Derived.Test.YtigcbgehnlilaaaDoorWideS
import Derived.Test.YtigcbgehnlilaaaDoorWideC
section
namespace Go.Proofs.YtigcbgehnlilaaaDoor
open Go.ChangeShapes Go.WideShapes Go.ChangeAt Go.RowKit
set_option linter.unusedVariables false

theorem minus_b (a b : Int) (w : World) :
    Calls Tryd.prog 59 #[.agg #[.int .u64 (L0 a), .int .u64 (L1 a), .int .u64 (L2 a), .int .u64 (L3 a)], .agg #[.int .u64 (L0 b), .int .u64 (L1 b), .int .u64 (L2 b), .int .u64 (L3 b)]] w fun e w' => e = .returned (.agg #[.int .u64 (L0 (a - b)), .int .u64 (L1 (a - b)), .int .u64 (L2 (a - b)), .int .u64 (L3 (a - b))]) ∧ Below w.heap.size w w' :=
  (minus_any a b w).mono fun e w' ⟨he, c1, c2, c3, c4, m, hw⟩ => ⟨he, by rw [hw]; repeat' (first | (with_reducible exact Below.refl _ _) | (with_reducible assumption) | (with_reducible refine below_drewN ?_ _) | (with_reducible refine Below.drew ?_) | (with_reducible refine Below.alloc ?_ ?_ _) | (with_reducible refine Below.setCell ?_ ?_ _) | (with_reducible refine then_ ?_ (by with_reducible assumption) ?_) | (with_reducible exact Nat.le_refl _) | (with_reducible exact Nat.le_succ _) | (with_reducible exact Nat.le_succ_of_le (by with_reducible assumption)) | omega | (simp; done) | (simp; omega) | (exact Nat.le_succ _) | (exact Nat.le_succ_of_le (by with_reducible assumption)))⟩
theorem down_b (a n : Int) (h : Siz a) (hn : 0 ≤ n) (hn' : n ≤ 9223372036854775807) (w : World) :
    Calls Tryd.prog 72 #[.agg #[.int .u64 (L0 a), .int .u64 (L1 a), .int .u64 (L2 a), .int .u64 (L3 a)], .int .i64 n] w fun e w' => e = .returned (.agg #[.int .u64 (L0 (a / 2 ^ n.toNat)), .int .u64 (L1 (a / 2 ^ n.toNat)), .int .u64 (L2 (a / 2 ^ n.toNat)), .int .u64 (L3 (a / 2 ^ n.toNat))]) ∧ Below w.heap.size w w' :=
  (down_any a n h hn hn' w).mono fun e w' ⟨he, c1, c2, c3, m, hw⟩ => ⟨he, by rw [hw]; repeat' (first | (with_reducible exact Below.refl _ _) | (with_reducible assumption) | (with_reducible refine below_drewN ?_ _) | (with_reducible refine Below.drew ?_) | (with_reducible refine Below.alloc ?_ ?_ _) | (with_reducible refine Below.setCell ?_ ?_ _) | (with_reducible refine then_ ?_ (by with_reducible assumption) ?_) | (with_reducible exact Nat.le_refl _) | (with_reducible exact Nat.le_succ _) | (with_reducible exact Nat.le_succ_of_le (by with_reducible assumption)) | omega | (simp; done) | (simp; omega) | (exact Nat.le_succ _) | (exact Nat.le_succ_of_le (by with_reducible assumption)))⟩
theorem cmp_siz {r s : Int} (hr : Siz r) (hs : Siz s) : cmpW (Lf r) (Lf s) 4 = if r < s then -1 else if s < r then 1 else 0 := by
  obtain ⟨h0, h1⟩ := hr; obtain ⟨h2, h3⟩ := hs
  have e : ∀ z : Int, 0 ≤ z → z ≤ 115792089237316195423570985008687907853269984665640564039457584007913129639935 → z = L0 z + 18446744073709551616 * L1 z + 340282366920938463463374607431768211456 * L2 z + 6277101735386680763835789423207666416102355444464034512896 * L3 z := fun z _ _ => by unfold L0 L1 L2 L3; omega
  have er := e r h0 h1; have es := e s h2 h3
  obtain ⟨a0, b0, a1, b1, a2, b2, a3, b3⟩ := W4.of r
  obtain ⟨c0, d0, c1, d1, c2, d2, c3, d3⟩ := W4.of s
  unfold cmpW cmpW cmpW cmpW cmpW Lf
  simp only []
  generalize L0 r = x0 at *; generalize L1 r = x1 at *; generalize L2 r = x2 at *; generalize L3 r = x3 at *
  generalize L0 s = y0 at *; generalize L1 s = y1 at *; generalize L2 s = y2 at *; generalize L3 s = y3 at *
  repeat' split
  all_goals first | rfl | omega
theorem eq_first (x0 x1 x2 x3 : Int) (w : World) : (Op.equalIn 10000 77 (.agg #[.int .u64 x0, .int .u64 x1, .int .u64 x2, .int .u64 x3]) (.agg #[.int .u64 x0, .int .u64 0, .int .u64 0, .int .u64 0])).run Tryd.prog w = .ok (decide (x1 = 0 ∧ x2 = 0 ∧ x3 = 0)) w := by
  rw [eq_size]; simp
set_option maxRecDepth 20000 in
theorem divide_small (x y : Int) (h0 : 0 ≤ x) (h1 : x ≤ 18446744073709551615) (h2 : 0 < y) (h3 : y ≤ 18446744073709551615) (w : World) :
    Calls Tryd.prog 58 #[.agg #[.int .u64 x, .int .u64 0, .int .u64 0, .int .u64 0], .agg #[.int .u64 y, .int .u64 0, .int .u64 0, .int .u64 0]] w fun e w' =>
      e = .returned (.tuple #[.agg #[.int .u64 (x / y), .int .u64 0, .int .u64 0, .int .u64 0], .agg #[.int .u64 (x % y), .int .u64 0, .int .u64 0, .int .u64 0]]) ∧ Below w.heap.size w w' := by
  have EA : ∀ w, (Op.equalIn 10000 77 (.agg #[.int .u64 x, .int .u64 0, .int .u64 0, .int .u64 0]) (.agg #[.int .u64 x, .int .u64 0, .int .u64 0, .int .u64 0])).run Tryd.prog w = .ok true w := fun w => by rw [eq_first]; rfl
  have EB : ∀ w, (Op.equalIn 10000 77 (.agg #[.int .u64 y, .int .u64 0, .int .u64 0, .int .u64 0]) (.agg #[.int .u64 y, .int .u64 0, .int .u64 0, .int .u64 0])).run Tryd.prog w = .ok true w := fun w => by rw [eq_first]; rfl
  have d : (y == 0) = false := by simpa using (by omega : y ≠ 0)
  go_enter Tryd.func58, Tryd.ntmps58
  go_wp2
  go_region
  all_goals go_wp2
  try simp only [setCell_drawn]
  refine bodyPost_ret (by simp [results, Tryd.results58, go_sem]) rfl ⟨rfl, ?_⟩
  repeat' (first | (with_reducible exact Below.refl _ _) | (with_reducible assumption) | (with_reducible refine below_drewN ?_ _) | (with_reducible refine Below.drew ?_) | (with_reducible refine Below.alloc ?_ ?_ _) | (with_reducible refine Below.setCell ?_ ?_ _) | (with_reducible refine then_ ?_ (by with_reducible assumption) ?_) | (with_reducible exact Nat.le_refl _) | (with_reducible exact Nat.le_succ _) | (with_reducible exact Nat.le_succ_of_le (by with_reducible assumption)) | omega | (simp; done) | (simp; omega) | (exact Nat.le_succ _) | (exact Nat.le_succ_of_le (by with_reducible assumption)))
set_option maxHeartbeats 1600000 in
set_option maxRecDepth 20000 in
theorem divide_less_f (a b : Int) (hsa : decide (L1 a = 0 ∧ L2 a = 0 ∧ L3 a = 0) = false) (la lb : Int) (hla : blz a = la) (hlb : blz b = lb) (ha : 0 ≤ la) (ha2 : la ≤ 256) (hb : lb ≤ 256) (hb0 : 0 ≤ lb) (hl : la < lb) (w : World) :
    Calls Tryd.prog 58 #[.agg #[.int .u64 (L0 a), .int .u64 (L1 a), .int .u64 (L2 a), .int .u64 (L3 a)], .agg #[.int .u64 (L0 b), .int .u64 (L1 b), .int .u64 (L2 b), .int .u64 (L3 b)]] w fun e w' => e = .returned (.tuple #[.agg #[.int .u64 0, .int .u64 0, .int .u64 0, .int .u64 0], .agg #[.int .u64 (L0 a), .int .u64 (L1 a), .int .u64 (L2 a), .int .u64 (L3 a)]]) ∧ Below w.heap.size w w' := by
  have EA : ∀ w, (Op.equalIn 10000 77 (.agg #[.int .u64 (L0 a), .int .u64 (L1 a), .int .u64 (L2 a), .int .u64 (L3 a)]) (.agg #[.int .u64 (L0 a), .int .u64 0, .int .u64 0, .int .u64 0])).run Tryd.prog w = .ok false w := fun w => by rw [eq_first, hsa]
  have LA := Lib.hid (fun w => length_any a w); rw [hla] at LA
  have LB := Lib.hid (fun w => length_any b w); rw [hlb] at LB
  clear hla hlb hsa
  generalize L0 a = x0 at *; generalize L1 a = x1 at *; generalize L2 a = x2 at *; generalize L3 a = x3 at *
  generalize L0 b = y0 at *; generalize L1 b = y1 at *; generalize L2 b = y2 at *; generalize L3 b = y3 at *
  · go_enter Tryd.func58, Tryd.ntmps58
    go_wp2
    go_region_held3 (fun W => W.cell? ⟨w.heap.size, 0, none⟩ = some (.int .u64 x0) ∧ W.cell? ⟨w.heap.size, 1, none⟩ = some (.int .u64 x1) ∧ W.cell? ⟨w.heap.size, 2, none⟩ = some (.int .u64 x2) ∧ W.cell? ⟨w.heap.size, 3, none⟩ = some (.int .u64 x3) ∧ W.cell? ⟨w.heap.size + 1, 0, none⟩ = some (.int .u64 y0) ∧ W.cell? ⟨w.heap.size + 1, 1, none⟩ = some (.int .u64 y1) ∧ W.cell? ⟨w.heap.size + 1, 2, none⟩ = some (.int .u64 y2) ∧ W.cell? ⟨w.heap.size + 1, 3, none⟩ = some (.int .u64 y3)) (simp [go_sem, World.cell?_alloc_past])
      (first
        | (go_at_call 70; with_reducible refine (LA.out _).mono ?_; rintro e w2 ⟨rfl, c, rfl⟩)
        | (go_at_call 70; with_reducible refine (LB.out _).mono ?_; rintro e w2 ⟨rfl, c, rfl⟩))
    rename_i hh; clear hh
    go_wp2
    go_region
    all_goals go_wp2
    try simp only [setCell_drawn]
    refine bodyPost_ret (by simp [results, Tryd.results58, go_sem]) rfl ⟨rfl, ?_⟩
    repeat' (first | (with_reducible exact Below.refl _ _) | (with_reducible assumption) | (with_reducible refine below_drewN ?_ _) | (with_reducible refine Below.drew ?_) | (with_reducible refine Below.alloc ?_ ?_ _) | (with_reducible refine Below.setCell ?_ ?_ _) | (with_reducible refine then_ ?_ (by with_reducible assumption) ?_) | (with_reducible exact Nat.le_refl _) | (with_reducible exact Nat.le_succ _) | (with_reducible exact Nat.le_succ_of_le (by with_reducible assumption)) | omega | (simp; done) | (simp; omega) | (exact Nat.le_succ _) | (exact Nat.le_succ_of_le (by with_reducible assumption)))
set_option maxHeartbeats 1600000 in
set_option maxRecDepth 20000 in
theorem divide_less_t (a b : Int) (hsa : decide (L1 a = 0 ∧ L2 a = 0 ∧ L3 a = 0) = true) (hsb : decide (L1 b = 0 ∧ L2 b = 0 ∧ L3 b = 0) = false) (la lb : Int) (hla : blz a = la) (hlb : blz b = lb) (ha : 0 ≤ la) (ha2 : la ≤ 256) (hb : lb ≤ 256) (hb0 : 0 ≤ lb) (hl : la < lb) (w : World) :
    Calls Tryd.prog 58 #[.agg #[.int .u64 (L0 a), .int .u64 (L1 a), .int .u64 (L2 a), .int .u64 (L3 a)], .agg #[.int .u64 (L0 b), .int .u64 (L1 b), .int .u64 (L2 b), .int .u64 (L3 b)]] w fun e w' => e = .returned (.tuple #[.agg #[.int .u64 0, .int .u64 0, .int .u64 0, .int .u64 0], .agg #[.int .u64 (L0 a), .int .u64 (L1 a), .int .u64 (L2 a), .int .u64 (L3 a)]]) ∧ Below w.heap.size w w' := by
  have EA : ∀ w, (Op.equalIn 10000 77 (.agg #[.int .u64 (L0 a), .int .u64 (L1 a), .int .u64 (L2 a), .int .u64 (L3 a)]) (.agg #[.int .u64 (L0 a), .int .u64 0, .int .u64 0, .int .u64 0])).run Tryd.prog w = .ok true w := fun w => by rw [eq_first, hsa]
  have EB : ∀ w, (Op.equalIn 10000 77 (.agg #[.int .u64 (L0 b), .int .u64 (L1 b), .int .u64 (L2 b), .int .u64 (L3 b)]) (.agg #[.int .u64 (L0 b), .int .u64 0, .int .u64 0, .int .u64 0])).run Tryd.prog w = .ok false w := fun w => by rw [eq_first, hsb]
  have LA := Lib.hid (fun w => length_any a w); rw [hla] at LA
  have LB := Lib.hid (fun w => length_any b w); rw [hlb] at LB
  clear hla hlb hsa hsb
  generalize L0 a = x0 at *; generalize L1 a = x1 at *; generalize L2 a = x2 at *; generalize L3 a = x3 at *
  generalize L0 b = y0 at *; generalize L1 b = y1 at *; generalize L2 b = y2 at *; generalize L3 b = y3 at *
  · go_enter Tryd.func58, Tryd.ntmps58
    go_wp2
    go_region_held3 (fun W => W.cell? ⟨w.heap.size, 0, none⟩ = some (.int .u64 x0) ∧ W.cell? ⟨w.heap.size, 1, none⟩ = some (.int .u64 x1) ∧ W.cell? ⟨w.heap.size, 2, none⟩ = some (.int .u64 x2) ∧ W.cell? ⟨w.heap.size, 3, none⟩ = some (.int .u64 x3) ∧ W.cell? ⟨w.heap.size + 1, 0, none⟩ = some (.int .u64 y0) ∧ W.cell? ⟨w.heap.size + 1, 1, none⟩ = some (.int .u64 y1) ∧ W.cell? ⟨w.heap.size + 1, 2, none⟩ = some (.int .u64 y2) ∧ W.cell? ⟨w.heap.size + 1, 3, none⟩ = some (.int .u64 y3)) (simp [go_sem, World.cell?_alloc_past])
      (first
        | (go_at_call 70; with_reducible refine (LA.out _).mono ?_; rintro e w2 ⟨rfl, c, rfl⟩)
        | (go_at_call 70; with_reducible refine (LB.out _).mono ?_; rintro e w2 ⟨rfl, c, rfl⟩))
    rename_i hh; clear hh
    go_wp2
    go_region
    all_goals go_wp2
    try simp only [setCell_drawn]
    refine bodyPost_ret (by simp [results, Tryd.results58, go_sem]) rfl ⟨rfl, ?_⟩
    repeat' (first | (with_reducible exact Below.refl _ _) | (with_reducible assumption) | (with_reducible refine below_drewN ?_ _) | (with_reducible refine Below.drew ?_) | (with_reducible refine Below.alloc ?_ ?_ _) | (with_reducible refine Below.setCell ?_ ?_ _) | (with_reducible refine then_ ?_ (by with_reducible assumption) ?_) | (with_reducible exact Nat.le_refl _) | (with_reducible exact Nat.le_succ _) | (with_reducible exact Nat.le_succ_of_le (by with_reducible assumption)) | omega | (simp; done) | (simp; omega) | (exact Nat.le_succ _) | (exact Nat.le_succ_of_le (by with_reducible assumption)))
end Go.Proofs.YtigcbgehnlilaaaDoor
end
section
namespace Go.Proofs.YtigcbgehnlilaaaDoor
open Go.ChangeShapes Go.WideShapes Go.ChangeAt Go.RowKit
set_option linter.unusedVariables false

theorem below_o {z : Int} {s : Bool} (h : ngB z = s) (w : World) :
    Calls Tryd.prog 52 #[.agg #[.int .u64 (L0 z), .int .u64 (L1 z), .int .u64 (L2 z), .int .u64 (L3 z)]] w fun e w' => e = .returned (.bool s) ∧ Below w.heap.size w w' :=
  (below_is h w).mono fun e w' ⟨he, c, hw⟩ => ⟨he, by rw [hw]; repeat' (first | (with_reducible exact Below.refl _ _) | (with_reducible assumption) | (with_reducible refine below_drewN ?_ _) | (with_reducible refine Below.drew ?_) | (with_reducible refine Below.alloc ?_ ?_ _) | (with_reducible refine Below.setCell ?_ ?_ _) | (with_reducible refine then_ ?_ (by with_reducible assumption) ?_) | (with_reducible exact Nat.le_refl _) | (with_reducible exact Nat.le_succ _) | (with_reducible exact Nat.le_succ_of_le (by with_reducible assumption)) | omega | (simp; done) | (simp; omega) | (exact Nat.le_succ _) | (exact Nat.le_succ_of_le (by with_reducible assumption)))⟩
/-- -1, 0 or 1 -/
def sgnZ (z : Int) : Int := if z < 0 then -1 else if z = 0 then 0 else 1
set_option maxRecDepth 20000 in
theorem sign_any (z : Int) (h : Fit z) (w : World) :
    Calls Tryd.prog 31 #[.agg #[.int .u64 (L0 z), .int .u64 (L1 z), .int .u64 (L2 z), .int .u64 (L3 z)]] w fun e w' => e = .returned (.int .i64 (sgnZ z)) ∧ ∃ c d, w' = w.alloc (.cells c 24) ∨ w' = (w.alloc (.cells c 24)).alloc (.cells d 24) := by
  have EQ : ∀ w, (Op.equalIn 10000 24 (.agg #[.int .u64 (L0 z), .int .u64 (L1 z), .int .u64 (L2 z), .int .u64 (L3 z)]) (.agg #[.int .u64 0, .int .u64 0, .int .u64 0, .int .u64 0])).run Tryd.prog w = .ok (decide (z = 0)) w := fun w => eq_fit h fit0 w
  have hn := ngB_fit h
  by_cases h0 : z = 0
  · rw [decide_eq_true h0] at EQ
    have e : sgnZ z = 0 := by rw [h0]; rfl
    rw [e]
    clear h0 hn h e
    generalize L0 z = x0 at *; generalize L1 z = x1 at *; generalize L2 z = x2 at *; generalize L3 z = x3 at *
    go_enter Tryd.func31, Tryd.ntmps31
    go_wp2
    go_ret
    exact ⟨rfl, _, #[], .inl rfl⟩
  · rw [decide_eq_false h0] at EQ
    by_cases h1 : z < 0
    · have e : sgnZ z = -1 := by unfold sgnZ; rw [if_pos h1]
      rw [decide_eq_true h1] at hn
      have B := Lib.hid (fun w => below_is hn w)
      rw [e]
      clear h0 hn h e h1
      generalize L0 z = x0 at *; generalize L1 z = x1 at *; generalize L2 z = x2 at *; generalize L3 z = x3 at *
      go_enter Tryd.func31, Tryd.ntmps31
      go_wp2_with (go_at_call 52; refine (B.out _).mono ?_; rintro e w1 ⟨rfl, c, rfl⟩)
      go_ret
      exact ⟨rfl, _, _, .inr rfl⟩
    · have e : sgnZ z = 1 := by unfold sgnZ; rw [if_neg h1, if_neg h0]
      rw [decide_eq_false h1] at hn
      have B := Lib.hid (fun w => below_is hn w)
      rw [e]
      clear h0 hn h e h1
      generalize L0 z = x0 at *; generalize L1 z = x1 at *; generalize L2 z = x2 at *; generalize L3 z = x3 at *
      go_enter Tryd.func31, Tryd.ntmps31
      go_wp2_with (go_at_call 52; refine (B.out _).mono ?_; rintro e w1 ⟨rfl, c, rfl⟩)
      go_ret
      exact ⟨rfl, _, _, .inr rfl⟩
theorem sign_b (z : Int) (h : Fit z) (w : World) :
    Calls Tryd.prog 31 #[.agg #[.int .u64 (L0 z), .int .u64 (L1 z), .int .u64 (L2 z), .int .u64 (L3 z)]] w fun e w' => e = .returned (.int .i64 (sgnZ z)) ∧ Below w.heap.size w w' :=
  (sign_any z h w).mono fun e w' ⟨he, c, d, hw⟩ => ⟨he, by rcases hw with hw | hw <;> rw [hw] <;> repeat' (first | (with_reducible exact Below.refl _ _) | (with_reducible assumption) | (with_reducible refine below_drewN ?_ _) | (with_reducible refine Below.drew ?_) | (with_reducible refine Below.alloc ?_ ?_ _) | (with_reducible refine Below.setCell ?_ ?_ _) | (with_reducible refine then_ ?_ (by with_reducible assumption) ?_) | (with_reducible exact Nat.le_refl _) | (with_reducible exact Nat.le_succ _) | (with_reducible exact Nat.le_succ_of_le (by with_reducible assumption)) | omega | (simp; done) | (simp; omega) | (exact Nat.le_succ _) | (exact Nat.le_succ_of_le (by with_reducible assumption)))⟩

/-- which is greater -/
def cmpZ (a b : Int) : Int := if a < b then -1 else if b < a then 1 else 0
end Go.Proofs.YtigcbgehnlilaaaDoor
end
