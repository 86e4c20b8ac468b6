
/- The contracts of wide.sizeOf, signed, Sign. Conditions: numbers that can be. -/
import Derived.Test.YtigcbgehnlilaaaDoorWideB
import Derived.Test.YtigcbgehnlilaaaDoorEq
namespace Go.Proofs.YtigcbgehnlilaaaDoor
open Go.ChangeShapes Go.WideShapes Go.ChangeAt Go.RowKit
set_option linter.unusedVariables false

/-- a wide.Int without its sign -/
theorem sizeOf_any (z : Int) (h : Fit z) (w : World) :
    Calls Tryd.prog 55 #[.agg #[.int .u64 (L0 z), .int .u64 (L1 z), .int .u64 (L2 z), .int .u64 (L3 z)]] w fun e w' => e = .returned (.agg #[.int .u64 (L0 (z.natAbs : Int)), .int .u64 (L1 (z.natAbs : Int)), .int .u64 (L2 (z.natAbs : Int)), .int .u64 (L3 (z.natAbs : Int))]) ∧ Below w.heap.size w w' := by
  by_cases hz : z < 0
  · have hn : ngB z = true := by rw [ngB_fit h]; simpa using hz
    have e : (z.natAbs : Int) = 0 - z := by omega
    rw [e]
    have B1 := Lib.hid (fun w => below_is hn w)
    have M1 := Lib.hid (fun w => minus_any 0 z w)
    clear hn e hz
    generalize (0 : Int) - z = y at *
    generalize L0 z = x0 at *; generalize L1 z = x1 at *; generalize L2 z = x2 at *; generalize L3 z = x3 at *
    generalize L0 y = y0 at *; generalize L1 y = y1 at *; generalize L2 y = y2 at *; generalize L3 y = y3 at *
    go_enter Tryd.func55, Tryd.ntmps55
    go_wp2_with (first
      | (go_at_call 52; refine (B1.out _).mono ?_; rintro e w1 ⟨rfl, c, rfl⟩)
      | (go_at_call 59; refine (M1.out _).mono ?_; rintro e w1 ⟨rfl, c1, c2, c3, c4, n, rfl⟩))
    try simp only [setCell_drawn]
    refine bodyPost_ret (by simp [results, Tryd.results55, go_sem]) rfl ⟨rfl, ?_⟩
    repeat' (first | (with_reducible exact Below.refl _ _) | (with_reducible assumption) | (with_reducible refine below_drewN ?_ _) | (with_reducible refine Below.drew ?_) | (with_reducible refine Below.alloc ?_ ?_ _) | (with_reducible refine Below.setCell ?_ ?_ _) | (with_reducible refine then_ ?_ (by with_reducible assumption) ?_) | (with_reducible exact Nat.le_refl _) | (with_reducible exact Nat.le_succ _) | (with_reducible exact Nat.le_succ_of_le (by with_reducible assumption)) | omega | (simp; done) | (simp; omega) | (exact Nat.le_succ _) | (exact Nat.le_succ_of_le (by with_reducible assumption)))
  · have hn : ngB z = false := by rw [ngB_fit h]; simpa using hz
    have e : (z.natAbs : Int) = z := by omega
    rw [e]
    have B1 := Lib.hid (fun w => below_is hn w)
    clear hn e hz
    generalize L0 z = x0 at *; generalize L1 z = x1 at *; generalize L2 z = x2 at *; generalize L3 z = x3 at *
    go_enter Tryd.func55, Tryd.ntmps55
    go_wp2_with (first
      | (go_at_call 52; refine (B1.out _).mono ?_; rintro e w1 ⟨rfl, c, rfl⟩))
    try simp only [setCell_drawn]
    refine bodyPost_ret (by simp [results, Tryd.results55, go_sem]) rfl ⟨rfl, ?_⟩
    repeat' (first | (with_reducible exact Below.refl _ _) | (with_reducible assumption) | (with_reducible refine below_drewN ?_ _) | (with_reducible refine Below.drew ?_) | (with_reducible refine Below.alloc ?_ ?_ _) | (with_reducible refine Below.setCell ?_ ?_ _) | (with_reducible refine then_ ?_ (by with_reducible assumption) ?_) | (with_reducible exact Nat.le_refl _) | (with_reducible exact Nat.le_succ _) | (with_reducible exact Nat.le_succ_of_le (by with_reducible assumption)) | omega | (simp; done) | (simp; omega) | (exact Nat.le_succ _) | (exact Nat.le_succ_of_le (by with_reducible assumption)))
theorem siz0 : Siz 0 := ⟨by decide, by decide⟩
theorem fit0 : Fit 0 := ⟨by decide, by decide⟩
set_option maxRecDepth 20000 in
theorem signed_false_false (n : Int) (hs : Siz n) (hn : ¬ n = 0) (z : Int) (hz : z = n) (ht : ngB z = false) (w : World) :
    Calls Tryd.prog 56 #[.agg #[.int .u64 (L0 n), .int .u64 (L1 n), .int .u64 (L2 n), .int .u64 (L3 n)], .bool false] w fun e w' => e = .returned (.tuple #[.agg #[.int .u64 (L0 z), .int .u64 (L1 z), .int .u64 (L2 z), .int .u64 (L3 z)], .int .i64 0]) ∧ Below w.heap.size w w' := by
  have EQ : ∀ w, (Op.equalIn 10000 77 (.agg #[.int .u64 (L0 n), .int .u64 (L1 n), .int .u64 (L2 n), .int .u64 (L3 n)]) (.agg #[.int .u64 0, .int .u64 0, .int .u64 0, .int .u64 0])).run Tryd.prog w = .ok false w := fun w => by
    have := eq_siz hs siz0 w
    rw [decide_eq_false hn] at this
    exact this
  have B1 := Lib.hid (fun w => below_is ht w)
  clear ht hn hs
  subst hz
  generalize L0 z = x0 at *; generalize L1 z = x1 at *; generalize L2 z = x2 at *; generalize L3 z = x3 at *
  go_enter Tryd.func56, Tryd.ntmps56
  go_wp2_with (first
    | (go_at_call 52; refine (B1.out _).mono ?_; rintro e w1 ⟨rfl, c, rfl⟩))
  try simp only [setCell_drawn]
  refine bodyPost_ret (by simp [results, Tryd.results56, go_sem]) rfl ⟨rfl, ?_⟩
  repeat' (first | (with_reducible exact Below.refl _ _) | (with_reducible assumption) | (with_reducible refine below_drewN ?_ _) | (with_reducible refine Below.drew ?_) | (with_reducible refine Below.alloc ?_ ?_ _) | (with_reducible refine Below.setCell ?_ ?_ _) | (with_reducible refine then_ ?_ (by with_reducible assumption) ?_) | (with_reducible exact Nat.le_refl _) | (with_reducible exact Nat.le_succ _) | (with_reducible exact Nat.le_succ_of_le (by with_reducible assumption)) | omega | (simp; done) | (simp; omega) | (exact Nat.le_succ _) | (exact Nat.le_succ_of_le (by with_reducible assumption)))
set_option maxRecDepth 20000 in
theorem signed_false_true (n : Int) (hs : Siz n) (hn : ¬ n = 0) (z : Int) (hz : z = n) (ht : ngB z = true) (w : World) :
    Calls Tryd.prog 56 #[.agg #[.int .u64 (L0 n), .int .u64 (L1 n), .int .u64 (L2 n), .int .u64 (L3 n)], .bool false] w fun e w' => e = .returned (.tuple #[.agg #[.int .u64 0, .int .u64 0, .int .u64 0, .int .u64 0], .int .i64 3]) ∧ Below w.heap.size w w' := by
  have EQ : ∀ w, (Op.equalIn 10000 77 (.agg #[.int .u64 (L0 n), .int .u64 (L1 n), .int .u64 (L2 n), .int .u64 (L3 n)]) (.agg #[.int .u64 0, .int .u64 0, .int .u64 0, .int .u64 0])).run Tryd.prog w = .ok false w := fun w => by
    have := eq_siz hs siz0 w
    rw [decide_eq_false hn] at this
    exact this
  have B1 := Lib.hid (fun w => below_is ht w)
  clear ht hn hs
  subst hz
  generalize L0 z = x0 at *; generalize L1 z = x1 at *; generalize L2 z = x2 at *; generalize L3 z = x3 at *
  go_enter Tryd.func56, Tryd.ntmps56
  go_wp2_with (first
    | (go_at_call 52; refine (B1.out _).mono ?_; rintro e w1 ⟨rfl, c, rfl⟩))
  try simp only [setCell_drawn]
  refine bodyPost_ret (by simp [results, Tryd.results56, go_sem]) rfl ⟨rfl, ?_⟩
  repeat' (first | (with_reducible exact Below.refl _ _) | (with_reducible assumption) | (with_reducible refine below_drewN ?_ _) | (with_reducible refine Below.drew ?_) | (with_reducible refine Below.alloc ?_ ?_ _) | (with_reducible refine Below.setCell ?_ ?_ _) | (with_reducible refine then_ ?_ (by with_reducible assumption) ?_) | (with_reducible exact Nat.le_refl _) | (with_reducible exact Nat.le_succ _) | (with_reducible exact Nat.le_succ_of_le (by with_reducible assumption)) | omega | (simp; done) | (simp; omega) | (exact Nat.le_succ _) | (exact Nat.le_succ_of_le (by with_reducible assumption)))
set_option maxRecDepth 20000 in
theorem signed_true_false (n : Int) (hs : Siz n) (hn : ¬ n = 0) (z : Int) (hz : z = 0 - n) (ht : ngB z = false) (w : World) :
    Calls Tryd.prog 56 #[.agg #[.int .u64 (L0 n), .int .u64 (L1 n), .int .u64 (L2 n), .int .u64 (L3 n)], .bool true] w fun e w' => e = .returned (.tuple #[.agg #[.int .u64 0, .int .u64 0, .int .u64 0, .int .u64 0], .int .i64 3]) ∧ Below w.heap.size w w' := by
  have EQ : ∀ w, (Op.equalIn 10000 77 (.agg #[.int .u64 (L0 n), .int .u64 (L1 n), .int .u64 (L2 n), .int .u64 (L3 n)]) (.agg #[.int .u64 0, .int .u64 0, .int .u64 0, .int .u64 0])).run Tryd.prog w = .ok false w := fun w => by
    have := eq_siz hs siz0 w
    rw [decide_eq_false hn] at this
    exact this
  have B1 := Lib.hid (fun w => below_is ht w)
  have M1 := Lib.hid (fun w => minus_any 0 n w)
  rw [← hz] at M1
  clear ht hn hs
  clear hz
  generalize L0 n = x0 at *; generalize L1 n = x1 at *; generalize L2 n = x2 at *; generalize L3 n = x3 at *
  generalize L0 z = z0 at *; generalize L1 z = z1 at *; generalize L2 z = z2 at *; generalize L3 z = z3 at *
  go_enter Tryd.func56, Tryd.ntmps56
  go_wp2_with (first
    | (go_at_call 52; refine (B1.out _).mono ?_; rintro e w1 ⟨rfl, c, rfl⟩)
    | (go_at_call 59; refine (M1.out _).mono ?_; rintro e w1 ⟨rfl, c1, c2, c3, c4, m, rfl⟩))
  try simp only [setCell_drawn]
  refine bodyPost_ret (by simp [results, Tryd.results56, go_sem]) rfl ⟨rfl, ?_⟩
  repeat' (first | (with_reducible exact Below.refl _ _) | (with_reducible assumption) | (with_reducible refine below_drewN ?_ _) | (with_reducible refine Below.drew ?_) | (with_reducible refine Below.alloc ?_ ?_ _) | (with_reducible refine Below.setCell ?_ ?_ _) | (with_reducible refine then_ ?_ (by with_reducible assumption) ?_) | (with_reducible exact Nat.le_refl _) | (with_reducible exact Nat.le_succ _) | (with_reducible exact Nat.le_succ_of_le (by with_reducible assumption)) | omega | (simp; done) | (simp; omega) | (exact Nat.le_succ _) | (exact Nat.le_succ_of_le (by with_reducible assumption)))
set_option maxRecDepth 20000 in
theorem signed_true_true (n : Int) (hs : Siz n) (hn : ¬ n = 0) (z : Int) (hz : z = 0 - n) (ht : ngB z = true) (w : World) :
    Calls Tryd.prog 56 #[.agg #[.int .u64 (L0 n), .int .u64 (L1 n), .int .u64 (L2 n), .int .u64 (L3 n)], .bool true] w fun e w' => e = .returned (.tuple #[.agg #[.int .u64 (L0 z), .int .u64 (L1 z), .int .u64 (L2 z), .int .u64 (L3 z)], .int .i64 0]) ∧ Below w.heap.size w w' := by
  have EQ : ∀ w, (Op.equalIn 10000 77 (.agg #[.int .u64 (L0 n), .int .u64 (L1 n), .int .u64 (L2 n), .int .u64 (L3 n)]) (.agg #[.int .u64 0, .int .u64 0, .int .u64 0, .int .u64 0])).run Tryd.prog w = .ok false w := fun w => by
    have := eq_siz hs siz0 w
    rw [decide_eq_false hn] at this
    exact this
  have B1 := Lib.hid (fun w => below_is ht w)
  have M1 := Lib.hid (fun w => minus_any 0 n w)
  rw [← hz] at M1
  clear ht hn hs
  clear hz
  generalize L0 n = x0 at *; generalize L1 n = x1 at *; generalize L2 n = x2 at *; generalize L3 n = x3 at *
  generalize L0 z = z0 at *; generalize L1 z = z1 at *; generalize L2 z = z2 at *; generalize L3 z = z3 at *
  go_enter Tryd.func56, Tryd.ntmps56
  go_wp2_with (first
    | (go_at_call 52; refine (B1.out _).mono ?_; rintro e w1 ⟨rfl, c, rfl⟩)
    | (go_at_call 59; refine (M1.out _).mono ?_; rintro e w1 ⟨rfl, c1, c2, c3, c4, m, rfl⟩))
  try simp only [setCell_drawn]
  refine bodyPost_ret (by simp [results, Tryd.results56, go_sem]) rfl ⟨rfl, ?_⟩
  repeat' (first | (with_reducible exact Below.refl _ _) | (with_reducible assumption) | (with_reducible refine below_drewN ?_ _) | (with_reducible refine Below.drew ?_) | (with_reducible refine Below.alloc ?_ ?_ _) | (with_reducible refine Below.setCell ?_ ?_ _) | (with_reducible refine then_ ?_ (by with_reducible assumption) ?_) | (with_reducible exact Nat.le_refl _) | (with_reducible exact Nat.le_succ _) | (with_reducible exact Nat.le_succ_of_le (by with_reducible assumption)) | omega | (simp; done) | (simp; omega) | (exact Nat.le_succ _) | (exact Nat.le_succ_of_le (by with_reducible assumption)))
set_option maxRecDepth 20000 in
theorem signed_zero (s : Bool) (w : World) :
    Calls Tryd.prog 56 #[.agg #[.int .u64 0, .int .u64 0, .int .u64 0, .int .u64 0], .bool s] w fun e w' => e = .returned (.tuple #[.agg #[.int .u64 0, .int .u64 0, .int .u64 0, .int .u64 0], .int .i64 0]) ∧ Below w.heap.size w w' := by
  have EQ : ∀ w, (Op.equalIn 10000 77 (.agg #[.int .u64 0, .int .u64 0, .int .u64 0, .int .u64 0]) (.agg #[.int .u64 0, .int .u64 0, .int .u64 0, .int .u64 0])).run Tryd.prog w = .ok true w := fun w => by
    have := eq_siz siz0 siz0 w
    rw [decide_eq_true rfl] at this
    exact this
  have M1 : ∀ w : World, Calls Tryd.prog 59 #[.agg #[.int .u64 0, .int .u64 0, .int .u64 0, .int .u64 0], .agg #[.int .u64 0, .int .u64 0, .int .u64 0, .int .u64 0]] w fun e w' => e = .returned (.agg #[.int .u64 0, .int .u64 0, .int .u64 0, .int .u64 0]) ∧ ∃ c1 c2 c3 c4 n, w' = ((((w.alloc (.cells c1 77)).alloc (.cells c2 77)).alloc (.cells c3 77)).alloc (.cells c4 77)).drewN n := fun w => minus_any 0 0 w
  have H1 := Lib.hid M1
  clear M1
  cases s
  · go_enter Tryd.func56, Tryd.ntmps56
    go_wp2
    try simp only [setCell_drawn]
    refine bodyPost_ret (by simp [results, Tryd.results56, go_sem]) rfl ⟨rfl, ?_⟩
    repeat' (first | (with_reducible exact Below.refl _ _) | (with_reducible assumption) | (with_reducible refine below_drewN ?_ _) | (with_reducible refine Below.drew ?_) | (with_reducible refine Below.alloc ?_ ?_ _) | (with_reducible refine Below.setCell ?_ ?_ _) | (with_reducible refine then_ ?_ (by with_reducible assumption) ?_) | (with_reducible exact Nat.le_refl _) | (with_reducible exact Nat.le_succ _) | (with_reducible exact Nat.le_succ_of_le (by with_reducible assumption)) | omega | (simp; done) | (simp; omega) | (exact Nat.le_succ _) | (exact Nat.le_succ_of_le (by with_reducible assumption)))
  · go_enter Tryd.func56, Tryd.ntmps56
    go_wp2_with (first
      | (go_at_call 59; refine (H1.out _).mono ?_; rintro e w1 ⟨rfl, c1, c2, c3, c4, m, rfl⟩))
    try simp only [setCell_drawn]
    refine bodyPost_ret (by simp [results, Tryd.results56, go_sem]) rfl ⟨rfl, ?_⟩
    repeat' (first | (with_reducible exact Below.refl _ _) | (with_reducible assumption) | (with_reducible refine below_drewN ?_ _) | (with_reducible refine Below.drew ?_) | (with_reducible refine Below.alloc ?_ ?_ _) | (with_reducible refine Below.setCell ?_ ?_ _) | (with_reducible refine then_ ?_ (by with_reducible assumption) ?_) | (with_reducible exact Nat.le_refl _) | (with_reducible exact Nat.le_succ _) | (with_reducible exact Nat.le_succ_of_le (by with_reducible assumption)) | omega | (simp; done) | (simp; omega) | (exact Nat.le_succ _) | (exact Nat.le_succ_of_le (by with_reducible assumption)))
/-- a size with a sign: the number, where it is one -/
theorem signed_fit (n z : Int) (s : Bool) (hs : Siz n) (hz : z = if s then 0 - n else n) (hf : Fit z) (w : World) :
    Calls Tryd.prog 56 #[.agg #[.int .u64 (L0 n), .int .u64 (L1 n), .int .u64 (L2 n), .int .u64 (L3 n)], .bool s] w fun e w' => e = .returned (.tuple #[.agg #[.int .u64 (L0 z), .int .u64 (L1 z), .int .u64 (L2 z), .int .u64 (L3 z)], .int .i64 0]) ∧ Below w.heap.size w w' := by
  by_cases hn : n = 0
  · have : z = 0 := by rw [hz, hn]; cases s <;> rfl
    subst hn
    rw [this]
    exact signed_zero s w
  · have hn0 := hs.lo
    cases s
    · rw [if_neg (by decide)] at hz
      exact signed_false_false n hs hn z hz (by rw [ngB_fit hf, decide_eq_false_iff_not]; omega) w
    · rw [if_pos rfl] at hz
      exact signed_true_true n hs hn z hz (by rw [ngB_fit hf, decide_eq_true_eq]; omega) w
theorem signed_large (n z : Int) (s : Bool) (hs : Siz n) (hz : z = if s then 0 - n else n) (hf : ¬ Fit z) (w : World) :
    Calls Tryd.prog 56 #[.agg #[.int .u64 (L0 n), .int .u64 (L1 n), .int .u64 (L2 n), .int .u64 (L3 n)], .bool s] w fun e w' => e = .returned (.tuple #[.agg #[.int .u64 0, .int .u64 0, .int .u64 0, .int .u64 0], .int .i64 3]) ∧ Below w.heap.size w w' := by
  have hn : ¬ n = 0 := fun h => hf (by rw [hz, h]; cases s <;> exact fit0)
  obtain ⟨l, u⟩ := hs
  cases s
  · rw [if_neg (by decide)] at hz
    refine signed_false_true n ⟨l, u⟩ hn z hz ?_ w
    rw [ngB_iff]
    by_cases h : z ≤ 57896044618658097711785492504343953926634992332820282019728792003956564819967
    · exact absurd ⟨by omega, h⟩ hf
    · omega
  · rw [if_pos rfl] at hz
    refine signed_true_false n ⟨l, u⟩ hn z hz ?_ w
    rw [← Bool.not_eq_true, ngB_iff]
    by_cases h : -57896044618658097711785492504343953926634992332820282019728792003956564819968 ≤ z
    · exact absurd ⟨h, by omega⟩ hf
    · omega
end Go.Proofs.YtigcbgehnlilaaaDoor
