/- merged: Plain mathematics of fractions: reduced ones, what they are alike by, sums and products. It speaks of no program. No condition but those that each theorem names. What '==' says of two points and of two fractions; the contracts of the small functions of geom: In, Less, late, gap. Conditions: coordinates that an int can be. The contracts of what asks of several points whether all are in range. Conditions: at most eight points, in a row of cells. -/
import Derived.Test.YtibnackmddigaaaGeoN
import Derived.Test.YtibnackmddigaaaNum
import Derived.Test.YtibnackmddigaaaWideJ
import Derived.Test.YtibnackmddigaaaMemoW
section
namespace Go.Proofs.Ytibnackmddigaaa
set_option linter.unusedVariables false
instance (z : Int) : Decidable (Fit z) := decidable_of_iff (-57896044618658097711785492504343953926634992332820282019728792003956564819968 ≤ z ∧ z ≤ 57896044618658097711785492504343953926634992332820282019728792003956564819967) ⟨fun h => ⟨h.1, h.2⟩, fun h => ⟨h.lo, h.hi⟩⟩
/-- the greatest that divides both -/
def gz (n d : Int) : Int := (((n.natAbs).gcd d.natAbs : Nat) : Int)
/-- right -/
def Rgt (n d : Int) : Prop := 0 < d ∧ gz n d = 1
instance (n d : Int) : Decidable (Rgt n d) := by unfold Rgt; infer_instance
theorem Rgt.pos {n d : Int} (h : Rgt n d) : 0 < d := h.1
/-- what Make answers -/
def Mk (n d p q er : Int) : Prop :=
  (d = 0 ∧ p = 0 ∧ q = 0 ∧ er = 4) ∨
  (d < 0 ∧ (¬ Fit (gz n d) ∨ ¬ Fit (n.tdiv (-gz n d)) ∨ ¬ Fit (d.tdiv (-gz n d))) ∧ p = 0 ∧ q = 0 ∧ er = 3) ∨
  (d ≠ 0 ∧ er = 0 ∧ Fit (gz n d) ∧ Fit p ∧ Fit q ∧ Rgt p q ∧ p * d = n * q ∧ p = n.tdiv (if d < 0 then -gz n d else gz n d) ∧ q = d.tdiv (if d < 0 then -gz n d else gz n d))
theorem Mk.fits {n d p q er : Int} (h : Mk n d p q er) : Fit p ∧ Fit q := by
  rcases h with ⟨_, rfl, rfl, _⟩ | ⟨_, _, rfl, rfl, _⟩ | ⟨_, _, _, h, k, _⟩
  · exact ⟨⟨by decide, by decide⟩, ⟨by decide, by decide⟩⟩
  · exact ⟨⟨by decide, by decide⟩, ⟨by decide, by decide⟩⟩
  · exact ⟨h, k⟩
theorem Mk.ok {n d p q er : Int} (h : Mk n d p q er) (e : er = 0) : Fit p ∧ Fit q ∧ Rgt p q ∧ p * d = n * q ∧ d ≠ 0 := by
  rcases h with ⟨_, _, _, h⟩ | ⟨_, _, _, _, h⟩ | ⟨h0, _, _, h, k, r, m, _⟩
  · omega
  · omega
  · exact ⟨h, k, r, m, h0⟩
theorem Mk.pos {n d p q er : Int} (h : Mk n d p q er) (k : 0 < d) : er = 0 := by
  rcases h with ⟨_, _, _, h⟩ | ⟨_, _, _, _, h⟩ | ⟨h0, h, _⟩ <;> omega
section
variable {a b c d p q r s : Int}
end
end Go.Proofs.Ytibnackmddigaaa
end
section
namespace Go.Proofs.Ytibnackmddigaaa
open Go.ChangeShapes Go.WideShapes Go.ChangeAt Go.RowKit
set_option linter.unusedVariables false
set_option linter.unusedSimpArgs false

theorem eq_Point (a1 a2 b1 b2 : Int) (w : World) : (Op.equalIn 10000 37 (.agg #[.int .i64 a1, .int .i64 a2]) (.agg #[.int .i64 b1, .int .i64 b2])).run Try.prog w = .ok (decide (a1 = b1 ∧ a2 = b2)) w := by
  have u3 := Try.underlying3
  have a3 := Try.isAgg3
  have z3 := Try.sizeOf3
  rw [show (10000 : Nat) = 9999 + 1 from rfl, run_equalIn_struct w 9999 37 _ _ (by simp [Program.fieldsOf, Try.underlying37]) (by kernel_rfl)]
  simp only [Program.fieldsOf, Try.underlying37]
  by_cases h0 : a1 = b1 <;> by_cases h1 : a2 = b2 <;> simp [Op.eqFields, go_sem, part, u3, a3, z3, h0, h1]
/-- a coordinate that an int can be -/
structure I64 (x : Int) : Prop where
  lo : -9223372036854775808 ≤ x
  hi : x ≤ 9223372036854775807
def inB (x y : Int) : Bool := decide (-268435456 ≤ x) && decide (x ≤ 268435456) && decide (-268435456 ≤ y) && decide (y ≤ 268435456)
theorem inB_iff {x y : Int} : inB x y = true ↔ -268435456 ≤ x ∧ x ≤ 268435456 ∧ -268435456 ≤ y ∧ y ≤ 268435456 := by unfold inB; simp; omega
set_option maxRecDepth 20000 in
theorem In_any (x y : Int) (w : World) : Calls Try.prog 75 #[.agg #[.int .i64 x, .int .i64 y]] w fun e w' => e = .returned (.bool (inB x y)) ∧ Bel w.heap.size w w' := by
  go_enter Try.func75, Try.ntmps75
  go_wp2
  all_goals
    try simp only [setCell_drawn]
    refine bodyPost_ret (by first | (simp [results, Try.results75, go_sem, *]; done) | (simp [results, Try.results75, go_sem, *]; rfl)) rfl ⟨?_, ?_⟩
    · first | rfl | (first | refine retb_eq ?_ | refine ret_eq ?_); (try unfold inB); first | (simp [*]; done) | (simp [*] <;> omega) | omega
    · repeat' (first | (with_reducible exact Bel.refl _ _) | (with_reducible assumption) | (with_reducible refine bel_drewN ?_ _) | (with_reducible refine Bel.drew ?_) | (with_reducible refine Bel.alloc ?_ ?_ _) | (with_reducible refine Bel.setCell ?_ ?_ _) | (with_reducible refine thenB ?_ (by with_reducible assumption) ?_) | (with_reducible exact Nat.le_refl _) | (with_reducible exact Nat.le_succ _) | (with_reducible exact Nat.le_succ_of_le (by with_reducible assumption)) | omega | (simp; done) | (simp; omega) | (exact Nat.le_succ _) | (exact Nat.le_succ_of_le (by with_reducible assumption)))
set_option maxRecDepth 20000 in
theorem Less_any (a1 a2 b1 b2 : Int) (w : World) : Calls Try.prog 69 #[.agg #[.int .i64 a1, .int .i64 a2], .agg #[.int .i64 b1, .int .i64 b2]] w fun e w' => e = .returned (.bool (lsB a1 a2 b1 b2)) ∧ Bel w.heap.size w w' := by
  go_enter Try.func69, Try.ntmps69
  go_wp2
  all_goals
    try simp only [setCell_drawn]
    refine bodyPost_ret (by first | (simp [results, Try.results69, go_sem, *]; done) | (simp [results, Try.results69, go_sem, *]; rfl)) rfl ⟨?_, ?_⟩
    · first | rfl | (first | refine retb_eq ?_ | refine ret_eq ?_); (try unfold lsB); first | (simp [*]; done) | (simp [*] <;> omega) | omega
    · repeat' (first | (with_reducible exact Bel.refl _ _) | (with_reducible assumption) | (with_reducible refine bel_drewN ?_ _) | (with_reducible refine Bel.drew ?_) | (with_reducible refine Bel.alloc ?_ ?_ _) | (with_reducible refine Bel.setCell ?_ ?_ _) | (with_reducible refine thenB ?_ (by with_reducible assumption) ?_) | (with_reducible exact Nat.le_refl _) | (with_reducible exact Nat.le_succ _) | (with_reducible exact Nat.le_succ_of_le (by with_reducible assumption)) | omega | (simp; done) | (simp; omega) | (exact Nat.le_succ _) | (exact Nat.le_succ_of_le (by with_reducible assumption)))
set_option maxRecDepth 20000 in
theorem late_any (o1 o2 p1 p2 : Int) (w : World) : Calls Try.prog 94 #[.agg #[.int .i64 o1, .int .i64 o2], .agg #[.int .i64 p1, .int .i64 p2]] w fun e w' => e = .returned (.bool (decide (Late o1 o2 p1 p2))) ∧ Bel w.heap.size w w' := by
  go_enter Try.func94, Try.ntmps94
  go_wp2
  all_goals
    try simp only [setCell_drawn]
    refine bodyPost_ret (by first | (simp [results, Try.results94, go_sem, *]; done) | (simp [results, Try.results94, go_sem, *]; rfl)) rfl ⟨?_, ?_⟩
    · first | rfl | (first | refine retb_eq ?_ | refine ret_eq ?_); (try unfold Late); first | (simp [*]; done) | (simp [*] <;> omega) | omega
    · repeat' (first | (with_reducible exact Bel.refl _ _) | (with_reducible assumption) | (with_reducible refine bel_drewN ?_ _) | (with_reducible refine Bel.drew ?_) | (with_reducible refine Bel.alloc ?_ ?_ _) | (with_reducible refine Bel.setCell ?_ ?_ _) | (with_reducible refine thenB ?_ (by with_reducible assumption) ?_) | (with_reducible exact Nat.le_refl _) | (with_reducible exact Nat.le_succ _) | (with_reducible exact Nat.le_succ_of_le (by with_reducible assumption)) | omega | (simp; done) | (simp; omega) | (exact Nat.le_succ _) | (exact Nat.le_succ_of_le (by with_reducible assumption)))
set_option maxRecDepth 20000 in
theorem gap_any (x y : Int) (hx : -268435456 ≤ x ∧ x ≤ 268435456) (hy : -268435456 ≤ y ∧ y ≤ 268435456) (w : World) : Calls Try.prog 114 #[.int .i64 x, .int .i64 y] w fun e w' => e = .returned (.agg #[.int .u64 (L0 (y - x)), .int .u64 (L1 (y - x)), .int .u64 (L2 (y - x)), .int .u64 (L3 (y - x))]) ∧ Bel w.heap.size w w' := by
  have hz : IntKind.i64.wrap (y - x) = y - x := by simp only [IntKind.wrap_i64]; omega
  have H := Lib.hid (fun w => of_b (y - x) (by omega) (by omega) w)
  go_enter Try.func114, Try.ntmps114
  go_wp2_with (go_at_call 46; refine (H.out _).mono ?_; rintro e w1 ⟨rfl, hb⟩; have hs := hb.size; obtain ⟨o1, o2, o3⟩ := (Own.keepB (Own.made _ _ _) hb).at_)
  all_goals
    try simp only [setCell_drawn]
    refine bodyPost_ret (by first | (simp [results, Try.results114, go_sem, *]; done) | (simp [results, Try.results114, go_sem, *]; rfl)) rfl ⟨?_, ?_⟩
    · first | rfl | (first | refine retb_eq ?_ | refine ret_eq ?_); first | (simp [*]; done) | (simp [*] <;> omega) | omega
    · repeat' (first | (with_reducible exact Bel.refl _ _) | (with_reducible assumption) | (with_reducible refine bel_drewN ?_ _) | (with_reducible refine Bel.drew ?_) | (with_reducible refine Bel.alloc ?_ ?_ _) | (with_reducible refine Bel.setCell ?_ ?_ _) | (with_reducible refine thenB ?_ (by with_reducible assumption) ?_) | (with_reducible exact Nat.le_refl _) | (with_reducible exact Nat.le_succ _) | (with_reducible exact Nat.le_succ_of_le (by with_reducible assumption)) | omega | (simp; done) | (simp; omega) | (exact Nat.le_succ _) | (exact Nat.le_succ_of_le (by with_reducible assumption)))
end Go.Proofs.Ytibnackmddigaaa
end
section
namespace Go.Proofs.Ytibnackmddigaaa
open Go.ChangeShapes Go.WideShapes Go.ChangeAt Go.RowKit
set_option linter.unusedVariables false
set_option linter.unusedSimpArgs false

def allB (X Y : Nat → Int) : Nat → Bool
  | 0 => true
  | n + 1 => allB X Y n && inB (X n) (Y n)
theorem allB_no {X Y : Nat → Int} {k : Nat} (h : inB (X k) (Y k) = false) : ∀ n, k < n → allB X Y n = false
  | n + 1, hk => by
    by_cases e : k = n
    · subst e; simp [allB, h]
    · simp [allB, allB_no h n (by omega)]
set_option maxHeartbeats 4000000 in
set_option maxRecDepth 20000 in
theorem allIn_any (X Y : Nat → Int) (p n c : Nat) (hn : n ≤ 8) (w : World) (hX : ∀ i, i < n → w.cell? ⟨p, i * 2, none⟩ = some (.int .i64 (X i)) ∧ w.cell? ⟨p, i * 2 + 1, none⟩ = some (.int .i64 (Y i))) :
    Calls Try.prog 95 #[.slice (some ⟨p, 0, none⟩) n c] w fun e w' => e = .returned (.bool (allB X Y n)) ∧ Bel w.heap.size w w' := by
  have HX := Lib.hid hX
  clear hX
  go_enter Try.func95, Try.ntmps95
  go_wp2
  go_loopw [7] (fun i wr => ∃ k : Nat, k ≤ n ∧ Hid (allB X Y k = true) ∧ i = .int .i64 (k : Int) ∧ Bel w.heap.size w wr) (fun i _ => ((n : Int) - intOf i).toNat)
  case atStart => exact ⟨0, Nat.zero_le _, rfl, rfl, Bel.refl _ _⟩
  case round =>
    obtain ⟨k, hk, HK, rfl, hB⟩ := hrel
    have hBs := hB.size
    by_cases hkn : k = n
    · subst hkn
      go_wp2
      all_goals
        try simp only [setCell_drawn]
        refine bodyPost_ret (by first | (simp [results, Try.results95, go_sem, *]; done) | (simp [results, Try.results95, go_sem, *]; rfl)) rfl ⟨?_, ?_⟩
        · exact retb_eq HK.out.symm
        · repeat' (first | (with_reducible exact Bel.refl _ _) | (with_reducible assumption) | (with_reducible refine bel_drewN ?_ _) | (with_reducible refine Bel.drew ?_) | (with_reducible refine Bel.alloc ?_ ?_ _) | (with_reducible refine Bel.setCell ?_ ?_ _) | (with_reducible refine thenB ?_ (by with_reducible assumption) ?_) | (with_reducible exact Nat.le_refl _) | (with_reducible exact Nat.le_succ _) | (with_reducible exact Nat.le_succ_of_le (by with_reducible assumption)) | omega | (simp; done) | (simp; omega) | (exact Nat.le_succ _) | (exact Nat.le_succ_of_le (by with_reducible assumption)))
    · have hlt : k < n := by omega
      obtain ⟨hx, hy⟩ := HX.out k hlt
      replace hx := (hB.cell (p := ⟨p, k * 2, none⟩) (cell_lt hx)).trans hx
      replace hy := (hB.cell (p := ⟨p, k * 2 + 1, none⟩) (cell_lt hy)).trans hy
      have i0 : (0 : Int) ≤ (k : Int) := by omega
      have i1 : (k : Int) < (n : Int) := by omega
      clear hkn
      have HI := Lib.hid (fun w => In_any (X k) (Y k) w)
      cases hv : inB (X k) (Y k)
      · rw [hv] at HI
        have HV := Lib.hid (allB_no hv n hlt)
        clear hv
        go_wp2_with (go_at_call 75; refine (HI.out _).mono ?_; rintro e w1 ⟨rfl, hb1⟩; have hs1 := hb1.size)
        all_goals
          try simp only [setCell_drawn]
          refine bodyPost_ret (by first | (simp [results, Try.results95, go_sem, *]; done) | (simp [results, Try.results95, go_sem, *]; rfl)) rfl ⟨?_, ?_⟩
          · exact retb_eq HV.out.symm
          · repeat' (first | (with_reducible exact Bel.refl _ _) | (with_reducible assumption) | (with_reducible refine bel_drewN ?_ _) | (with_reducible refine Bel.drew ?_) | (with_reducible refine Bel.alloc ?_ ?_ _) | (with_reducible refine Bel.setCell ?_ ?_ _) | (with_reducible refine thenB ?_ (by with_reducible assumption) ?_) | (with_reducible exact Nat.le_refl _) | (with_reducible exact Nat.le_succ _) | (with_reducible exact Nat.le_succ_of_le (by with_reducible assumption)) | omega | (simp; done) | (simp; omega) | (exact Nat.le_succ _) | (exact Nat.le_succ_of_le (by with_reducible assumption)))
      · rw [hv] at HI
        have HV := Lib.hid (show allB X Y (k + 1) = true by simp [allB, HK.out, hv])
        clear hv
        go_wp2_with (go_at_call 75; refine (HI.out _).mono ?_; rintro e w1 ⟨rfl, hb1⟩; have hs1 := hb1.size)
        go_roundw
        case rel => exact ⟨k + 1, by omega, HV, by go_num, by repeat' (first | (with_reducible exact Bel.refl _ _) | (with_reducible assumption) | (with_reducible refine bel_drewN ?_ _) | (with_reducible refine Bel.drew ?_) | (with_reducible refine Bel.alloc ?_ ?_ _) | (with_reducible refine Bel.setCell ?_ ?_ _) | (with_reducible refine thenB ?_ (by with_reducible assumption) ?_) | (with_reducible exact Nat.le_refl _) | (with_reducible exact Nat.le_succ _) | (with_reducible exact Nat.le_succ_of_le (by with_reducible assumption)) | omega | (simp; done) | (simp; omega) | (exact Nat.le_succ _) | (exact Nat.le_succ_of_le (by with_reducible assumption)))⟩
        case measure => simp [intOf]; omega
end Go.Proofs.Ytibnackmddigaaa
end
