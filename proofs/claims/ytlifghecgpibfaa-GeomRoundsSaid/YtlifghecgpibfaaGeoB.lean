/- merged: What '==' says of two points and of two fractions; the contracts of the small functions of geom: In, Less, late, gap. Conditions: coordinates that an int can be. The contracts of what asks of several points whether all are in range. Conditions: at most eight points, in a row of cells. -/
import Derived.Test.YtlifghecgpibfaaWideH
import Derived.Test.YtlifghecgpibfaaWideI
import Derived.Test.YtlifghecgpibfaaMemoW
import Derived.Test.YtlifghecgpibfaaGeoN
import Derived.Test.YtlifghecgpibfaaRatM
section
namespace Go.Proofs.Ytlifghecgpibfaa
open Go.ChangeShapes Go.WideShapes Go.ChangeAt Go.RowKit
set_option linter.unusedVariables false
set_option linter.unusedSimpArgs false

theorem eq_Point (a1 a2 b1 b2 : Int) (w : World) : (Op.equalIn 10000 23 (.agg #[.int .i64 a1, .int .i64 a2]) (.agg #[.int .i64 b1, .int .i64 b2])).run Try.prog w = .ok (decide (a1 = b1 ∧ a2 = b2)) w := by
  have u3 := Try.underlying3
  have a3 := Try.isAgg3
  have z3 := Try.sizeOf3
  rw [show (10000 : Nat) = 9999 + 1 from rfl, run_equalIn_struct w 9999 23 _ _ (by simp [Program.fieldsOf, Try.underlying23]) (by kernel_rfl)]
  simp only [Program.fieldsOf, Try.underlying23]
  by_cases h0 : a1 = b1 <;> by_cases h1 : a2 = b2 <;> simp [Op.eqFields, go_sem, part, u3, a3, z3, h0, h1]
/-- a coordinate that an int can be -/
structure I64 (x : Int) : Prop where
  lo : -9223372036854775808 ≤ x
  hi : x ≤ 9223372036854775807
def inB (x y : Int) : Bool := decide (-268435456 ≤ x) && decide (x ≤ 268435456) && decide (-268435456 ≤ y) && decide (y ≤ 268435456)
theorem inB_iff {x y : Int} : inB x y = true ↔ -268435456 ≤ x ∧ x ≤ 268435456 ∧ -268435456 ≤ y ∧ y ≤ 268435456 := by unfold inB; simp; omega
set_option maxRecDepth 20000 in
theorem In_any (x y : Int) (w : World) : Calls Try.prog 22 #[.agg #[.int .i64 x, .int .i64 y]] w fun e w' => e = .returned (.bool (inB x y)) ∧ Below w.heap.size w w' := by
  go_enter Try.func22, Try.ntmps22
  go_wp2
  all_goals
    try simp only [setCell_drawn]
    refine bodyPost_ret (by first | (simp [results, Try.results22, go_sem, *]; done) | (simp [results, Try.results22, go_sem, *]; rfl)) rfl ⟨?_, ?_⟩
    · first | rfl | (first | refine retb_eq ?_ | refine ret_eq ?_); (try unfold inB); first | (simp [*]; done) | (simp [*] <;> omega) | omega
    · repeat' (first | (with_reducible exact Below.refl _ _) | (with_reducible assumption) | (with_reducible refine below_drewN ?_ _) | (with_reducible refine Below.drew ?_) | (with_reducible refine Below.alloc ?_ ?_ _) | (with_reducible refine Below.setCell ?_ ?_ _) | (with_reducible refine then_ ?_ (by with_reducible assumption) ?_) | (with_reducible exact Nat.le_refl _) | (with_reducible exact Nat.le_succ _) | (with_reducible exact Nat.le_succ_of_le (by with_reducible assumption)) | omega | (simp; done) | (simp; omega) | (exact Nat.le_succ _) | (exact Nat.le_succ_of_le (by with_reducible assumption)))
def ltB (a1 a2 b1 b2 : Int) : Bool := decide (a2 < b2) || (decide (a2 = b2) && decide (a1 < b1))
set_option maxRecDepth 20000 in
theorem Less_any (a1 a2 b1 b2 : Int) (w : World) : Calls Try.prog 24 #[.agg #[.int .i64 a1, .int .i64 a2], .agg #[.int .i64 b1, .int .i64 b2]] w fun e w' => e = .returned (.bool (lsB a1 a2 b1 b2)) ∧ Below w.heap.size w w' := by
  go_enter Try.func24, Try.ntmps24
  go_wp2
  all_goals
    try simp only [setCell_drawn]
    refine bodyPost_ret (by first | (simp [results, Try.results24, go_sem, *]; done) | (simp [results, Try.results24, go_sem, *]; rfl)) rfl ⟨?_, ?_⟩
    · first | rfl | (first | refine retb_eq ?_ | refine ret_eq ?_); (try unfold lsB); first | (simp [*]; done) | (simp [*] <;> omega) | omega
    · repeat' (first | (with_reducible exact Below.refl _ _) | (with_reducible assumption) | (with_reducible refine below_drewN ?_ _) | (with_reducible refine Below.drew ?_) | (with_reducible refine Below.alloc ?_ ?_ _) | (with_reducible refine Below.setCell ?_ ?_ _) | (with_reducible refine then_ ?_ (by with_reducible assumption) ?_) | (with_reducible exact Nat.le_refl _) | (with_reducible exact Nat.le_succ _) | (with_reducible exact Nat.le_succ_of_le (by with_reducible assumption)) | omega | (simp; done) | (simp; omega) | (exact Nat.le_succ _) | (exact Nat.le_succ_of_le (by with_reducible assumption)))
set_option maxRecDepth 20000 in
theorem late_any (o1 o2 p1 p2 : Int) (w : World) : Calls Try.prog 34 #[.agg #[.int .i64 o1, .int .i64 o2], .agg #[.int .i64 p1, .int .i64 p2]] w fun e w' => e = .returned (.bool (decide (Late o1 o2 p1 p2))) ∧ Below w.heap.size w w' := by
  go_enter Try.func34, Try.ntmps34
  go_wp2
  all_goals
    try simp only [setCell_drawn]
    refine bodyPost_ret (by first | (simp [results, Try.results34, go_sem, *]; done) | (simp [results, Try.results34, go_sem, *]; rfl)) rfl ⟨?_, ?_⟩
    · first | rfl | (first | refine retb_eq ?_ | refine ret_eq ?_); (try unfold Late); first | (simp [*]; done) | (simp [*] <;> omega) | omega
    · repeat' (first | (with_reducible exact Below.refl _ _) | (with_reducible assumption) | (with_reducible refine below_drewN ?_ _) | (with_reducible refine Below.drew ?_) | (with_reducible refine Below.alloc ?_ ?_ _) | (with_reducible refine Below.setCell ?_ ?_ _) | (with_reducible refine then_ ?_ (by with_reducible assumption) ?_) | (with_reducible exact Nat.le_refl _) | (with_reducible exact Nat.le_succ _) | (with_reducible exact Nat.le_succ_of_le (by with_reducible assumption)) | omega | (simp; done) | (simp; omega) | (exact Nat.le_succ _) | (exact Nat.le_succ_of_le (by with_reducible assumption)))
set_option maxRecDepth 20000 in
theorem gap_any (x y : Int) (hx : -268435456 ≤ x ∧ x ≤ 268435456) (hy : -268435456 ≤ y ∧ y ≤ 268435456) (w : World) : Calls Try.prog 32 #[.int .i64 x, .int .i64 y] w fun e w' => e = .returned (.agg #[.int .u64 (L0 (y - x)), .int .u64 (L1 (y - x)), .int .u64 (L2 (y - x)), .int .u64 (L3 (y - x))]) ∧ Below w.heap.size w w' := by
  have hz : IntKind.i64.wrap (y - x) = y - x := by simp only [IntKind.wrap_i64]; omega
  have H := Lib.hid (fun w => of_b (y - x) (by omega) (by omega) w)
  go_enter Try.func32, Try.ntmps32
  go_wp2_with (go_at_call 29; refine (H.out _).mono ?_; rintro e w1 ⟨rfl, hb⟩; have hs := hb.size; obtain ⟨o1, o2, o3⟩ := (Own.keep (Own.made _ _ _) hb).at_)
  all_goals
    try simp only [setCell_drawn]
    refine bodyPost_ret (by first | (simp [results, Try.results32, go_sem, *]; done) | (simp [results, Try.results32, go_sem, *]; rfl)) rfl ⟨?_, ?_⟩
    · first | rfl | (first | refine retb_eq ?_ | refine ret_eq ?_); first | (simp [*]; done) | (simp [*] <;> omega) | omega
    · repeat' (first | (with_reducible exact Below.refl _ _) | (with_reducible assumption) | (with_reducible refine below_drewN ?_ _) | (with_reducible refine Below.drew ?_) | (with_reducible refine Below.alloc ?_ ?_ _) | (with_reducible refine Below.setCell ?_ ?_ _) | (with_reducible refine then_ ?_ (by with_reducible assumption) ?_) | (with_reducible exact Nat.le_refl _) | (with_reducible exact Nat.le_succ _) | (with_reducible exact Nat.le_succ_of_le (by with_reducible assumption)) | omega | (simp; done) | (simp; omega) | (exact Nat.le_succ _) | (exact Nat.le_succ_of_le (by with_reducible assumption)))
end Go.Proofs.Ytlifghecgpibfaa
end
section
namespace Go.Proofs.Ytlifghecgpibfaa
open Go.ChangeShapes Go.WideShapes Go.ChangeAt Go.RowKit
set_option linter.unusedVariables false
set_option linter.unusedSimpArgs false

def allB (X Y : Nat → Int) : Nat → Bool
  | 0 => true
  | n + 1 => allB X Y n && inB (X n) (Y n)
theorem allB_no {X Y : Nat → Int} {k : Nat} (h : inB (X k) (Y k) = false) : ∀ n, k < n → allB X Y n = false
  | n + 1, hk => by
    by_cases e : k = n
    · subst e; simp [allB, h]
    · simp [allB, allB_no h n (by omega)]
set_option maxHeartbeats 4000000 in
set_option maxRecDepth 20000 in
theorem allIn_any (X Y : Nat → Int) (p n c : Nat) (hn : n ≤ 8) (w : World) (hX : ∀ i, i < n → w.cell? ⟨p, i * 2, none⟩ = some (.int .i64 (X i)) ∧ w.cell? ⟨p, i * 2 + 1, none⟩ = some (.int .i64 (Y i))) :
    Calls Try.prog 30 #[.slice (some ⟨p, 0, none⟩) n c] w fun e w' => e = .returned (.bool (allB X Y n)) ∧ Below w.heap.size w w' := by
  have HX := Lib.hid hX
  clear hX
  go_enter Try.func30, Try.ntmps30
  go_wp2
  go_loopw [7] (fun i wr => ∃ k : Nat, k ≤ n ∧ Hid (allB X Y k = true) ∧ i = .int .i64 (k : Int) ∧ Below w.heap.size w wr) (fun i _ => ((n : Int) - intOf i).toNat)
  case atStart => exact ⟨0, Nat.zero_le _, rfl, rfl, Below.refl _ _⟩
  case round =>
    obtain ⟨k, hk, HK, rfl, hB⟩ := hrel
    have hBs := hB.size
    by_cases hkn : k = n
    · subst hkn
      go_wp2
      all_goals
        try simp only [setCell_drawn]
        refine bodyPost_ret (by first | (simp [results, Try.results30, go_sem, *]; done) | (simp [results, Try.results30, go_sem, *]; rfl)) rfl ⟨?_, ?_⟩
        · exact retb_eq HK.out.symm
        · repeat' (first | (with_reducible exact Below.refl _ _) | (with_reducible assumption) | (with_reducible refine below_drewN ?_ _) | (with_reducible refine Below.drew ?_) | (with_reducible refine Below.alloc ?_ ?_ _) | (with_reducible refine Below.setCell ?_ ?_ _) | (with_reducible refine then_ ?_ (by with_reducible assumption) ?_) | (with_reducible exact Nat.le_refl _) | (with_reducible exact Nat.le_succ _) | (with_reducible exact Nat.le_succ_of_le (by with_reducible assumption)) | omega | (simp; done) | (simp; omega) | (exact Nat.le_succ _) | (exact Nat.le_succ_of_le (by with_reducible assumption)))
    · have hlt : k < n := by omega
      obtain ⟨hx, hy⟩ := HX.out k hlt
      replace hx := (hB.cell (p := ⟨p, k * 2, none⟩) (cell_lt hx)).trans hx
      replace hy := (hB.cell (p := ⟨p, k * 2 + 1, none⟩) (cell_lt hy)).trans hy
      have i0 : (0 : Int) ≤ (k : Int) := by omega
      have i1 : (k : Int) < (n : Int) := by omega
      clear hkn
      have HI := Lib.hid (fun w => In_any (X k) (Y k) w)
      cases hv : inB (X k) (Y k)
      · rw [hv] at HI
        have HV := Lib.hid (allB_no hv n hlt)
        clear hv
        go_wp2_with (go_at_call 22; refine (HI.out _).mono ?_; rintro e w1 ⟨rfl, hb1⟩; have hs1 := hb1.size)
        all_goals
          try simp only [setCell_drawn]
          refine bodyPost_ret (by first | (simp [results, Try.results30, go_sem, *]; done) | (simp [results, Try.results30, go_sem, *]; rfl)) rfl ⟨?_, ?_⟩
          · exact retb_eq HV.out.symm
          · repeat' (first | (with_reducible exact Below.refl _ _) | (with_reducible assumption) | (with_reducible refine below_drewN ?_ _) | (with_reducible refine Below.drew ?_) | (with_reducible refine Below.alloc ?_ ?_ _) | (with_reducible refine Below.setCell ?_ ?_ _) | (with_reducible refine then_ ?_ (by with_reducible assumption) ?_) | (with_reducible exact Nat.le_refl _) | (with_reducible exact Nat.le_succ _) | (with_reducible exact Nat.le_succ_of_le (by with_reducible assumption)) | omega | (simp; done) | (simp; omega) | (exact Nat.le_succ _) | (exact Nat.le_succ_of_le (by with_reducible assumption)))
      · rw [hv] at HI
        have HV := Lib.hid (show allB X Y (k + 1) = true by simp [allB, HK.out, hv])
        clear hv
        go_wp2_with (go_at_call 22; refine (HI.out _).mono ?_; rintro e w1 ⟨rfl, hb1⟩; have hs1 := hb1.size)
        go_roundw
        case rel => exact ⟨k + 1, by omega, HV, by go_num, by repeat' (first | (with_reducible exact Below.refl _ _) | (with_reducible assumption) | (with_reducible refine below_drewN ?_ _) | (with_reducible refine Below.drew ?_) | (with_reducible refine Below.alloc ?_ ?_ _) | (with_reducible refine Below.setCell ?_ ?_ _) | (with_reducible refine then_ ?_ (by with_reducible assumption) ?_) | (with_reducible exact Nat.le_refl _) | (with_reducible exact Nat.le_succ _) | (with_reducible exact Nat.le_succ_of_le (by with_reducible assumption)) | omega | (simp; done) | (simp; omega) | (exact Nat.le_succ _) | (exact Nat.le_succ_of_le (by with_reducible assumption)))⟩
        case measure => simp [intOf]; omega
set_option maxRecDepth 20000 in
theorem RIn_any (x y : Int) (w : World) : Calls Try.prog 23 #[.agg #[.int .i64 x, .int .i64 y]] w fun e w' => e = .returned (.bool (inB x y)) ∧ Below w.heap.size w w' := by
  go_enter Try.func23, Try.ntmps23
  go_wp2
  all_goals
    try simp only [setCell_drawn]
    refine bodyPost_ret (by first | (simp [results, Try.results23, go_sem, *]; done) | (simp [results, Try.results23, go_sem, *]; rfl)) rfl ⟨?_, ?_⟩
    · first | rfl | (first | refine retb_eq ?_ | refine ret_eq ?_); (try unfold inB); first | (simp [*]; done) | (simp [*] <;> omega) | omega
    · repeat' (first | (with_reducible exact Below.refl _ _) | (with_reducible assumption) | (with_reducible refine below_drewN ?_ _) | (with_reducible refine Below.drew ?_) | (with_reducible refine Below.alloc ?_ ?_ _) | (with_reducible refine Below.setCell ?_ ?_ _) | (with_reducible refine then_ ?_ (by with_reducible assumption) ?_) | (with_reducible exact Nat.le_refl _) | (with_reducible exact Nat.le_succ _) | (with_reducible exact Nat.le_succ_of_le (by with_reducible assumption)) | omega | (simp; done) | (simp; omega) | (exact Nat.le_succ _) | (exact Nat.le_succ_of_le (by with_reducible assumption)))
set_option maxHeartbeats 4000000 in
set_option maxRecDepth 20000 in
theorem lawin_any (X Y : Nat → Int) (p n c : Nat) (hn : n ≤ 8) (w : World) (hX : ∀ i, i < n → w.cell? ⟨p, i * 2, none⟩ = some (.int .i64 (X i)) ∧ w.cell? ⟨p, i * 2 + 1, none⟩ = some (.int .i64 (Y i))) :
    Calls Try.prog 11 #[.slice (some ⟨p, 0, none⟩) n c] w fun e w' => e = .returned (.bool (allB X Y n)) ∧ Below w.heap.size w w' := by
  have HX := Lib.hid hX
  clear hX
  go_enter Try.func11, Try.ntmps11
  go_wp2
  go_loopw [3] (fun i wr => ∃ k : Nat, k ≤ n ∧ Hid (allB X Y k = true) ∧ i = .int .i64 (k : Int) ∧ Below w.heap.size w wr) (fun i _ => ((n : Int) - intOf i).toNat)
  case atStart => exact ⟨0, Nat.zero_le _, rfl, rfl, Below.refl _ _⟩
  case round =>
    obtain ⟨k, hk, HK, rfl, hB⟩ := hrel
    have hBs := hB.size
    by_cases hkn : k = n
    · subst hkn
      go_wp2
      all_goals
        try simp only [setCell_drawn]
        refine bodyPost_ret (by first | (simp [results, Try.results11, go_sem, *]; done) | (simp [results, Try.results11, go_sem, *]; rfl)) rfl ⟨?_, ?_⟩
        · exact retb_eq HK.out.symm
        · repeat' (first | (with_reducible exact Below.refl _ _) | (with_reducible assumption) | (with_reducible refine below_drewN ?_ _) | (with_reducible refine Below.drew ?_) | (with_reducible refine Below.alloc ?_ ?_ _) | (with_reducible refine Below.setCell ?_ ?_ _) | (with_reducible refine then_ ?_ (by with_reducible assumption) ?_) | (with_reducible exact Nat.le_refl _) | (with_reducible exact Nat.le_succ _) | (with_reducible exact Nat.le_succ_of_le (by with_reducible assumption)) | omega | (simp; done) | (simp; omega) | (exact Nat.le_succ _) | (exact Nat.le_succ_of_le (by with_reducible assumption)))
    · have hlt : k < n := by omega
      obtain ⟨hx, hy⟩ := HX.out k hlt
      replace hx := (hB.cell (p := ⟨p, k * 2, none⟩) (cell_lt hx)).trans hx
      replace hy := (hB.cell (p := ⟨p, k * 2 + 1, none⟩) (cell_lt hy)).trans hy
      have i0 : (0 : Int) ≤ (k : Int) := by omega
      have i1 : (k : Int) < (n : Int) := by omega
      clear hkn
      have HI := Lib.hid (fun w => RIn_any (X k) (Y k) w)
      cases hv : inB (X k) (Y k)
      · rw [hv] at HI
        have HV := Lib.hid (allB_no hv n hlt)
        clear hv
        go_wp2_with (go_at_call 23; refine (HI.out _).mono ?_; rintro e w1 ⟨rfl, hb1⟩; have hs1 := hb1.size)
        all_goals
          try simp only [setCell_drawn]
          refine bodyPost_ret (by first | (simp [results, Try.results11, go_sem, *]; done) | (simp [results, Try.results11, go_sem, *]; rfl)) rfl ⟨?_, ?_⟩
          · exact retb_eq HV.out.symm
          · repeat' (first | (with_reducible exact Below.refl _ _) | (with_reducible assumption) | (with_reducible refine below_drewN ?_ _) | (with_reducible refine Below.drew ?_) | (with_reducible refine Below.alloc ?_ ?_ _) | (with_reducible refine Below.setCell ?_ ?_ _) | (with_reducible refine then_ ?_ (by with_reducible assumption) ?_) | (with_reducible exact Nat.le_refl _) | (with_reducible exact Nat.le_succ _) | (with_reducible exact Nat.le_succ_of_le (by with_reducible assumption)) | omega | (simp; done) | (simp; omega) | (exact Nat.le_succ _) | (exact Nat.le_succ_of_le (by with_reducible assumption)))
      · rw [hv] at HI
        have HV := Lib.hid (show allB X Y (k + 1) = true by simp [allB, HK.out, hv])
        clear hv
        go_wp2_with (go_at_call 23; refine (HI.out _).mono ?_; rintro e w1 ⟨rfl, hb1⟩; have hs1 := hb1.size)
        go_roundw
        case rel => exact ⟨k + 1, by omega, HV, by go_num, by repeat' (first | (with_reducible exact Below.refl _ _) | (with_reducible assumption) | (with_reducible refine below_drewN ?_ _) | (with_reducible refine Below.drew ?_) | (with_reducible refine Below.alloc ?_ ?_ _) | (with_reducible refine Below.setCell ?_ ?_ _) | (with_reducible refine then_ ?_ (by with_reducible assumption) ?_) | (with_reducible exact Nat.le_refl _) | (with_reducible exact Nat.le_succ _) | (with_reducible exact Nat.le_succ_of_le (by with_reducible assumption)) | omega | (simp; done) | (simp; omega) | (exact Nat.le_succ _) | (exact Nat.le_succ_of_le (by with_reducible assumption)))⟩
        case measure => simp [intOf]; omega
end Go.Proofs.Ytlifghecgpibfaa
end
