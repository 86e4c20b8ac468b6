
/- The contracts of what asks of several points whether all are in range. Conditions: at most eight points, in a row of cells. -/
import Derived.Test.YtdkmclaihojknaaGeoA
namespace Go.Proofs.Ytdkmclaihojknaa
open Go.ChangeShapes Go.WideShapes Go.ChangeAt Go.RowKit
set_option linter.unusedVariables false
set_option linter.unusedSimpArgs false

def allB (X Y : Nat → Int) : Nat → Bool
  | 0 => true
  | n + 1 => allB X Y n && inB (X n) (Y n)
theorem allB_no {X Y : Nat → Int} {k : Nat} (h : inB (X k) (Y k) = false) : ∀ n, k < n → allB X Y n = false
  | n + 1, hk => by
    by_cases e : k = n
    · subst e; simp [allB, h]
    · simp [allB, allB_no h n (by omega)]
set_option maxHeartbeats 4000000 in
set_option maxRecDepth 20000 in
theorem allIn_any (X Y : Nat → Int) (p n c : Nat) (hn : n ≤ 8) (w : World) (hX : ∀ i, i < n → w.cell? ⟨p, i * 2, none⟩ = some (.int .i64 (X i)) ∧ w.cell? ⟨p, i * 2 + 1, none⟩ = some (.int .i64 (Y i))) :
    Calls Try.prog 66 #[.slice (some ⟨p, 0, none⟩) n c] w fun e w' => e = .returned (.bool (allB X Y n)) ∧ Below w.heap.size w w' := by
  have HX := Lib.hid hX
  clear hX
  go_enter Try.func66, Try.ntmps66
  go_wp2
  go_loopw [7] (fun i wr => ∃ k : Nat, k ≤ n ∧ Hid (allB X Y k = true) ∧ i = .int .i64 (k : Int) ∧ Below w.heap.size w wr) (fun i _ => ((n : Int) - intOf i).toNat)
  case atStart => exact ⟨0, Nat.zero_le _, rfl, rfl, Below.refl _ _⟩
  case round =>
    obtain ⟨k, hk, HK, rfl, hB⟩ := hrel
    have hBs := hB.size
    by_cases hkn : k = n
    · subst hkn
      go_wp2
      all_goals
        try simp only [setCell_drawn]
        refine bodyPost_ret (by first | (simp [results, Try.results66, go_sem, *]; done) | (simp [results, Try.results66, go_sem, *]; rfl)) rfl ⟨?_, ?_⟩
        · exact retb_eq HK.out.symm
        · repeat' (first | (with_reducible exact Below.refl _ _) | (with_reducible assumption) | (with_reducible refine below_drewN ?_ _) | (with_reducible refine Below.drew ?_) | (with_reducible refine Below.alloc ?_ ?_ _) | (with_reducible refine Below.setCell ?_ ?_ _) | (with_reducible refine then_ ?_ (by with_reducible assumption) ?_) | (with_reducible exact Nat.le_refl _) | (with_reducible exact Nat.le_succ _) | (with_reducible exact Nat.le_succ_of_le (by with_reducible assumption)) | omega | (simp; done) | (simp; omega) | (exact Nat.le_succ _) | (exact Nat.le_succ_of_le (by with_reducible assumption)))
    · have hlt : k < n := by omega
      obtain ⟨hx, hy⟩ := HX.out k hlt
      replace hx := (hB.cell (p := ⟨p, k * 2, none⟩) (cell_lt hx)).trans hx
      replace hy := (hB.cell (p := ⟨p, k * 2 + 1, none⟩) (cell_lt hy)).trans hy
      have i0 : (0 : Int) ≤ (k : Int) := by omega
      have i1 : (k : Int) < (n : Int) := by omega
      clear hkn
      have HI := Lib.hid (fun w => In_any (X k) (Y k) w)
      cases hv : inB (X k) (Y k)
      · rw [hv] at HI
        have HV := Lib.hid (allB_no hv n hlt)
        clear hv
        go_wp2_with (go_at_call 52; refine (HI.out _).mono ?_; rintro e w1 ⟨rfl, hb1⟩; have hs1 := hb1.size)
        all_goals
          try simp only [setCell_drawn]
          refine bodyPost_ret (by first | (simp [results, Try.results66, go_sem, *]; done) | (simp [results, Try.results66, go_sem, *]; rfl)) rfl ⟨?_, ?_⟩
          · exact retb_eq HV.out.symm
          · repeat' (first | (with_reducible exact Below.refl _ _) | (with_reducible assumption) | (with_reducible refine below_drewN ?_ _) | (with_reducible refine Below.drew ?_) | (with_reducible refine Below.alloc ?_ ?_ _) | (with_reducible refine Below.setCell ?_ ?_ _) | (with_reducible refine then_ ?_ (by with_reducible assumption) ?_) | (with_reducible exact Nat.le_refl _) | (with_reducible exact Nat.le_succ _) | (with_reducible exact Nat.le_succ_of_le (by with_reducible assumption)) | omega | (simp; done) | (simp; omega) | (exact Nat.le_succ _) | (exact Nat.le_succ_of_le (by with_reducible assumption)))
      · rw [hv] at HI
        have HV := Lib.hid (show allB X Y (k + 1) = true by simp [allB, HK.out, hv])
        clear hv
        go_wp2_with (go_at_call 52; refine (HI.out _).mono ?_; rintro e w1 ⟨rfl, hb1⟩; have hs1 := hb1.size)
        go_roundw
        case rel => exact ⟨k + 1, by omega, HV, by go_num, by repeat' (first | (with_reducible exact Below.refl _ _) | (with_reducible assumption) | (with_reducible refine below_drewN ?_ _) | (with_reducible refine Below.drew ?_) | (with_reducible refine Below.alloc ?_ ?_ _) | (with_reducible refine Below.setCell ?_ ?_ _) | (with_reducible refine then_ ?_ (by with_reducible assumption) ?_) | (with_reducible exact Nat.le_refl _) | (with_reducible exact Nat.le_succ _) | (with_reducible exact Nat.le_succ_of_le (by with_reducible assumption)) | omega | (simp; done) | (simp; omega) | (exact Nat.le_succ _) | (exact Nat.le_succ_of_le (by with_reducible assumption)))⟩
        case measure => simp [intOf]; omega
set_option maxRecDepth 20000 in
theorem RIn_any (x y : Int) (w : World) : Calls Try.prog 44 #[.agg #[.int .i64 x, .int .i64 y]] w fun e w' => e = .returned (.bool (inB x y)) ∧ Below w.heap.size w w' := by
  go_enter Try.func44, Try.ntmps44
  go_wp2
  all_goals
    try simp only [setCell_drawn]
    refine bodyPost_ret (by first | (simp [results, Try.results44, go_sem, *]; done) | (simp [results, Try.results44, go_sem, *]; rfl)) rfl ⟨?_, ?_⟩
    · first | rfl | (first | refine retb_eq ?_ | refine ret_eq ?_); (try unfold inB); first | (simp [*]; done) | (simp [*] <;> omega) | omega
    · repeat' (first | (with_reducible exact Below.refl _ _) | (with_reducible assumption) | (with_reducible refine below_drewN ?_ _) | (with_reducible refine Below.drew ?_) | (with_reducible refine Below.alloc ?_ ?_ _) | (with_reducible refine Below.setCell ?_ ?_ _) | (with_reducible refine then_ ?_ (by with_reducible assumption) ?_) | (with_reducible exact Nat.le_refl _) | (with_reducible exact Nat.le_succ _) | (with_reducible exact Nat.le_succ_of_le (by with_reducible assumption)) | omega | (simp; done) | (simp; omega) | (exact Nat.le_succ _) | (exact Nat.le_succ_of_le (by with_reducible assumption)))
end Go.Proofs.Ytdkmclaihojknaa
