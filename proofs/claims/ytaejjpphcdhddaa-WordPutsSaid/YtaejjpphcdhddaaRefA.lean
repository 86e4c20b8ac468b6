/- The contracts of the plain functions of the first reference package (powers, widths, folding). No condition but the arguments' own ranges. -/
import Derived.Test.YtaejjpphcdhddaaWordA
namespace Go.Proofs.Ytaejjpphcdhddaa
open Go.ChangeShapes Go.WideShapes Go.ChangeAt Go.RowKit
set_option linter.unusedVariables false

theorem rfold_any (n : Int) (w : World) (h0 : -9223372036854775808 ≤ n) (h1 : n ≤ 9223372036854775807) :
    Calls Try.prog 18 #[.int .i64 n] w fun e w' => e = .returned (.int .u64 (foldZ n)) ∧ w = w' := by
  by_cases h : 0 ≤ n
  · go_enter Try.func18, Try.ntmps18
    go_wp2
    go_ret
    exact ⟨ret_eq (by unfold foldZ; rw [if_pos h]), rfl⟩
  · go_enter Try.func18, Try.ntmps18
    go_wp2
    go_ret
    exact ⟨ret_eq (by unfold foldZ; rw [if_neg (by omega)]; omega), rfl⟩

theorem rpower_any (k : Int) (w : World) (h0 : 0 ≤ k) (h1 : k ≤ 63) :
    Calls Try.prog 21 #[.int .i64 k] w fun e w' => e = .returned (.int .u64 (2 ^ k.toNat)) ∧ w = w' := by
  go_enter Try.func21, Try.ntmps21
  go_wp2
  go_loop [3, 4] (fun p i => ∃ j : Nat, (j : Int) ≤ k ∧ i = .int .i64 j ∧ p = .int .u64 (2 ^ j)) (fun _ i => (k - intOf i).toNat)
  case atStart => exact ⟨0, by omega, rfl, rfl⟩
  case round =>
    obtain ⟨j, hj, rfl, rfl⟩ := hrel
    by_cases hlt : (j : Int) < k
    · have H := Lib.hid (show IntKind.u64.wrap (2 * 2 ^ j) = 2 ^ (j + 1) by
        have e : (2 : Int) ^ (j + 1) = 2 * 2 ^ j := by rw [Int.pow_succ]; omega
        have := two_pow_lt (j + 1) (by omega)
        have hp := two_pow_pos j
        rw [e] at this ⊢
        rw [IntKind.wrap_u64]; omega)
      go_wp2
      go_round
      case rel => exact ⟨j + 1, by omega, by go_num, by rw [H.out]⟩
      case measure => simp [intOf]; omega
    · go_wp2
      go_ret
      exact ⟨ret_eq (by have : j = k.toNat := by omega
                        rw [this]), rfl⟩

theorem rwidth_any (u : Int) (w : World) (h0 : 0 ≤ u) (h1 : u ≤ 18446744073709551615) :
    Calls Try.prog 23 #[.int .u64 u] w fun e w' => e = .returned (.int .i64 (Lib.bitLen u.toNat)) ∧ w = w' := by
  have hlen := Lib.bitLen_le u.toNat 64 (by omega) (by omega)
  have HL := Lib.hid hlen
  generalize hL : Lib.bitLen u.toNat = L at *
  have HQ := Lib.hid hL
  clear hlen hL
  obtain ⟨un, rfl⟩ := Int.eq_ofNat_of_zero_le h0
  go_enter Try.func23, Try.ntmps23
  go_wp2
  go_loop [0, 3] (fun c i => ∃ j x : Nat, j + Lib.bitLen x = L ∧ x ≤ un ∧ i = .int .i64 j ∧ c = .int .u64 x) (fun c _ => (intOf c).toNat)
  case atStart => exact ⟨0, un, by rw [← HQ.out]; simp, Nat.le_refl _, rfl, rfl⟩
  case round =>
    obtain ⟨j, x, hj, hx, rfl, rfl⟩ := hrel
    have HJ := Lib.hid hj
    clear hj
    by_cases hlt : 0 < x
    · have HB := Lib.hid (Lib.bitLen_half x (by omega) (by omega))
      have hj64 : j ≤ 64 := by have := HL.out; have := HJ.out; omega
      go_wp2
      go_round
      case rel => exact ⟨j + 1, x / 2, by have := HJ.out; rw [HB.out] at this; omega, by omega, by go_num, by go_num⟩
      case measure => simp [intOf]; omega
    · obtain rfl : x = 0 := by omega
      go_wp2
      go_ret
      exact ⟨ret_eq (by have := HJ.out; have e : Lib.bitLen 0 = 0 := by decide
                        omega), rfl⟩

theorem rfits_any (n b : Int) (w : World) (h0 : -9223372036854775808 ≤ n) (h1 : n ≤ 9223372036854775807) (hb0 : 1 ≤ b) (hb : b ≤ 64) :
    Calls Try.prog 20 #[.int .i64 n, .int .i64 b] w fun e w' => e = .returned (.bool (fitsB n b)) ∧ w = w' := by
  by_cases h : n < 0
  · go_enter Try.func20, Try.ntmps20
    go_wp2_with (go_at_call 21; refine (rpower_any _ _ (by omega) (by omega)).mono ?_; rintro e w' ⟨rfl, rfl⟩)
    go_ret
    exact ⟨retb_eq (by
      have e : (b - 1).toNat = b.toNat - 1 := by omega
      have hq := two_pow_pos (b.toNat - 1)
      unfold fitsB; rw [e, decide_eq_decide]; omega), rfl⟩
  · go_enter Try.func20, Try.ntmps20
    go_wp2_with (go_at_call 21; refine (rpower_any _ _ (by omega) (by omega)).mono ?_; rintro e w' ⟨rfl, rfl⟩)
    go_ret
    exact ⟨retb_eq (by
      have e : (b - 1).toNat = b.toNat - 1 := by omega
      have hq := two_pow_pos (b.toNat - 1)
      unfold fitsB; rw [e, decide_eq_decide]; omega), rfl⟩
end Go.Proofs.Ytaejjpphcdhddaa
