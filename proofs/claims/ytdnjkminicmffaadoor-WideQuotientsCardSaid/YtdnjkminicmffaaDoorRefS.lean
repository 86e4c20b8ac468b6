
/- The contract of croftref03.size: which of two numbers is greater, by their digits. -/
import Derived.Test.YtdnjkminicmffaaDoorRefN
import Derived.Test.YtdnjkminicmffaaDoorWideE
import Derived.Test.YtdnjkminicmffaaDoorWideH
namespace Go.Proofs.YtdnjkminicmffaaDoor
open Go.ChangeShapes Go.WideShapes Go.ChangeAt Go.RowKit
set_option linter.unusedVariables false

def dg (zs : List Int) (i : Nat) : Int := zs.getD i 0
theorem dg_at {zs : List Int} {i : Nat} (h : i < zs.length) : zs[i]? = some (dg zs i) := by
  simp [dg, h]
theorem cmp_take {xs ys : List Int} (hx : Dg xs) (hy : Dg ys) : ∀ k : Nat, k ≤ xs.length → k ≤ ys.length → cmpW (dg xs) (dg ys) k = cmpZ (vl (xs.take k)) (vl (ys.take k))
  | 0, _, _ => by simp [cmpW, cmpZ, vl]
  | k + 1, h, h' => by
    have ih := cmp_take hx hy k (by omega) (by omega)
    have e1 := vl_take xs k _ (dg_at (by omega))
    have e2 := vl_take ys k _ (dg_at (by omega))
    have l1 := vl_lt (hx.take k)
    have l2 := vl_lt (hy.take k)
    rw [List.length_take, Nat.min_eq_left (by omega)] at l1 l2
    have g1 := vl_nonneg (hx.take k)
    have g2 := vl_nonneg (hy.take k)
    have hP : (0 : Int) < 65536 ^ k := Int.pow_pos (by decide)
    rw [cmpW, ih, e1, e2]
    generalize (65536 : Int) ^ k = P at *
    generalize vl (xs.take k) = A at *
    generalize vl (ys.take k) = B at *
    generalize dg xs k = x at *
    generalize dg ys k = y at *
    unfold cmpZ
    rcases Int.lt_trichotomy x y with hl | hl | hl
    · have hm := Int.mul_le_mul_of_nonneg_left (show x + 1 ≤ y by omega) (Int.le_of_lt hP)
      rw [Int.mul_add, Int.mul_one] at hm
      rw [if_pos hl, if_pos (by omega)]
    · subst hl
      rw [if_neg (by omega), if_neg (by omega)]
      by_cases h1 : A < B
      · rw [if_pos h1, if_pos (by omega)]
      · rw [if_neg h1, if_neg (show ¬ A + P * x < B + P * x by omega)]
        by_cases h2 : B < A
        · rw [if_pos h2, if_pos (by omega)]
        · rw [if_neg h2, if_neg (by omega)]
    · have hm := Int.mul_le_mul_of_nonneg_left (show y + 1 ≤ x by omega) (Int.le_of_lt hP)
      rw [Int.mul_add, Int.mul_one] at hm
      rw [if_neg (by omega), if_pos (show x > y from hl), if_neg (by omega), if_pos (by omega)]

set_option maxHeartbeats 4000000 in
set_option maxRecDepth 20000 in
theorem size_same (xs ys : List Int) (T C T' C' : Nat) (a b : Option Addr) (n c d : Nat) (w : World) (hx : DRow w T C a n c xs) (hy : DRow w T' C' b n d ys) :
    Calls Tryd.prog 39 #[.slice a n c, .slice b n d] w fun e w' => e = .returned (.int .i64 (cmpW (dg xs) (dg ys) n)) ∧ ∃ m, w' = w.drewN m := by
  obtain ⟨l1, c1, m1, hX⟩ := hx
  obtain ⟨l2, c2, m2, hY⟩ := hy
  have HX := Lib.hid hX; have HY := Lib.hid hY
  have hn : (n : Int) ≤ 9223372036854775807 := by unfold maxLen at m1; omega
  clear hX hY
  go_enter Tryd.func39, Tryd.ntmps39
  go_wp2
  go_loopw [5] (fun i wr => ∃ k m : Nat, k ≤ n ∧ Hid (cmpW (dg xs) (dg ys) n = cmpW (dg xs) (dg ys) k) ∧ i = .int .i64 ((k : Int) - 1) ∧ wr = w.drewN m) (fun i _ => (intOf i + 1).toNat)
  case atStart => exact ⟨n, 0, Nat.le_refl _, rfl, rfl, by rw [World.drewN_zero]⟩
  case round =>
    obtain ⟨k, m, hk, HK, rfl, rfl⟩ := hrel
    by_cases hk0 : k = 0
    · subst hk0
      go_wp2
      go_ret
      exact ⟨ret_eq (by rw [HK.out]; rfl), m, rfl⟩
    · obtain ⟨j, rfl⟩ : ∃ j, k = j + 1 := ⟨k - 1, by omega⟩
      obtain ⟨p, o, rfl, hx⟩ : ∃ p o, a = some ⟨p, o, none⟩ ∧ w.cell? ⟨p, o + j, none⟩ = some (.int .i64 (dg xs j)) := by
        rcases HX.out with h | ⟨p, o, h1, _, h2⟩
        · rw [h] at l1; simp at l1; omega
        · exact ⟨p, o, h1, h2 j _ (dg_at (by omega))⟩
      obtain ⟨q, r, rfl, hy⟩ : ∃ q r, b = some ⟨q, r, none⟩ ∧ w.cell? ⟨q, r + j, none⟩ = some (.int .i64 (dg ys j)) := by
        rcases HY.out with h | ⟨q, r, h1, _, h2⟩
        · rw [h] at l2; simp at l2; omega
        · exact ⟨q, r, h1, h2 j _ (dg_at (by omega))⟩
      have i0 : (0 : Int) ≤ (j : Int) := by omega
      have i1 : (j : Int) < (n : Int) := by omega
      have i2 : ((j + 1 : Nat) : Int) - 1 = (j : Int) := by omega
      rw [i2]
      clear i2 hk0 HX HY
      by_cases hl : dg xs j < dg ys j
      · have HL := Lib.hid (cmpW_lt hl)
        go_wp2
        go_region
        all_goals
          go_wp2
          go_ret
          exact ⟨ret_eq (by rw [HK.out, HL.out]), m + 1, rfl⟩
      · by_cases hg : dg ys j < dg xs j
        · have HL := Lib.hid (cmpW_gt hg)
          have d1 : decide (dg xs j < dg ys j) = false := by simpa using hl
          clear hl
          go_wp2
          go_region
          all_goals
            go_wp2
            go_region
            all_goals
              go_wp2
              go_ret
              exact ⟨ret_eq (by rw [HK.out, HL.out]), m + 1 + 1, rfl⟩
        · have HL := Lib.hid (cmpW_eq (X := dg xs) (Y := dg ys) (n := j) (by omega))
          have d1 : decide (dg xs j < dg ys j) = false := by simpa using hl
          have d2 : decide (dg ys j < dg xs j) = false := by simpa using hg
          clear hl hg
          go_wp2
          go_region
          all_goals
            go_wp2
            go_region
            all_goals
              go_wp2
              go_roundw
              case rel => exact ⟨j, m + 1 + 1, by omega, by unfold Hid; rw [HK.out, HL.out], rfl, rfl⟩
              case measure => simp [intOf]

/-- of two numbers' own digits -/
theorem size_num (m n : Nat) (T C T' C' : Nat) (a b : Option Addr) (la lb c d : Nat) (w : World) (hx : DRow w T C a la c (digs m)) (hy : DRow w T' C' b lb d (digs n)) :
    Calls Tryd.prog 39 #[.slice a la c, .slice b lb d] w fun e w' => e = .returned (.int .i64 (cmpZ m n)) ∧ ∃ k, w' = w.drewN k := by
  by_cases h : la = lb
  · subst h
    refine (size_same (digs m) (digs n) T C T' C' a b la c d w hx hy).mono ?_
    rintro e w' ⟨rfl, k, rfl⟩
    refine ⟨?_, k, rfl⟩
    have h1 := hx.hlen
    have h2 := hy.hlen
    rw [cmp_take (Dg.digs m) (Dg.digs n) la (by omega) (by omega), List.take_of_length_le (by omega), List.take_of_length_le (by omega), vl_digs, vl_digs]
  · have h1 := hx.hlen
    have h2 := hy.hlen
    by_cases hl : la < lb
    · have hmn := digs_longer (m := m) (n := n) (by omega)
      have e : cmpZ (m : Int) n = -1 := by unfold cmpZ; rw [if_pos (by omega)]
      rw [e]
      have d1 : decide ((la : Int) = lb) = false := by simp; omega
      have d2 : (la : Int) < lb := by omega
      clear h1 h2 hx hy e
      go_enter Tryd.func39, Tryd.ntmps39
      go_wp2
      go_ret
      exact ⟨rfl, 0, by rw [World.drewN_zero]⟩
    · have hmn := digs_longer (m := n) (n := m) (by omega)
      have e : cmpZ (m : Int) n = 1 := by unfold cmpZ; rw [if_neg (by omega), if_pos (by omega)]
      rw [e]
      have d1 : decide ((la : Int) = lb) = false := by simp; omega
      have d2 : ¬ (la : Int) < lb := by omega
      clear h1 h2 hx hy e
      go_enter Tryd.func39, Tryd.ntmps39
      go_wp2
      go_ret
      exact ⟨rfl, 0, by rw [World.drewN_zero]⟩
end Go.Proofs.YtdnjkminicmffaaDoor
