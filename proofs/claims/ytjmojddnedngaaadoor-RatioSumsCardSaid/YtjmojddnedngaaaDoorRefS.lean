/- merged: The contracts of wide.Sign, Small, Cmp, Shr. Conditions: numbers that a wide.Int can be. The contracts of wide.Shr, Small. Conditions: numbers that a wide.Int can be. What '==' says of two points and of two fractions; the contracts of the small functions of geom: In, Less, late, gap. Conditions: coordinates that an int can be. Numbers of croftref03 as values: trim makes one of any digits; Neg. The contract of croftref03.size: which of two numbers is greater, by their digits. -/
import Derived.Test.YtjmojddnedngaaaDoorWideC
import Derived.Test.YtjmojddnedngaaaDoorWideV
import Derived.Test.YtjmojddnedngaaaDoorRefT
import Derived.Test.YtjmojddnedngaaaDoorMemoW
import Derived.Test.YtjmojddnedngaaaDoorGeoN
import Derived.Test.YtjmojddnedngaaaDoorFbA
section
namespace Go.Proofs.YtjmojddnedngaaaDoor
open Go.ChangeShapes Go.WideShapes Go.ChangeAt Go.RowKit
set_option linter.unusedVariables false

theorem below_o {z : Int} {s : Bool} (h : ngB z = s) (w : World) :
    Calls Tryd.prog 28 #[.agg #[.int .u64 (L0 z), .int .u64 (L1 z), .int .u64 (L2 z), .int .u64 (L3 z)]] w fun e w' => e = .returned (.bool s) ∧ Below w.heap.size w w' :=
  (below_is h w).mono fun e w' ⟨he, c, hw⟩ => ⟨he, by rw [hw]; repeat' (first | (with_reducible exact Below.refl _ _) | (with_reducible assumption) | (with_reducible refine below_drewN ?_ _) | (with_reducible refine Below.drew ?_) | (with_reducible refine Below.alloc ?_ ?_ _) | (with_reducible refine Below.setCell ?_ ?_ _) | (with_reducible refine then_ ?_ (by with_reducible assumption) ?_) | (with_reducible exact Nat.le_refl _) | (with_reducible exact Nat.le_succ _) | (with_reducible exact Nat.le_succ_of_le (by with_reducible assumption)) | omega | (simp; done) | (simp; omega) | (exact Nat.le_succ _) | (exact Nat.le_succ_of_le (by with_reducible assumption)))⟩
/-- -1, 0 or 1 -/
def sgnZ (z : Int) : Int := if z < 0 then -1 else if z = 0 then 0 else 1
set_option maxRecDepth 20000 in
theorem sign_any (z : Int) (h : Fit z) (w : World) :
    Calls Tryd.prog 40 #[.agg #[.int .u64 (L0 z), .int .u64 (L1 z), .int .u64 (L2 z), .int .u64 (L3 z)]] w fun e w' => e = .returned (.int .i64 (sgnZ z)) ∧ ∃ c d, w' = w.alloc (.cells c 24) ∨ w' = (w.alloc (.cells c 24)).alloc (.cells d 24) := by
  have EQ : ∀ w, (Op.equalIn 10000 24 (.agg #[.int .u64 (L0 z), .int .u64 (L1 z), .int .u64 (L2 z), .int .u64 (L3 z)]) (.agg #[.int .u64 0, .int .u64 0, .int .u64 0, .int .u64 0])).run Tryd.prog w = .ok (decide (z = 0)) w := fun w => eq_fit h fit0 w
  have hn := ngB_fit h
  by_cases h0 : z = 0
  · rw [decide_eq_true h0] at EQ
    have e : sgnZ z = 0 := by rw [h0]; rfl
    rw [e]
    clear h0 hn h e
    generalize L0 z = x0 at *; generalize L1 z = x1 at *; generalize L2 z = x2 at *; generalize L3 z = x3 at *
    go_enter Tryd.func40, Tryd.ntmps40
    go_wp2
    go_ret
    exact ⟨rfl, _, #[], .inl rfl⟩
  · rw [decide_eq_false h0] at EQ
    by_cases h1 : z < 0
    · have e : sgnZ z = -1 := by unfold sgnZ; rw [if_pos h1]
      rw [decide_eq_true h1] at hn
      have B := Lib.hid (fun w => below_is hn w)
      rw [e]
      clear h0 hn h e h1
      generalize L0 z = x0 at *; generalize L1 z = x1 at *; generalize L2 z = x2 at *; generalize L3 z = x3 at *
      go_enter Tryd.func40, Tryd.ntmps40
      go_wp2_with (go_at_call 28; refine (B.out _).mono ?_; rintro e w1 ⟨rfl, c, rfl⟩)
      go_ret
      exact ⟨rfl, _, _, .inr rfl⟩
    · have e : sgnZ z = 1 := by unfold sgnZ; rw [if_neg h1, if_neg h0]
      rw [decide_eq_false h1] at hn
      have B := Lib.hid (fun w => below_is hn w)
      rw [e]
      clear h0 hn h e h1
      generalize L0 z = x0 at *; generalize L1 z = x1 at *; generalize L2 z = x2 at *; generalize L3 z = x3 at *
      go_enter Tryd.func40, Tryd.ntmps40
      go_wp2_with (go_at_call 28; refine (B.out _).mono ?_; rintro e w1 ⟨rfl, c, rfl⟩)
      go_ret
      exact ⟨rfl, _, _, .inr rfl⟩
theorem sign_b (z : Int) (h : Fit z) (w : World) :
    Calls Tryd.prog 40 #[.agg #[.int .u64 (L0 z), .int .u64 (L1 z), .int .u64 (L2 z), .int .u64 (L3 z)]] w fun e w' => e = .returned (.int .i64 (sgnZ z)) ∧ Below w.heap.size w w' :=
  (sign_any z h w).mono fun e w' ⟨he, c, d, hw⟩ => ⟨he, by rcases hw with hw | hw <;> rw [hw] <;> repeat' (first | (with_reducible exact Below.refl _ _) | (with_reducible assumption) | (with_reducible refine below_drewN ?_ _) | (with_reducible refine Below.drew ?_) | (with_reducible refine Below.alloc ?_ ?_ _) | (with_reducible refine Below.setCell ?_ ?_ _) | (with_reducible refine then_ ?_ (by with_reducible assumption) ?_) | (with_reducible exact Nat.le_refl _) | (with_reducible exact Nat.le_succ _) | (with_reducible exact Nat.le_succ_of_le (by with_reducible assumption)) | omega | (simp; done) | (simp; omega) | (exact Nat.le_succ _) | (exact Nat.le_succ_of_le (by with_reducible assumption)))⟩

/-- which is greater -/
def cmpZ (a b : Int) : Int := if a < b then -1 else if b < a then 1 else 0
end Go.Proofs.YtjmojddnedngaaaDoor
end
section
namespace Go.Proofs.YtjmojddnedngaaaDoor
open Go.ChangeShapes Go.WideShapes Go.ChangeAt Go.RowKit
set_option linter.unusedVariables false

theorem of_b (n : Int) (h0 : -9223372036854775808 ≤ n) (h1 : n ≤ 9223372036854775807) (w : World) :
    Calls Tryd.prog 20 #[.int .i64 n] w fun e w' => e = .returned (.agg #[.int .u64 (L0 n), .int .u64 (L1 n), .int .u64 (L2 n), .int .u64 (L3 n)]) ∧ Below w.heap.size w w' :=
  (of_any n h0 h1 w).mono fun e w' ⟨he, c, hw⟩ => ⟨he, by rw [hw]; repeat' (first | (with_reducible exact Below.refl _ _) | (with_reducible assumption) | (with_reducible refine below_drewN ?_ _) | (with_reducible refine Below.drew ?_) | (with_reducible refine Below.alloc ?_ ?_ _) | (with_reducible refine Below.setCell ?_ ?_ _) | (with_reducible refine then_ ?_ (by with_reducible assumption) ?_) | (with_reducible exact Nat.le_refl _) | (with_reducible exact Nat.le_succ _) | (with_reducible exact Nat.le_succ_of_le (by with_reducible assumption)) | omega | (simp; done) | (simp; omega) | (exact Nat.le_succ _) | (exact Nat.le_succ_of_le (by with_reducible assumption)))⟩
end Go.Proofs.YtjmojddnedngaaaDoor
end
section
namespace Go.Proofs.YtjmojddnedngaaaDoor
open Go.ChangeShapes Go.WideShapes Go.ChangeAt Go.RowKit
set_option linter.unusedVariables false
set_option linter.unusedSimpArgs false

/-- a coordinate that an int can be -/
structure I64 (x : Int) : Prop where
  lo : -9223372036854775808 ≤ x
  hi : x ≤ 9223372036854775807
end Go.Proofs.YtjmojddnedngaaaDoor
end
section
namespace Go.Proofs.YtjmojddnedngaaaDoor
open Go.ChangeShapes Go.WideShapes Go.ChangeAt Go.RowKit
set_option linter.unusedVariables false

/-- the value of a croftref03.Num that is the number z -/
def Num (w : World) (T C : Nat) (v : Value) (z : Int) : Prop := ∃ a len cap, v = .agg #[.bool (decide (z < 0)), .slice a len cap] ∧ DRow w T C a len cap (digs z.natAbs)
theorem Num.keep {w w' : World} {T C : Nat} {v : Value} {z : Int} (h : Num w T C v z) (hb : Below w.heap.size w w') : Num w' T C v z := by
  obtain ⟨a, len, cap, h1, h2⟩ := h
  exact ⟨a, len, cap, h1, h2.keep hb⟩
theorem DRow.take {w : World} {T C : Nat} {a : Option Addr} {len cap : Nat} {zs : List Int} (h : DRow w T C a len cap zs) (k : Nat) (hk : k ≤ len) : DRow w T C a k cap (zs.take k) := by
  obtain ⟨h1, h2, h3, h4⟩ := h
  refine ⟨by rw [List.length_take]; omega, by omega, h3, ?_⟩
  rcases h4 with h4 | ⟨b, o, ha, ht, hc⟩
  · left; rw [h4]; simp
  · right
    refine ⟨b, o, ha, ht, fun i z hz => hc i z ?_⟩
    rw [List.getElem?_take] at hz
    split at hz
    · exact hz
    · cases hz
theorem trim_num (T C : Nat) (neg : Bool) (a : Option Addr) (len cap : Nat) (zs : List Int) (n : Int) (w : World) (hr : DRow w T C a len cap zs) (hd : Dg zs) (hn : vl zs = n) :
    Calls Tryd.prog 33 #[.agg #[.bool neg, .slice a len cap]] w fun e w' => ∃ v, e = .returned v ∧ Num w' T C v (if neg then -n else n) ∧ Below w.heap.size w w' := by
  refine (trim_any T C neg a len cap zs w hr).mono ?_
  rintro e w' ⟨k, rfl, ht, hk, hb⟩
  have h0 : 0 ≤ n := hn ▸ vl_nonneg hd
  have hz : digs (if neg then -n else n).natAbs = tr zs := by
    rw [tr_digs hd, hn]
    congr 1
    split <;> omega
  refine ⟨_, rfl, ⟨a, k, cap, ?_, ?_⟩, hb⟩
  · congr 4
    by_cases e : n = 0
    · have : tr zs = [] := by rw [tr_digs hd, hn, e]; exact digs_zero
      rw [this, e]; simp
    · have : (tr zs).isEmpty = false := by
        rw [tr_digs hd, hn]
        cases h : digs n.toNat with
        | nil => have := digs_nil h; omega
        | cons _ _ => rfl
      rw [this]
      cases neg <;> simp <;> omega
  · rw [hz, ht]
    exact (hr.take k hk).keep hb

/-- a store into a block that is neither below T nor from C on -/
theorem Num.put {w : World} {T C : Nat} {v : Value} {z : Int} (h : Num w T C v z) {p i : Nat} (hT : T ≤ p) (hC : p < C) (u : Value) : Num (w.setCell ⟨p, i, none⟩ u) T C v z := by
  obtain ⟨a, len, cap, h1, h2, h3, h4, h5⟩ := h
  refine ⟨a, len, cap, h1, h2, h3, h4, h5.imp id ?_⟩
  rintro ⟨b, o, ha, ht, hc⟩
  refine ⟨b, o, ha, ht, fun i z hz => ?_⟩
  rw [World.cell?_of_block (w := w) (a := ⟨b, o + i, none⟩) (Below.heap_setCell w _ u b (show b ≠ p by omega))]
  exact hc i z hz
theorem Num.mono {w : World} {T C T' C' : Nat} {v : Value} {z : Int} (h : Num w T C v z) (hT : T ≤ T') (hC : C' ≤ C) : Num w T' C' v z := by
  obtain ⟨a, len, cap, h1, h2, h3, h4, h5⟩ := h
  refine ⟨a, len, cap, h1, h2, h3, h4, h5.imp id ?_⟩
  rintro ⟨b, o, ha, ht, hc⟩
  exact ⟨b, o, ha, by omega, hc⟩
/-- what is there lies below the heap's size -/
theorem Num.old {w : World} {T C C' : Nat} {v : Value} {z : Int} (h : Num w T C v z) (hC : C = w.heap.size) : Num w T C' v z := by
  obtain ⟨a, len, cap, h1, h2, h3, h4, h5⟩ := h
  refine ⟨a, len, cap, h1, h2, h3, h4, ?_⟩
  rcases h5 with h5 | ⟨b, o, ha, ht, hc⟩
  · exact .inl h5
  · by_cases e : digs z.natAbs = []
    · exact .inl e
    · obtain ⟨d, r, hd⟩ := List.exists_cons_of_ne_nil e
      have := cell_lt (hc 0 d (by rw [hd]; rfl))
      exact .inr ⟨b, o, ha, .inl (by omega), hc⟩
theorem Num.shape {w : World} {T C : Nat} {v : Value} {z : Int} (h : Num w T C v z) : ∃ n a len cap, v = .agg #[.bool n, .slice a len cap] := by
  obtain ⟨a, len, cap, h1, _⟩ := h
  exact ⟨_, a, len, cap, h1⟩

end Go.Proofs.YtjmojddnedngaaaDoor
end
section
namespace Go.Proofs.YtjmojddnedngaaaDoor
open Go.ChangeShapes Go.WideShapes Go.ChangeAt Go.RowKit
set_option linter.unusedVariables false

def dg (zs : List Int) (i : Nat) : Int := zs.getD i 0
theorem dg_at {zs : List Int} {i : Nat} (h : i < zs.length) : zs[i]? = some (dg zs i) := by
  simp [dg, h]
theorem cmp_take {xs ys : List Int} (hx : Dg xs) (hy : Dg ys) : ∀ k : Nat, k ≤ xs.length → k ≤ ys.length → cmpW (dg xs) (dg ys) k = cmpZ (vl (xs.take k)) (vl (ys.take k))
  | 0, _, _ => by simp [cmpW, cmpZ, vl]
  | k + 1, h, h' => by
    have ih := cmp_take hx hy k (by omega) (by omega)
    have e1 := vl_take xs k _ (dg_at (by omega))
    have e2 := vl_take ys k _ (dg_at (by omega))
    have l1 := vl_lt (hx.take k)
    have l2 := vl_lt (hy.take k)
    rw [List.length_take, Nat.min_eq_left (by omega)] at l1 l2
    have g1 := vl_nonneg (hx.take k)
    have g2 := vl_nonneg (hy.take k)
    have hP : (0 : Int) < 65536 ^ k := Int.pow_pos (by decide)
    rw [cmpW, ih, e1, e2]
    generalize (65536 : Int) ^ k = P at *
    generalize vl (xs.take k) = A at *
    generalize vl (ys.take k) = B at *
    generalize dg xs k = x at *
    generalize dg ys k = y at *
    unfold cmpZ
    rcases Int.lt_trichotomy x y with hl | hl | hl
    · have hm := Int.mul_le_mul_of_nonneg_left (show x + 1 ≤ y by omega) (Int.le_of_lt hP)
      rw [Int.mul_add, Int.mul_one] at hm
      rw [if_pos hl, if_pos (by omega)]
    · subst hl
      rw [if_neg (by omega), if_neg (by omega)]
      by_cases h1 : A < B
      · rw [if_pos h1, if_pos (by omega)]
      · rw [if_neg h1, if_neg (show ¬ A + P * x < B + P * x by omega)]
        by_cases h2 : B < A
        · rw [if_pos h2, if_pos (by omega)]
        · rw [if_neg h2, if_neg (by omega)]
    · have hm := Int.mul_le_mul_of_nonneg_left (show y + 1 ≤ x by omega) (Int.le_of_lt hP)
      rw [Int.mul_add, Int.mul_one] at hm
      rw [if_neg (by omega), if_pos (show x > y from hl), if_neg (by omega), if_pos (by omega)]

set_option maxHeartbeats 4000000 in
set_option maxRecDepth 20000 in
theorem size_same (xs ys : List Int) (T C T' C' : Nat) (a b : Option Addr) (n c d : Nat) (w : World) (hx : DRow w T C a n c xs) (hy : DRow w T' C' b n d ys) :
    Calls Tryd.prog 37 #[.slice a n c, .slice b n d] w fun e w' => e = .returned (.int .i64 (cmpW (dg xs) (dg ys) n)) ∧ ∃ m, w' = w.drewN m := by
  obtain ⟨l1, c1, m1, hX⟩ := hx
  obtain ⟨l2, c2, m2, hY⟩ := hy
  have HX := Lib.hid hX; have HY := Lib.hid hY
  have hn : (n : Int) ≤ 9223372036854775807 := by unfold maxLen at m1; omega
  clear hX hY
  go_enter Tryd.func37, Tryd.ntmps37
  go_wp2
  go_loopw [5] (fun i wr => ∃ k m : Nat, k ≤ n ∧ Hid (cmpW (dg xs) (dg ys) n = cmpW (dg xs) (dg ys) k) ∧ i = .int .i64 ((k : Int) - 1) ∧ wr = w.drewN m) (fun i _ => (intOf i + 1).toNat)
  case atStart => exact ⟨n, 0, Nat.le_refl _, rfl, rfl, by rw [World.drewN_zero]⟩
  case round =>
    obtain ⟨k, m, hk, HK, rfl, rfl⟩ := hrel
    by_cases hk0 : k = 0
    · subst hk0
      go_wp2
      go_ret
      exact ⟨ret_eq (by rw [HK.out]; rfl), m, rfl⟩
    · obtain ⟨j, rfl⟩ : ∃ j, k = j + 1 := ⟨k - 1, by omega⟩
      obtain ⟨p, o, rfl, hx⟩ : ∃ p o, a = some ⟨p, o, none⟩ ∧ w.cell? ⟨p, o + j, none⟩ = some (.int .i64 (dg xs j)) := by
        rcases HX.out with h | ⟨p, o, h1, _, h2⟩
        · rw [h] at l1; simp at l1; omega
        · exact ⟨p, o, h1, h2 j _ (dg_at (by omega))⟩
      obtain ⟨q, r, rfl, hy⟩ : ∃ q r, b = some ⟨q, r, none⟩ ∧ w.cell? ⟨q, r + j, none⟩ = some (.int .i64 (dg ys j)) := by
        rcases HY.out with h | ⟨q, r, h1, _, h2⟩
        · rw [h] at l2; simp at l2; omega
        · exact ⟨q, r, h1, h2 j _ (dg_at (by omega))⟩
      have i0 : (0 : Int) ≤ (j : Int) := by omega
      have i1 : (j : Int) < (n : Int) := by omega
      have i2 : ((j + 1 : Nat) : Int) - 1 = (j : Int) := by omega
      rw [i2]
      clear i2 hk0 HX HY
      by_cases hl : dg xs j < dg ys j
      · have HL := Lib.hid (cmpW_lt hl)
        go_wp2
        go_region
        all_goals
          go_wp2
          go_ret
          exact ⟨ret_eq (by rw [HK.out, HL.out]), m + 1, rfl⟩
      · by_cases hg : dg ys j < dg xs j
        · have HL := Lib.hid (cmpW_gt hg)
          have d1 : decide (dg xs j < dg ys j) = false := by simpa using hl
          clear hl
          go_wp2
          go_region
          all_goals
            go_wp2
            go_region
            all_goals
              go_wp2
              go_ret
              exact ⟨ret_eq (by rw [HK.out, HL.out]), m + 1 + 1, rfl⟩
        · have HL := Lib.hid (cmpW_eq (X := dg xs) (Y := dg ys) (n := j) (by omega))
          have d1 : decide (dg xs j < dg ys j) = false := by simpa using hl
          have d2 : decide (dg ys j < dg xs j) = false := by simpa using hg
          clear hl hg
          go_wp2
          go_region
          all_goals
            go_wp2
            go_region
            all_goals
              go_wp2
              go_roundw
              case rel => exact ⟨j, m + 1 + 1, by omega, by unfold Hid; rw [HK.out, HL.out], rfl, rfl⟩
              case measure => simp [intOf]

/-- of two numbers' own digits -/
theorem size_num (m n : Nat) (T C T' C' : Nat) (a b : Option Addr) (la lb c d : Nat) (w : World) (hx : DRow w T C a la c (digs m)) (hy : DRow w T' C' b lb d (digs n)) :
    Calls Tryd.prog 37 #[.slice a la c, .slice b lb d] w fun e w' => e = .returned (.int .i64 (cmpZ m n)) ∧ ∃ k, w' = w.drewN k := by
  by_cases h : la = lb
  · subst h
    refine (size_same (digs m) (digs n) T C T' C' a b la c d w hx hy).mono ?_
    rintro e w' ⟨rfl, k, rfl⟩
    refine ⟨?_, k, rfl⟩
    have h1 := hx.hlen
    have h2 := hy.hlen
    rw [cmp_take (Dg.digs m) (Dg.digs n) la (by omega) (by omega), List.take_of_length_le (by omega), List.take_of_length_le (by omega), vl_digs, vl_digs]
  · have h1 := hx.hlen
    have h2 := hy.hlen
    by_cases hl : la < lb
    · have hmn := digs_longer (m := m) (n := n) (by omega)
      have e : cmpZ (m : Int) n = -1 := by unfold cmpZ; rw [if_pos (by omega)]
      rw [e]
      have d1 : decide ((la : Int) = lb) = false := by simp; omega
      have d2 : (la : Int) < lb := by omega
      clear h1 h2 hx hy e
      go_enter Tryd.func37, Tryd.ntmps37
      go_wp2
      go_ret
      exact ⟨rfl, 0, by rw [World.drewN_zero]⟩
    · have hmn := digs_longer (m := n) (n := m) (by omega)
      have e : cmpZ (m : Int) n = 1 := by unfold cmpZ; rw [if_neg (by omega), if_pos (by omega)]
      rw [e]
      have d1 : decide ((la : Int) = lb) = false := by simp; omega
      have d2 : ¬ (la : Int) < lb := by omega
      clear h1 h2 hx hy e
      go_enter Tryd.func37, Tryd.ntmps37
      go_wp2
      go_ret
      exact ⟨rfl, 0, by rw [World.drewN_zero]⟩
end Go.Proofs.YtjmojddnedngaaaDoor
end
