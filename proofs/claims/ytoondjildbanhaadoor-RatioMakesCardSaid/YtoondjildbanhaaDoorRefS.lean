/- merged: Numbers of croftref03 as values: trim makes one of any digits; Neg. The contract of croftref03.size: which of two numbers is greater, by their digits. -/
import Derived.Test.YtoondjildbanhaaDoorRefT
import Derived.Test.YtoondjildbanhaaDoorWideU
import Derived.Test.YtoondjildbanhaaDoorGeoA
section
namespace Go.Proofs.YtoondjildbanhaaDoor
open Go.ChangeShapes Go.WideShapes Go.ChangeAt Go.RowKit
set_option linter.unusedVariables false

/-- the value of a croftref03.Num that is the number z -/
def Num (w : World) (T C : Nat) (v : Value) (z : Int) : Prop := ∃ a len cap, v = .agg #[.bool (decide (z < 0)), .slice a len cap] ∧ DRow w T C a len cap (digs z.natAbs)
theorem Num.keep {w w' : World} {T C : Nat} {v : Value} {z : Int} (h : Num w T C v z) (hb : Below w.heap.size w w') : Num w' T C v z := by
  obtain ⟨a, len, cap, h1, h2⟩ := h
  exact ⟨a, len, cap, h1, h2.keep hb⟩
theorem DRow.take {w : World} {T C : Nat} {a : Option Addr} {len cap : Nat} {zs : List Int} (h : DRow w T C a len cap zs) (k : Nat) (hk : k ≤ len) : DRow w T C a k cap (zs.take k) := by
  obtain ⟨h1, h2, h3, h4⟩ := h
  refine ⟨by rw [List.length_take]; omega, by omega, h3, ?_⟩
  rcases h4 with h4 | ⟨b, o, ha, ht, hc⟩
  · left; rw [h4]; simp
  · right
    refine ⟨b, o, ha, ht, fun i z hz => hc i z ?_⟩
    rw [List.getElem?_take] at hz
    split at hz
    · exact hz
    · cases hz
theorem trim_num (T C : Nat) (neg : Bool) (a : Option Addr) (len cap : Nat) (zs : List Int) (n : Int) (w : World) (hr : DRow w T C a len cap zs) (hd : Dg zs) (hn : vl zs = n) :
    Calls Tryd.prog 65 #[.agg #[.bool neg, .slice a len cap]] w fun e w' => ∃ v, e = .returned v ∧ Num w' T C v (if neg then -n else n) ∧ Below w.heap.size w w' := by
  refine (trim_any T C neg a len cap zs w hr).mono ?_
  rintro e w' ⟨k, rfl, ht, hk, hb⟩
  have h0 : 0 ≤ n := hn ▸ vl_nonneg hd
  have hz : digs (if neg then -n else n).natAbs = tr zs := by
    rw [tr_digs hd, hn]
    congr 1
    split <;> omega
  refine ⟨_, rfl, ⟨a, k, cap, ?_, ?_⟩, hb⟩
  · congr 4
    by_cases e : n = 0
    · have : tr zs = [] := by rw [tr_digs hd, hn, e]; exact digs_zero
      rw [this, e]; simp
    · have : (tr zs).isEmpty = false := by
        rw [tr_digs hd, hn]
        cases h : digs n.toNat with
        | nil => have := digs_nil h; omega
        | cons _ _ => rfl
      rw [this]
      cases neg <;> simp <;> omega
  · rw [hz, ht]
    exact (hr.take k hk).keep hb

/-- a store into a block that is neither below T nor from C on -/
theorem Num.put {w : World} {T C : Nat} {v : Value} {z : Int} (h : Num w T C v z) {p i : Nat} (hT : T ≤ p) (hC : p < C) (u : Value) : Num (w.setCell ⟨p, i, none⟩ u) T C v z := by
  obtain ⟨a, len, cap, h1, h2, h3, h4, h5⟩ := h
  refine ⟨a, len, cap, h1, h2, h3, h4, h5.imp id ?_⟩
  rintro ⟨b, o, ha, ht, hc⟩
  refine ⟨b, o, ha, ht, fun i z hz => ?_⟩
  rw [World.cell?_of_block (w := w) (a := ⟨b, o + i, none⟩) (Below.heap_setCell w _ u b (show b ≠ p by omega))]
  exact hc i z hz
theorem Num.mono {w : World} {T C T' C' : Nat} {v : Value} {z : Int} (h : Num w T C v z) (hT : T ≤ T') (hC : C' ≤ C) : Num w T' C' v z := by
  obtain ⟨a, len, cap, h1, h2, h3, h4, h5⟩ := h
  refine ⟨a, len, cap, h1, h2, h3, h4, h5.imp id ?_⟩
  rintro ⟨b, o, ha, ht, hc⟩
  exact ⟨b, o, ha, by omega, hc⟩
/-- what is there lies below the heap's size -/
theorem Num.old {w : World} {T C C' : Nat} {v : Value} {z : Int} (h : Num w T C v z) (hC : C = w.heap.size) : Num w T C' v z := by
  obtain ⟨a, len, cap, h1, h2, h3, h4, h5⟩ := h
  refine ⟨a, len, cap, h1, h2, h3, h4, ?_⟩
  rcases h5 with h5 | ⟨b, o, ha, ht, hc⟩
  · exact .inl h5
  · by_cases e : digs z.natAbs = []
    · exact .inl e
    · obtain ⟨d, r, hd⟩ := List.exists_cons_of_ne_nil e
      have := cell_lt (hc 0 d (by rw [hd]; rfl))
      exact .inr ⟨b, o, ha, .inl (by omega), hc⟩
theorem Num.shape {w : World} {T C : Nat} {v : Value} {z : Int} (h : Num w T C v z) : ∃ n a len cap, v = .agg #[.bool n, .slice a len cap] := by
  obtain ⟨a, len, cap, h1, _⟩ := h
  exact ⟨_, a, len, cap, h1⟩

set_option maxHeartbeats 4000000 in
set_option maxRecDepth 20000 in
theorem neg_num (T : Nat) (v : Value) (z : Int) (w : World) (hT : T ≤ w.heap.size) (hv : Num w T w.heap.size v z) :
    Calls Tryd.prog 46 #[v] w fun e w' => ∃ v', e = .returned v' ∧ Num w' T w.heap.size v' (-z) ∧ Below w.heap.size w w' := by
  have hv' := hv.old (C' := w.heap.size + 1 + 1) rfl
  obtain ⟨a, len, cap, rfl, hr⟩ := hv'
  have TR1 : ∀ w', Below w.heap.size w w' → Calls Tryd.prog 65 #[.agg #[.bool (!decide (z < 0)), .slice a len cap]] w' fun e w'' => ∃ v, e = .returned v ∧ (∃ n a len cap, v = .agg #[.bool n, .slice a len cap]) ∧ Num w'' T (w.heap.size + 1 + 1) v (-z) ∧ Below w'.heap.size w' w'' := fun w' hb => by
    refine (trim_num T (w.heap.size + 1 + 1) (!decide (z < 0)) a len cap (digs z.natAbs) z.natAbs w' (hr.keep hb) (Dg.digs _) (vl_digs _)).mono ?_
    rintro e w'' ⟨v, he, hn, hb'⟩
    have e1 : (if (!decide (z < 0)) = true then -(z.natAbs : Int) else z.natAbs) = -z := by
      by_cases h : z < 0
      · simp [h]; omega
      · simp [h]; omega
    rw [e1] at hn
    exact ⟨v, he, hn.shape, hn, hb'⟩
  have TR := Lib.hid TR1
  clear TR1 hr hv
  obtain ⟨s, hs⟩ : ∃ s, decide (z < 0) = s := ⟨_, rfl⟩
  rw [hs] at TR ⊢
  clear hs
  go_enter Tryd.func46, Tryd.ntmps46
  go_wp2_with fail
  go_at_call 65
  refine (TR.out _ (by repeat' (first | (with_reducible exact Below.refl _ _) | (with_reducible assumption) | (with_reducible refine below_drewN ?_ _) | (with_reducible refine Below.drew ?_) | (with_reducible refine Below.alloc ?_ ?_ _) | (with_reducible refine Below.setCell ?_ ?_ _) | (with_reducible refine then_ ?_ (by with_reducible assumption) ?_) | (with_reducible exact Nat.le_refl _) | (with_reducible exact Nat.le_succ _) | (with_reducible exact Nat.le_succ_of_le (by with_reducible assumption)) | omega | (simp; done) | (simp; omega) | (exact Nat.le_succ _) | (exact Nat.le_succ_of_le (by with_reducible assumption))))).mono ?_
  rintro e w1 ⟨v', rfl, ⟨n', a', l', c', rfl⟩, hn, hb⟩
  have O2 : Own w1 (w.heap.size + 1) 66 #[.bool false, .slice none 0 0] := by
    refine Own.keep ?_ hb
    repeat' (first | (with_reducible assumption) | (with_reducible refine Own.drawnN ?_ _) | (with_reducible refine Own.drawn ?_) | (with_reducible refine Own.made_at ?_; first | rfl | (simp; done) | omega | (simp; omega)) | (with_reducible refine Own.more ?_ _) | (with_reducible refine Own.apart ?_ ?_ _ _; rotate_left; first | omega | (simp; done) | (simp; omega)) | (refine Own.put ?_ _ _))
  obtain ⟨Q1, Q2, Q3⟩ := O2.at_
  have hB : Below w.heap.size w w1 := by
    refine then_ ?_ hb (by simp; omega)
    repeat' (first | (with_reducible exact Below.refl _ _) | (with_reducible assumption) | (with_reducible refine below_drewN ?_ _) | (with_reducible refine Below.drew ?_) | (with_reducible refine Below.alloc ?_ ?_ _) | (with_reducible refine Below.setCell ?_ ?_ _) | (with_reducible refine then_ ?_ (by with_reducible assumption) ?_) | (with_reducible exact Nat.le_refl _) | (with_reducible exact Nat.le_succ _) | (with_reducible exact Nat.le_succ_of_le (by with_reducible assumption)) | omega | (simp; done) | (simp; omega) | (exact Nat.le_succ _) | (exact Nat.le_succ_of_le (by with_reducible assumption)))
  clear hb O2
  have HN := Lib.hid hn
  clear hn TR
  go_wp2
  refine bodyPost_ret (v := .agg #[.bool n', .slice a' l' c']) (by simp [results, Tryd.results46, go_sem, Q1]) rfl ⟨_, rfl, ?_, ?_⟩
  · exact ((HN.out.put (by omega) (by omega) _).put (by omega) (by omega) _).mono (Nat.le_refl _) (by omega)
  · repeat' (first | (with_reducible exact Below.refl _ _) | (with_reducible assumption) | (with_reducible refine below_drewN ?_ _) | (with_reducible refine Below.drew ?_) | (with_reducible refine Below.alloc ?_ ?_ _) | (with_reducible refine Below.setCell ?_ ?_ _) | (with_reducible refine then_ ?_ (by with_reducible assumption) ?_) | (with_reducible exact Nat.le_refl _) | (with_reducible exact Nat.le_succ _) | (with_reducible exact Nat.le_succ_of_le (by with_reducible assumption)) | omega | (simp; done) | (simp; omega) | (exact Nat.le_succ _) | (exact Nat.le_succ_of_le (by with_reducible assumption)))
end Go.Proofs.YtoondjildbanhaaDoor
end
section
namespace Go.Proofs.YtoondjildbanhaaDoor
open Go.ChangeShapes Go.WideShapes Go.ChangeAt Go.RowKit
set_option linter.unusedVariables false

def dg (zs : List Int) (i : Nat) : Int := zs.getD i 0
theorem dg_at {zs : List Int} {i : Nat} (h : i < zs.length) : zs[i]? = some (dg zs i) := by
  simp [dg, h]
theorem cmp_take {xs ys : List Int} (hx : Dg xs) (hy : Dg ys) : ∀ k : Nat, k ≤ xs.length → k ≤ ys.length → cmpW (dg xs) (dg ys) k = cmpZ (vl (xs.take k)) (vl (ys.take k))
  | 0, _, _ => by simp [cmpW, cmpZ, vl]
  | k + 1, h, h' => by
    have ih := cmp_take hx hy k (by omega) (by omega)
    have e1 := vl_take xs k _ (dg_at (by omega))
    have e2 := vl_take ys k _ (dg_at (by omega))
    have l1 := vl_lt (hx.take k)
    have l2 := vl_lt (hy.take k)
    rw [List.length_take, Nat.min_eq_left (by omega)] at l1 l2
    have g1 := vl_nonneg (hx.take k)
    have g2 := vl_nonneg (hy.take k)
    have hP : (0 : Int) < 65536 ^ k := Int.pow_pos (by decide)
    rw [cmpW, ih, e1, e2]
    generalize (65536 : Int) ^ k = P at *
    generalize vl (xs.take k) = A at *
    generalize vl (ys.take k) = B at *
    generalize dg xs k = x at *
    generalize dg ys k = y at *
    unfold cmpZ
    rcases Int.lt_trichotomy x y with hl | hl | hl
    · have hm := Int.mul_le_mul_of_nonneg_left (show x + 1 ≤ y by omega) (Int.le_of_lt hP)
      rw [Int.mul_add, Int.mul_one] at hm
      rw [if_pos hl, if_pos (by omega)]
    · subst hl
      rw [if_neg (by omega), if_neg (by omega)]
      by_cases h1 : A < B
      · rw [if_pos h1, if_pos (by omega)]
      · rw [if_neg h1, if_neg (show ¬ A + P * x < B + P * x by omega)]
        by_cases h2 : B < A
        · rw [if_pos h2, if_pos (by omega)]
        · rw [if_neg h2, if_neg (by omega)]
    · have hm := Int.mul_le_mul_of_nonneg_left (show y + 1 ≤ x by omega) (Int.le_of_lt hP)
      rw [Int.mul_add, Int.mul_one] at hm
      rw [if_neg (by omega), if_pos (show x > y from hl), if_neg (by omega), if_pos (by omega)]

set_option maxHeartbeats 4000000 in
set_option maxRecDepth 20000 in
theorem size_same (xs ys : List Int) (T C T' C' : Nat) (a b : Option Addr) (n c d : Nat) (w : World) (hx : DRow w T C a n c xs) (hy : DRow w T' C' b n d ys) :
    Calls Tryd.prog 67 #[.slice a n c, .slice b n d] w fun e w' => e = .returned (.int .i64 (cmpW (dg xs) (dg ys) n)) ∧ ∃ m, w' = w.drewN m := by
  obtain ⟨l1, c1, m1, hX⟩ := hx
  obtain ⟨l2, c2, m2, hY⟩ := hy
  have HX := Lib.hid hX; have HY := Lib.hid hY
  have hn : (n : Int) ≤ 9223372036854775807 := by unfold maxLen at m1; omega
  clear hX hY
  go_enter Tryd.func67, Tryd.ntmps67
  go_wp2
  go_loopw [5] (fun i wr => ∃ k m : Nat, k ≤ n ∧ Hid (cmpW (dg xs) (dg ys) n = cmpW (dg xs) (dg ys) k) ∧ i = .int .i64 ((k : Int) - 1) ∧ wr = w.drewN m) (fun i _ => (intOf i + 1).toNat)
  case atStart => exact ⟨n, 0, Nat.le_refl _, rfl, rfl, by rw [World.drewN_zero]⟩
  case round =>
    obtain ⟨k, m, hk, HK, rfl, rfl⟩ := hrel
    by_cases hk0 : k = 0
    · subst hk0
      go_wp2
      go_ret
      exact ⟨ret_eq (by rw [HK.out]; rfl), m, rfl⟩
    · obtain ⟨j, rfl⟩ : ∃ j, k = j + 1 := ⟨k - 1, by omega⟩
      obtain ⟨p, o, rfl, hx⟩ : ∃ p o, a = some ⟨p, o, none⟩ ∧ w.cell? ⟨p, o + j, none⟩ = some (.int .i64 (dg xs j)) := by
        rcases HX.out with h | ⟨p, o, h1, _, h2⟩
        · rw [h] at l1; simp at l1; omega
        · exact ⟨p, o, h1, h2 j _ (dg_at (by omega))⟩
      obtain ⟨q, r, rfl, hy⟩ : ∃ q r, b = some ⟨q, r, none⟩ ∧ w.cell? ⟨q, r + j, none⟩ = some (.int .i64 (dg ys j)) := by
        rcases HY.out with h | ⟨q, r, h1, _, h2⟩
        · rw [h] at l2; simp at l2; omega
        · exact ⟨q, r, h1, h2 j _ (dg_at (by omega))⟩
      have i0 : (0 : Int) ≤ (j : Int) := by omega
      have i1 : (j : Int) < (n : Int) := by omega
      have i2 : ((j + 1 : Nat) : Int) - 1 = (j : Int) := by omega
      rw [i2]
      clear i2 hk0 HX HY
      by_cases hl : dg xs j < dg ys j
      · have HL := Lib.hid (cmpW_lt hl)
        go_wp2
        go_region
        all_goals
          go_wp2
          go_ret
          exact ⟨ret_eq (by rw [HK.out, HL.out]), m + 1, rfl⟩
      · by_cases hg : dg ys j < dg xs j
        · have HL := Lib.hid (cmpW_gt hg)
          have d1 : decide (dg xs j < dg ys j) = false := by simpa using hl
          clear hl
          go_wp2
          go_region
          all_goals
            go_wp2
            go_region
            all_goals
              go_wp2
              go_ret
              exact ⟨ret_eq (by rw [HK.out, HL.out]), m + 1 + 1, rfl⟩
        · have HL := Lib.hid (cmpW_eq (X := dg xs) (Y := dg ys) (n := j) (by omega))
          have d1 : decide (dg xs j < dg ys j) = false := by simpa using hl
          have d2 : decide (dg ys j < dg xs j) = false := by simpa using hg
          clear hl hg
          go_wp2
          go_region
          all_goals
            go_wp2
            go_region
            all_goals
              go_wp2
              go_roundw
              case rel => exact ⟨j, m + 1 + 1, by omega, by unfold Hid; rw [HK.out, HL.out], rfl, rfl⟩
              case measure => simp [intOf]

/-- of two numbers' own digits -/
theorem size_num (m n : Nat) (T C T' C' : Nat) (a b : Option Addr) (la lb c d : Nat) (w : World) (hx : DRow w T C a la c (digs m)) (hy : DRow w T' C' b lb d (digs n)) :
    Calls Tryd.prog 67 #[.slice a la c, .slice b lb d] w fun e w' => e = .returned (.int .i64 (cmpZ m n)) ∧ ∃ k, w' = w.drewN k := by
  by_cases h : la = lb
  · subst h
    refine (size_same (digs m) (digs n) T C T' C' a b la c d w hx hy).mono ?_
    rintro e w' ⟨rfl, k, rfl⟩
    refine ⟨?_, k, rfl⟩
    have h1 := hx.hlen
    have h2 := hy.hlen
    rw [cmp_take (Dg.digs m) (Dg.digs n) la (by omega) (by omega), List.take_of_length_le (by omega), List.take_of_length_le (by omega), vl_digs, vl_digs]
  · have h1 := hx.hlen
    have h2 := hy.hlen
    by_cases hl : la < lb
    · have hmn := digs_longer (m := m) (n := n) (by omega)
      have e : cmpZ (m : Int) n = -1 := by unfold cmpZ; rw [if_pos (by omega)]
      rw [e]
      have d1 : decide ((la : Int) = lb) = false := by simp; omega
      have d2 : (la : Int) < lb := by omega
      clear h1 h2 hx hy e
      go_enter Tryd.func67, Tryd.ntmps67
      go_wp2
      go_ret
      exact ⟨rfl, 0, by rw [World.drewN_zero]⟩
    · have hmn := digs_longer (m := n) (n := m) (by omega)
      have e : cmpZ (m : Int) n = 1 := by unfold cmpZ; rw [if_neg (by omega), if_pos (by omega)]
      rw [e]
      have d1 : decide ((la : Int) = lb) = false := by simp; omega
      have d2 : ¬ (la : Int) < lb := by omega
      clear h1 h2 hx hy e
      go_enter Tryd.func67, Tryd.ntmps67
      go_wp2
      go_ret
      exact ⟨rfl, 0, by rw [World.drewN_zero]⟩
end Go.Proofs.YtoondjildbanhaaDoor
end
