/- merged: The contract of croftref03.plus: the sum of two numbers by their digits. The contract of croftref03.minus: the difference of two numbers by their digits, the second not above the first. plus and minus of croftref03, their results as rows of digits. -/
import Derived.Test.YtjmojddnedngaaaDoorRefS
import Derived.OwnWalk
import Derived.Laws.AppendOwn
section
namespace Go.Proofs.YtjmojddnedngaaaDoor
open Go.ChangeShapes Go.WideShapes Go.ChangeAt Go.RowKit
set_option linter.unusedVariables false

theorem info_int : (Tryd.prog.info? 3).map (fun i => (i.zero, i.size, i.bytes)) = some (some (.int .i64 0), 1, 8) := by kernel_rfl

/-- the digits of a sum, and what is carried -/
def pl (xs ys : List Int) : Nat → List Int × Int
  | 0 => ([], 0)
  | i + 1 => ((pl xs ys i).1 ++ [((pl xs ys i).2 + dg xs i + dg ys i) % 65536], ((pl xs ys i).2 + dg xs i + dg ys i) / 65536)
theorem dg_range {zs : List Int} (h : Dg zs) (i : Nat) : 0 ≤ dg zs i ∧ dg zs i ≤ 65535 := by
  by_cases hi : i < zs.length
  · exact h.at (dg_at hi)
  · have e : dg zs i = 0 := by simp [dg, hi]
    rw [e]; omega
theorem dg_out {zs : List Int} {i : Nat} (h : zs.length ≤ i) : dg zs i = 0 := by
  simp [dg, h]
theorem vl_at (zs : List Int) (i : Nat) : vl (zs.drop i) = dg zs i + 65536 * vl (zs.drop (i + 1)) := by
  by_cases hi : i < zs.length
  · exact vl_drop zs i _ (dg_at hi)
  · rw [vl_drop_ge zs i (by omega), vl_drop_ge zs (i + 1) (by omega), dg_out (by omega)]; rfl
theorem pl_ok {xs ys : List Int} (hx : Dg xs) (hy : Dg ys) : ∀ i, (pl xs ys i).1.length = i ∧ Dg (pl xs ys i).1 ∧ 0 ≤ (pl xs ys i).2 ∧ (pl xs ys i).2 ≤ 1 ∧
    vl (pl xs ys i).1 + 65536 ^ i * ((pl xs ys i).2 + vl (xs.drop i) + vl (ys.drop i)) = vl xs + vl ys
  | 0 => by simp [pl, vl, Dg.nil]
  | i + 1 => by
    obtain ⟨h1, h2, h3, h4, h5⟩ := pl_ok hx hy i
    have rx := dg_range hx i
    have ry := dg_range hy i
    rw [vl_at xs i, vl_at ys i] at h5
    simp only [pl]
    generalize (pl xs ys i).1 = o at *
    generalize (pl xs ys i).2 = c at *
    generalize dg xs i = x at *
    generalize dg ys i = y at *
    generalize vl (xs.drop (i + 1)) = X at *
    generalize vl (ys.drop (i + 1)) = Y at *
    refine ⟨by simp [h1], h2.snoc (by omega) (by omega), by omega, by omega, ?_⟩
    rw [vl_snoc, h1, Int.pow_succ, Int.mul_assoc, Int.add_assoc, ← Int.mul_add, ← h5]
    congr 2
    omega
/-- behind the last round the digits are the sum's own -/
theorem pl_done {m n k : Nat} (h1 : (digs m).length ≤ k) (h2 : (digs n).length ≤ k) (h3 : (pl (digs m) (digs n) k).2 ≤ 0)
    (h4 : ∀ j, j < k → j < (digs m).length ∨ j < (digs n).length ∨ 0 < (pl (digs m) (digs n) j).2) : (pl (digs m) (digs n) k).1 = digs (m + n) := by
  obtain ⟨e1, e2, e3, e4, e5⟩ := pl_ok (Dg.digs m) (Dg.digs n) k
  rw [vl_drop_ge _ _ h1, vl_drop_ge _ _ h2, show (pl (digs m) (digs n) k).2 = 0 by omega, vl_digs, vl_digs] at e5
  have ev : vl (pl (digs m) (digs n) k).1 = (m : Int) + n := by rw [← e5]; simp
  have := digs_of e2 ?_
  · rw [this, ev]; congr 1
  · cases k with
    | zero => left; simpa using e1
    | succ j =>
      right
      rw [e1, ev]
      obtain ⟨f1, f2, f3, f4, f5⟩ := pl_ok (Dg.digs m) (Dg.digs n) j
      have hP : (0 : Int) < 65536 ^ j := Int.pow_pos (by decide)
      simp only [Nat.add_sub_cancel]
      have gx := vl_nonneg ((Dg.digs m).drop j)
      have gy := vl_nonneg ((Dg.digs n).drop j)
      rcases h4 j (by omega) with h | h | h
      · have hm : m ≠ 0 := by rintro rfl; rw [digs_zero] at h; simp at h
        have hl : j = (digs m).length - 1 ∨ j < (digs m).length - 1 := by omega
        have := digs_len hm
        have hpow : (65536 : Int) ^ j ≤ 65536 ^ ((digs m).length - 1) := by
          obtain ⟨t, ht⟩ : ∃ t, (digs m).length - 1 = j + t := ⟨(digs m).length - 1 - j, by omega⟩
          rw [ht, Int.pow_add]
          have h5 : (0 : Int) < 65536 ^ t := Int.pow_pos (by decide)
          have := Int.mul_le_mul_of_nonneg_left (show (1 : Int) ≤ 65536 ^ t by omega) (show (0 : Int) ≤ 65536 ^ j by omega)
          omega
        omega
      · have hn : n ≠ 0 := by rintro rfl; rw [digs_zero] at h; simp at h
        have := digs_len hn
        have hpow : (65536 : Int) ^ j ≤ 65536 ^ ((digs n).length - 1) := by
          obtain ⟨t, ht⟩ : ∃ t, (digs n).length - 1 = j + t := ⟨(digs n).length - 1 - j, by omega⟩
          rw [ht, Int.pow_add]
          have h5 : (0 : Int) < 65536 ^ t := Int.pow_pos (by decide)
          have := Int.mul_le_mul_of_nonneg_left (show (1 : Int) ≤ 65536 ^ t by omega) (show (0 : Int) ≤ 65536 ^ j by omega)
          omega
        omega
      · have h0 := vl_nonneg f2
        have := Int.mul_le_mul_of_nonneg_left (show (1 : Int) ≤ (pl (digs m) (digs n) j).2 + vl ((digs m).drop j) + vl ((digs n).drop j) by omega) (Int.le_of_lt hP)
        rw [vl_digs, vl_digs] at f5
        omega

-- WALK
theorem one_at (w : World) (v : Value) (T : TypeId) : ∀ (j : Nat) (u : Value), ([v] : List Value)[j]? = some u → (w.alloc (.cells #[v] T)).cell? ((⟨w.heap.size, 0, none⟩ : Addr).add j) = some u := by
  intro j u hj
  match j, hj with
  | 0, hj => simp at hj; subst hj; simp [Addr.add]
/-- what append of one digit leaves -/
theorem push_rel {B : Nat} {w wr w1 : World} {v v' : Value} {k : Nat} {o : List Int} {d : Int} {ob : Obj} {T : TypeId} (hB : Below B w wr) (hs : B ≤ wr.heap.size) (hown : wr.ownsRow B T 1 v k (o.map (Value.int .i64)))
    (hown' : w1.ownsRow B T 1 v' (k + 1) (o.map (Value.int .i64) ++ [.int .i64 d])) (hgrow : (wr.alloc ob).grownBy w1 v.ownBlock) : w1.ownsRow B T 1 v' (k + 1) ((o ++ [d]).map (Value.int .i64)) ∧ Below B w w1 :=
  ⟨by rw [List.map_append]; exact hown', (hB.alloc hs _).grown hgrow (by simp; omega) (fun k hk => (hown.lt k hk).1)⟩

set_option maxHeartbeats 8000000 in
set_option maxRecDepth 20000 in
theorem plus_walk (m n : Nat) (T C T' C' : Nat) (a b : Option Addr) (la lb ca cb : Nat) (w : World) (hla : la ≤ 100000000) (hlb : lb ≤ 100000000) (hx : DRow w T C a la ca (digs m)) (hy : DRow w T' C' b lb cb (digs n)) :
    Calls Tryd.prog 36 #[.slice a la ca, .slice b lb cb] w fun e w' => ∃ v k, e = .returned v ∧ w'.ownsRow w.heap.size 3 1 v k ((digs (m + n)).map (Value.int .i64)) ∧ Below w.heap.size w w' := by
  have hl1 := hx.hlen
  have hl2 := hy.hlen
  obtain ⟨i0, hi, hz0, hz1, hz2⟩ := info_parts info_int
  have HX := Lib.hid hx.hcells
  have HY := Lib.hid hy.hcells
  clear hx hy
  go_enter Tryd.func36, Tryd.ntmps36
  go_wp2
  go_loopg [5, 6, 7] (max la lb + 1) (fun g v c i wr => ∃ k : Nat, g + k = max la lb + 1 ∧ i = .int .i64 k ∧ c = .int .i64 (pl (digs m) (digs n) k).2 ∧ Hid (∀ j, j < k → j < (digs m).length ∨ j < (digs n).length ∨ 0 < (pl (digs m) (digs n) j).2) ∧ wr.ownsRow w.heap.size 3 1 v k ((pl (digs m) (digs n) k).1.map (Value.int .i64)) ∧ Below w.heap.size w wr)
  case atStart =>
    refine ⟨0, rfl, rfl, rfl, Lib.hid (fun j hj => by omega), World.ownsRow_nil _ _ _ _, Below.refl _ _⟩
  case round =>
    obtain ⟨k, hk, rfl, rfl, HJ, hown, hB⟩ := hrel
    obtain ⟨p1, p2, p3, p4, p5⟩ := pl_ok (Dg.digs m) (Dg.digs n) k
    have rx := dg_range (Dg.digs m) k
    have ry := dg_range (Dg.digs n) k
    have hs := hB.size
    have hkm : k ≤ 100000001 := by omega
    obtain ⟨c, hc⟩ : ∃ c, (pl (digs m) (digs n) k).2 = c := ⟨_, rfl⟩
    obtain ⟨o, ho⟩ : ∃ o, (pl (digs m) (digs n) k).1 = o := ⟨_, rfl⟩
    obtain ⟨x, hx⟩ : ∃ x, dg (digs m) k = x := ⟨_, rfl⟩
    obtain ⟨y, hy⟩ : ∃ y, dg (digs n) k = y := ⟨_, rfl⟩
    have PS : pl (digs m) (digs n) (k + 1) = (o ++ [(c + x + y) % 65536], (c + x + y) / 65536) := by
      rw [← hc, ← ho, ← hx, ← hy]; rfl
    rw [hc] at p3 p4 ⊢
    rw [ho] at hown
    rw [hx] at rx
    rw [hy] at ry
    have HK : ∀ q : k < (digs m).length ∨ k < (digs n).length ∨ 0 < c, Hid (∀ j, j < k + 1 → j < (digs m).length ∨ j < (digs n).length ∨ 0 < (pl (digs m) (digs n) j).2) := fun q => Lib.hid (fun j hj => by
      by_cases e : j = k
      · subst e; rw [hc]; exact q
      · exact HJ.out j (by omega))
    by_cases h1 : k < la
    · have q1 : (k : Int) < la := by omega
      obtain ⟨pb, po, rfl, hcx0⟩ : ∃ p o, a = some ⟨p, o, none⟩ ∧ w.cell? ⟨p, o + k, none⟩ = some (.int .i64 x) := by
        rcases HX.out with h | ⟨p, o, e1, _, e2⟩
        · rw [h] at hl1; simp at hl1; omega
        · exact ⟨p, o, e1, hx ▸ e2 k _ (dg_at (by omega))⟩
      have hcx : wr.cell? ⟨pb, po + k, none⟩ = some (.int .i64 x) := by rw [hB.cell (cell_lt hcx0)]; exact hcx0
      by_cases h2 : k < lb
      · have q2 : (k : Int) < lb := by omega
        obtain ⟨qb, qo, rfl, hcy0⟩ : ∃ p o, b = some ⟨p, o, none⟩ ∧ w.cell? ⟨p, o + k, none⟩ = some (.int .i64 y) := by
          rcases HY.out with h | ⟨p, o, e1, _, e2⟩
          · rw [h] at hl2; simp at hl2; omega
          · exact ⟨p, o, e1, hy ▸ e2 k _ (dg_at (by omega))⟩
        have hcy : wr.cell? ⟨qb, qo + k, none⟩ = some (.int .i64 y) := by rw [hB.cell (cell_lt hcy0)]; exact hcy0
        have PH := Lib.hid PS
        have HJ2 := HK (.inl (by omega))
        clear hc ho hx hy HX HY p1 p2 p5 PS HK HJ hl1 hl2 hcx0 hcy0
        go_wp2_with (at_builtin; refine wpList_append_own _ rfl _ _ 40 rfl w.heap.size 3 i0 (.int .i64 0) 1 8 Tryd.underlying40 hi hz0 hz1 hz2 rfl (by decide) _ _ _ rfl (hown.alloc _) ⟨wr.heap.size, 0, none⟩ 1 1 [.int .i64 ((c + x + y) % 65536)] (by rfl) rfl (one_at _ _ _) (by intro u hu; simp at hu; subst hu; rfl) (by unfold maxLen; omega) (by omega) (by simp; omega) ?_)
        intro v' w1 hown' hgrow _
        obtain ⟨R1, R2⟩ := push_rel hB hs hown hown' hgrow
        clear hown' hgrow hown hB
        go_wp2
        go_roundg (gk - 1)
        case measure => omega
        case rel => exact ⟨k + 1, by omega, by go_num, by rw [PH.out], HJ2, by rw [PH.out]; exact R1, R2⟩
      · have q2 : ¬ (k : Int) < lb := by omega
        obtain rfl : y = 0 := hy ▸ dg_out (by omega)
        simp only [Int.add_zero] at PS
        have PH := Lib.hid PS
        have HJ2 := HK (.inl (by omega))
        clear hc ho hx hy HX HY p1 p2 p5 PS HK HJ hl1 hl2 hcx0
        go_wp2_with (at_builtin; refine wpList_append_own _ rfl _ _ 40 rfl w.heap.size 3 i0 (.int .i64 0) 1 8 Tryd.underlying40 hi hz0 hz1 hz2 rfl (by decide) _ _ _ rfl (hown.alloc _) ⟨wr.heap.size, 0, none⟩ 1 1 [.int .i64 ((c + x) % 65536)] (by rfl) rfl (one_at _ _ _) (by intro u hu; simp at hu; subst hu; rfl) (by unfold maxLen; omega) (by omega) (by simp; omega) ?_)
        intro v' w1 hown' hgrow _
        obtain ⟨R1, R2⟩ := push_rel hB hs hown hown' hgrow
        clear hown' hgrow hown hB
        go_wp2
        go_roundg (gk - 1)
        case measure => omega
        case rel => exact ⟨k + 1, by omega, by go_num, by rw [PH.out], HJ2, by rw [PH.out]; exact R1, R2⟩
    · have q1 : ¬ (k : Int) < la := by omega
      by_cases h2 : k < lb
      · have q2 : (k : Int) < lb := by omega
        obtain ⟨qb, qo, rfl, hcy0⟩ : ∃ p o, b = some ⟨p, o, none⟩ ∧ w.cell? ⟨p, o + k, none⟩ = some (.int .i64 y) := by
          rcases HY.out with h | ⟨p, o, e1, _, e2⟩
          · rw [h] at hl2; simp at hl2; omega
          · exact ⟨p, o, e1, hy ▸ e2 k _ (dg_at (by omega))⟩
        have hcy : wr.cell? ⟨qb, qo + k, none⟩ = some (.int .i64 y) := by rw [hB.cell (cell_lt hcy0)]; exact hcy0
        obtain rfl : x = 0 := hx ▸ dg_out (by omega)
        simp only [Int.add_zero] at PS
        have PH := Lib.hid PS
        have HJ2 := HK (.inr (.inl (by omega)))
        clear hc ho hx hy HX HY p1 p2 p5 PS HK HJ hl1 hl2 hcy0
        go_wp2_with (at_builtin; refine wpList_append_own _ rfl _ _ 40 rfl w.heap.size 3 i0 (.int .i64 0) 1 8 Tryd.underlying40 hi hz0 hz1 hz2 rfl (by decide) _ _ _ rfl (hown.alloc _) ⟨wr.heap.size, 0, none⟩ 1 1 [.int .i64 ((c + y) % 65536)] (by rfl) rfl (one_at _ _ _) (by intro u hu; simp at hu; subst hu; rfl) (by unfold maxLen; omega) (by omega) (by simp; omega) ?_)
        intro v' w1 hown' hgrow _
        obtain ⟨R1, R2⟩ := push_rel hB hs hown hown' hgrow
        clear hown' hgrow hown hB
        go_wp2
        go_roundg (gk - 1)
        case measure => omega
        case rel => exact ⟨k + 1, by omega, by go_num, by rw [PH.out], HJ2, by rw [PH.out]; exact R1, R2⟩
      · have q2 : ¬ (k : Int) < lb := by omega
        by_cases h3 : 0 < c
        · have hg : 0 < gk := by
            rcases Nat.eq_zero_or_pos gk with e | e
            · obtain ⟨j, rfl⟩ : ∃ j, k = j + 1 := ⟨k - 1, by omega⟩
              obtain ⟨_, _, g3, g4, _⟩ := pl_ok (Dg.digs m) (Dg.digs n) j
              rw [← hc] at h3
              simp only [pl] at h3
              rw [dg_out (zs := digs m) (by omega), dg_out (zs := digs n) (by omega)] at h3
              omega
            · exact e
          obtain rfl : x = 0 := hx ▸ dg_out (by omega)
          obtain rfl : y = 0 := hy ▸ dg_out (by omega)
          simp only [Int.add_zero] at PS
          have PH := Lib.hid PS
          have HJ2 := HK (.inr (.inr h3))
          clear hc ho hx hy HX HY p1 p2 p5 PS HK HJ hl1 hl2
          go_wp2_with (at_builtin; refine wpList_append_own _ rfl _ _ 40 rfl w.heap.size 3 i0 (.int .i64 0) 1 8 Tryd.underlying40 hi hz0 hz1 hz2 rfl (by decide) _ _ _ rfl (hown.alloc _) ⟨wr.heap.size, 0, none⟩ 1 1 [.int .i64 ((c) % 65536)] (by rfl) rfl (one_at _ _ _) (by intro u hu; simp at hu; subst hu; rfl) (by unfold maxLen; omega) (by omega) (by simp; omega) ?_)
          intro v' w1 hown' hgrow _
          obtain ⟨R1, R2⟩ := push_rel hB hs hown hown' hgrow
          clear hown' hgrow hown hB
          go_wp2
          go_roundg (gk - 1)
          case measure => omega
          case rel => exact ⟨k + 1, by omega, by go_num, by rw [PH.out], HJ2, by rw [PH.out]; exact R1, R2⟩
        · have PD := pl_done (m := m) (n := n) (k := k) (by omega) (by omega) (by omega) HJ.out
          rw [ho] at PD
          rw [PD] at hown
          clear hc ho hx hy HX HY p1 p2 p5 PS HK HJ hl1 hl2 PD
          go_wp2
          go_ret
          exact ⟨_, rfl, ⟨k, hown⟩, hB⟩
end Go.Proofs.YtjmojddnedngaaaDoor
end
section
namespace Go.Proofs.YtjmojddnedngaaaDoor
open Go.ChangeShapes Go.WideShapes Go.ChangeAt Go.RowKit
set_option linter.unusedVariables false

/-- the digits of a difference, and what is borrowed -/
def mn (xs ys : List Int) : Nat → List Int × Int
  | 0 => ([], 0)
  | i + 1 => if dg xs i - (mn xs ys i).2 - dg ys i < 0 then ((mn xs ys i).1 ++ [dg xs i - (mn xs ys i).2 - dg ys i + 65536], 1) else ((mn xs ys i).1 ++ [dg xs i - (mn xs ys i).2 - dg ys i], 0)
theorem mn_ok {xs ys : List Int} (hx : Dg xs) (hy : Dg ys) : ∀ i, (mn xs ys i).1.length = i ∧ Dg (mn xs ys i).1 ∧ 0 ≤ (mn xs ys i).2 ∧ (mn xs ys i).2 ≤ 1 ∧
    vl (mn xs ys i).1 + 65536 ^ i * (vl (xs.drop i) - vl (ys.drop i) - (mn xs ys i).2) = vl xs - vl ys
  | 0 => by simp [mn, vl, Dg.nil]
  | i + 1 => by
    obtain ⟨h1, h2, h3, h4, h5⟩ := mn_ok hx hy i
    have rx := dg_range hx i
    have ry := dg_range hy i
    rw [vl_at xs i, vl_at ys i] at h5
    rw [mn]
    generalize (mn xs ys i).1 = o at *
    generalize (mn xs ys i).2 = c at *
    generalize dg xs i = x at *
    generalize dg ys i = y at *
    generalize vl (xs.drop (i + 1)) = X at *
    generalize vl (ys.drop (i + 1)) = Y at *
    split
    · refine ⟨by simp [h1], h2.snoc (by omega) (by omega), by omega, by omega, ?_⟩
      simp only []
      rw [vl_snoc, h1, Int.pow_succ, Int.mul_assoc, Int.add_assoc, ← Int.mul_add, ← h5]
      congr 2
      omega
    · refine ⟨by simp [h1], h2.snoc (by omega) (by omega), by omega, by omega, ?_⟩
      simp only []
      rw [vl_snoc, h1, Int.pow_succ, Int.mul_assoc, Int.add_assoc, ← Int.mul_add, ← h5]
      congr 2
      omega
theorem mn_done {m n k : Nat} (h : n ≤ m) (h1 : (digs m).length = k) : Dg (mn (digs m) (digs n) k).1 ∧ vl (mn (digs m) (digs n) k).1 = (m : Int) - n := by
  obtain ⟨e1, e2, e3, e4, e5⟩ := mn_ok (Dg.digs m) (Dg.digs n) k
  have hn : (digs n).length ≤ k := by
    rcases Nat.lt_or_ge k (digs n).length with h' | h'
    · have := digs_longer (m := m) (n := n) (by omega); omega
    · exact h'
  refine ⟨e2, ?_⟩
  rw [vl_drop_ge _ _ (by omega), vl_drop_ge _ _ hn, vl_digs, vl_digs] at e5
  have hv := vl_lt e2
  rw [e1] at hv
  by_cases hc : (mn (digs m) (digs n) k).2 = 0
  · rw [hc] at e5
    rw [← e5]; simp
  · have hc1 : (mn (digs m) (digs n) k).2 = 1 := by omega
    rw [hc1] at e5
    have e6 : (65536 : Int) ^ k * (0 - 0 - 1) = - 65536 ^ k := by rw [show (0 - 0 - 1 : Int) = -1 from rfl, Int.mul_neg, Int.mul_one]
    rw [e6] at e5
    omega

set_option maxHeartbeats 8000000 in
set_option maxRecDepth 20000 in
theorem minus_walk (m n : Nat) (hmn : n ≤ m) (T C T' C' : Nat) (a b : Option Addr) (la lb ca cb : Nat) (w : World) (hla : la ≤ 100000000) (hx : DRow w T C a la ca (digs m)) (hy : DRow w T' C' b lb cb (digs n)) :
    Calls Tryd.prog 38 #[.slice a la ca, .slice b lb cb] w fun e w' => ∃ v zs, e = .returned v ∧ w'.ownsRow w.heap.size 3 1 v la (zs.map (Value.int .i64)) ∧ Dg zs ∧ vl zs = (m : Int) - n ∧ Below w.heap.size w w' := by
  have hl1 := hx.hlen
  have hl2 := hy.hlen
  obtain ⟨i0, hi, hz0, hz1, hz2⟩ := info_parts info_int
  have HX := Lib.hid hx.hcells
  have HY := Lib.hid hy.hcells
  clear hx hy
  go_enter Tryd.func38, Tryd.ntmps38
  go_wp2
  go_loopg [5, 6, 7] la (fun g v c i wr => ∃ k : Nat, g + k = la ∧ i = .int .i64 k ∧ c = .int .i64 (mn (digs m) (digs n) k).2 ∧ wr.ownsRow w.heap.size 3 1 v k ((mn (digs m) (digs n) k).1.map (Value.int .i64)) ∧ Below w.heap.size w wr)
  case atStart =>
    refine ⟨0, rfl, rfl, rfl, World.ownsRow_nil _ _ _ _, Below.refl _ _⟩
  case round =>
    obtain ⟨k, hk, rfl, rfl, hown, hB⟩ := hrel
    obtain ⟨p1, p2, p3, p4, p5⟩ := mn_ok (Dg.digs m) (Dg.digs n) k
    have rx := dg_range (Dg.digs m) k
    have ry := dg_range (Dg.digs n) k
    have hs := hB.size
    have hkm : k ≤ 100000001 := by omega
    by_cases h1 : k < la
    · obtain ⟨c, hc⟩ : ∃ c, (mn (digs m) (digs n) k).2 = c := ⟨_, rfl⟩
      obtain ⟨o, ho⟩ : ∃ o, (mn (digs m) (digs n) k).1 = o := ⟨_, rfl⟩
      obtain ⟨x, hx⟩ : ∃ x, dg (digs m) k = x := ⟨_, rfl⟩
      obtain ⟨y, hy⟩ : ∃ y, dg (digs n) k = y := ⟨_, rfl⟩
      have PS : mn (digs m) (digs n) (k + 1) = if x - c - y < 0 then (o ++ [x - c - y + 65536], 1) else (o ++ [x - c - y], 0) := by
        rw [← hc, ← ho, ← hx, ← hy, mn]
      rw [hc] at p3 p4 ⊢
      rw [ho] at hown
      rw [hx] at rx
      rw [hy] at ry
      have q1 : (k : Int) < la := by omega
      obtain ⟨pb, po, rfl, hcx0⟩ : ∃ p o, a = some ⟨p, o, none⟩ ∧ w.cell? ⟨p, o + k, none⟩ = some (.int .i64 x) := by
        rcases HX.out with h | ⟨p, o, e1, _, e2⟩
        · rw [h] at hl1; simp at hl1; omega
        · exact ⟨p, o, e1, hx ▸ e2 k _ (dg_at (by omega))⟩
      have hcx : wr.cell? ⟨pb, po + k, none⟩ = some (.int .i64 x) := by rw [hB.cell (cell_lt hcx0)]; exact hcx0
      by_cases h2 : k < lb
      · have q2 : (k : Int) < lb := by omega
        obtain ⟨qb, qo, rfl, hcy0⟩ : ∃ p o, b = some ⟨p, o, none⟩ ∧ w.cell? ⟨p, o + k, none⟩ = some (.int .i64 y) := by
          rcases HY.out with h | ⟨p, o, e1, _, e2⟩
          · rw [h] at hl2; simp at hl2; omega
          · exact ⟨p, o, e1, hy ▸ e2 k _ (dg_at (by omega))⟩
        have hcy : wr.cell? ⟨qb, qo + k, none⟩ = some (.int .i64 y) := by rw [hB.cell (cell_lt hcy0)]; exact hcy0
        by_cases h3 : x - c - y < 0
        · rw [if_pos (by omega)] at PS
          have PH := Lib.hid PS
          have q4 : (x - c - y < 0) := by omega
          clear hc ho hx hy HX HY p1 p2 p5 PS hl1 hl2 hcx0 hcy0
          go_wp2_with (at_builtin; refine wpList_append_own _ rfl _ _ 40 rfl w.heap.size 3 i0 (.int .i64 0) 1 8 Tryd.underlying40 hi hz0 hz1 hz2 rfl (by decide) _ _ _ rfl (hown.alloc _) ⟨wr.heap.size, 0, none⟩ 1 1 [.int .i64 (x - c - y + 65536)] (by rfl) rfl (one_at _ _ _) (by intro u hu; simp at hu; subst hu; rfl) (by unfold maxLen; omega) (by omega) (by simp; omega) ?_)
          intro v' w1 hown' hgrow _
          obtain ⟨R1, R2⟩ := push_rel hB hs hown hown' hgrow
          clear hown' hgrow hown hB
          go_wp2
          go_roundg (gk - 1)
          case measure => omega
          case rel => exact ⟨k + 1, by omega, by go_num, by rw [PH.out], by rw [PH.out]; exact R1, R2⟩
        · rw [if_neg (by omega)] at PS
          have PH := Lib.hid PS
          have q4 : ¬ (x - c - y < 0) := by omega
          clear hc ho hx hy HX HY p1 p2 p5 PS hl1 hl2 hcx0 hcy0
          go_wp2_with (at_builtin; refine wpList_append_own _ rfl _ _ 40 rfl w.heap.size 3 i0 (.int .i64 0) 1 8 Tryd.underlying40 hi hz0 hz1 hz2 rfl (by decide) _ _ _ rfl (hown.alloc _) ⟨wr.heap.size, 0, none⟩ 1 1 [.int .i64 (x - c - y)] (by rfl) rfl (one_at _ _ _) (by intro u hu; simp at hu; subst hu; rfl) (by unfold maxLen; omega) (by omega) (by simp; omega) ?_)
          intro v' w1 hown' hgrow _
          obtain ⟨R1, R2⟩ := push_rel hB hs hown hown' hgrow
          clear hown' hgrow hown hB
          go_wp2
          go_roundg (gk - 1)
          case measure => omega
          case rel => exact ⟨k + 1, by omega, by go_num, by rw [PH.out], by rw [PH.out]; exact R1, R2⟩
      · have q2 : ¬ (k : Int) < lb := by omega
        by_cases h3 : x - c < 0
        · obtain rfl : y = 0 := hy ▸ dg_out (by omega)
          simp only [Int.sub_zero] at PS
          rw [if_pos (by omega)] at PS
          have PH := Lib.hid PS
          have q4 : (x - c < 0) := by omega
          clear hc ho hx hy HX HY p1 p2 p5 PS hl1 hl2 hcx0
          go_wp2_with (at_builtin; refine wpList_append_own _ rfl _ _ 40 rfl w.heap.size 3 i0 (.int .i64 0) 1 8 Tryd.underlying40 hi hz0 hz1 hz2 rfl (by decide) _ _ _ rfl (hown.alloc _) ⟨wr.heap.size, 0, none⟩ 1 1 [.int .i64 (x - c + 65536)] (by rfl) rfl (one_at _ _ _) (by intro u hu; simp at hu; subst hu; rfl) (by unfold maxLen; omega) (by omega) (by simp; omega) ?_)
          intro v' w1 hown' hgrow _
          obtain ⟨R1, R2⟩ := push_rel hB hs hown hown' hgrow
          clear hown' hgrow hown hB
          go_wp2
          go_roundg (gk - 1)
          case measure => omega
          case rel => exact ⟨k + 1, by omega, by go_num, by rw [PH.out], by rw [PH.out]; exact R1, R2⟩
        · obtain rfl : y = 0 := hy ▸ dg_out (by omega)
          simp only [Int.sub_zero] at PS
          rw [if_neg (by omega)] at PS
          have PH := Lib.hid PS
          have q4 : ¬ (x - c < 0) := by omega
          clear hc ho hx hy HX HY p1 p2 p5 PS hl1 hl2 hcx0
          go_wp2_with (at_builtin; refine wpList_append_own _ rfl _ _ 40 rfl w.heap.size 3 i0 (.int .i64 0) 1 8 Tryd.underlying40 hi hz0 hz1 hz2 rfl (by decide) _ _ _ rfl (hown.alloc _) ⟨wr.heap.size, 0, none⟩ 1 1 [.int .i64 (x - c)] (by rfl) rfl (one_at _ _ _) (by intro u hu; simp at hu; subst hu; rfl) (by unfold maxLen; omega) (by omega) (by simp; omega) ?_)
          intro v' w1 hown' hgrow _
          obtain ⟨R1, R2⟩ := push_rel hB hs hown hown' hgrow
          clear hown' hgrow hown hB
          go_wp2
          go_roundg (gk - 1)
          case measure => omega
          case rel => exact ⟨k + 1, by omega, by go_num, by rw [PH.out], by rw [PH.out]; exact R1, R2⟩
    · obtain rfl : k = la := by omega
      obtain ⟨g1, g2⟩ := mn_done (m := m) (n := n) (k := k) hmn hl1
      have q1 : ¬ (k : Int) < k := by omega
      generalize (mn (digs m) (digs n) k).1 = o at *
      generalize (mn (digs m) (digs n) k).2 = c at *
      have G2 := Lib.hid g2
      clear HX HY p1 p2 p5 hl1 hl2 g2
      go_wp2
      go_ret
      exact ⟨_, rfl, o, hown, g1, G2.out, hB⟩
end Go.Proofs.YtjmojddnedngaaaDoor
end
section
namespace Go.Proofs.YtjmojddnedngaaaDoor
open Go.ChangeShapes Go.WideShapes Go.ChangeAt Go.RowKit
set_option linter.unusedVariables false

/-- a slice that a call has appended to -/
theorem own_row {w : World} {B T n : Nat} {v : Value} {zs : List Int} (h : w.ownsRow B 3 1 v n (zs.map (Value.int .i64))) : ∃ a cap, v = .slice a n cap ∧ DRow w T B a n cap zs := by
  obtain ⟨h1, h2⟩ := h
  have hl : zs.length = n := by simpa using h1
  rcases h2 with ⟨rfl, rfl⟩ | ⟨g, cap, cur, rfl, hg, hh, hn, hc, hs, ht⟩
  · exact ⟨none, 0, rfl, hl, Nat.le_refl _, by unfold maxLen; omega, .inl (List.length_eq_zero_iff.1 hl)⟩
  · refine ⟨_, cap, rfl, hl, hn, hc, .inr ⟨g, 0, rfl, .inr hg, fun i z hz => ?_⟩⟩
    have ho : Own w g 3 cur := hh
    obtain ⟨e1, _, _⟩ := ho.at_
    have hi : i < n := by
      have := (List.getElem?_eq_some_iff.1 hz).1
      omega
    rw [Nat.zero_add, e1, ← Array.getElem?_toList]
    have e2 : (cur.toList.take (n * 1))[i]? = some (.int .i64 z) := by rw [ht]; simp [hz]
    rw [List.getElem?_take] at e2
    rw [if_pos (by omega)] at e2
    exact e2
theorem plus_num (m n : Nat) (T T' C T2 C2 : Nat) (a b : Option Addr) (la lb ca cb : Nat) (w : World) (hla : la ≤ 100000000) (hlb : lb ≤ 100000000) (hx : DRow w T C a la ca (digs m)) (hy : DRow w T2 C2 b lb cb (digs n)) :
    Calls Tryd.prog 36 #[.slice a la ca, .slice b lb cb] w fun e w' => ∃ a' l' c', e = .returned (.slice a' l' c') ∧ DRow w' T' w.heap.size a' l' c' (digs (m + n)) ∧ Below w.heap.size w w' := by
  refine (plus_walk m n T C T2 C2 a b la lb ca cb w hla hlb hx hy).mono ?_
  rintro e w' ⟨v, k, rfl, ho, hb⟩
  obtain ⟨a', c', rfl, hd⟩ := own_row (T := T') ho
  exact ⟨a', k, c', rfl, hd, hb⟩
theorem minus_num (m n : Nat) (hmn : n ≤ m) (T T' C T2 C2 : Nat) (a b : Option Addr) (la lb ca cb : Nat) (w : World) (hla : la ≤ 100000000) (hx : DRow w T C a la ca (digs m)) (hy : DRow w T2 C2 b lb cb (digs n)) :
    Calls Tryd.prog 38 #[.slice a la ca, .slice b lb cb] w fun e w' => ∃ a' l' c' zs, e = .returned (.slice a' l' c') ∧ DRow w' T' w.heap.size a' l' c' zs ∧ Dg zs ∧ vl zs = (m : Int) - n ∧ Below w.heap.size w w' := by
  refine (minus_walk m n hmn T C T2 C2 a b la lb ca cb w hla hx hy).mono ?_
  rintro e w' ⟨v, zs, rfl, ho, hd, hv, hb⟩
  obtain ⟨a', c', rfl, hr⟩ := own_row (T := T') ho
  exact ⟨a', la, c', zs, rfl, hr, hd, hv, hb⟩
end Go.Proofs.YtjmojddnedngaaaDoor
end
