
/- The contract of croftref03.plus: the sum of two numbers by their digits. -/
import Derived.Test.YtoondjildbanhaaDoorRefS
import Derived.OwnWalk
import Derived.Laws.AppendOwn
namespace Go.Proofs.YtoondjildbanhaaDoor
open Go.ChangeShapes Go.WideShapes Go.ChangeAt Go.RowKit
set_option linter.unusedVariables false

theorem info_int : (Tryd.prog.info? 3).map (fun i => (i.zero, i.size, i.bytes)) = some (some (.int .i64 0), 1, 8) := by kernel_rfl

/-- the digits of a sum, and what is carried -/
def pl (xs ys : List Int) : Nat → List Int × Int
  | 0 => ([], 0)
  | i + 1 => ((pl xs ys i).1 ++ [((pl xs ys i).2 + dg xs i + dg ys i) % 65536], ((pl xs ys i).2 + dg xs i + dg ys i) / 65536)
theorem dg_range {zs : List Int} (h : Dg zs) (i : Nat) : 0 ≤ dg zs i ∧ dg zs i ≤ 65535 := by
  by_cases hi : i < zs.length
  · exact h.at (dg_at hi)
  · have e : dg zs i = 0 := by simp [dg, hi]
    rw [e]; omega
theorem dg_out {zs : List Int} {i : Nat} (h : zs.length ≤ i) : dg zs i = 0 := by
  simp [dg, h]
theorem vl_at (zs : List Int) (i : Nat) : vl (zs.drop i) = dg zs i + 65536 * vl (zs.drop (i + 1)) := by
  by_cases hi : i < zs.length
  · exact vl_drop zs i _ (dg_at hi)
  · rw [vl_drop_ge zs i (by omega), vl_drop_ge zs (i + 1) (by omega), dg_out (by omega)]; rfl
theorem pl_ok {xs ys : List Int} (hx : Dg xs) (hy : Dg ys) : ∀ i, (pl xs ys i).1.length = i ∧ Dg (pl xs ys i).1 ∧ 0 ≤ (pl xs ys i).2 ∧ (pl xs ys i).2 ≤ 1 ∧
    vl (pl xs ys i).1 + 65536 ^ i * ((pl xs ys i).2 + vl (xs.drop i) + vl (ys.drop i)) = vl xs + vl ys
  | 0 => by simp [pl, vl, Dg.nil]
  | i + 1 => by
    obtain ⟨h1, h2, h3, h4, h5⟩ := pl_ok hx hy i
    have rx := dg_range hx i
    have ry := dg_range hy i
    rw [vl_at xs i, vl_at ys i] at h5
    simp only [pl]
    generalize (pl xs ys i).1 = o at *
    generalize (pl xs ys i).2 = c at *
    generalize dg xs i = x at *
    generalize dg ys i = y at *
    generalize vl (xs.drop (i + 1)) = X at *
    generalize vl (ys.drop (i + 1)) = Y at *
    refine ⟨by simp [h1], h2.snoc (by omega) (by omega), by omega, by omega, ?_⟩
    rw [vl_snoc, h1, Int.pow_succ, Int.mul_assoc, Int.add_assoc, ← Int.mul_add, ← h5]
    congr 2
    omega
/-- behind the last round the digits are the sum's own -/
theorem pl_done {m n k : Nat} (h1 : (digs m).length ≤ k) (h2 : (digs n).length ≤ k) (h3 : (pl (digs m) (digs n) k).2 ≤ 0)
    (h4 : ∀ j, j < k → j < (digs m).length ∨ j < (digs n).length ∨ 0 < (pl (digs m) (digs n) j).2) : (pl (digs m) (digs n) k).1 = digs (m + n) := by
  obtain ⟨e1, e2, e3, e4, e5⟩ := pl_ok (Dg.digs m) (Dg.digs n) k
  rw [vl_drop_ge _ _ h1, vl_drop_ge _ _ h2, show (pl (digs m) (digs n) k).2 = 0 by omega, vl_digs, vl_digs] at e5
  have ev : vl (pl (digs m) (digs n) k).1 = (m : Int) + n := by rw [← e5]; simp
  have := digs_of e2 ?_
  · rw [this, ev]; congr 1
  · cases k with
    | zero => left; simpa using e1
    | succ j =>
      right
      rw [e1, ev]
      obtain ⟨f1, f2, f3, f4, f5⟩ := pl_ok (Dg.digs m) (Dg.digs n) j
      have hP : (0 : Int) < 65536 ^ j := Int.pow_pos (by decide)
      simp only [Nat.add_sub_cancel]
      have gx := vl_nonneg ((Dg.digs m).drop j)
      have gy := vl_nonneg ((Dg.digs n).drop j)
      rcases h4 j (by omega) with h | h | h
      · have hm : m ≠ 0 := by rintro rfl; rw [digs_zero] at h; simp at h
        have hl : j = (digs m).length - 1 ∨ j < (digs m).length - 1 := by omega
        have := digs_len hm
        have hpow : (65536 : Int) ^ j ≤ 65536 ^ ((digs m).length - 1) := by
          obtain ⟨t, ht⟩ : ∃ t, (digs m).length - 1 = j + t := ⟨(digs m).length - 1 - j, by omega⟩
          rw [ht, Int.pow_add]
          have h5 : (0 : Int) < 65536 ^ t := Int.pow_pos (by decide)
          have := Int.mul_le_mul_of_nonneg_left (show (1 : Int) ≤ 65536 ^ t by omega) (show (0 : Int) ≤ 65536 ^ j by omega)
          omega
        omega
      · have hn : n ≠ 0 := by rintro rfl; rw [digs_zero] at h; simp at h
        have := digs_len hn
        have hpow : (65536 : Int) ^ j ≤ 65536 ^ ((digs n).length - 1) := by
          obtain ⟨t, ht⟩ : ∃ t, (digs n).length - 1 = j + t := ⟨(digs n).length - 1 - j, by omega⟩
          rw [ht, Int.pow_add]
          have h5 : (0 : Int) < 65536 ^ t := Int.pow_pos (by decide)
          have := Int.mul_le_mul_of_nonneg_left (show (1 : Int) ≤ 65536 ^ t by omega) (show (0 : Int) ≤ 65536 ^ j by omega)
          omega
        omega
      · have h0 := vl_nonneg f2
        have := Int.mul_le_mul_of_nonneg_left (show (1 : Int) ≤ (pl (digs m) (digs n) j).2 + vl ((digs m).drop j) + vl ((digs n).drop j) by omega) (Int.le_of_lt hP)
        rw [vl_digs, vl_digs] at f5
        omega

-- WALK
theorem one_at (w : World) (v : Value) (T : TypeId) : ∀ (j : Nat) (u : Value), ([v] : List Value)[j]? = some u → (w.alloc (.cells #[v] T)).cell? ((⟨w.heap.size, 0, none⟩ : Addr).add j) = some u := by
  intro j u hj
  match j, hj with
  | 0, hj => simp at hj; subst hj; simp [Addr.add]
/-- what append of one digit leaves -/
theorem push_rel {B : Nat} {w wr w1 : World} {v v' : Value} {k : Nat} {o : List Int} {d : Int} {ob : Obj} {T : TypeId} (hB : Below B w wr) (hs : B ≤ wr.heap.size) (hown : wr.ownsRow B T 1 v k (o.map (Value.int .i64)))
    (hown' : w1.ownsRow B T 1 v' (k + 1) (o.map (Value.int .i64) ++ [.int .i64 d])) (hgrow : (wr.alloc ob).grownBy w1 v.ownBlock) : w1.ownsRow B T 1 v' (k + 1) ((o ++ [d]).map (Value.int .i64)) ∧ Below B w w1 :=
  ⟨by rw [List.map_append]; exact hown', (hB.alloc hs _).grown hgrow (by simp; omega) (fun k hk => (hown.lt k hk).1)⟩

set_option maxHeartbeats 8000000 in
set_option maxRecDepth 20000 in
theorem plus_walk (m n : Nat) (T C T' C' : Nat) (a b : Option Addr) (la lb ca cb : Nat) (w : World) (hla : la ≤ 100000000) (hlb : lb ≤ 100000000) (hx : DRow w T C a la ca (digs m)) (hy : DRow w T' C' b lb cb (digs n)) :
    Calls Tryd.prog 66 #[.slice a la ca, .slice b lb cb] w fun e w' => ∃ v k, e = .returned v ∧ w'.ownsRow w.heap.size 3 1 v k ((digs (m + n)).map (Value.int .i64)) ∧ Below w.heap.size w w' := by
  have hl1 := hx.hlen
  have hl2 := hy.hlen
  obtain ⟨i0, hi, hz0, hz1, hz2⟩ := info_parts info_int
  have HX := Lib.hid hx.hcells
  have HY := Lib.hid hy.hcells
  clear hx hy
  go_enter Tryd.func66, Tryd.ntmps66
  go_wp2
  go_loopg [5, 6, 7] (max la lb + 1) (fun g v c i wr => ∃ k : Nat, g + k = max la lb + 1 ∧ i = .int .i64 k ∧ c = .int .i64 (pl (digs m) (digs n) k).2 ∧ Hid (∀ j, j < k → j < (digs m).length ∨ j < (digs n).length ∨ 0 < (pl (digs m) (digs n) j).2) ∧ wr.ownsRow w.heap.size 3 1 v k ((pl (digs m) (digs n) k).1.map (Value.int .i64)) ∧ Below w.heap.size w wr)
  case atStart =>
    refine ⟨0, rfl, rfl, rfl, Lib.hid (fun j hj => by omega), World.ownsRow_nil _ _ _ _, Below.refl _ _⟩
  case round =>
    obtain ⟨k, hk, rfl, rfl, HJ, hown, hB⟩ := hrel
    obtain ⟨p1, p2, p3, p4, p5⟩ := pl_ok (Dg.digs m) (Dg.digs n) k
    have rx := dg_range (Dg.digs m) k
    have ry := dg_range (Dg.digs n) k
    have hs := hB.size
    have hkm : k ≤ 100000001 := by omega
    obtain ⟨c, hc⟩ : ∃ c, (pl (digs m) (digs n) k).2 = c := ⟨_, rfl⟩
    obtain ⟨o, ho⟩ : ∃ o, (pl (digs m) (digs n) k).1 = o := ⟨_, rfl⟩
    obtain ⟨x, hx⟩ : ∃ x, dg (digs m) k = x := ⟨_, rfl⟩
    obtain ⟨y, hy⟩ : ∃ y, dg (digs n) k = y := ⟨_, rfl⟩
    have PS : pl (digs m) (digs n) (k + 1) = (o ++ [(c + x + y) % 65536], (c + x + y) / 65536) := by
      rw [← hc, ← ho, ← hx, ← hy]; rfl
    rw [hc] at p3 p4 ⊢
    rw [ho] at hown
    rw [hx] at rx
    rw [hy] at ry
    have HK : ∀ q : k < (digs m).length ∨ k < (digs n).length ∨ 0 < c, Hid (∀ j, j < k + 1 → j < (digs m).length ∨ j < (digs n).length ∨ 0 < (pl (digs m) (digs n) j).2) := fun q => Lib.hid (fun j hj => by
      by_cases e : j = k
      · subst e; rw [hc]; exact q
      · exact HJ.out j (by omega))
    by_cases h1 : k < la
    · have q1 : (k : Int) < la := by omega
      obtain ⟨pb, po, rfl, hcx0⟩ : ∃ p o, a = some ⟨p, o, none⟩ ∧ w.cell? ⟨p, o + k, none⟩ = some (.int .i64 x) := by
        rcases HX.out with h | ⟨p, o, e1, _, e2⟩
        · rw [h] at hl1; simp at hl1; omega
        · exact ⟨p, o, e1, hx ▸ e2 k _ (dg_at (by omega))⟩
      have hcx : wr.cell? ⟨pb, po + k, none⟩ = some (.int .i64 x) := by rw [hB.cell (cell_lt hcx0)]; exact hcx0
      by_cases h2 : k < lb
      · have q2 : (k : Int) < lb := by omega
        obtain ⟨qb, qo, rfl, hcy0⟩ : ∃ p o, b = some ⟨p, o, none⟩ ∧ w.cell? ⟨p, o + k, none⟩ = some (.int .i64 y) := by
          rcases HY.out with h | ⟨p, o, e1, _, e2⟩
          · rw [h] at hl2; simp at hl2; omega
          · exact ⟨p, o, e1, hy ▸ e2 k _ (dg_at (by omega))⟩
        have hcy : wr.cell? ⟨qb, qo + k, none⟩ = some (.int .i64 y) := by rw [hB.cell (cell_lt hcy0)]; exact hcy0
        have PH := Lib.hid PS
        have HJ2 := HK (.inl (by omega))
        clear hc ho hx hy HX HY p1 p2 p5 PS HK HJ hl1 hl2 hcx0 hcy0
        go_wp2_with (at_builtin; refine wpList_append_own _ rfl _ _ 64 rfl w.heap.size 3 i0 (.int .i64 0) 1 8 Tryd.underlying64 hi hz0 hz1 hz2 rfl (by decide) _ _ _ rfl (hown.alloc _) ⟨wr.heap.size, 0, none⟩ 1 1 [.int .i64 ((c + x + y) % 65536)] (by rfl) rfl (one_at _ _ _) (by intro u hu; simp at hu; subst hu; rfl) (by unfold maxLen; omega) (by omega) (by simp; omega) ?_)
        intro v' w1 hown' hgrow _
        obtain ⟨R1, R2⟩ := push_rel hB hs hown hown' hgrow
        clear hown' hgrow hown hB
        go_wp2
        go_roundg (gk - 1)
        case measure => omega
        case rel => exact ⟨k + 1, by omega, by go_num, by rw [PH.out], HJ2, by rw [PH.out]; exact R1, R2⟩
      · have q2 : ¬ (k : Int) < lb := by omega
        obtain rfl : y = 0 := hy ▸ dg_out (by omega)
        simp only [Int.add_zero] at PS
        have PH := Lib.hid PS
        have HJ2 := HK (.inl (by omega))
        clear hc ho hx hy HX HY p1 p2 p5 PS HK HJ hl1 hl2 hcx0
        go_wp2_with (at_builtin; refine wpList_append_own _ rfl _ _ 64 rfl w.heap.size 3 i0 (.int .i64 0) 1 8 Tryd.underlying64 hi hz0 hz1 hz2 rfl (by decide) _ _ _ rfl (hown.alloc _) ⟨wr.heap.size, 0, none⟩ 1 1 [.int .i64 ((c + x) % 65536)] (by rfl) rfl (one_at _ _ _) (by intro u hu; simp at hu; subst hu; rfl) (by unfold maxLen; omega) (by omega) (by simp; omega) ?_)
        intro v' w1 hown' hgrow _
        obtain ⟨R1, R2⟩ := push_rel hB hs hown hown' hgrow
        clear hown' hgrow hown hB
        go_wp2
        go_roundg (gk - 1)
        case measure => omega
        case rel => exact ⟨k + 1, by omega, by go_num, by rw [PH.out], HJ2, by rw [PH.out]; exact R1, R2⟩
    · have q1 : ¬ (k : Int) < la := by omega
      by_cases h2 : k < lb
      · have q2 : (k : Int) < lb := by omega
        obtain ⟨qb, qo, rfl, hcy0⟩ : ∃ p o, b = some ⟨p, o, none⟩ ∧ w.cell? ⟨p, o + k, none⟩ = some (.int .i64 y) := by
          rcases HY.out with h | ⟨p, o, e1, _, e2⟩
          · rw [h] at hl2; simp at hl2; omega
          · exact ⟨p, o, e1, hy ▸ e2 k _ (dg_at (by omega))⟩
        have hcy : wr.cell? ⟨qb, qo + k, none⟩ = some (.int .i64 y) := by rw [hB.cell (cell_lt hcy0)]; exact hcy0
        obtain rfl : x = 0 := hx ▸ dg_out (by omega)
        simp only [Int.add_zero] at PS
        have PH := Lib.hid PS
        have HJ2 := HK (.inr (.inl (by omega)))
        clear hc ho hx hy HX HY p1 p2 p5 PS HK HJ hl1 hl2 hcy0
        go_wp2_with (at_builtin; refine wpList_append_own _ rfl _ _ 64 rfl w.heap.size 3 i0 (.int .i64 0) 1 8 Tryd.underlying64 hi hz0 hz1 hz2 rfl (by decide) _ _ _ rfl (hown.alloc _) ⟨wr.heap.size, 0, none⟩ 1 1 [.int .i64 ((c + y) % 65536)] (by rfl) rfl (one_at _ _ _) (by intro u hu; simp at hu; subst hu; rfl) (by unfold maxLen; omega) (by omega) (by simp; omega) ?_)
        intro v' w1 hown' hgrow _
        obtain ⟨R1, R2⟩ := push_rel hB hs hown hown' hgrow
        clear hown' hgrow hown hB
        go_wp2
        go_roundg (gk - 1)
        case measure => omega
        case rel => exact ⟨k + 1, by omega, by go_num, by rw [PH.out], HJ2, by rw [PH.out]; exact R1, R2⟩
      · have q2 : ¬ (k : Int) < lb := by omega
        by_cases h3 : 0 < c
        · have hg : 0 < gk := by
            rcases Nat.eq_zero_or_pos gk with e | e
            · obtain ⟨j, rfl⟩ : ∃ j, k = j + 1 := ⟨k - 1, by omega⟩
              obtain ⟨_, _, g3, g4, _⟩ := pl_ok (Dg.digs m) (Dg.digs n) j
              rw [← hc] at h3
              simp only [pl] at h3
              rw [dg_out (zs := digs m) (by omega), dg_out (zs := digs n) (by omega)] at h3
              omega
            · exact e
          obtain rfl : x = 0 := hx ▸ dg_out (by omega)
          obtain rfl : y = 0 := hy ▸ dg_out (by omega)
          simp only [Int.add_zero] at PS
          have PH := Lib.hid PS
          have HJ2 := HK (.inr (.inr h3))
          clear hc ho hx hy HX HY p1 p2 p5 PS HK HJ hl1 hl2
          go_wp2_with (at_builtin; refine wpList_append_own _ rfl _ _ 64 rfl w.heap.size 3 i0 (.int .i64 0) 1 8 Tryd.underlying64 hi hz0 hz1 hz2 rfl (by decide) _ _ _ rfl (hown.alloc _) ⟨wr.heap.size, 0, none⟩ 1 1 [.int .i64 ((c) % 65536)] (by rfl) rfl (one_at _ _ _) (by intro u hu; simp at hu; subst hu; rfl) (by unfold maxLen; omega) (by omega) (by simp; omega) ?_)
          intro v' w1 hown' hgrow _
          obtain ⟨R1, R2⟩ := push_rel hB hs hown hown' hgrow
          clear hown' hgrow hown hB
          go_wp2
          go_roundg (gk - 1)
          case measure => omega
          case rel => exact ⟨k + 1, by omega, by go_num, by rw [PH.out], HJ2, by rw [PH.out]; exact R1, R2⟩
        · have PD := pl_done (m := m) (n := n) (k := k) (by omega) (by omega) (by omega) HJ.out
          rw [ho] at PD
          rw [PD] at hown
          clear hc ho hx hy HX HY p1 p2 p5 PS HK HJ hl1 hl2 PD
          go_wp2
          go_ret
          exact ⟨_, rfl, ⟨k, hown⟩, hB⟩
end Go.Proofs.YtoondjildbanhaaDoor
