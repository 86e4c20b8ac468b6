/- merged: The mathematics of croftref03.Words: the words out of the digits. It speaks of no function. The contract of croftref03.Words, more or fewer digits than sixteen. The contract of croftref03.Words, sixteen digits, the highest below 32768. The contract of croftref03.Words, sixteen digits, the highest 32768 or more, not below nought. -/
import Derived.Test.YtigcbgehnlilaaaDoorRefG
import Derived.Deep.LoopGhost
section
namespace Go.Proofs.YtigcbgehnlilaaaDoor
open Go.ChangeShapes Go.WideShapes Go.ChangeAt Go.RowKit
set_option linter.unusedVariables false

/-- a digit is a quotient's rest -/
theorem dg_digs : ∀ (i n : Nat), dg (digs n) i = frd (n : Int) i
  | 0, n => by
    by_cases h : n = 0
    · subst h; rw [digs_zero]; rfl
    · rw [digs_pos h]; simp [dg, frd]
  | i + 1, n => by
    by_cases h : n = 0
    · subst h
      rw [digs_zero]
      unfold frd
      rw [show ((0 : Nat) : Int) = 0 from rfl, Int.zero_ediv]
      rfl
    · have ih := dg_digs i (n / 65536)
      rw [digs_pos h]
      show (digs (n / 65536)).getD i 0 = _
      have e : frd (n : Int) (i + 1) = frd ((n / 65536 : Nat) : Int) i := by
        unfold frd
        rw [Int.pow_succ, Int.mul_comm, ← Int.ediv_ediv_of_nonneg (by decide)]
        rw [show ((n / 65536 : Nat) : Int) = (n : Int) / 65536 by omega]
      rw [e, ← ih]; rfl
/-- nothing below digit k -/
theorem low_zero (n : Nat) : ∀ k, (∀ j, j < k → frd (n : Int) j = 0) → (n : Int) % 65536 ^ k = 0
  | 0, _ => by simp [Int.emod_one]
  | k + 1, h => by
    have hP : (0 : Int) < 65536 ^ k := Int.pow_pos (by decide)
    have ih := low_zero n k (fun j hj => h j (by omega))
    have hm := mod_step (n : Int) (65536 ^ k) hP
    rw [Int.pow_succ, hm, ih, show (n : Int) / 65536 ^ k % 65536 = 0 from h k (by omega)]
    simp
theorem p15 : (65536 : Int) ^ 15 = 1766847064778384329583297500742918515827483896875618958121606201292619776 := by decide
theorem p16 : (65536 : Int) ^ 16 = 115792089237316195423570985008687907853269984665640564039457584007913129639936 := by decide
/-- more than 16 digits: it doesn't fit -/
theorem long_no {z : Int} (h : 16 < (digs z.natAbs).length) : ¬ Fit z := by
  have hn : z.natAbs ≠ 0 := fun e => by rw [e, digs_zero] at h; simp at h
  have h1 := (digs_len hn).1
  have h2 : (65536 : Int) ^ 16 ≤ 65536 ^ ((digs z.natAbs).length - 1) := by
    obtain ⟨t, ht⟩ : ∃ t, (digs z.natAbs).length - 1 = 16 + t := ⟨(digs z.natAbs).length - 1 - 16, by omega⟩
    rw [ht, Int.pow_add]
    have h5 : (0 : Int) < 65536 ^ t := Int.pow_pos (by decide)
    have := Int.mul_le_mul_of_nonneg_left (show (1 : Int) ≤ 65536 ^ t by omega) (show (0 : Int) ≤ 65536 ^ 16 by decide)
    omega
  rw [p16] at h2
  rintro ⟨a, b⟩
  omega
theorem short_lt {z : Int} (h : (digs z.natAbs).length ≤ 16) : (z.natAbs : Int) < 115792089237316195423570985008687907853269984665640564039457584007913129639936 := by
  have h1 := digs_lt z.natAbs
  have h2 : (65536 : Int) ^ (digs z.natAbs).length ≤ 65536 ^ 16 := by
    obtain ⟨t, ht⟩ : ∃ t, 16 = (digs z.natAbs).length + t := ⟨16 - (digs z.natAbs).length, by omega⟩
    rw [ht, Int.pow_add]
    have h5 : (0 : Int) < 65536 ^ t := Int.pow_pos (by decide)
    have h6 : (0 : Int) < 65536 ^ (digs z.natAbs).length := Int.pow_pos (by decide)
    have := Int.mul_le_mul_of_nonneg_left (show (1 : Int) ≤ 65536 ^ t by omega) (show (0 : Int) ≤ 65536 ^ (digs z.natAbs).length by omega)
    omega
  rw [p16] at h2
  omega
theorem less_16 {z : Int} (h : (digs z.natAbs).length < 16) : (z.natAbs : Int) < 1766847064778384329583297500742918515827483896875618958121606201292619776 := by
  have h1 := digs_lt z.natAbs
  have h2 : (65536 : Int) ^ (digs z.natAbs).length ≤ 65536 ^ 15 := by
    obtain ⟨t, ht⟩ : ∃ t, 15 = (digs z.natAbs).length + t := ⟨15 - (digs z.natAbs).length, by omega⟩
    rw [ht, Int.pow_add]
    have h5 : (0 : Int) < 65536 ^ t := Int.pow_pos (by decide)
    have h6 : (0 : Int) < 65536 ^ (digs z.natAbs).length := Int.pow_pos (by decide)
    have := Int.mul_le_mul_of_nonneg_left (show (1 : Int) ≤ 65536 ^ t by omega) (show (0 : Int) ≤ 65536 ^ (digs z.natAbs).length by omega)
    omega
  rw [p15] at h2
  omega
/-- the top digit tells, and what lies below it -/
theorem top_eq {z : Int} (h : (digs z.natAbs).length ≤ 16) : dg (digs z.natAbs) 15 = (z.natAbs : Int) / 1766847064778384329583297500742918515827483896875618958121606201292619776 := by
  have h1 := short_lt h
  rw [dg_digs]
  unfold frd
  rw [p15]
  omega
theorem fit_small {z : Int} (h : (digs z.natAbs).length ≤ 16) (k : ¬ ((digs z.natAbs).length = 16 ∧ 32768 ≤ dg (digs z.natAbs) 15)) : Fit z := by
  have h1 := top_eq h
  rw [h1] at k
  have h3 := short_lt h
  by_cases e : (digs z.natAbs).length = 16
  · have : ¬ 32768 ≤ (z.natAbs : Int) / 1766847064778384329583297500742918515827483896875618958121606201292619776 := fun h => k ⟨e, h⟩
    exact ⟨by omega, by omega⟩
  · have := less_16 (z := z) (by omega)
    exact ⟨by omega, by omega⟩
theorem fit_least {z : Int} (h : (digs z.natAbs).length ≤ 16) (k : 32768 ≤ dg (digs z.natAbs) 15) : Fit z ↔ (decide (z < 0) = true ∧ dg (digs z.natAbs) 15 = 32768 ∧ ∀ j, j < 15 → dg (digs z.natAbs) j = 0) := by
  have h1 := top_eq h
  have h3 := short_lt h
  rw [h1] at k ⊢
  constructor
  · rintro ⟨a, b⟩
    have hz : z = -57896044618658097711785492504343953926634992332820282019728792003956564819968 := by omega
    refine ⟨by simp; omega, by omega, fun j hj => ?_⟩
    rw [dg_digs]
    have hn : (z.natAbs : Int) = 57896044618658097711785492504343953926634992332820282019728792003956564819968 := by omega
    rw [hn]
    rcases upto16 (show j < 16 by omega) with rfl | rfl | rfl | rfl | rfl | rfl | rfl | rfl | rfl | rfl | rfl | rfl | rfl | rfl | rfl | rfl <;> first | rfl | decide | omega
  · rintro ⟨a, b, c⟩
    have h4 := low_zero z.natAbs 15 (fun j hj => by rw [← dg_digs]; exact c j hj)
    rw [p15] at h4
    have : z < 0 := by simpa using a
    exact ⟨by omega, by omega⟩

/-- the word of the number that round k adds to -/
def lw (V : Int) (k : Nat) : Int := if k < 4 then L0 V else if k < 8 then L1 V else if k < 12 then L2 V else L3 V
def wcs (V : Int) : Array Value := #[.int .u64 (L0 V), .int .u64 (L1 V), .int .u64 (L2 V), .int .u64 (L3 V)]
theorem wcs_get (V : Int) {k : Nat} (h : k < 16) : (wcs V)[k / 4]? = some (.int .u64 (lw V k)) := by
  rcases upto16 h with rfl | rfl | rfl | rfl | rfl | rfl | rfl | rfl | rfl | rfl | rfl | rfl | rfl | rfl | rfl | rfl <;> rfl
theorem wcs_set {V d : Int} {k : Nat} (h : k < 16) (h0 : 0 ≤ V) (h1 : V < 65536 ^ k) (h2 : 0 ≤ d) (h3 : d ≤ 65535) :
    (wcs V).setIfInBounds (k / 4) (.int .u64 (lw V k + d * 65536 ^ (k % 4))) = wcs (V + 65536 ^ k * d) ∧ 0 ≤ lw V k ∧ 0 ≤ d * 65536 ^ (k % 4) ∧ lw V k + d * 65536 ^ (k % 4) ≤ 18446744073709551615 := by
  rcases upto16 h with rfl | rfl | rfl | rfl | rfl | rfl | rfl | rfl | rfl | rfl | rfl | rfl | rfl | rfl | rfl | rfl <;> (simp at h1; simp [wcs, lw, L0, L1, L2, L3]; omega)
theorem words_16 {z : Int} (hz : Fit z) : wcs (vl (fr (z.natAbs : Int) (decide (z < 0)) 16).1) = wcs z := by
  obtain ⟨h1, h2, h3, h4, h5, h6⟩ := fr_ok (z.natAbs : Int) (decide (z < 0)) 16
  have hv := vl_nonneg h2
  have hl := vl_lt h2
  rw [h1] at hl
  rw [p16] at hl h5 h6
  obtain ⟨a, b⟩ := hz
  have e : vl (fr (z.natAbs : Int) (decide (z < 0)) 16).1 = z % 115792089237316195423570985008687907853269984665640564039457584007913129639936 := by
    by_cases hz : z < 0
    · have := h6 (by simpa using hz)
      omega
    · have := h5 (by simpa using hz)
      omega
  rw [e, ← num4_L]
  obtain ⟨a, b, c, d⟩ := L_num4 (W4.of z)
  unfold wcs
  rw [a, b, c, d]

theorem wcs_zero : wcs 0 = #[.int .u64 0, .int .u64 0, .int .u64 0, .int .u64 0] := by simp [wcs, L0, L1, L2, L3]
/-- a round's digit, and what is carried -/
theorem fr_key (u : Int) (s : Bool) (k : Nat) : ∃ dd cc, fr u s (k + 1) = ((fr u s k).1 ++ [dd], cc) ∧ 0 ≤ dd ∧ dd ≤ 65535 ∧ ((s = false ∧ frd u k = dd ∧ (fr u s k).2 = cc) ∨ (s = true ∧ (65535 - frd u k + (fr u s k).2) % 65536 = dd ∧ (65535 - frd u k + (fr u s k).2) / 65536 = cc)) := by
  obtain ⟨d0, d1⟩ := frd_range u k
  cases s with
  | false => exact ⟨_, _, rfl, d0, d1, .inl ⟨rfl, rfl, rfl⟩⟩
  | true => exact ⟨_, _, rfl, by omega, by omega, .inr ⟨rfl, rfl, rfl⟩⟩
theorem pow_small {m : Nat} (h : m < 3) : 0 < (65536 : Int) ^ m ∧ (65536 : Int) ^ m ≤ 4294967296 := by
  rcases (by omega : m = 0 ∨ m = 1 ∨ m = 2) with rfl | rfl | rfl <;> decide
end Go.Proofs.YtigcbgehnlilaaaDoor
end
section
namespace Go.Proofs.YtigcbgehnlilaaaDoor
open Go.ChangeShapes Go.WideShapes Go.ChangeAt Go.RowKit
set_option linter.unusedVariables false

set_option maxHeartbeats 16000000 in
set_option maxRecDepth 20000 in
theorem words_4 (T C : Nat) (v : Value) (z : Int) (w : World) (hv : Num w T C v z) (hc : (digs z.natAbs).length ≠ 16) :
    Calls Tryd.prog 47 #[v] w fun e w' => ((Fit z ∧ e = .returned (.tuple #[.agg #[.int .u64 (L0 z), .int .u64 (L1 z), .int .u64 (L2 z), .int .u64 (L3 z)], .bool true])) ∨ (¬ Fit z ∧ e = .returned (.tuple #[.agg #[.int .u64 0, .int .u64 0, .int .u64 0, .int .u64 0], .bool false]))) ∧ Below w.heap.size w w' := by
  obtain ⟨a, len, cap, rfl, hr⟩ := hv
  have hl := hr.hlen
  have hm0 := hr.hmax
  have hm1 := hr.hcap
  have hm : (len : Int) ≤ 9223372036854775807 := by unfold maxLen at hm0; omega
  have HX := Lib.hid hr.hcells
  have LONG := Lib.hid (long_no (z := z))
  have SMALL := Lib.hid (fit_small (z := z))
  have LEAST := Lib.hid (fit_least (z := z))
  have DGD := Lib.hid (fun k => dg_digs k z.natAbs)
  have W16 := Lib.hid (words_16 (z := z))
  obtain ⟨s, hs⟩ : ∃ s, decide (z < 0) = s := ⟨_, rfl⟩
  rw [hs] at LEAST W16 ⊢
  obtain ⟨zs, hzs⟩ : ∃ zs, digs z.natAbs = zs := ⟨_, rfl⟩
  rw [hzs] at hl HX LONG SMALL LEAST DGD hc
  replace hc := Lib.hid hc
  clear hr hs hzs hm0 hm1
  obtain ⟨u, hu⟩ : ∃ u : Int, (z.natAbs : Int) = u := ⟨_, rfl⟩
  rw [hu] at DGD W16
  clear hu
  go_enter Tryd.func47, Tryd.ntmps47
  go_upto_region 2 with fail
  go_name_world W0 hW0
  have ON : Own W0 w.heap.size 59 #[.bool s, .slice a len cap] := hW0 ▸ (by repeat' (first | (with_reducible assumption) | (with_reducible refine Own.drawnN ?_ _) | (with_reducible refine Own.drawn ?_) | (with_reducible refine Own.made_at ?_; first | rfl | (simp; done) | omega | (simp; omega)) | (with_reducible refine Own.more ?_ _) | (with_reducible refine Own.apart ?_ ?_ _ _; rotate_left; first | omega | (simp; done) | (simp; omega)) | (refine Own.put ?_ _ _)))
  have OR : Own W0 (w.heap.size + 1) 23 #[.int .u64 0, .int .u64 0, .int .u64 0, .int .u64 0] := hW0 ▸ (by repeat' (first | (with_reducible assumption) | (with_reducible refine Own.drawnN ?_ _) | (with_reducible refine Own.drawn ?_) | (with_reducible refine Own.made_at ?_; first | rfl | (simp; done) | omega | (simp; omega)) | (with_reducible refine Own.more ?_ _) | (with_reducible refine Own.apart ?_ ?_ _ _; rotate_left; first | omega | (simp; done) | (simp; omega)) | (refine Own.put ?_ _ _)))
  have OW : Own W0 (w.heap.size + 2) 23 #[.int .u64 0, .int .u64 0, .int .u64 0, .int .u64 0] := hW0 ▸ (by repeat' (first | (with_reducible assumption) | (with_reducible refine Own.drawnN ?_ _) | (with_reducible refine Own.drawn ?_) | (with_reducible refine Own.made_at ?_; first | rfl | (simp; done) | omega | (simp; omega)) | (with_reducible refine Own.more ?_ _) | (with_reducible refine Own.apart ?_ ?_ _ _; rotate_left; first | omega | (simp; done) | (simp; omega)) | (refine Own.put ?_ _ _)))
  have hB : Below w.heap.size w W0 := hW0 ▸ (by repeat' (first | (with_reducible exact Below.refl _ _) | (with_reducible assumption) | (with_reducible refine below_drewN ?_ _) | (with_reducible refine Below.drew ?_) | (with_reducible refine Below.alloc ?_ ?_ _) | (with_reducible refine Below.setCell ?_ ?_ _) | (with_reducible refine then_ ?_ (by with_reducible assumption) ?_) | (with_reducible exact Nat.le_refl _) | (with_reducible exact Nat.le_succ _) | (with_reducible exact Nat.le_succ_of_le (by with_reducible assumption)) | omega | (simp; done) | (simp; omega) | (exact Nat.le_succ _) | (exact Nat.le_succ_of_le (by with_reducible assumption))))
  clear hW0
  have CELL : Hid (∀ k, k < len → ∃ p o, a = some ⟨p, o, none⟩ ∧ w.cell? ⟨p, o + k, none⟩ = some (.int .i64 (dg zs k))) := fun k hk => by
    rcases HX.out with h | ⟨p, o, e1, _, e2⟩
    · rw [h] at hl; simp at hl; omega
    · exact ⟨p, o, e1, e2 k _ (dg_at (by omega))⟩
  clear HX
  obtain ⟨N1, N2, N3⟩ := ON.at_
  obtain ⟨R1, R2, R3⟩ := OR.at_
  obtain ⟨V1, V2, V3⟩ := OW.at_
  by_cases h16 : 16 < len
  · have nf := Lib.hid (LONG.out (by omega))
    have t1 : (16 : Int) < len := by omega
    clear LONG SMALL LEAST DGD W16 CELL hl
    go_wp2
    refine bodyPost_ret (v := .tuple #[.agg #[.int .u64 0, .int .u64 0, .int .u64 0, .int .u64 0], .bool false]) (by simp [results, Tryd.results47, go_sem, R1]) rfl ⟨.inr ⟨nf.out, rfl⟩, ?_⟩
    repeat' (first | (with_reducible exact Below.refl _ _) | (with_reducible assumption) | (with_reducible refine below_drewN ?_ _) | (with_reducible refine Below.drew ?_) | (with_reducible refine Below.alloc ?_ ?_ _) | (with_reducible refine Below.setCell ?_ ?_ _) | (with_reducible refine then_ ?_ (by with_reducible assumption) ?_) | (with_reducible exact Nat.le_refl _) | (with_reducible exact Nat.le_succ _) | (with_reducible exact Nat.le_succ_of_le (by with_reducible assumption)) | omega | (simp; done) | (simp; omega) | (exact Nat.le_succ _) | (exact Nat.le_succ_of_le (by with_reducible assumption)))
  have t1 : ¬ (16 : Int) < len := by omega
  have hsm := Lib.hid (fun h => SMALL.out (by omega) h)
  have hle := Lib.hid (fun h => LEAST.out (by omega) h)
  clear LONG SMALL LEAST
  have TOP : 15 < len → Hid (∃ p o, a = some ⟨p, o, none⟩ ∧ W0.cell? ⟨p, o + 15, none⟩ = some (.int .i64 (dg zs 15))) := fun h => by
    obtain ⟨p, o, e1, e2⟩ := CELL.out 15 h
    exact ⟨p, o, e1, keep hB e2⟩
  have e16 : ¬ len = 16 := by have := hc.out; omega
  have h1 : ¬ (len = 16 ∧ 32768 ≤ dg zs 15) := fun h => e16 h.1
  have hF := Lib.hid (hsm.out (by rw [hl]; exact h1))
  have e16' : ¬ (len : Int) = 16 := by omega
  clear hsm hle TOP h1
  go_upto_region 12 with fail
  clear N1 N2 N3 R1 R2 R3 V1 V2 V3 t1 e16 e16'
  try clear ha
  go_wp2
  go_loopg [7, 8] 16 (fun g c i wr => ∃ (k : Nat) (V : Int), g + k = 16 ∧ i = .int .i64 k ∧ c = .int .i64 (fr u s k).2 ∧ Hid (vl (fr u s k).1 = V) ∧ Own wr w.heap.size 59 #[.bool s, .slice a len cap] ∧ Own wr (w.heap.size + 1) 23 #[.int .u64 0, .int .u64 0, .int .u64 0, .int .u64 0] ∧ Own wr (w.heap.size + 2) 23 (wcs V) ∧ Below w.heap.size w wr)
  case atStart => exact ⟨0, 0, rfl, rfl, rfl, Lib.hid rfl, ON, OR, OW.as wcs_zero.symm, hB⟩
  case round =>
    clear ON OR OW hB
    obtain ⟨k, V, hk, rfl, rfl, HV, ON, OR, OW, hB⟩ := hrel
    by_cases h16 : k < 16
    · obtain ⟨g1, g2, g3, g4, _⟩ := fr_ok u s k
      have v0 := vl_nonneg g2
      have v1 := vl_lt g2
      obtain ⟨dd, cc, FS, d0, d1, KK⟩ := fr_key u s k
      have hD := frd_range u k
      have hdo := fun h : len ≤ k => dg_out (zs := zs) (i := k) (by omega)
      have VS : vl (fr u s (k + 1)).1 = V + 65536 ^ k * dd := by rw [FS, vl_snoc, g1, HV.out]
      have FSc : (fr u s (k + 1)).2 = cc := by rw [FS]
      rw [g1, HV.out] at v1
      rw [HV.out] at v0
      obtain ⟨SET, x0, y0, xy⟩ := wcs_set h16 v0 v1 d0 d1
      have GET := wcs_get V h16
      rw [← DGD.out k] at KK hD
      have CK := Lib.hid (CELL.out k)
      obtain ⟨D, hDD⟩ : ∃ D, dg zs k = D := ⟨_, rfl⟩
      rw [hDD] at KK hD hdo CK
      obtain ⟨c, hc⟩ : ∃ c, (fr u s k).2 = c := ⟨_, rfl⟩
      rw [hc] at KK g3 g4 ⊢
      obtain ⟨V', hV'⟩ : ∃ V', V + 65536 ^ k * dd = V' := ⟨_, rfl⟩
      rw [hV'] at SET VS
      obtain ⟨q, hq⟩ : ∃ q : Nat, k / 4 = q := ⟨_, rfl⟩
      obtain ⟨r, hr⟩ : ∃ r : Nat, k % 4 = r := ⟨_, rfl⟩
      obtain ⟨x, hx⟩ : ∃ x, lw V k = x := ⟨_, rfl⟩
      rw [hx] at SET GET x0 xy
      rw [hq] at SET GET
      rw [hr] at SET y0 xy
      obtain ⟨y, hy⟩ : ∃ y, dd * 65536 ^ r = y := ⟨_, rfl⟩
      rw [hy] at SET y0 xy
      have hq2 : (k : Int) / 4 = (q : Int) := by omega
      have hq4 : q < 4 := by omega
      have hr2 : (k : Int) % 4 = (r : Int) := by omega
      have hr4 : r < 4 := by omega
      have SETH := Lib.hid SET
      have VSH := Lib.hid VS
      have FSH := Lib.hid FSc
      have YH := Lib.hid hy
      obtain ⟨P1, P2, P3⟩ := OW.at_
      have P4 : wr.cell? ⟨w.heap.size + 2, q, none⟩ = some (.int .u64 x) := (P1 q).trans GET
      obtain ⟨Q1, Q2, Q3⟩ := ON.at_
      have hBs := hB.size
      obtain ⟨D0, D1⟩ := hD
      clear SET VS FSc FS hy GET hx hq hr hV' hc hDD v0 v1 g1 g2 P1 HV DGD W16 CELL
      have WAY : (k < len ∧ ∃ p o, a = some ⟨p, o, none⟩ ∧ w.cell? ⟨p, o + k, none⟩ = some (.int .i64 D)) ∨ (¬ k < len ∧ D = 0) := by
        by_cases h : k < len
        · exact .inl ⟨h, CK.out h⟩
        · exact .inr ⟨h, hdo (by omega)⟩
      clear hdo CK
      rcases WAY with ⟨hkl, p, o, ha, hc0⟩ | ⟨hkl, hD0⟩
      · have hck := keep hB hc0
        have hkl2 : (k : Int) < len := by omega
        cases ha
        clear hc0
        rcases KK with ⟨rfl, rfl, rfl⟩ | ⟨rfl, rfl, rfl⟩
        all_goals
          go_upto_region 23 with fail
          clear hck
          clear Q1 Q2 Q3
          go_wp2
          go_loop [10, 11] (fun p j => ∃ m : Nat, m ≤ r ∧ j = .int .i64 m ∧ p = .int .u64 (65536 ^ m)) (fun _ j => r - (intOf j).toNat)
          case atStart => exact ⟨0, by omega, rfl, rfl⟩
          case round =>
            obtain ⟨m, hm, rfl, rfl⟩ := hrel
            by_cases hmr : m < r
            · obtain ⟨b0, b1⟩ := pow_small (m := m) (by omega)
              have PS : (65536 : Int) ^ (m + 1) = 65536 ^ m * 65536 := Int.pow_succ _ _
              obtain ⟨pp, hpp⟩ : ∃ pp, (65536 : Int) ^ m = pp := ⟨_, rfl⟩
              rw [hpp] at b0 b1 PS ⊢
              have PSH := Lib.hid PS
              clear hpp PS
              go_wp2
              go_round
              case rel => exact ⟨m + 1, by omega, by go_num, by rw [PSH.out]⟩
              case measure => simp [intOf]; omega
            · obtain rfl : m = r := by omega
              obtain ⟨pp, hpp⟩ : ∃ pp, (65536 : Int) ^ m = pp := ⟨_, rfl⟩
              have hy := YH.out
              rw [hpp] at hy ⊢
              clear hpp YH
              go_wp2
              go_roundg (gk - 1)
              case measure => omega
              case rel => exact ⟨k + 1, V', by omega, by go_num, by rw [FSH.out], VSH, ON.apart (by omega) _ _, OR.apart (by omega) _ _, (OW.put q _).as SETH.out, hB.setCell (by show w.heap.size ≤ w.heap.size + 2; omega) _⟩
      · have hkl2 : ¬ (k : Int) < len := by omega
        subst hD0
        simp only [Int.sub_zero] at KK
        rcases KK with ⟨rfl, rfl, rfl⟩ | ⟨rfl, rfl, rfl⟩
        all_goals
          go_upto_region 23 with fail
          clear Q1 Q2 Q3
          go_wp2
          go_loop [10, 11] (fun p j => ∃ m : Nat, m ≤ r ∧ j = .int .i64 m ∧ p = .int .u64 (65536 ^ m)) (fun _ j => r - (intOf j).toNat)
          case atStart => exact ⟨0, by omega, rfl, rfl⟩
          case round =>
            obtain ⟨m, hm, rfl, rfl⟩ := hrel
            by_cases hmr : m < r
            · obtain ⟨b0, b1⟩ := pow_small (m := m) (by omega)
              have PS : (65536 : Int) ^ (m + 1) = 65536 ^ m * 65536 := Int.pow_succ _ _
              obtain ⟨pp, hpp⟩ : ∃ pp, (65536 : Int) ^ m = pp := ⟨_, rfl⟩
              rw [hpp] at b0 b1 PS ⊢
              have PSH := Lib.hid PS
              clear hpp PS
              go_wp2
              go_round
              case rel => exact ⟨m + 1, by omega, by go_num, by rw [PSH.out]⟩
              case measure => simp [intOf]; omega
            · obtain rfl : m = r := by omega
              obtain ⟨pp, hpp⟩ : ∃ pp, (65536 : Int) ^ m = pp := ⟨_, rfl⟩
              have hy := YH.out
              rw [hpp] at hy ⊢
              clear hpp YH
              go_wp2
              go_roundg (gk - 1)
              case measure => omega
              case rel => exact ⟨k + 1, V', by omega, by go_num, by rw [FSH.out], VSH, ON.apart (by omega) _ _, OR.apart (by omega) _ _, (OW.put q _).as SETH.out, hB.setCell (by show w.heap.size ≤ w.heap.size + 2; omega) _⟩
    · obtain rfl : k = 16 := by omega
      have OV : Own wr (w.heap.size + 2) 23 #[.int .u64 (L0 z), .int .u64 (L1 z), .int .u64 (L2 z), .int .u64 (L3 z)] := OW.as (by rw [← HV.out, W16.out hF.out]; rfl)
      clear OW HV W16 DGD CELL hl
      obtain ⟨c, hc⟩ : ∃ c, (fr u s 16).2 = c := ⟨_, rfl⟩
      rw [hc]
      clear hc
      obtain ⟨P1, P2, P3⟩ := OV.at_
      obtain ⟨R1, R2, R3⟩ := OR.at_
      go_wp2
      refine bodyPost_ret (v := .tuple #[.agg #[.int .u64 (L0 z), .int .u64 (L1 z), .int .u64 (L2 z), .int .u64 (L3 z)], .bool true]) (by simp [results, Tryd.results47, go_sem, R1]) rfl ⟨.inl ⟨hF.out, rfl⟩, ?_⟩
      repeat' (first | (with_reducible exact Below.refl _ _) | (with_reducible assumption) | (with_reducible refine below_drewN ?_ _) | (with_reducible refine Below.drew ?_) | (with_reducible refine Below.alloc ?_ ?_ _) | (with_reducible refine Below.setCell ?_ ?_ _) | (with_reducible refine then_ ?_ (by with_reducible assumption) ?_) | (with_reducible exact Nat.le_refl _) | (with_reducible exact Nat.le_succ _) | (with_reducible exact Nat.le_succ_of_le (by with_reducible assumption)) | omega | (simp; done) | (simp; omega) | (exact Nat.le_succ _) | (exact Nat.le_succ_of_le (by with_reducible assumption)))
end Go.Proofs.YtigcbgehnlilaaaDoor
end
section
namespace Go.Proofs.YtigcbgehnlilaaaDoor
open Go.ChangeShapes Go.WideShapes Go.ChangeAt Go.RowKit
set_option linter.unusedVariables false

set_option maxHeartbeats 16000000 in
set_option maxRecDepth 20000 in
theorem words_3 (T C : Nat) (v : Value) (z : Int) (w : World) (hv : Num w T C v z) (hc : (digs z.natAbs).length = 16 ∧ ¬ 32768 ≤ dg (digs z.natAbs) 15) :
    Calls Tryd.prog 47 #[v] w fun e w' => ((Fit z ∧ e = .returned (.tuple #[.agg #[.int .u64 (L0 z), .int .u64 (L1 z), .int .u64 (L2 z), .int .u64 (L3 z)], .bool true])) ∨ (¬ Fit z ∧ e = .returned (.tuple #[.agg #[.int .u64 0, .int .u64 0, .int .u64 0, .int .u64 0], .bool false]))) ∧ Below w.heap.size w w' := by
  obtain ⟨a, len, cap, rfl, hr⟩ := hv
  have hl := hr.hlen
  have hm0 := hr.hmax
  have hm1 := hr.hcap
  have hm : (len : Int) ≤ 9223372036854775807 := by unfold maxLen at hm0; omega
  have HX := Lib.hid hr.hcells
  have LONG := Lib.hid (long_no (z := z))
  have SMALL := Lib.hid (fit_small (z := z))
  have LEAST := Lib.hid (fit_least (z := z))
  have DGD := Lib.hid (fun k => dg_digs k z.natAbs)
  have W16 := Lib.hid (words_16 (z := z))
  obtain ⟨s, hs⟩ : ∃ s, decide (z < 0) = s := ⟨_, rfl⟩
  rw [hs] at LEAST W16 ⊢
  obtain ⟨zs, hzs⟩ : ∃ zs, digs z.natAbs = zs := ⟨_, rfl⟩
  rw [hzs] at hl HX LONG SMALL LEAST DGD hc
  replace hc := Lib.hid hc
  clear hr hs hzs hm0 hm1
  obtain ⟨u, hu⟩ : ∃ u : Int, (z.natAbs : Int) = u := ⟨_, rfl⟩
  rw [hu] at DGD W16
  clear hu
  go_enter Tryd.func47, Tryd.ntmps47
  go_upto_region 2 with fail
  go_name_world W0 hW0
  have ON : Own W0 w.heap.size 59 #[.bool s, .slice a len cap] := hW0 ▸ (by repeat' (first | (with_reducible assumption) | (with_reducible refine Own.drawnN ?_ _) | (with_reducible refine Own.drawn ?_) | (with_reducible refine Own.made_at ?_; first | rfl | (simp; done) | omega | (simp; omega)) | (with_reducible refine Own.more ?_ _) | (with_reducible refine Own.apart ?_ ?_ _ _; rotate_left; first | omega | (simp; done) | (simp; omega)) | (refine Own.put ?_ _ _)))
  have OR : Own W0 (w.heap.size + 1) 23 #[.int .u64 0, .int .u64 0, .int .u64 0, .int .u64 0] := hW0 ▸ (by repeat' (first | (with_reducible assumption) | (with_reducible refine Own.drawnN ?_ _) | (with_reducible refine Own.drawn ?_) | (with_reducible refine Own.made_at ?_; first | rfl | (simp; done) | omega | (simp; omega)) | (with_reducible refine Own.more ?_ _) | (with_reducible refine Own.apart ?_ ?_ _ _; rotate_left; first | omega | (simp; done) | (simp; omega)) | (refine Own.put ?_ _ _)))
  have OW : Own W0 (w.heap.size + 2) 23 #[.int .u64 0, .int .u64 0, .int .u64 0, .int .u64 0] := hW0 ▸ (by repeat' (first | (with_reducible assumption) | (with_reducible refine Own.drawnN ?_ _) | (with_reducible refine Own.drawn ?_) | (with_reducible refine Own.made_at ?_; first | rfl | (simp; done) | omega | (simp; omega)) | (with_reducible refine Own.more ?_ _) | (with_reducible refine Own.apart ?_ ?_ _ _; rotate_left; first | omega | (simp; done) | (simp; omega)) | (refine Own.put ?_ _ _)))
  have hB : Below w.heap.size w W0 := hW0 ▸ (by repeat' (first | (with_reducible exact Below.refl _ _) | (with_reducible assumption) | (with_reducible refine below_drewN ?_ _) | (with_reducible refine Below.drew ?_) | (with_reducible refine Below.alloc ?_ ?_ _) | (with_reducible refine Below.setCell ?_ ?_ _) | (with_reducible refine then_ ?_ (by with_reducible assumption) ?_) | (with_reducible exact Nat.le_refl _) | (with_reducible exact Nat.le_succ _) | (with_reducible exact Nat.le_succ_of_le (by with_reducible assumption)) | omega | (simp; done) | (simp; omega) | (exact Nat.le_succ _) | (exact Nat.le_succ_of_le (by with_reducible assumption))))
  clear hW0
  have CELL : Hid (∀ k, k < len → ∃ p o, a = some ⟨p, o, none⟩ ∧ w.cell? ⟨p, o + k, none⟩ = some (.int .i64 (dg zs k))) := fun k hk => by
    rcases HX.out with h | ⟨p, o, e1, _, e2⟩
    · rw [h] at hl; simp at hl; omega
    · exact ⟨p, o, e1, e2 k _ (dg_at (by omega))⟩
  clear HX
  obtain ⟨N1, N2, N3⟩ := ON.at_
  obtain ⟨R1, R2, R3⟩ := OR.at_
  obtain ⟨V1, V2, V3⟩ := OW.at_
  by_cases h16 : 16 < len
  · have nf := Lib.hid (LONG.out (by omega))
    have t1 : (16 : Int) < len := by omega
    clear LONG SMALL LEAST DGD W16 CELL hl
    go_wp2
    refine bodyPost_ret (v := .tuple #[.agg #[.int .u64 0, .int .u64 0, .int .u64 0, .int .u64 0], .bool false]) (by simp [results, Tryd.results47, go_sem, R1]) rfl ⟨.inr ⟨nf.out, rfl⟩, ?_⟩
    repeat' (first | (with_reducible exact Below.refl _ _) | (with_reducible assumption) | (with_reducible refine below_drewN ?_ _) | (with_reducible refine Below.drew ?_) | (with_reducible refine Below.alloc ?_ ?_ _) | (with_reducible refine Below.setCell ?_ ?_ _) | (with_reducible refine then_ ?_ (by with_reducible assumption) ?_) | (with_reducible exact Nat.le_refl _) | (with_reducible exact Nat.le_succ _) | (with_reducible exact Nat.le_succ_of_le (by with_reducible assumption)) | omega | (simp; done) | (simp; omega) | (exact Nat.le_succ _) | (exact Nat.le_succ_of_le (by with_reducible assumption)))
  have t1 : ¬ (16 : Int) < len := by omega
  have hsm := Lib.hid (fun h => SMALL.out (by omega) h)
  have hle := Lib.hid (fun h => LEAST.out (by omega) h)
  clear LONG SMALL LEAST
  have TOP : 15 < len → Hid (∃ p o, a = some ⟨p, o, none⟩ ∧ W0.cell? ⟨p, o + 15, none⟩ = some (.int .i64 (dg zs 15))) := fun h => by
    obtain ⟨p, o, e1, e2⟩ := CELL.out 15 h
    exact ⟨p, o, e1, keep hB e2⟩
  have e16 : len = 16 := by have := hc.out.1; omega
  have h1 : ¬ (len = 16 ∧ 32768 ≤ dg zs 15) := fun h => hc.out.2 h.2
  have hF := Lib.hid (hsm.out (by rw [hl]; exact h1))
  obtain ⟨p, o, ha, c15⟩ := (TOP (by omega)).out
  have e16' : (len : Int) = 16 := by omega
  have h2 : dg zs 15 < 32768 := by
    have : ¬ 32768 ≤ dg zs 15 := fun h => h1 ⟨e16, h⟩
    omega
  obtain ⟨x15, hx15⟩ : ∃ x, dg zs 15 = x := ⟨_, rfl⟩
  rw [hx15] at h2 c15
  have h3 : ¬ 32768 ≤ x15 := by omega
  clear hsm hle TOP hx15 h1
  go_upto_region 12 with fail
  clear c15 h2 h3
  go_upto_region 12 with fail
  clear N1 N2 N3 R1 R2 R3 V1 V2 V3 t1 e16 e16'
  try clear ha
  go_wp2
  go_loopg [7, 8] 16 (fun g c i wr => ∃ (k : Nat) (V : Int), g + k = 16 ∧ i = .int .i64 k ∧ c = .int .i64 (fr u s k).2 ∧ Hid (vl (fr u s k).1 = V) ∧ Own wr w.heap.size 59 #[.bool s, .slice a len cap] ∧ Own wr (w.heap.size + 1) 23 #[.int .u64 0, .int .u64 0, .int .u64 0, .int .u64 0] ∧ Own wr (w.heap.size + 2) 23 (wcs V) ∧ Below w.heap.size w wr)
  case atStart => exact ⟨0, 0, rfl, rfl, rfl, Lib.hid rfl, ON, OR, OW.as wcs_zero.symm, hB⟩
  case round =>
    clear ON OR OW hB
    obtain ⟨k, V, hk, rfl, rfl, HV, ON, OR, OW, hB⟩ := hrel
    by_cases h16 : k < 16
    · obtain ⟨g1, g2, g3, g4, _⟩ := fr_ok u s k
      have v0 := vl_nonneg g2
      have v1 := vl_lt g2
      obtain ⟨dd, cc, FS, d0, d1, KK⟩ := fr_key u s k
      have hD := frd_range u k
      have hdo := fun h : len ≤ k => dg_out (zs := zs) (i := k) (by omega)
      have VS : vl (fr u s (k + 1)).1 = V + 65536 ^ k * dd := by rw [FS, vl_snoc, g1, HV.out]
      have FSc : (fr u s (k + 1)).2 = cc := by rw [FS]
      rw [g1, HV.out] at v1
      rw [HV.out] at v0
      obtain ⟨SET, x0, y0, xy⟩ := wcs_set h16 v0 v1 d0 d1
      have GET := wcs_get V h16
      rw [← DGD.out k] at KK hD
      have CK := Lib.hid (CELL.out k)
      obtain ⟨D, hDD⟩ : ∃ D, dg zs k = D := ⟨_, rfl⟩
      rw [hDD] at KK hD hdo CK
      obtain ⟨c, hc⟩ : ∃ c, (fr u s k).2 = c := ⟨_, rfl⟩
      rw [hc] at KK g3 g4 ⊢
      obtain ⟨V', hV'⟩ : ∃ V', V + 65536 ^ k * dd = V' := ⟨_, rfl⟩
      rw [hV'] at SET VS
      obtain ⟨q, hq⟩ : ∃ q : Nat, k / 4 = q := ⟨_, rfl⟩
      obtain ⟨r, hr⟩ : ∃ r : Nat, k % 4 = r := ⟨_, rfl⟩
      obtain ⟨x, hx⟩ : ∃ x, lw V k = x := ⟨_, rfl⟩
      rw [hx] at SET GET x0 xy
      rw [hq] at SET GET
      rw [hr] at SET y0 xy
      obtain ⟨y, hy⟩ : ∃ y, dd * 65536 ^ r = y := ⟨_, rfl⟩
      rw [hy] at SET y0 xy
      have hq2 : (k : Int) / 4 = (q : Int) := by omega
      have hq4 : q < 4 := by omega
      have hr2 : (k : Int) % 4 = (r : Int) := by omega
      have hr4 : r < 4 := by omega
      have SETH := Lib.hid SET
      have VSH := Lib.hid VS
      have FSH := Lib.hid FSc
      have YH := Lib.hid hy
      obtain ⟨P1, P2, P3⟩ := OW.at_
      have P4 : wr.cell? ⟨w.heap.size + 2, q, none⟩ = some (.int .u64 x) := (P1 q).trans GET
      obtain ⟨Q1, Q2, Q3⟩ := ON.at_
      have hBs := hB.size
      obtain ⟨D0, D1⟩ := hD
      clear SET VS FSc FS hy GET hx hq hr hV' hc hDD v0 v1 g1 g2 P1 HV DGD W16 CELL
      have WAY : (k < len ∧ ∃ p o, a = some ⟨p, o, none⟩ ∧ w.cell? ⟨p, o + k, none⟩ = some (.int .i64 D)) ∨ (¬ k < len ∧ D = 0) := by
        by_cases h : k < len
        · exact .inl ⟨h, CK.out h⟩
        · exact .inr ⟨h, hdo (by omega)⟩
      clear hdo CK
      rcases WAY with ⟨hkl, p, o, ha, hc0⟩ | ⟨hkl, hD0⟩
      · have hck := keep hB hc0
        have hkl2 : (k : Int) < len := by omega
        cases ha
        clear hc0
        rcases KK with ⟨rfl, rfl, rfl⟩ | ⟨rfl, rfl, rfl⟩
        all_goals
          go_upto_region 23 with fail
          clear hck
          clear Q1 Q2 Q3
          go_wp2
          go_loop [10, 11] (fun p j => ∃ m : Nat, m ≤ r ∧ j = .int .i64 m ∧ p = .int .u64 (65536 ^ m)) (fun _ j => r - (intOf j).toNat)
          case atStart => exact ⟨0, by omega, rfl, rfl⟩
          case round =>
            obtain ⟨m, hm, rfl, rfl⟩ := hrel
            by_cases hmr : m < r
            · obtain ⟨b0, b1⟩ := pow_small (m := m) (by omega)
              have PS : (65536 : Int) ^ (m + 1) = 65536 ^ m * 65536 := Int.pow_succ _ _
              obtain ⟨pp, hpp⟩ : ∃ pp, (65536 : Int) ^ m = pp := ⟨_, rfl⟩
              rw [hpp] at b0 b1 PS ⊢
              have PSH := Lib.hid PS
              clear hpp PS
              go_wp2
              go_round
              case rel => exact ⟨m + 1, by omega, by go_num, by rw [PSH.out]⟩
              case measure => simp [intOf]; omega
            · obtain rfl : m = r := by omega
              obtain ⟨pp, hpp⟩ : ∃ pp, (65536 : Int) ^ m = pp := ⟨_, rfl⟩
              have hy := YH.out
              rw [hpp] at hy ⊢
              clear hpp YH
              go_wp2
              go_roundg (gk - 1)
              case measure => omega
              case rel => exact ⟨k + 1, V', by omega, by go_num, by rw [FSH.out], VSH, ON.apart (by omega) _ _, OR.apart (by omega) _ _, (OW.put q _).as SETH.out, hB.setCell (by show w.heap.size ≤ w.heap.size + 2; omega) _⟩
      · have hkl2 : ¬ (k : Int) < len := by omega
        subst hD0
        simp only [Int.sub_zero] at KK
        rcases KK with ⟨rfl, rfl, rfl⟩ | ⟨rfl, rfl, rfl⟩
        all_goals
          go_upto_region 23 with fail
          clear Q1 Q2 Q3
          go_wp2
          go_loop [10, 11] (fun p j => ∃ m : Nat, m ≤ r ∧ j = .int .i64 m ∧ p = .int .u64 (65536 ^ m)) (fun _ j => r - (intOf j).toNat)
          case atStart => exact ⟨0, by omega, rfl, rfl⟩
          case round =>
            obtain ⟨m, hm, rfl, rfl⟩ := hrel
            by_cases hmr : m < r
            · obtain ⟨b0, b1⟩ := pow_small (m := m) (by omega)
              have PS : (65536 : Int) ^ (m + 1) = 65536 ^ m * 65536 := Int.pow_succ _ _
              obtain ⟨pp, hpp⟩ : ∃ pp, (65536 : Int) ^ m = pp := ⟨_, rfl⟩
              rw [hpp] at b0 b1 PS ⊢
              have PSH := Lib.hid PS
              clear hpp PS
              go_wp2
              go_round
              case rel => exact ⟨m + 1, by omega, by go_num, by rw [PSH.out]⟩
              case measure => simp [intOf]; omega
            · obtain rfl : m = r := by omega
              obtain ⟨pp, hpp⟩ : ∃ pp, (65536 : Int) ^ m = pp := ⟨_, rfl⟩
              have hy := YH.out
              rw [hpp] at hy ⊢
              clear hpp YH
              go_wp2
              go_roundg (gk - 1)
              case measure => omega
              case rel => exact ⟨k + 1, V', by omega, by go_num, by rw [FSH.out], VSH, ON.apart (by omega) _ _, OR.apart (by omega) _ _, (OW.put q _).as SETH.out, hB.setCell (by show w.heap.size ≤ w.heap.size + 2; omega) _⟩
    · obtain rfl : k = 16 := by omega
      have OV : Own wr (w.heap.size + 2) 23 #[.int .u64 (L0 z), .int .u64 (L1 z), .int .u64 (L2 z), .int .u64 (L3 z)] := OW.as (by rw [← HV.out, W16.out hF.out]; rfl)
      clear OW HV W16 DGD CELL hl
      obtain ⟨c, hc⟩ : ∃ c, (fr u s 16).2 = c := ⟨_, rfl⟩
      rw [hc]
      clear hc
      obtain ⟨P1, P2, P3⟩ := OV.at_
      obtain ⟨R1, R2, R3⟩ := OR.at_
      go_wp2
      refine bodyPost_ret (v := .tuple #[.agg #[.int .u64 (L0 z), .int .u64 (L1 z), .int .u64 (L2 z), .int .u64 (L3 z)], .bool true]) (by simp [results, Tryd.results47, go_sem, R1]) rfl ⟨.inl ⟨hF.out, rfl⟩, ?_⟩
      repeat' (first | (with_reducible exact Below.refl _ _) | (with_reducible assumption) | (with_reducible refine below_drewN ?_ _) | (with_reducible refine Below.drew ?_) | (with_reducible refine Below.alloc ?_ ?_ _) | (with_reducible refine Below.setCell ?_ ?_ _) | (with_reducible refine then_ ?_ (by with_reducible assumption) ?_) | (with_reducible exact Nat.le_refl _) | (with_reducible exact Nat.le_succ _) | (with_reducible exact Nat.le_succ_of_le (by with_reducible assumption)) | omega | (simp; done) | (simp; omega) | (exact Nat.le_succ _) | (exact Nat.le_succ_of_le (by with_reducible assumption)))
end Go.Proofs.YtigcbgehnlilaaaDoor
end
section
namespace Go.Proofs.YtigcbgehnlilaaaDoor
open Go.ChangeShapes Go.WideShapes Go.ChangeAt Go.RowKit
set_option linter.unusedVariables false

set_option maxHeartbeats 16000000 in
set_option maxRecDepth 20000 in
theorem words_1 (T C : Nat) (v : Value) (z : Int) (w : World) (hv : Num w T C v z) (hc : ((digs z.natAbs).length = 16 ∧ 32768 ≤ dg (digs z.natAbs) 15) ∧ decide (z < 0) = false) :
    Calls Tryd.prog 47 #[v] w fun e w' => ((Fit z ∧ e = .returned (.tuple #[.agg #[.int .u64 (L0 z), .int .u64 (L1 z), .int .u64 (L2 z), .int .u64 (L3 z)], .bool true])) ∨ (¬ Fit z ∧ e = .returned (.tuple #[.agg #[.int .u64 0, .int .u64 0, .int .u64 0, .int .u64 0], .bool false]))) ∧ Below w.heap.size w w' := by
  obtain ⟨a, len, cap, rfl, hr⟩ := hv
  have hl := hr.hlen
  have hm0 := hr.hmax
  have hm1 := hr.hcap
  have hm : (len : Int) ≤ 9223372036854775807 := by unfold maxLen at hm0; omega
  have HX := Lib.hid hr.hcells
  have LONG := Lib.hid (long_no (z := z))
  have SMALL := Lib.hid (fit_small (z := z))
  have LEAST := Lib.hid (fit_least (z := z))
  have DGD := Lib.hid (fun k => dg_digs k z.natAbs)
  have W16 := Lib.hid (words_16 (z := z))
  obtain ⟨s, hs⟩ : ∃ s, decide (z < 0) = s := ⟨_, rfl⟩
  rw [hs] at LEAST W16 hc ⊢
  obtain ⟨zs, hzs⟩ : ∃ zs, digs z.natAbs = zs := ⟨_, rfl⟩
  rw [hzs] at hl HX LONG SMALL LEAST DGD hc
  replace hc := Lib.hid hc
  clear hr hs hzs hm0 hm1
  obtain ⟨u, hu⟩ : ∃ u : Int, (z.natAbs : Int) = u := ⟨_, rfl⟩
  rw [hu] at DGD W16
  clear hu
  go_enter Tryd.func47, Tryd.ntmps47
  go_upto_region 2 with fail
  go_name_world W0 hW0
  have ON : Own W0 w.heap.size 59 #[.bool s, .slice a len cap] := hW0 ▸ (by repeat' (first | (with_reducible assumption) | (with_reducible refine Own.drawnN ?_ _) | (with_reducible refine Own.drawn ?_) | (with_reducible refine Own.made_at ?_; first | rfl | (simp; done) | omega | (simp; omega)) | (with_reducible refine Own.more ?_ _) | (with_reducible refine Own.apart ?_ ?_ _ _; rotate_left; first | omega | (simp; done) | (simp; omega)) | (refine Own.put ?_ _ _)))
  have OR : Own W0 (w.heap.size + 1) 23 #[.int .u64 0, .int .u64 0, .int .u64 0, .int .u64 0] := hW0 ▸ (by repeat' (first | (with_reducible assumption) | (with_reducible refine Own.drawnN ?_ _) | (with_reducible refine Own.drawn ?_) | (with_reducible refine Own.made_at ?_; first | rfl | (simp; done) | omega | (simp; omega)) | (with_reducible refine Own.more ?_ _) | (with_reducible refine Own.apart ?_ ?_ _ _; rotate_left; first | omega | (simp; done) | (simp; omega)) | (refine Own.put ?_ _ _)))
  have OW : Own W0 (w.heap.size + 2) 23 #[.int .u64 0, .int .u64 0, .int .u64 0, .int .u64 0] := hW0 ▸ (by repeat' (first | (with_reducible assumption) | (with_reducible refine Own.drawnN ?_ _) | (with_reducible refine Own.drawn ?_) | (with_reducible refine Own.made_at ?_; first | rfl | (simp; done) | omega | (simp; omega)) | (with_reducible refine Own.more ?_ _) | (with_reducible refine Own.apart ?_ ?_ _ _; rotate_left; first | omega | (simp; done) | (simp; omega)) | (refine Own.put ?_ _ _)))
  have hB : Below w.heap.size w W0 := hW0 ▸ (by repeat' (first | (with_reducible exact Below.refl _ _) | (with_reducible assumption) | (with_reducible refine below_drewN ?_ _) | (with_reducible refine Below.drew ?_) | (with_reducible refine Below.alloc ?_ ?_ _) | (with_reducible refine Below.setCell ?_ ?_ _) | (with_reducible refine then_ ?_ (by with_reducible assumption) ?_) | (with_reducible exact Nat.le_refl _) | (with_reducible exact Nat.le_succ _) | (with_reducible exact Nat.le_succ_of_le (by with_reducible assumption)) | omega | (simp; done) | (simp; omega) | (exact Nat.le_succ _) | (exact Nat.le_succ_of_le (by with_reducible assumption))))
  clear hW0
  have CELL : Hid (∀ k, k < len → ∃ p o, a = some ⟨p, o, none⟩ ∧ w.cell? ⟨p, o + k, none⟩ = some (.int .i64 (dg zs k))) := fun k hk => by
    rcases HX.out with h | ⟨p, o, e1, _, e2⟩
    · rw [h] at hl; simp at hl; omega
    · exact ⟨p, o, e1, e2 k _ (dg_at (by omega))⟩
  clear HX
  obtain ⟨N1, N2, N3⟩ := ON.at_
  obtain ⟨R1, R2, R3⟩ := OR.at_
  obtain ⟨V1, V2, V3⟩ := OW.at_
  by_cases h16 : 16 < len
  · have nf := Lib.hid (LONG.out (by omega))
    have t1 : (16 : Int) < len := by omega
    clear LONG SMALL LEAST DGD W16 CELL hl
    go_wp2
    refine bodyPost_ret (v := .tuple #[.agg #[.int .u64 0, .int .u64 0, .int .u64 0, .int .u64 0], .bool false]) (by simp [results, Tryd.results47, go_sem, R1]) rfl ⟨.inr ⟨nf.out, rfl⟩, ?_⟩
    repeat' (first | (with_reducible exact Below.refl _ _) | (with_reducible assumption) | (with_reducible refine below_drewN ?_ _) | (with_reducible refine Below.drew ?_) | (with_reducible refine Below.alloc ?_ ?_ _) | (with_reducible refine Below.setCell ?_ ?_ _) | (with_reducible refine then_ ?_ (by with_reducible assumption) ?_) | (with_reducible exact Nat.le_refl _) | (with_reducible exact Nat.le_succ _) | (with_reducible exact Nat.le_succ_of_le (by with_reducible assumption)) | omega | (simp; done) | (simp; omega) | (exact Nat.le_succ _) | (exact Nat.le_succ_of_le (by with_reducible assumption)))
  have t1 : ¬ (16 : Int) < len := by omega
  have hsm := Lib.hid (fun h => SMALL.out (by omega) h)
  have hle := Lib.hid (fun h => LEAST.out (by omega) h)
  clear LONG SMALL LEAST
  have TOP : 15 < len → Hid (∃ p o, a = some ⟨p, o, none⟩ ∧ W0.cell? ⟨p, o + 15, none⟩ = some (.int .i64 (dg zs 15))) := fun h => by
    obtain ⟨p, o, e1, e2⟩ := CELL.out 15 h
    exact ⟨p, o, e1, keep hB e2⟩
  have h1 : len = 16 ∧ 32768 ≤ dg zs 15 := ⟨by have := hc.out.1.1; omega, hc.out.1.2⟩
  have hs0 := hc.out.2
  obtain ⟨e16, h2⟩ := h1
  obtain ⟨p, o, ha, c15⟩ := (TOP (by omega)).out
  have e16' : (len : Int) = 16 := by omega
  have CELL2 : Hid (∀ k, k < 16 → W0.cell? ⟨p, o + k, none⟩ = some (.int .i64 (dg zs k))) := fun k hk => by
    obtain ⟨p', o', e1, e2⟩ := CELL.out k (by omega)
    rw [ha] at e1
    cases e1
    exact keep hB e2
  obtain ⟨x15, hx15⟩ : ∃ x, dg zs 15 = x := ⟨_, rfl⟩
  rw [hx15] at h2 c15 hle
  obtain ⟨b0, hb0⟩ : ∃ b, (x15 == 32768) = b := ⟨_, rfl⟩
  have hb0' : b0 = true ↔ x15 = 32768 := by rw [← hb0]; simp
  have LZ0 : Hid ((s && b0) = true ↔ (s = true ∧ x15 = 32768 ∧ ∀ j, j < 0 → dg zs j = 0)) := by
    unfold Hid
    rw [Bool.and_eq_true, hb0']
    exact ⟨fun ⟨a, b⟩ => ⟨a, b, fun j hj => by omega⟩, fun ⟨a, b, _⟩ => ⟨a, b⟩⟩
  have hlf := Lib.hid (hle.out h2)
  clear hsm hle TOP hx15 hb0'
  have L : ∀ l0 : Bool, (s && b0) = l0 → Hid (l0 = true ↔ (s = true ∧ x15 = 32768 ∧ ∀ j, j < 0 → dg zs j = 0)) := fun l0 h => h ▸ LZ0
  have LL := Lib.hid L
  clear LZ0 L
  go_upto_region 6 with fail
  have LS := LL.out _ (by rw [hs0])
  clear c15 h2 hb0 LL hs0
  go_wp2
  go_loop [5, 6] (fun l i => ∃ (k : Nat) (b : Bool), k ≤ 15 ∧ i = .int .i64 k ∧ l = .bool b ∧ Hid (b = true ↔ (s = true ∧ x15 = 32768 ∧ ∀ j, j < k → dg zs j = 0))) (fun _ i => 15 - (intOf i).toNat)
  case atStart => exact ⟨0, _, by omega, rfl, rfl, LS⟩
  case round =>
    obtain ⟨k, b, hk, rfl, rfl, HI⟩ := hrel
    by_cases hk15 : k < 15
    · have ck := CELL2.out k (by omega)
      obtain ⟨x, hx⟩ : ∃ x, dg zs k = x := ⟨_, rfl⟩
      rw [hx] at ck
      obtain ⟨t, ht⟩ : ∃ t, (x == 0) = t := ⟨_, rfl⟩
      have HJ : Hid ((b && t) = true ↔ (s = true ∧ x15 = 32768 ∧ ∀ j, j < k + 1 → dg zs j = 0)) := by
        unfold Hid
        rw [Bool.and_eq_true, HI.out]
        refine ⟨fun ⟨⟨a, b, c⟩, d⟩ => ⟨a, b, fun j hj => ?_⟩, fun ⟨a, b, c⟩ => ⟨⟨a, b, fun j hj => c j (by omega)⟩, by rw [← ht, ← hx, c k (by omega)]; rfl⟩⟩
        by_cases e : j = k
        · subst e; rw [hx]; simpa [← ht] using d
        · exact c j (by omega)
      clear hx HI LS
      cases b with
      | false =>
        go_wp2
        go_round
        case rel => exact ⟨k + 1, false, by omega, by go_num, rfl, HJ⟩
        case measure => first | (simp [intOf]; done) | (simp [intOf]; omega)
      | true =>
        go_wp2
        go_round
        case rel => exact ⟨k + 1, t, by omega, by go_num, rfl, HJ⟩
        case measure => first | (simp [intOf]; done) | (simp [intOf]; omega)
    · obtain rfl : k = 15 := by omega
      cases b with
      | false =>
        have nf : Hid (¬ Fit z) := fun h => by
          have := HI.out.2 (hlf.out.1 h)
          cases this
        clear HI LS hlf CELL CELL2 DGD W16
        go_wp2
        refine bodyPost_ret (v := .tuple #[.agg #[.int .u64 0, .int .u64 0, .int .u64 0, .int .u64 0], .bool false]) (by simp [results, Tryd.results47, go_sem, R1]) rfl ⟨.inr ⟨nf.out, rfl⟩, ?_⟩
        repeat' (first | (with_reducible exact Below.refl _ _) | (with_reducible assumption) | (with_reducible refine below_drewN ?_ _) | (with_reducible refine Below.drew ?_) | (with_reducible refine Below.alloc ?_ ?_ _) | (with_reducible refine Below.setCell ?_ ?_ _) | (with_reducible refine then_ ?_ (by with_reducible assumption) ?_) | (with_reducible exact Nat.le_refl _) | (with_reducible exact Nat.le_succ _) | (with_reducible exact Nat.le_succ_of_le (by with_reducible assumption)) | omega | (simp; done) | (simp; omega) | (exact Nat.le_succ _) | (exact Nat.le_succ_of_le (by with_reducible assumption)))
      | true =>
        have hF := Lib.hid (hlf.out.2 (HI.out.1 rfl))
        clear HI LS hlf CELL2
        go_upto_region 12 with fail
        clear N1 N2 N3 R1 R2 R3 V1 V2 V3 t1 e16 e16'
        try clear ha
        go_wp2
        go_loopg [7, 8] 16 (fun g c i wr => ∃ (k : Nat) (V : Int), g + k = 16 ∧ i = .int .i64 k ∧ c = .int .i64 (fr u s k).2 ∧ Hid (vl (fr u s k).1 = V) ∧ Own wr w.heap.size 59 #[.bool s, .slice a len cap] ∧ Own wr (w.heap.size + 1) 23 #[.int .u64 0, .int .u64 0, .int .u64 0, .int .u64 0] ∧ Own wr (w.heap.size + 2) 23 (wcs V) ∧ Below w.heap.size w wr)
        case atStart => exact ⟨0, 0, rfl, rfl, rfl, Lib.hid rfl, ON, OR, OW.as wcs_zero.symm, hB⟩
        case round =>
          clear ON OR OW hB
          obtain ⟨k, V, hk, rfl, rfl, HV, ON, OR, OW, hB⟩ := hrel
          by_cases h16 : k < 16
          · obtain ⟨g1, g2, g3, g4, _⟩ := fr_ok u s k
            have v0 := vl_nonneg g2
            have v1 := vl_lt g2
            obtain ⟨dd, cc, FS, d0, d1, KK⟩ := fr_key u s k
            have hD := frd_range u k
            have hdo := fun h : len ≤ k => dg_out (zs := zs) (i := k) (by omega)
            have VS : vl (fr u s (k + 1)).1 = V + 65536 ^ k * dd := by rw [FS, vl_snoc, g1, HV.out]
            have FSc : (fr u s (k + 1)).2 = cc := by rw [FS]
            rw [g1, HV.out] at v1
            rw [HV.out] at v0
            obtain ⟨SET, x0, y0, xy⟩ := wcs_set h16 v0 v1 d0 d1
            have GET := wcs_get V h16
            rw [← DGD.out k] at KK hD
            have CK := Lib.hid (CELL.out k)
            obtain ⟨D, hDD⟩ : ∃ D, dg zs k = D := ⟨_, rfl⟩
            rw [hDD] at KK hD hdo CK
            obtain ⟨c, hc⟩ : ∃ c, (fr u s k).2 = c := ⟨_, rfl⟩
            rw [hc] at KK g3 g4 ⊢
            obtain ⟨V', hV'⟩ : ∃ V', V + 65536 ^ k * dd = V' := ⟨_, rfl⟩
            rw [hV'] at SET VS
            obtain ⟨q, hq⟩ : ∃ q : Nat, k / 4 = q := ⟨_, rfl⟩
            obtain ⟨r, hr⟩ : ∃ r : Nat, k % 4 = r := ⟨_, rfl⟩
            obtain ⟨x, hx⟩ : ∃ x, lw V k = x := ⟨_, rfl⟩
            rw [hx] at SET GET x0 xy
            rw [hq] at SET GET
            rw [hr] at SET y0 xy
            obtain ⟨y, hy⟩ : ∃ y, dd * 65536 ^ r = y := ⟨_, rfl⟩
            rw [hy] at SET y0 xy
            have hq2 : (k : Int) / 4 = (q : Int) := by omega
            have hq4 : q < 4 := by omega
            have hr2 : (k : Int) % 4 = (r : Int) := by omega
            have hr4 : r < 4 := by omega
            have SETH := Lib.hid SET
            have VSH := Lib.hid VS
            have FSH := Lib.hid FSc
            have YH := Lib.hid hy
            obtain ⟨P1, P2, P3⟩ := OW.at_
            have P4 : wr.cell? ⟨w.heap.size + 2, q, none⟩ = some (.int .u64 x) := (P1 q).trans GET
            obtain ⟨Q1, Q2, Q3⟩ := ON.at_
            have hBs := hB.size
            obtain ⟨D0, D1⟩ := hD
            clear SET VS FSc FS hy GET hx hq hr hV' hc hDD v0 v1 g1 g2 P1 HV DGD W16 CELL
            have WAY : (k < len ∧ ∃ p o, a = some ⟨p, o, none⟩ ∧ w.cell? ⟨p, o + k, none⟩ = some (.int .i64 D)) ∨ (¬ k < len ∧ D = 0) := by
              by_cases h : k < len
              · exact .inl ⟨h, CK.out h⟩
              · exact .inr ⟨h, hdo (by omega)⟩
            clear hdo CK
            rcases WAY with ⟨hkl, p, o, ha, hc0⟩ | ⟨hkl, hD0⟩
            · have hck := keep hB hc0
              have hkl2 : (k : Int) < len := by omega
              cases ha
              clear hc0
              rcases KK with ⟨rfl, rfl, rfl⟩ | ⟨rfl, rfl, rfl⟩
              all_goals
                go_upto_region 23 with fail
                clear hck
                clear Q1 Q2 Q3
                go_wp2
                go_loop [10, 11] (fun p j => ∃ m : Nat, m ≤ r ∧ j = .int .i64 m ∧ p = .int .u64 (65536 ^ m)) (fun _ j => r - (intOf j).toNat)
                case atStart => exact ⟨0, by omega, rfl, rfl⟩
                case round =>
                  obtain ⟨m, hm, rfl, rfl⟩ := hrel
                  by_cases hmr : m < r
                  · obtain ⟨b0, b1⟩ := pow_small (m := m) (by omega)
                    have PS : (65536 : Int) ^ (m + 1) = 65536 ^ m * 65536 := Int.pow_succ _ _
                    obtain ⟨pp, hpp⟩ : ∃ pp, (65536 : Int) ^ m = pp := ⟨_, rfl⟩
                    rw [hpp] at b0 b1 PS ⊢
                    have PSH := Lib.hid PS
                    clear hpp PS
                    go_wp2
                    go_round
                    case rel => exact ⟨m + 1, by omega, by go_num, by rw [PSH.out]⟩
                    case measure => simp [intOf]; omega
                  · obtain rfl : m = r := by omega
                    obtain ⟨pp, hpp⟩ : ∃ pp, (65536 : Int) ^ m = pp := ⟨_, rfl⟩
                    have hy := YH.out
                    rw [hpp] at hy ⊢
                    clear hpp YH
                    go_wp2
                    go_roundg (gk - 1)
                    case measure => omega
                    case rel => exact ⟨k + 1, V', by omega, by go_num, by rw [FSH.out], VSH, ON.apart (by omega) _ _, OR.apart (by omega) _ _, (OW.put q _).as SETH.out, hB.setCell (by show w.heap.size ≤ w.heap.size + 2; omega) _⟩
            · have hkl2 : ¬ (k : Int) < len := by omega
              subst hD0
              simp only [Int.sub_zero] at KK
              rcases KK with ⟨rfl, rfl, rfl⟩ | ⟨rfl, rfl, rfl⟩
              all_goals
                go_upto_region 23 with fail
                clear Q1 Q2 Q3
                go_wp2
                go_loop [10, 11] (fun p j => ∃ m : Nat, m ≤ r ∧ j = .int .i64 m ∧ p = .int .u64 (65536 ^ m)) (fun _ j => r - (intOf j).toNat)
                case atStart => exact ⟨0, by omega, rfl, rfl⟩
                case round =>
                  obtain ⟨m, hm, rfl, rfl⟩ := hrel
                  by_cases hmr : m < r
                  · obtain ⟨b0, b1⟩ := pow_small (m := m) (by omega)
                    have PS : (65536 : Int) ^ (m + 1) = 65536 ^ m * 65536 := Int.pow_succ _ _
                    obtain ⟨pp, hpp⟩ : ∃ pp, (65536 : Int) ^ m = pp := ⟨_, rfl⟩
                    rw [hpp] at b0 b1 PS ⊢
                    have PSH := Lib.hid PS
                    clear hpp PS
                    go_wp2
                    go_round
                    case rel => exact ⟨m + 1, by omega, by go_num, by rw [PSH.out]⟩
                    case measure => simp [intOf]; omega
                  · obtain rfl : m = r := by omega
                    obtain ⟨pp, hpp⟩ : ∃ pp, (65536 : Int) ^ m = pp := ⟨_, rfl⟩
                    have hy := YH.out
                    rw [hpp] at hy ⊢
                    clear hpp YH
                    go_wp2
                    go_roundg (gk - 1)
                    case measure => omega
                    case rel => exact ⟨k + 1, V', by omega, by go_num, by rw [FSH.out], VSH, ON.apart (by omega) _ _, OR.apart (by omega) _ _, (OW.put q _).as SETH.out, hB.setCell (by show w.heap.size ≤ w.heap.size + 2; omega) _⟩
          · obtain rfl : k = 16 := by omega
            have OV : Own wr (w.heap.size + 2) 23 #[.int .u64 (L0 z), .int .u64 (L1 z), .int .u64 (L2 z), .int .u64 (L3 z)] := OW.as (by rw [← HV.out, W16.out hF.out]; rfl)
            clear OW HV W16 DGD CELL hl
            obtain ⟨c, hc⟩ : ∃ c, (fr u s 16).2 = c := ⟨_, rfl⟩
            rw [hc]
            clear hc
            obtain ⟨P1, P2, P3⟩ := OV.at_
            obtain ⟨R1, R2, R3⟩ := OR.at_
            go_wp2
            refine bodyPost_ret (v := .tuple #[.agg #[.int .u64 (L0 z), .int .u64 (L1 z), .int .u64 (L2 z), .int .u64 (L3 z)], .bool true]) (by simp [results, Tryd.results47, go_sem, R1]) rfl ⟨.inl ⟨hF.out, rfl⟩, ?_⟩
            repeat' (first | (with_reducible exact Below.refl _ _) | (with_reducible assumption) | (with_reducible refine below_drewN ?_ _) | (with_reducible refine Below.drew ?_) | (with_reducible refine Below.alloc ?_ ?_ _) | (with_reducible refine Below.setCell ?_ ?_ _) | (with_reducible refine then_ ?_ (by with_reducible assumption) ?_) | (with_reducible exact Nat.le_refl _) | (with_reducible exact Nat.le_succ _) | (with_reducible exact Nat.le_succ_of_le (by with_reducible assumption)) | omega | (simp; done) | (simp; omega) | (exact Nat.le_succ _) | (exact Nat.le_succ_of_le (by with_reducible assumption)))
end Go.Proofs.YtigcbgehnlilaaaDoor
end
