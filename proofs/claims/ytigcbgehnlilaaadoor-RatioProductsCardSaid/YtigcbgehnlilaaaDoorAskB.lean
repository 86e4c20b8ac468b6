/- merged: The contract of croftref03.Words, sixteen digits, the highest 32768 or more, below nought. The contract of croftref03.Gcd: the greatest number that divides both. The contract of croftref03.Words: the four words of a number, where it fits. The contracts of croftref04.of, of croftref03.Neg and Words as the fractions want them. The contracts of croftref04.one, Right, Sign: whether a fraction is right, and its sign. Conditions: numbers that a wide.Int can be. The contracts of croftref04.Text and Cmp. Conditions: numbers that a wide.Int can be. -/
import Derived.Test.YtigcbgehnlilaaaDoorRefV1
import Derived.Deep.LoopGhost
import Derived.Test.YtigcbgehnlilaaaDoorDivA
import Derived.Test.YtigcbgehnlilaaaDoorFbA
import Derived.Test.YtigcbgehnlilaaaDoorRatM
import Derived.Test.YtigcbgehnlilaaaDoorSeq
import Derived.Test.YtigcbgehnlilaaaDoorRefG
section
namespace Go.Proofs.YtigcbgehnlilaaaDoor
open Go.ChangeShapes Go.WideShapes Go.ChangeAt Go.RowKit
set_option linter.unusedVariables false

set_option maxHeartbeats 16000000 in
set_option maxRecDepth 20000 in
theorem words_2 (T C : Nat) (v : Value) (z : Int) (w : World) (hv : Num w T C v z) (hc : ((digs z.natAbs).length = 16 ∧ 32768 ≤ dg (digs z.natAbs) 15) ∧ decide (z < 0) = true) :
    Calls Tryd.prog 47 #[v] w fun e w' => ((Fit z ∧ e = .returned (.tuple #[.agg #[.int .u64 (L0 z), .int .u64 (L1 z), .int .u64 (L2 z), .int .u64 (L3 z)], .bool true])) ∨ (¬ Fit z ∧ e = .returned (.tuple #[.agg #[.int .u64 0, .int .u64 0, .int .u64 0, .int .u64 0], .bool false]))) ∧ Below w.heap.size w w' := by
  obtain ⟨a, len, cap, rfl, hr⟩ := hv
  have hl := hr.hlen
  have hm0 := hr.hmax
  have hm1 := hr.hcap
  have hm : (len : Int) ≤ 9223372036854775807 := by unfold maxLen at hm0; omega
  have HX := Lib.hid hr.hcells
  have LONG := Lib.hid (long_no (z := z))
  have SMALL := Lib.hid (fit_small (z := z))
  have LEAST := Lib.hid (fit_least (z := z))
  have DGD := Lib.hid (fun k => dg_digs k z.natAbs)
  have W16 := Lib.hid (words_16 (z := z))
  obtain ⟨s, hs⟩ : ∃ s, decide (z < 0) = s := ⟨_, rfl⟩
  rw [hs] at LEAST W16 hc ⊢
  obtain ⟨zs, hzs⟩ : ∃ zs, digs z.natAbs = zs := ⟨_, rfl⟩
  rw [hzs] at hl HX LONG SMALL LEAST DGD hc
  replace hc := Lib.hid hc
  clear hr hs hzs hm0 hm1
  obtain ⟨u, hu⟩ : ∃ u : Int, (z.natAbs : Int) = u := ⟨_, rfl⟩
  rw [hu] at DGD W16
  clear hu
  go_enter Tryd.func47, Tryd.ntmps47
  go_upto_region 2 with fail
  go_name_world W0 hW0
  have ON : Own W0 w.heap.size 59 #[.bool s, .slice a len cap] := hW0 ▸ (by repeat' (first | (with_reducible assumption) | (with_reducible refine Own.drawnN ?_ _) | (with_reducible refine Own.drawn ?_) | (with_reducible refine Own.made_at ?_; first | rfl | (simp; done) | omega | (simp; omega)) | (with_reducible refine Own.more ?_ _) | (with_reducible refine Own.apart ?_ ?_ _ _; rotate_left; first | omega | (simp; done) | (simp; omega)) | (refine Own.put ?_ _ _)))
  have OR : Own W0 (w.heap.size + 1) 23 #[.int .u64 0, .int .u64 0, .int .u64 0, .int .u64 0] := hW0 ▸ (by repeat' (first | (with_reducible assumption) | (with_reducible refine Own.drawnN ?_ _) | (with_reducible refine Own.drawn ?_) | (with_reducible refine Own.made_at ?_; first | rfl | (simp; done) | omega | (simp; omega)) | (with_reducible refine Own.more ?_ _) | (with_reducible refine Own.apart ?_ ?_ _ _; rotate_left; first | omega | (simp; done) | (simp; omega)) | (refine Own.put ?_ _ _)))
  have OW : Own W0 (w.heap.size + 2) 23 #[.int .u64 0, .int .u64 0, .int .u64 0, .int .u64 0] := hW0 ▸ (by repeat' (first | (with_reducible assumption) | (with_reducible refine Own.drawnN ?_ _) | (with_reducible refine Own.drawn ?_) | (with_reducible refine Own.made_at ?_; first | rfl | (simp; done) | omega | (simp; omega)) | (with_reducible refine Own.more ?_ _) | (with_reducible refine Own.apart ?_ ?_ _ _; rotate_left; first | omega | (simp; done) | (simp; omega)) | (refine Own.put ?_ _ _)))
  have hB : Below w.heap.size w W0 := hW0 ▸ (by repeat' (first | (with_reducible exact Below.refl _ _) | (with_reducible assumption) | (with_reducible refine below_drewN ?_ _) | (with_reducible refine Below.drew ?_) | (with_reducible refine Below.alloc ?_ ?_ _) | (with_reducible refine Below.setCell ?_ ?_ _) | (with_reducible refine then_ ?_ (by with_reducible assumption) ?_) | (with_reducible exact Nat.le_refl _) | (with_reducible exact Nat.le_succ _) | (with_reducible exact Nat.le_succ_of_le (by with_reducible assumption)) | omega | (simp; done) | (simp; omega) | (exact Nat.le_succ _) | (exact Nat.le_succ_of_le (by with_reducible assumption))))
  clear hW0
  have CELL : Hid (∀ k, k < len → ∃ p o, a = some ⟨p, o, none⟩ ∧ w.cell? ⟨p, o + k, none⟩ = some (.int .i64 (dg zs k))) := fun k hk => by
    rcases HX.out with h | ⟨p, o, e1, _, e2⟩
    · rw [h] at hl; simp at hl; omega
    · exact ⟨p, o, e1, e2 k _ (dg_at (by omega))⟩
  clear HX
  obtain ⟨N1, N2, N3⟩ := ON.at_
  obtain ⟨R1, R2, R3⟩ := OR.at_
  obtain ⟨V1, V2, V3⟩ := OW.at_
  by_cases h16 : 16 < len
  · have nf := Lib.hid (LONG.out (by omega))
    have t1 : (16 : Int) < len := by omega
    clear LONG SMALL LEAST DGD W16 CELL hl
    go_wp2
    refine bodyPost_ret (v := .tuple #[.agg #[.int .u64 0, .int .u64 0, .int .u64 0, .int .u64 0], .bool false]) (by simp [results, Tryd.results47, go_sem, R1]) rfl ⟨.inr ⟨nf.out, rfl⟩, ?_⟩
    repeat' (first | (with_reducible exact Below.refl _ _) | (with_reducible assumption) | (with_reducible refine below_drewN ?_ _) | (with_reducible refine Below.drew ?_) | (with_reducible refine Below.alloc ?_ ?_ _) | (with_reducible refine Below.setCell ?_ ?_ _) | (with_reducible refine then_ ?_ (by with_reducible assumption) ?_) | (with_reducible exact Nat.le_refl _) | (with_reducible exact Nat.le_succ _) | (with_reducible exact Nat.le_succ_of_le (by with_reducible assumption)) | omega | (simp; done) | (simp; omega) | (exact Nat.le_succ _) | (exact Nat.le_succ_of_le (by with_reducible assumption)))
  have t1 : ¬ (16 : Int) < len := by omega
  have hsm := Lib.hid (fun h => SMALL.out (by omega) h)
  have hle := Lib.hid (fun h => LEAST.out (by omega) h)
  clear LONG SMALL LEAST
  have TOP : 15 < len → Hid (∃ p o, a = some ⟨p, o, none⟩ ∧ W0.cell? ⟨p, o + 15, none⟩ = some (.int .i64 (dg zs 15))) := fun h => by
    obtain ⟨p, o, e1, e2⟩ := CELL.out 15 h
    exact ⟨p, o, e1, keep hB e2⟩
  have h1 : len = 16 ∧ 32768 ≤ dg zs 15 := ⟨by have := hc.out.1.1; omega, hc.out.1.2⟩
  have hs0 := hc.out.2
  obtain ⟨e16, h2⟩ := h1
  obtain ⟨p, o, ha, c15⟩ := (TOP (by omega)).out
  have e16' : (len : Int) = 16 := by omega
  have CELL2 : Hid (∀ k, k < 16 → W0.cell? ⟨p, o + k, none⟩ = some (.int .i64 (dg zs k))) := fun k hk => by
    obtain ⟨p', o', e1, e2⟩ := CELL.out k (by omega)
    rw [ha] at e1
    cases e1
    exact keep hB e2
  obtain ⟨x15, hx15⟩ : ∃ x, dg zs 15 = x := ⟨_, rfl⟩
  rw [hx15] at h2 c15 hle
  obtain ⟨b0, hb0⟩ : ∃ b, (x15 == 32768) = b := ⟨_, rfl⟩
  have hb0' : b0 = true ↔ x15 = 32768 := by rw [← hb0]; simp
  have LZ0 : Hid ((s && b0) = true ↔ (s = true ∧ x15 = 32768 ∧ ∀ j, j < 0 → dg zs j = 0)) := by
    unfold Hid
    rw [Bool.and_eq_true, hb0']
    exact ⟨fun ⟨a, b⟩ => ⟨a, b, fun j hj => by omega⟩, fun ⟨a, b, _⟩ => ⟨a, b⟩⟩
  have hlf := Lib.hid (hle.out h2)
  clear hsm hle TOP hx15 hb0'
  have L : ∀ l0 : Bool, (s && b0) = l0 → Hid (l0 = true ↔ (s = true ∧ x15 = 32768 ∧ ∀ j, j < 0 → dg zs j = 0)) := fun l0 h => h ▸ LZ0
  have LL := Lib.hid L
  clear LZ0 L
  go_upto_region 6 with fail
  have LS := LL.out _ (by rw [hs0])
  clear c15 h2 hb0 LL hs0
  go_wp2
  go_loop [5, 6] (fun l i => ∃ (k : Nat) (b : Bool), k ≤ 15 ∧ i = .int .i64 k ∧ l = .bool b ∧ Hid (b = true ↔ (s = true ∧ x15 = 32768 ∧ ∀ j, j < k → dg zs j = 0))) (fun _ i => 15 - (intOf i).toNat)
  case atStart => exact ⟨0, _, by omega, rfl, rfl, LS⟩
  case round =>
    obtain ⟨k, b, hk, rfl, rfl, HI⟩ := hrel
    by_cases hk15 : k < 15
    · have ck := CELL2.out k (by omega)
      obtain ⟨x, hx⟩ : ∃ x, dg zs k = x := ⟨_, rfl⟩
      rw [hx] at ck
      obtain ⟨t, ht⟩ : ∃ t, (x == 0) = t := ⟨_, rfl⟩
      have HJ : Hid ((b && t) = true ↔ (s = true ∧ x15 = 32768 ∧ ∀ j, j < k + 1 → dg zs j = 0)) := by
        unfold Hid
        rw [Bool.and_eq_true, HI.out]
        refine ⟨fun ⟨⟨a, b, c⟩, d⟩ => ⟨a, b, fun j hj => ?_⟩, fun ⟨a, b, c⟩ => ⟨⟨a, b, fun j hj => c j (by omega)⟩, by rw [← ht, ← hx, c k (by omega)]; rfl⟩⟩
        by_cases e : j = k
        · subst e; rw [hx]; simpa [← ht] using d
        · exact c j (by omega)
      clear hx HI LS
      cases b with
      | false =>
        go_wp2
        go_round
        case rel => exact ⟨k + 1, false, by omega, by go_num, rfl, HJ⟩
        case measure => first | (simp [intOf]; done) | (simp [intOf]; omega)
      | true =>
        go_wp2
        go_round
        case rel => exact ⟨k + 1, t, by omega, by go_num, rfl, HJ⟩
        case measure => first | (simp [intOf]; done) | (simp [intOf]; omega)
    · obtain rfl : k = 15 := by omega
      cases b with
      | false =>
        have nf : Hid (¬ Fit z) := fun h => by
          have := HI.out.2 (hlf.out.1 h)
          cases this
        clear HI LS hlf CELL CELL2 DGD W16
        go_wp2
        refine bodyPost_ret (v := .tuple #[.agg #[.int .u64 0, .int .u64 0, .int .u64 0, .int .u64 0], .bool false]) (by simp [results, Tryd.results47, go_sem, R1]) rfl ⟨.inr ⟨nf.out, rfl⟩, ?_⟩
        repeat' (first | (with_reducible exact Below.refl _ _) | (with_reducible assumption) | (with_reducible refine below_drewN ?_ _) | (with_reducible refine Below.drew ?_) | (with_reducible refine Below.alloc ?_ ?_ _) | (with_reducible refine Below.setCell ?_ ?_ _) | (with_reducible refine then_ ?_ (by with_reducible assumption) ?_) | (with_reducible exact Nat.le_refl _) | (with_reducible exact Nat.le_succ _) | (with_reducible exact Nat.le_succ_of_le (by with_reducible assumption)) | omega | (simp; done) | (simp; omega) | (exact Nat.le_succ _) | (exact Nat.le_succ_of_le (by with_reducible assumption)))
      | true =>
        have hF := Lib.hid (hlf.out.2 (HI.out.1 rfl))
        clear HI LS hlf CELL2
        go_upto_region 12 with fail
        clear N1 N2 N3 R1 R2 R3 V1 V2 V3 t1 e16 e16'
        try clear ha
        go_wp2
        go_loopg [7, 8] 16 (fun g c i wr => ∃ (k : Nat) (V : Int), g + k = 16 ∧ i = .int .i64 k ∧ c = .int .i64 (fr u s k).2 ∧ Hid (vl (fr u s k).1 = V) ∧ Own wr w.heap.size 59 #[.bool s, .slice a len cap] ∧ Own wr (w.heap.size + 1) 23 #[.int .u64 0, .int .u64 0, .int .u64 0, .int .u64 0] ∧ Own wr (w.heap.size + 2) 23 (wcs V) ∧ Below w.heap.size w wr)
        case atStart => exact ⟨0, 0, rfl, rfl, rfl, Lib.hid rfl, ON, OR, OW.as wcs_zero.symm, hB⟩
        case round =>
          clear ON OR OW hB
          obtain ⟨k, V, hk, rfl, rfl, HV, ON, OR, OW, hB⟩ := hrel
          by_cases h16 : k < 16
          · obtain ⟨g1, g2, g3, g4, _⟩ := fr_ok u s k
            have v0 := vl_nonneg g2
            have v1 := vl_lt g2
            obtain ⟨dd, cc, FS, d0, d1, KK⟩ := fr_key u s k
            have hD := frd_range u k
            have hdo := fun h : len ≤ k => dg_out (zs := zs) (i := k) (by omega)
            have VS : vl (fr u s (k + 1)).1 = V + 65536 ^ k * dd := by rw [FS, vl_snoc, g1, HV.out]
            have FSc : (fr u s (k + 1)).2 = cc := by rw [FS]
            rw [g1, HV.out] at v1
            rw [HV.out] at v0
            obtain ⟨SET, x0, y0, xy⟩ := wcs_set h16 v0 v1 d0 d1
            have GET := wcs_get V h16
            rw [← DGD.out k] at KK hD
            have CK := Lib.hid (CELL.out k)
            obtain ⟨D, hDD⟩ : ∃ D, dg zs k = D := ⟨_, rfl⟩
            rw [hDD] at KK hD hdo CK
            obtain ⟨c, hc⟩ : ∃ c, (fr u s k).2 = c := ⟨_, rfl⟩
            rw [hc] at KK g3 g4 ⊢
            obtain ⟨V', hV'⟩ : ∃ V', V + 65536 ^ k * dd = V' := ⟨_, rfl⟩
            rw [hV'] at SET VS
            obtain ⟨q, hq⟩ : ∃ q : Nat, k / 4 = q := ⟨_, rfl⟩
            obtain ⟨r, hr⟩ : ∃ r : Nat, k % 4 = r := ⟨_, rfl⟩
            obtain ⟨x, hx⟩ : ∃ x, lw V k = x := ⟨_, rfl⟩
            rw [hx] at SET GET x0 xy
            rw [hq] at SET GET
            rw [hr] at SET y0 xy
            obtain ⟨y, hy⟩ : ∃ y, dd * 65536 ^ r = y := ⟨_, rfl⟩
            rw [hy] at SET y0 xy
            have hq2 : (k : Int) / 4 = (q : Int) := by omega
            have hq4 : q < 4 := by omega
            have hr2 : (k : Int) % 4 = (r : Int) := by omega
            have hr4 : r < 4 := by omega
            have SETH := Lib.hid SET
            have VSH := Lib.hid VS
            have FSH := Lib.hid FSc
            have YH := Lib.hid hy
            obtain ⟨P1, P2, P3⟩ := OW.at_
            have P4 : wr.cell? ⟨w.heap.size + 2, q, none⟩ = some (.int .u64 x) := (P1 q).trans GET
            obtain ⟨Q1, Q2, Q3⟩ := ON.at_
            have hBs := hB.size
            obtain ⟨D0, D1⟩ := hD
            clear SET VS FSc FS hy GET hx hq hr hV' hc hDD v0 v1 g1 g2 P1 HV DGD W16 CELL
            have WAY : (k < len ∧ ∃ p o, a = some ⟨p, o, none⟩ ∧ w.cell? ⟨p, o + k, none⟩ = some (.int .i64 D)) ∨ (¬ k < len ∧ D = 0) := by
              by_cases h : k < len
              · exact .inl ⟨h, CK.out h⟩
              · exact .inr ⟨h, hdo (by omega)⟩
            clear hdo CK
            rcases WAY with ⟨hkl, p, o, ha, hc0⟩ | ⟨hkl, hD0⟩
            · have hck := keep hB hc0
              have hkl2 : (k : Int) < len := by omega
              cases ha
              clear hc0
              rcases KK with ⟨rfl, rfl, rfl⟩ | ⟨rfl, rfl, rfl⟩
              all_goals
                go_upto_region 23 with fail
                clear hck
                clear Q1 Q2 Q3
                go_wp2
                go_loop [10, 11] (fun p j => ∃ m : Nat, m ≤ r ∧ j = .int .i64 m ∧ p = .int .u64 (65536 ^ m)) (fun _ j => r - (intOf j).toNat)
                case atStart => exact ⟨0, by omega, rfl, rfl⟩
                case round =>
                  obtain ⟨m, hm, rfl, rfl⟩ := hrel
                  by_cases hmr : m < r
                  · obtain ⟨b0, b1⟩ := pow_small (m := m) (by omega)
                    have PS : (65536 : Int) ^ (m + 1) = 65536 ^ m * 65536 := Int.pow_succ _ _
                    obtain ⟨pp, hpp⟩ : ∃ pp, (65536 : Int) ^ m = pp := ⟨_, rfl⟩
                    rw [hpp] at b0 b1 PS ⊢
                    have PSH := Lib.hid PS
                    clear hpp PS
                    go_wp2
                    go_round
                    case rel => exact ⟨m + 1, by omega, by go_num, by rw [PSH.out]⟩
                    case measure => simp [intOf]; omega
                  · obtain rfl : m = r := by omega
                    obtain ⟨pp, hpp⟩ : ∃ pp, (65536 : Int) ^ m = pp := ⟨_, rfl⟩
                    have hy := YH.out
                    rw [hpp] at hy ⊢
                    clear hpp YH
                    go_wp2
                    go_roundg (gk - 1)
                    case measure => omega
                    case rel => exact ⟨k + 1, V', by omega, by go_num, by rw [FSH.out], VSH, ON.apart (by omega) _ _, OR.apart (by omega) _ _, (OW.put q _).as SETH.out, hB.setCell (by show w.heap.size ≤ w.heap.size + 2; omega) _⟩
            · have hkl2 : ¬ (k : Int) < len := by omega
              subst hD0
              simp only [Int.sub_zero] at KK
              rcases KK with ⟨rfl, rfl, rfl⟩ | ⟨rfl, rfl, rfl⟩
              all_goals
                go_upto_region 23 with fail
                clear Q1 Q2 Q3
                go_wp2
                go_loop [10, 11] (fun p j => ∃ m : Nat, m ≤ r ∧ j = .int .i64 m ∧ p = .int .u64 (65536 ^ m)) (fun _ j => r - (intOf j).toNat)
                case atStart => exact ⟨0, by omega, rfl, rfl⟩
                case round =>
                  obtain ⟨m, hm, rfl, rfl⟩ := hrel
                  by_cases hmr : m < r
                  · obtain ⟨b0, b1⟩ := pow_small (m := m) (by omega)
                    have PS : (65536 : Int) ^ (m + 1) = 65536 ^ m * 65536 := Int.pow_succ _ _
                    obtain ⟨pp, hpp⟩ : ∃ pp, (65536 : Int) ^ m = pp := ⟨_, rfl⟩
                    rw [hpp] at b0 b1 PS ⊢
                    have PSH := Lib.hid PS
                    clear hpp PS
                    go_wp2
                    go_round
                    case rel => exact ⟨m + 1, by omega, by go_num, by rw [PSH.out]⟩
                    case measure => simp [intOf]; omega
                  · obtain rfl : m = r := by omega
                    obtain ⟨pp, hpp⟩ : ∃ pp, (65536 : Int) ^ m = pp := ⟨_, rfl⟩
                    have hy := YH.out
                    rw [hpp] at hy ⊢
                    clear hpp YH
                    go_wp2
                    go_roundg (gk - 1)
                    case measure => omega
                    case rel => exact ⟨k + 1, V', by omega, by go_num, by rw [FSH.out], VSH, ON.apart (by omega) _ _, OR.apart (by omega) _ _, (OW.put q _).as SETH.out, hB.setCell (by show w.heap.size ≤ w.heap.size + 2; omega) _⟩
          · obtain rfl : k = 16 := by omega
            have OV : Own wr (w.heap.size + 2) 23 #[.int .u64 (L0 z), .int .u64 (L1 z), .int .u64 (L2 z), .int .u64 (L3 z)] := OW.as (by rw [← HV.out, W16.out hF.out]; rfl)
            clear OW HV W16 DGD CELL hl
            obtain ⟨c, hc⟩ : ∃ c, (fr u s 16).2 = c := ⟨_, rfl⟩
            rw [hc]
            clear hc
            obtain ⟨P1, P2, P3⟩ := OV.at_
            obtain ⟨R1, R2, R3⟩ := OR.at_
            go_wp2
            refine bodyPost_ret (v := .tuple #[.agg #[.int .u64 (L0 z), .int .u64 (L1 z), .int .u64 (L2 z), .int .u64 (L3 z)], .bool true]) (by simp [results, Tryd.results47, go_sem, R1]) rfl ⟨.inl ⟨hF.out, rfl⟩, ?_⟩
            repeat' (first | (with_reducible exact Below.refl _ _) | (with_reducible assumption) | (with_reducible refine below_drewN ?_ _) | (with_reducible refine Below.drew ?_) | (with_reducible refine Below.alloc ?_ ?_ _) | (with_reducible refine Below.setCell ?_ ?_ _) | (with_reducible refine then_ ?_ (by with_reducible assumption) ?_) | (with_reducible exact Nat.le_refl _) | (with_reducible exact Nat.le_succ _) | (with_reducible exact Nat.le_succ_of_le (by with_reducible assumption)) | omega | (simp; done) | (simp; omega) | (exact Nat.le_succ _) | (exact Nat.le_succ_of_le (by with_reducible assumption)))
end Go.Proofs.YtigcbgehnlilaaaDoor
end
section
namespace Go.Proofs.YtigcbgehnlilaaaDoor
open Go.ChangeShapes Go.WideShapes Go.ChangeAt Go.RowKit
set_option linter.unusedVariables false

theorem NumP.abs {w : World} {S : Nat → Prop} {s : Bool} {a : Option Addr} {l c : Nat} {z : Int} (h : NumP w S (.agg #[.bool s, .slice a l c]) z) : NumP w S (.agg #[.bool false, .slice a l c]) ((z.natAbs : Nat) : Int) := by
  obtain ⟨a', l', c', e, r⟩ := h
  obtain ⟨-, rfl, rfl, rfl⟩ : s = _ ∧ a = a' ∧ l = l' ∧ c = c' := by simpa using e
  refine ⟨a, l, c, ?_, by simpa using r⟩
  congr 4
theorem num_lenP {w : World} {S : Nat → Prop} {s : Bool} {a : Option Addr} {l c : Nat} {z : Int} (h : NumP w S (.agg #[.bool s, .slice a l c]) z) : l = (digs z.natAbs).length := by
  obtain ⟨a', l', c', e, r⟩ := h
  obtain ⟨-, -, rfl, -⟩ : s = _ ∧ a = a' ∧ l = l' ∧ c = c' := by simpa using e
  exact r.hlen.symm

set_option maxHeartbeats 16000000 in
set_option maxRecDepth 20000 in
theorem gcd_num (S : Nat → Prop) (v v' : Value) (x y : Int) (w : World) (hx : NumP w S v x) (hy : NumP w S v' y) (hlx : x.natAbs < 65536 ^ 20) (hly : y.natAbs < 65536 ^ 20) :
    Calls Tryd.prog 42 #[v, v'] w fun e w' => ∃ v1, e = .returned v1 ∧ NumP w' (fun b => (S b ∧ b < w.heap.size) ∨ w.heap.size ≤ b) v1 ((Nat.gcd x.natAbs y.natAbs : Nat) : Int) ∧ Below w.heap.size w w' := by
  obtain ⟨xs, xa, xl, xc, rfl⟩ := hx.shape
  obtain ⟨ys, ya, yl, yc, rfl⟩ := hy.shape
  have HX := Lib.hid (hx.abs.mono (S' := fun b => (S b ∧ b < w.heap.size) ∨ w.heap.size + 3 ≤ b) (fun b h h' => .inl ⟨h', h⟩))
  have HY := Lib.hid (hy.abs.mono (S' := fun b => (S b ∧ b < w.heap.size) ∨ w.heap.size + 3 ≤ b) (fun b h h' => .inl ⟨h', h⟩))
  obtain ⟨A, hA⟩ : ∃ A, x.natAbs = A := ⟨_, rfl⟩
  obtain ⟨B, hB⟩ : ∃ B, y.natAbs = B := ⟨_, rfl⟩
  rw [hA] at HX hlx ⊢
  rw [hB] at HY hly ⊢
  have HLX := Lib.hid hlx
  have HLY := Lib.hid hly
  clear hA hB hx hy hlx hly
  go_enter Tryd.func42, Tryd.ntmps42
  go_upto_region 1 with fail
  go_wp2_with fail
  go_loopg [] B (fun g wr => ∃ (X Y : Nat) (s1 : Bool) (a1 : Option Addr) (l1 c1 : Nat) (s2 : Bool) (a2 : Option Addr) (l2 c2 : Nat), g = Y ∧ Hid (Nat.gcd X Y = Nat.gcd A B ∧ X < 65536 ^ 20 ∧ Y < 65536 ^ 20) ∧ Own wr w.heap.size 59 #[.bool s1, .slice a1 l1 c1] ∧ Own wr (w.heap.size + 1) 59 #[.bool s2, .slice a2 l2 c2] ∧ Own wr (w.heap.size + 2) 59 #[.bool false, .slice none 0 0] ∧ NumP wr (fun b => (S b ∧ b < w.heap.size) ∨ w.heap.size + 3 ≤ b) (.agg #[.bool s1, .slice a1 l1 c1]) X ∧ NumP wr (fun b => (S b ∧ b < w.heap.size) ∨ w.heap.size + 3 ≤ b) (.agg #[.bool s2, .slice a2 l2 c2]) Y ∧ Below w.heap.size w wr)
  case atStart =>
    refine ⟨A, B, false, xa, xl, xc, false, ya, yl, yc, rfl, Lib.hid ⟨rfl, HLX.out, HLY.out⟩, ?_, ?_, ?_, HX.out.keep ?_, HY.out.keep ?_, ?_⟩
    · repeat' (first | (with_reducible assumption) | (with_reducible refine Own.drawnN ?_ _) | (with_reducible refine Own.drawn ?_) | (with_reducible refine Own.made_at ?_; first | rfl | (simp; done) | omega | (simp; omega)) | (with_reducible refine Own.more ?_ _) | (with_reducible refine Own.apart ?_ ?_ _ _; rotate_left; first | omega | (simp; done) | (simp; omega)) | (refine Own.put ?_ _ _))
    · repeat' (first | (with_reducible assumption) | (with_reducible refine Own.drawnN ?_ _) | (with_reducible refine Own.drawn ?_) | (with_reducible refine Own.made_at ?_; first | rfl | (simp; done) | omega | (simp; omega)) | (with_reducible refine Own.more ?_ _) | (with_reducible refine Own.apart ?_ ?_ _ _; rotate_left; first | omega | (simp; done) | (simp; omega)) | (refine Own.put ?_ _ _))
    · repeat' (first | (with_reducible assumption) | (with_reducible refine Own.drawnN ?_ _) | (with_reducible refine Own.drawn ?_) | (with_reducible refine Own.made_at ?_; first | rfl | (simp; done) | omega | (simp; omega)) | (with_reducible refine Own.more ?_ _) | (with_reducible refine Own.apart ?_ ?_ _ _; rotate_left; first | omega | (simp; done) | (simp; omega)) | (refine Own.put ?_ _ _))
    · repeat' (first | (with_reducible exact Below.refl _ _) | (with_reducible assumption) | (with_reducible refine below_drewN ?_ _) | (with_reducible refine Below.drew ?_) | (with_reducible refine Below.alloc ?_ ?_ _) | (with_reducible refine Below.setCell ?_ ?_ _) | (with_reducible refine then_ ?_ (by with_reducible assumption) ?_) | (with_reducible exact Nat.le_refl _) | (with_reducible exact Nat.le_succ _) | (with_reducible exact Nat.le_succ_of_le (by with_reducible assumption)) | omega | (simp; done) | (simp; omega) | (exact Nat.le_succ _) | (exact Nat.le_succ_of_le (by with_reducible assumption)))
    · repeat' (first | (with_reducible exact Below.refl _ _) | (with_reducible assumption) | (with_reducible refine below_drewN ?_ _) | (with_reducible refine Below.drew ?_) | (with_reducible refine Below.alloc ?_ ?_ _) | (with_reducible refine Below.setCell ?_ ?_ _) | (with_reducible refine then_ ?_ (by with_reducible assumption) ?_) | (with_reducible exact Nat.le_refl _) | (with_reducible exact Nat.le_succ _) | (with_reducible exact Nat.le_succ_of_le (by with_reducible assumption)) | omega | (simp; done) | (simp; omega) | (exact Nat.le_succ _) | (exact Nat.le_succ_of_le (by with_reducible assumption)))
    · repeat' (first | (with_reducible exact Below.refl _ _) | (with_reducible assumption) | (with_reducible refine below_drewN ?_ _) | (with_reducible refine Below.drew ?_) | (with_reducible refine Below.alloc ?_ ?_ _) | (with_reducible refine Below.setCell ?_ ?_ _) | (with_reducible refine then_ ?_ (by with_reducible assumption) ?_) | (with_reducible exact Nat.le_refl _) | (with_reducible exact Nat.le_succ _) | (with_reducible exact Nat.le_succ_of_le (by with_reducible assumption)) | omega | (simp; done) | (simp; omega) | (exact Nat.le_succ _) | (exact Nat.le_succ_of_le (by with_reducible assumption)))
  case round =>
    clear HX HY HLX HLY
    obtain ⟨X, Y, s1, a1, l1, c1, s2, a2, l2, c2, hg, HG, OA, OB, OR, HNX, HNY, hB⟩ := hrel
    have hl2 := num_lenP HNY
    have HX := Lib.hid HNX
    have HY := Lib.hid HNY
    obtain ⟨P1, P2, P3⟩ := OA.at_
    obtain ⟨Q1, Q2, Q3⟩ := OB.at_
    obtain ⟨R1, R2, R3⟩ := OR.at_
    clear HNX HNY
    by_cases hY : Y = 0
    · have hl0 : ¬ 0 < (l2 : Int) := by
        rw [hY, show ((0 : Nat) : Int).natAbs = 0 from rfl, digs_zero] at hl2
        simp at hl2; omega
      have HGX := Lib.hid (show X = Nat.gcd A B by have := HG.out.1; rw [hY, Nat.gcd_zero_right] at this; exact this)
      clear HG hg hl2 HY hY
      go_wp2
      refine bodyPost_ret (v := .agg #[.bool s1, .slice a1 l1 c1]) (by simp [results, Tryd.results42, go_sem, R1]) rfl ⟨_, rfl, ?_, ?_⟩
      · rw [← HGX.out]
        exact ((HX.out.put (by omega) _).put (by omega) _).mono (fun b _ h => h.imp id (fun h => by omega))
      · repeat' (first | (with_reducible exact Below.refl _ _) | (with_reducible assumption) | (with_reducible refine below_drewN ?_ _) | (with_reducible refine Below.drew ?_) | (with_reducible refine Below.alloc ?_ ?_ _) | (with_reducible refine Below.setCell ?_ ?_ _) | (with_reducible refine then_ ?_ (by with_reducible assumption) ?_) | (with_reducible exact Nat.le_refl _) | (with_reducible exact Nat.le_succ _) | (with_reducible exact Nat.le_succ_of_le (by with_reducible assumption)) | omega | (simp; done) | (simp; omega) | (exact Nat.le_succ _) | (exact Nat.le_succ_of_le (by with_reducible assumption)))
    · have hl0 : 0 < (l2 : Int) := by
        have := (digs_len (n := ((Y : Nat) : Int).natAbs) (by omega)).2
        omega
      have DV := div_num (fun b => (S b ∧ b < w.heap.size) ∨ w.heap.size + 3 ≤ b) 0 0 (.agg #[.bool s1, .slice a1 l1 c1]) (.agg #[.bool s2, .slice a2 l2 c2]) X Y wr HX.out (HY.out.num (T := 0) (C := 0) (fun b _ _ => .inr (Nat.zero_le _))) (by omega) (by simpa using HG.out.2.1) (by simpa using HG.out.2.2)
      have em : (X : Int).tmod Y = ((X % Y : Nat) : Int) := rfl
      rw [em] at DV
      replace DV := Lib.hid DV
      have HG2 := Lib.hid (show Nat.gcd Y (X % Y) = Nat.gcd A B ∧ Y < 65536 ^ 20 ∧ X % Y < 65536 ^ 20 by
        refine ⟨?_, HG.out.2.2, Nat.lt_of_le_of_lt (Nat.mod_le X Y) HG.out.2.1⟩
        rw [← HG.out.1, Nat.gcd_comm X Y, Nat.gcd_rec Y X, Nat.gcd_comm])
      have hmod := Lib.hid (show X % Y < Y from Nat.mod_lt _ (by omega))
      replace hg := Lib.hid hg
      have hs0 := OR.in_
      clear em HG hl2 hY R1 R2 R3
      go_upto_region 5 with (go_at_call 46; refine DV.out.mono ?_; rintro e w1 ⟨v1, v2, rfl, hn1, hn2, hb1⟩; obtain ⟨sq, aq, lq, cq, rfl⟩ := hn1.shape; obtain ⟨sr, ar, lr, cr, rfl⟩ := hn2.shape; replace hn2 := Lib.hid hn2; clear hn1 P1 P2 P3 Q1 Q2 Q3)
      go_name_world W2 hW2
      have hb2 : Below w1.heap.size w1 W2 := hW2 ▸ (by repeat' (first | (with_reducible exact Below.refl _ _) | (with_reducible assumption) | (with_reducible refine below_drewN ?_ _) | (with_reducible refine Below.drew ?_) | (with_reducible refine Below.alloc ?_ ?_ _) | (with_reducible refine Below.setCell ?_ ?_ _) | (with_reducible refine then_ ?_ (by with_reducible assumption) ?_) | (with_reducible exact Nat.le_refl _) | (with_reducible exact Nat.le_succ _) | (with_reducible exact Nat.le_succ_of_le (by with_reducible assumption)) | omega | (simp; done) | (simp; omega) | (exact Nat.le_succ _) | (exact Nat.le_succ_of_le (by with_reducible assumption))))
      have OT : Own W2 (w1.heap.size + 1) 59 #[.bool sr, .slice ar lr cr] := hW2 ▸ (by
        refine Own.as (cs := #[.bool sr, .slice ar lr cr]) ?_ rfl
        repeat' (first | (with_reducible assumption) | (with_reducible refine Own.drawnN ?_ _) | (with_reducible refine Own.drawn ?_) | (with_reducible refine Own.made_at ?_; first | rfl | (simp; done) | omega | (simp; omega)) | (with_reducible refine Own.more ?_ _) | (with_reducible refine Own.apart ?_ ?_ _ _; rotate_left; first | omega | (simp; done) | (simp; omega)) | (refine Own.put ?_ _ _)))
      have hb12 : Below wr.heap.size wr W2 := then_ hb1 hb2 hb1.size
      have OA2 := OA.keep hb12
      have OB2 := OB.keep hb12
      have OR2 := OR.keep hb12
      have HY2 := Lib.hid (HY.out.keep hb12)
      have HR2 := Lib.hid ((hn2.out.keep hb2).mono (S' := (fun b => (S b ∧ b < w.heap.size) ∨ w.heap.size + 3 ≤ b)) (fun b _ h => h.elim (fun h => h.1) (fun h => .inr (by omega))))
      have hB2 := then_ hB hb12 hB.size
      have hs1 := hb1.size
      have e1 : ¬ w1.heap.size + 1 = w.heap.size := by omega
      have e2 : ¬ w.heap.size = w.heap.size + 1 := by omega
      clear hW2 hb2 hb12 hb1 OA OB OR HX HY hn2 hB DV
      obtain ⟨P1, P2, P3⟩ := OA2.at_
      obtain ⟨Q1, Q2, Q3⟩ := OB2.at_
      obtain ⟨T1, T2, T3⟩ := OT.at_
      go_wp2
      go_roundg (X % Y)
      case measure => have := hmod.out; have := hg.out; omega
      case rel =>
        refine ⟨Y, X % Y, s2, a2, l2, c2, sr, ar, lr, cr, rfl, HG2, (((((OA2.put 0 _).put 1 _).as rfl).apart (by omega) _ _).apart (by omega) _ _), ((((OB2.apart (by omega) _ _).apart (by omega) _ _).put 0 _).put 1 _).as rfl, (((OR2.apart (by omega) _ _).apart (by omega) _ _).apart (by omega) _ _).apart (by omega) _ _, ?_, ?_, ?_⟩
        · exact (((HY2.out.put (by omega) _).put (by omega) _).put (by omega) _).put (by omega) _
        · exact (((HR2.out.put (by omega) _).put (by omega) _).put (by omega) _).put (by omega) _
        · repeat' (first | (with_reducible exact Below.refl _ _) | (with_reducible assumption) | (with_reducible refine below_drewN ?_ _) | (with_reducible refine Below.drew ?_) | (with_reducible refine Below.alloc ?_ ?_ _) | (with_reducible refine Below.setCell ?_ ?_ _) | (with_reducible refine then_ ?_ (by with_reducible assumption) ?_) | (with_reducible exact Nat.le_refl _) | (with_reducible exact Nat.le_succ _) | (with_reducible exact Nat.le_succ_of_le (by with_reducible assumption)) | omega | (simp; done) | (simp; omega) | (exact Nat.le_succ _) | (exact Nat.le_succ_of_le (by with_reducible assumption)))
end Go.Proofs.YtigcbgehnlilaaaDoor
end
section
namespace Go.Proofs.YtigcbgehnlilaaaDoor
open Go.ChangeShapes Go.WideShapes Go.ChangeAt Go.RowKit
set_option linter.unusedVariables false

theorem words_num (T C : Nat) (v : Value) (z : Int) (w : World) (hv : Num w T C v z) :
    Calls Tryd.prog 47 #[v] w fun e w' => ((Fit z ∧ e = .returned (.tuple #[.agg #[.int .u64 (L0 z), .int .u64 (L1 z), .int .u64 (L2 z), .int .u64 (L3 z)], .bool true])) ∨ (¬ Fit z ∧ e = .returned (.tuple #[.agg #[.int .u64 0, .int .u64 0, .int .u64 0, .int .u64 0], .bool false]))) ∧ Below w.heap.size w w' := by
  by_cases h1 : (digs z.natAbs).length = 16
  · by_cases h2 : 32768 ≤ dg (digs z.natAbs) 15
    · cases h3 : decide (z < 0) with
      | false => exact words_1 T C v z w hv ⟨⟨h1, h2⟩, h3⟩
      | true => exact words_2 T C v z w hv ⟨⟨h1, h2⟩, h3⟩
    · exact words_3 T C v z w hv ⟨h1, h2⟩
  · exact words_4 T C v z w hv h1
end Go.Proofs.YtigcbgehnlilaaaDoor
end
section
namespace Go.Proofs.YtigcbgehnlilaaaDoor
open Go.ChangeShapes Go.WideShapes Go.ChangeAt Go.RowKit
set_option linter.unusedVariables false

set_option maxHeartbeats 4000000 in
set_option maxRecDepth 20000 in
theorem of_num (z : Int) (hz : Fit z) (w : World) :
    Calls Tryd.prog 35 #[.agg #[.int .u64 (L0 z), .int .u64 (L1 z), .int .u64 (L2 z), .int .u64 (L3 z)]] w fun e w' => ∃ v, e = .returned v ∧ NumP w' (fun b => w.heap.size ≤ b) v z ∧ Below w.heap.size w w' := by
  have F0 := Lib.hid (fun T w h => from_num T z hz w h)
  clear hz
  go_enter Tryd.func35, Tryd.ntmps35
  go_upto_region 1 with fail
  go_name_world W0 hW0
  have OA : Own W0 w.heap.size 23 #[.int .u64 (L0 z), .int .u64 (L1 z), .int .u64 (L2 z), .int .u64 (L3 z)] := hW0 ▸ (by repeat' (first | (with_reducible assumption) | (with_reducible refine Own.drawnN ?_ _) | (with_reducible refine Own.drawn ?_) | (with_reducible refine Own.made_at ?_; first | rfl | (simp; done) | omega | (simp; omega)) | (with_reducible refine Own.more ?_ _) | (with_reducible refine Own.apart ?_ ?_ _ _; rotate_left; first | omega | (simp; done) | (simp; omega)) | (refine Own.put ?_ _ _)))
  have OR : Own W0 (w.heap.size + 1) 59 #[.bool false, .slice none 0 0] := hW0 ▸ (by repeat' (first | (with_reducible assumption) | (with_reducible refine Own.drawnN ?_ _) | (with_reducible refine Own.drawn ?_) | (with_reducible refine Own.made_at ?_; first | rfl | (simp; done) | omega | (simp; omega)) | (with_reducible refine Own.more ?_ _) | (with_reducible refine Own.apart ?_ ?_ _ _; rotate_left; first | omega | (simp; done) | (simp; omega)) | (refine Own.put ?_ _ _)))
  have hB : Below w.heap.size w W0 := hW0 ▸ (by repeat' (first | (with_reducible exact Below.refl _ _) | (with_reducible assumption) | (with_reducible refine below_drewN ?_ _) | (with_reducible refine Below.drew ?_) | (with_reducible refine Below.alloc ?_ ?_ _) | (with_reducible refine Below.setCell ?_ ?_ _) | (with_reducible refine then_ ?_ (by with_reducible assumption) ?_) | (with_reducible exact Nat.le_refl _) | (with_reducible exact Nat.le_succ _) | (with_reducible exact Nat.le_succ_of_le (by with_reducible assumption)) | omega | (simp; done) | (simp; omega) | (exact Nat.le_succ _) | (exact Nat.le_succ_of_le (by with_reducible assumption))))
  clear hW0
  obtain ⟨P1, P2, P3⟩ := OA.at_
  go_wp2_with (go_at_call 60; refine (F0.out 0 W0 (Nat.zero_le _)).mono ?_; rintro e w1 ⟨v, rfl, hn, hb⟩; obtain ⟨s, a, l, c, rfl⟩ := hn.shape; have HN := Lib.hid (NumP.of hn (S := fun b => W0.heap.size ≤ b) (fun b _ h => by omega)); have OR1 := OR.keep hb; have hB1 := then_ hB hb hB.size; have hs := OR.in_; clear hn hb P1 P2 P3; obtain ⟨P1, P2, P3⟩ := OR1.at_)
  refine bodyPost_ret (v := .agg #[.bool s, .slice a l c]) (by simp [results, Tryd.results35, go_sem, P1]) rfl ⟨_, rfl, ?_, ?_⟩
  · exact ((HN.out.put (by omega) _).put (by omega) _).mono (fun b _ h => by omega)
  · repeat' (first | (with_reducible exact Below.refl _ _) | (with_reducible assumption) | (with_reducible refine below_drewN ?_ _) | (with_reducible refine Below.drew ?_) | (with_reducible refine Below.alloc ?_ ?_ _) | (with_reducible refine Below.setCell ?_ ?_ _) | (with_reducible refine then_ ?_ (by with_reducible assumption) ?_) | (with_reducible exact Nat.le_refl _) | (with_reducible exact Nat.le_succ _) | (with_reducible exact Nat.le_succ_of_le (by with_reducible assumption)) | omega | (simp; done) | (simp; omega) | (exact Nat.le_succ _) | (exact Nat.le_succ_of_le (by with_reducible assumption)))

set_option maxHeartbeats 4000000 in
set_option maxRecDepth 20000 in
theorem neg_P (S : Nat → Prop) (v : Value) (z : Int) (w : World) (hv : NumP w S v z) :
    Calls Tryd.prog 40 #[v] w fun e w' => ∃ v', e = .returned v' ∧ NumP w' (fun b => S b ∧ b < w.heap.size) v' (-z) ∧ Below w.heap.size w w' := by
  have hv' := hv.mono (S' := fun b => S b ∧ b < w.heap.size) (fun b h h' => ⟨h', h⟩)
  obtain ⟨a, len, cap, rfl, hr⟩ := hv'
  have TR1 : ∀ w', Below w.heap.size w w' → Calls Tryd.prog 61 #[.agg #[.bool (!decide (z < 0)), .slice a len cap]] w' fun e w'' => ∃ v, e = .returned v ∧ (∃ n a len cap, v = .agg #[.bool n, .slice a len cap]) ∧ NumP w'' (fun b => S b ∧ b < w.heap.size) v (-z) ∧ Below w'.heap.size w' w'' := fun w' hb => by
    refine (trim_P _ (!decide (z < 0)) a len cap (digs z.natAbs) z.natAbs w' (hr.keep hb) (Dg.digs _) (vl_digs _)).mono ?_
    rintro e w'' ⟨v, he, hn, hb'⟩
    have e1 : (if (!decide (z < 0)) = true then -(z.natAbs : Int) else z.natAbs) = -z := by
      by_cases h : z < 0
      · simp [h]; omega
      · simp [h]; omega
    rw [e1] at hn
    exact ⟨v, he, hn.shape, hn, hb'⟩
  have TR := Lib.hid TR1
  clear TR1 hr hv
  obtain ⟨s, hs⟩ : ∃ s, decide (z < 0) = s := ⟨_, rfl⟩
  rw [hs] at TR ⊢
  clear hs
  go_enter Tryd.func40, Tryd.ntmps40
  go_wp2_with fail
  go_at_call 61
  refine (TR.out _ (by repeat' (first | (with_reducible exact Below.refl _ _) | (with_reducible assumption) | (with_reducible refine below_drewN ?_ _) | (with_reducible refine Below.drew ?_) | (with_reducible refine Below.alloc ?_ ?_ _) | (with_reducible refine Below.setCell ?_ ?_ _) | (with_reducible refine then_ ?_ (by with_reducible assumption) ?_) | (with_reducible exact Nat.le_refl _) | (with_reducible exact Nat.le_succ _) | (with_reducible exact Nat.le_succ_of_le (by with_reducible assumption)) | omega | (simp; done) | (simp; omega) | (exact Nat.le_succ _) | (exact Nat.le_succ_of_le (by with_reducible assumption))))).mono ?_
  rintro e w1 ⟨v', rfl, ⟨n', a', l', c', rfl⟩, hn, hb⟩
  have O2 : Own w1 (w.heap.size + 1) 59 #[.bool false, .slice none 0 0] := by
    refine Own.keep ?_ hb
    repeat' (first | (with_reducible assumption) | (with_reducible refine Own.drawnN ?_ _) | (with_reducible refine Own.drawn ?_) | (with_reducible refine Own.made_at ?_; first | rfl | (simp; done) | omega | (simp; omega)) | (with_reducible refine Own.more ?_ _) | (with_reducible refine Own.apart ?_ ?_ _ _; rotate_left; first | omega | (simp; done) | (simp; omega)) | (refine Own.put ?_ _ _))
  obtain ⟨Q1, Q2, Q3⟩ := O2.at_
  have hB : Below w.heap.size w w1 := by
    refine then_ ?_ hb (by simp; omega)
    repeat' (first | (with_reducible exact Below.refl _ _) | (with_reducible assumption) | (with_reducible refine below_drewN ?_ _) | (with_reducible refine Below.drew ?_) | (with_reducible refine Below.alloc ?_ ?_ _) | (with_reducible refine Below.setCell ?_ ?_ _) | (with_reducible refine then_ ?_ (by with_reducible assumption) ?_) | (with_reducible exact Nat.le_refl _) | (with_reducible exact Nat.le_succ _) | (with_reducible exact Nat.le_succ_of_le (by with_reducible assumption)) | omega | (simp; done) | (simp; omega) | (exact Nat.le_succ _) | (exact Nat.le_succ_of_le (by with_reducible assumption)))
  clear hb O2
  have HN := Lib.hid hn
  clear hn TR
  go_wp2
  refine bodyPost_ret (v := .agg #[.bool n', .slice a' l' c']) (by simp [results, Tryd.results40, go_sem, Q1]) rfl ⟨_, rfl, ?_, ?_⟩
  · exact (HN.out.put (by rintro ⟨_, h⟩; omega) _).put (by rintro ⟨_, h⟩; omega) _
  · repeat' (first | (with_reducible exact Below.refl _ _) | (with_reducible assumption) | (with_reducible refine below_drewN ?_ _) | (with_reducible refine Below.drew ?_) | (with_reducible refine Below.alloc ?_ ?_ _) | (with_reducible refine Below.setCell ?_ ?_ _) | (with_reducible refine then_ ?_ (by with_reducible assumption) ?_) | (with_reducible exact Nat.le_refl _) | (with_reducible exact Nat.le_succ _) | (with_reducible exact Nat.le_succ_of_le (by with_reducible assumption)) | omega | (simp; done) | (simp; omega) | (exact Nat.le_succ _) | (exact Nat.le_succ_of_le (by with_reducible assumption)))

theorem words_fb (T C : Nat) (v : Value) (z : Int) (w : World) (hv : Num w T C v z) :
    Calls Tryd.prog 47 #[v] w fun e w' => e = .returned (.tuple #[.agg #[.int .u64 (L0 (fz z)), .int .u64 (L1 (fz z)), .int .u64 (L2 (fz z)), .int .u64 (L3 (fz z))], .bool (fb z)]) ∧ Below w.heap.size w w' := by
  refine (words_num T C v z w hv).mono ?_
  rintro e w' ⟨h | h, hb⟩
  · refine ⟨?_, hb⟩
    have h1 := (fb_fit z).2 h.1
    rw [h.2]; unfold fz; rw [h1]; rfl
  · refine ⟨?_, hb⟩
    have h1 : fb z = false := by
      cases e : fb z
      · rfl
      · exact absurd ((fb_fit z).1 e) h.1
    rw [h.2]; unfold fz; rw [h1]; rfl
end Go.Proofs.YtigcbgehnlilaaaDoor
end
section
namespace Go.Proofs.YtigcbgehnlilaaaDoor
open Go.ChangeShapes Go.WideShapes Go.ChangeAt Go.RowKit
set_option linter.unusedVariables false
set_option linter.unusedSimpArgs false

theorem fit20 {z : Int} (h : Fit z) : z.natAbs < 65536 ^ 20 := by
  have h1 := h.lo
  have h2 := h.hi
  have : (65536 : Nat) ^ 20 = 2135987035920910082395021706169552114602704522356652769947041607822219725780640550022962086936576 := by decide
  omega
set_option maxHeartbeats 4000000 in
set_option maxRecDepth 20000 in
theorem one_any (S : Nat → Prop) (v : Value) (z : Int) (w : World) (hv : NumP w S v z) : Calls Tryd.prog 41 #[v] w fun e w' => e = .returned (.bool (decide (z = 1))) ∧ Below w.heap.size w w' := by
  obtain ⟨a, len, cap, rfl, hr⟩ := hv
  have hl := hr.hlen
  have hcp := hr.hcap
  have hmx := hr.hmax
  unfold maxLen at hmx
  by_cases h1 : z < 0
  · have e1 : decide (z < 0) = true := decide_eq_true h1
    have e2 : decide (z = 1) = false := decide_eq_false (by omega)
    rw [e1, e2]
    clear hr hl e1 e2 h1
    go_enter Tryd.func41, Tryd.ntmps41
    go_wp2
    go_ret
    exact ⟨rfl, by repeat' (first | (with_reducible exact Below.refl _ _) | (with_reducible assumption) | (with_reducible refine below_drewN ?_ _) | (with_reducible refine Below.drew ?_) | (with_reducible refine Below.alloc ?_ ?_ _) | (with_reducible refine Below.setCell ?_ ?_ _) | (with_reducible refine then_ ?_ (by with_reducible assumption) ?_) | (with_reducible exact Nat.le_refl _) | (with_reducible exact Nat.le_succ _) | (with_reducible exact Nat.le_succ_of_le (by with_reducible assumption)) | omega | (simp; done) | (simp; omega) | (exact Nat.le_succ _) | (exact Nat.le_succ_of_le (by with_reducible assumption)))⟩
  · have e1 : decide (z < 0) = false := decide_eq_false h1
    rw [e1]
    by_cases h0 : z.natAbs = 0
    · have e2 : decide (z = 1) = false := decide_eq_false (by omega)
      rw [e2]
      have hl0 : len = 0 := by rw [← hl, h0, digs_zero]; rfl
      have t1 : ((len : Int) == 1) = false := by simp; omega
      clear hr hl e1 e2 h1 h0 hl0
      go_enter Tryd.func41, Tryd.ntmps41
      go_wp2
      go_ret
      exact ⟨rfl, by repeat' (first | (with_reducible exact Below.refl _ _) | (with_reducible assumption) | (with_reducible refine below_drewN ?_ _) | (with_reducible refine Below.drew ?_) | (with_reducible refine Below.alloc ?_ ?_ _) | (with_reducible refine Below.setCell ?_ ?_ _) | (with_reducible refine then_ ?_ (by with_reducible assumption) ?_) | (with_reducible exact Nat.le_refl _) | (with_reducible exact Nat.le_succ _) | (with_reducible exact Nat.le_succ_of_le (by with_reducible assumption)) | omega | (simp; done) | (simp; omega) | (exact Nat.le_succ _) | (exact Nat.le_succ_of_le (by with_reducible assumption)))⟩
    · have hd := digs_pos h0
      by_cases hr1 : digs (z.natAbs / 65536) = []
      · have hq := digs_nil hr1
        have hl1 : len = 1 := by rw [← hl, hd, hr1]; rfl
        obtain ⟨b, o, rfl, hS, hb, hc⟩ : ∃ b o, a = some ⟨b, o, none⟩ ∧ S b ∧ b < w.heap.size ∧ ∀ i z', (digs z.natAbs)[i]? = some z' → w.cell? ⟨b, o + i, none⟩ = some (.int .i64 z') := by
          rcases hr.hcells with h | h
          · rw [hd] at h; cases h
          · exact h
        have c0 := hc 0 z (by rw [hd]; simp; omega)
        have c1 : (w.alloc (.cells #[.bool false, .slice (some ⟨b, o, none⟩) len cap] 59)).cell? ⟨b, o, none⟩ = some (.int .i64 z) := (World.cell?_of_block (w := w) (a := ⟨b, o, none⟩) (Below.heap_alloc w _ b hb)).trans c0
        have c2 : w.cell? ⟨b, o, none⟩ = some (.int .i64 z) := c0
        have t1 : ((len : Int) == 1) = true := by simp; omega
        have e3 : decide (z = 1) = (z == 1) := rfl
        have hlp : 0 < len := by omega
        clear hr hl e1 h1 h0 hd hr1 hc c0 hq
        obtain ⟨t, ht⟩ : ∃ t, (z == 1) = t := ⟨_, rfl⟩
        rw [e3, ht]
        cases t
        · go_enter Tryd.func41, Tryd.ntmps41
          go_wp2
          go_ret
          exact ⟨rfl, by repeat' (first | (with_reducible exact Below.refl _ _) | (with_reducible assumption) | (with_reducible refine below_drewN ?_ _) | (with_reducible refine Below.drew ?_) | (with_reducible refine Below.alloc ?_ ?_ _) | (with_reducible refine Below.setCell ?_ ?_ _) | (with_reducible refine then_ ?_ (by with_reducible assumption) ?_) | (with_reducible exact Nat.le_refl _) | (with_reducible exact Nat.le_succ _) | (with_reducible exact Nat.le_succ_of_le (by with_reducible assumption)) | omega | (simp; done) | (simp; omega) | (exact Nat.le_succ _) | (exact Nat.le_succ_of_le (by with_reducible assumption)))⟩
        · go_enter Tryd.func41, Tryd.ntmps41
          go_wp2
          go_ret
          exact ⟨rfl, by repeat' (first | (with_reducible exact Below.refl _ _) | (with_reducible assumption) | (with_reducible refine below_drewN ?_ _) | (with_reducible refine Below.drew ?_) | (with_reducible refine Below.alloc ?_ ?_ _) | (with_reducible refine Below.setCell ?_ ?_ _) | (with_reducible refine then_ ?_ (by with_reducible assumption) ?_) | (with_reducible exact Nat.le_refl _) | (with_reducible exact Nat.le_succ _) | (with_reducible exact Nat.le_succ_of_le (by with_reducible assumption)) | omega | (simp; done) | (simp; omega) | (exact Nat.le_succ _) | (exact Nat.le_succ_of_le (by with_reducible assumption)))⟩
      · have e2 : decide (z = 1) = false := decide_eq_false (fun e => hr1 (by rw [e]; decide +kernel))
        rw [e2]
        have hl1 : 1 < len := by
          rw [← hl, hd]
          have := List.length_pos_iff.2 hr1
          simp only [List.length_cons]
          omega
        have t1 : ((len : Int) == 1) = false := by simp; omega
        clear hr hl e1 e2 h1 h0 hd hr1 hl1
        go_enter Tryd.func41, Tryd.ntmps41
        go_wp2
        go_ret
        exact ⟨rfl, by repeat' (first | (with_reducible exact Below.refl _ _) | (with_reducible assumption) | (with_reducible refine below_drewN ?_ _) | (with_reducible refine Below.drew ?_) | (with_reducible refine Below.alloc ?_ ?_ _) | (with_reducible refine Below.setCell ?_ ?_ _) | (with_reducible refine then_ ?_ (by with_reducible assumption) ?_) | (with_reducible exact Nat.le_refl _) | (with_reducible exact Nat.le_succ _) | (with_reducible exact Nat.le_succ_of_le (by with_reducible assumption)) | omega | (simp; done) | (simp; omega) | (exact Nat.le_succ _) | (exact Nat.le_succ_of_le (by with_reducible assumption)))⟩
set_option maxHeartbeats 8000000 in
set_option maxRecDepth 20000 in
theorem rright_any {n d : Int} (hn : Fit n) (hd : Fit d) (w : World) : Calls Tryd.prog 15 #[.agg #[.int .u64 (L0 n), .int .u64 (L1 n), .int .u64 (L2 n), .int .u64 (L3 n), .int .u64 (L0 d), .int .u64 (L1 d), .int .u64 (L2 d), .int .u64 (L3 d)]] w fun e w' => e = .returned (.bool (decide (Rgt n d))) ∧ Below w.heap.size w w' := by
  have FN := Lib.hid (fun w => of_num n hn w)
  have FD := Lib.hid (fun w => of_num d hd w)
  have LN := Lib.hid (fit20 hn)
  have LD := Lib.hid (fit20 hd)
  clear hn hd
  go_enter Tryd.func15, Tryd.ntmps15
  go_upto_region 1 with fail
  go_name_world W0 hW0
  have OA : Own W0 w.heap.size 34 #[.int .u64 (L0 n), .int .u64 (L1 n), .int .u64 (L2 n), .int .u64 (L3 n), .int .u64 (L0 d), .int .u64 (L1 d), .int .u64 (L2 d), .int .u64 (L3 d)] := hW0 ▸ (by repeat' (first | (with_reducible assumption) | (with_reducible refine Own.drawnN ?_ _) | (with_reducible refine Own.drawn ?_) | (with_reducible refine Own.made_at ?_; first | rfl | (simp; done) | omega | (simp; omega)) | (with_reducible refine Own.more ?_ _) | (with_reducible refine Own.apart ?_ ?_ _ _; rotate_left; first | omega | (simp; done) | (simp; omega)) | (refine Own.put ?_ _ _)))
  have hB : Below w.heap.size w W0 := hW0 ▸ (by repeat' (first | (with_reducible exact Below.refl _ _) | (with_reducible assumption) | (with_reducible refine below_drewN ?_ _) | (with_reducible refine Below.drew ?_) | (with_reducible refine Below.alloc ?_ ?_ _) | (with_reducible refine Below.setCell ?_ ?_ _) | (with_reducible refine then_ ?_ (by with_reducible assumption) ?_) | (with_reducible exact Nat.le_refl _) | (with_reducible exact Nat.le_succ _) | (with_reducible exact Nat.le_succ_of_le (by with_reducible assumption)) | omega | (simp; done) | (simp; omega) | (exact Nat.le_succ _) | (exact Nat.le_succ_of_le (by with_reducible assumption))))
  clear hW0
  obtain ⟨P1, P2, P3⟩ := OA.at_
  go_upto_region 2 with (go_at_call 35; refine (FD.out _).mono ?_; rintro e w1 ⟨v, rfl, hv, hb⟩; obtain ⟨a, l, c, rfl, hr⟩ := hv; have HR := Lib.hid hr; have HB1 := Lib.hid hb; clear hr hb P1 P2 P3)
  go_name_world W1 hW1
  have ON : Own W1 w1.heap.size 59 #[.bool (decide (d < 0)), .slice a l c] := hW1 ▸ (by repeat' (first | (with_reducible assumption) | (with_reducible refine Own.drawnN ?_ _) | (with_reducible refine Own.drawn ?_) | (with_reducible refine Own.made_at ?_; first | rfl | (simp; done) | omega | (simp; omega)) | (with_reducible refine Own.more ?_ _) | (with_reducible refine Own.apart ?_ ?_ _ _; rotate_left; first | omega | (simp; done) | (simp; omega)) | (refine Own.put ?_ _ _)))
  have b1 : Below w1.heap.size w1 W1 := hW1 ▸ (by repeat' (first | (with_reducible exact Below.refl _ _) | (with_reducible assumption) | (with_reducible refine below_drewN ?_ _) | (with_reducible refine Below.drew ?_) | (with_reducible refine Below.alloc ?_ ?_ _) | (with_reducible refine Below.setCell ?_ ?_ _) | (with_reducible refine then_ ?_ (by with_reducible assumption) ?_) | (with_reducible exact Nat.le_refl _) | (with_reducible exact Nat.le_succ _) | (with_reducible exact Nat.le_succ_of_le (by with_reducible assumption)) | omega | (simp; done) | (simp; omega) | (exact Nat.le_succ _) | (exact Nat.le_succ_of_le (by with_reducible assumption))))
  clear hW1
  have OA1 := (OA.keep HB1.out).keep b1
  have hBW : Below w.heap.size w W1 := then_ (then_ hB HB1.out hB.size) b1 (Nat.le_trans hB.size HB1.out.size)
  have ND : NumP W1 (fun _ => True) (.agg #[.bool (decide (d < 0)), .slice a l c]) d := ⟨a, l, c, rfl, (HR.out.keep b1).mono fun _ _ _ => trivial⟩
  have hll : (digs d.natAbs).length = l := HR.out.hlen
  by_cases h1 : d < 0
  · have e1 : decide (d < 0) = true := decide_eq_true h1
    have e2 : decide (Rgt n d) = false := decide_eq_false (fun h => by have := h.pos; omega)
    rw [e1] at ON
    have E2 := Lib.hid e2
    have hl0 : 0 < l := by
      rw [← hll, digs_pos (by omega)]
      simp
    obtain ⟨q1, q2, q3⟩ := ON.at_
    clear ND hll e1 e2 h1 HR OA OA1 hB b1 HB1
    go_quiet (fail)
    go_wp2
    go_ret
    exact ⟨by rw [E2.out] <;> rfl, below_drewN hBW _⟩
  · have e1 : decide (d < 0) = false := decide_eq_false h1
    rw [e1] at ON ND
    by_cases h0 : d.natAbs = 0
    · have e2 : decide (Rgt n d) = false := decide_eq_false (fun h => by have := h.pos; omega)
      have E2 := Lib.hid e2
      have hl0 : l = 0 := by rw [← hll, h0, digs_zero]; rfl
      have hl1 : ((0 : Int) < (l : Int)) = False := by simp; omega
      have hl2 : ¬ (0 < l) := by omega
      obtain ⟨q1, q2, q3⟩ := ON.at_
      clear ND hll e1 e2 h1 h0 HR OA OA1 hB b1 HB1 hl0
      go_quiet (fail)
      go_wp2
      go_ret
      exact ⟨by rw [E2.out] <;> rfl, below_drewN hBW _⟩
    · have hl0 : (0 : Int) < (l : Int) := by
        rw [← hll, digs_pos h0]
        simp only [List.length_cons]
        omega
      have e3 : decide (Rgt n d) = decide (gz n d = 1) := by
        rw [decide_eq_decide]
        exact ⟨fun h => h.2, fun h => ⟨by omega, h⟩⟩
      have E3 := Lib.hid e3
      have NDH := Lib.hid ND
      clear ND hll e1 h1 h0 HR OA hB b1 HB1 e3
      have hl0n : 0 < l := by omega
      refine wp_region_seq (fun W => Own W w.heap.size 34 #[.int .u64 (L0 n), .int .u64 (L1 n), .int .u64 (L2 n), .int .u64 (L3 n), .int .u64 (L0 d), .int .u64 (L1 d), .int .u64 (L2 d), .int .u64 (L3 d)] ∧ Own W w1.heap.size 59 #[.bool false, .slice a l c]) (0 :: 1 :: 2 :: 3 :: 4 :: 5 :: 6 :: 7 :: 8 :: 9 :: 10 :: 11 :: 13 :: 16 :: 17 :: []) (1 :: 6 :: 11 :: 13 :: []) (0 :: 1 :: 2 :: 3 :: 4 :: 5 :: 6 :: 7 :: 8 :: 9 :: 10 :: 11 :: 13 :: 12 :: 14 :: 15 :: 16 :: 17 :: []) (by kernel_rfl) (by kernel_rfl) rfl (by kernel_rfl) rfl (⟨OA1.drawn, ON.drawn⟩) (by simp only [picked, List.filterMap_cons, List.filterMap_nil, List.getElem?_cons_zero, List.getElem?_cons_succ, Option.map_some]; exact rfl) ?_
      iterate 13
        refine seq_want (v := ?_) rfl rfl (fun W hS => ?_) ?_
        rotate_left
        · first
            | (conv => lhs; simp [go_sem, hl0, hl0n]
               first | done | exact rfl)
            | (have hS := hS rfl
               obtain ⟨u1, u2⟩ := hS
               obtain ⟨u3, u4, u5⟩ := u1.at_
               obtain ⟨u6, u7, u8⟩ := u2.at_
               conv => lhs; simp [go_sem, *, hl0, hl0n]
               first | done | exact rfl)
        simp only [Act.put, List.setIfInBounds_toArray, List.set_cons_zero, List.set_cons_succ]
      refine seq_on rfl rfl fun K hK => ?_
      go_wp2_with (go_at_call 35; refine (FN.out _).mono ?_; rintro e w2 ⟨v2, rfl, hv2, hb2⟩)
      have OA2 := OA1.drawn.keep hb2
      have ON2 := ON.drawn.keep hb2
      have hB2 := then_ hBW.drew hb2 hBW.size
      have HG := Lib.hid (gcd_num (fun _ => True) _ _ n d w2 (hv2.mono fun _ _ _ => trivial) ((NDH.out.keep (Below.refl _ _).drew).keep hb2) LN.out LD.out)
      refine hK _ _ ⟨OA2, ON2⟩ ?_
      clear hK K
      refine seq_on rfl rfl fun K hK => ?_
      go_wp2_with (go_at_call 42; refine HG.out.mono ?_; rintro e w3 ⟨v3, rfl, hv3, hb3⟩)
      have OA3 := OA2.keep hb3
      have ON3 := ON2.keep hb3
      have hB3 := then_ hB2 hb3 hB2.size
      have HO := one_any _ _ _ w3 hv3
      change Calls _ _ _ _ (fun e w' => e = .returned (.bool (decide (gz n d = 1))) ∧ _) at HO
      obtain ⟨bb, hbb⟩ : ∃ bb, bb = decide (gz n d = 1) := ⟨_, rfl⟩
      rw [← hbb] at HO E3
      replace HO := Lib.hid HO
      refine hK _ _ ⟨OA3, ON3⟩ ?_
      clear hK K hbb HG hv3 hv2
      refine seq_on rfl rfl fun K hK => ?_
      go_wp2_with (go_at_call 41; refine HO.out.mono ?_; rintro e w4 ⟨rfl, hb4⟩)
      have hB4 := then_ hB3 hb4 hB3.size
      refine hK _ _ ⟨OA3.keep hb4, ON3.keep hb4⟩ ?_
      clear hK K
      iterate 2
        refine seq_want (v := ?_) rfl rfl (fun W hS => ?_) ?_
        rotate_left
        · conv => lhs; simp [go_sem]
          first | done | exact rfl
        simp only [Act.put, List.setIfInBounds_toArray, List.set_cons_zero, List.set_cons_succ]
      refine seq_end ?_
      go_wp2
      go_ret
      exact ⟨by rw [E3.out] <;> rfl, hB4⟩
end Go.Proofs.YtigcbgehnlilaaaDoor
end
section
namespace Go.Proofs.YtigcbgehnlilaaaDoor
open Go.ChangeShapes Go.WideShapes Go.ChangeAt Go.RowKit
set_option linter.unusedVariables false
set_option linter.unusedSimpArgs false

end Go.Proofs.YtigcbgehnlilaaaDoor
end
