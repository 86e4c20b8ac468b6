
/- The contract of croftref03.Words, sixteen digits, the highest 32768 or more, not below nought. -/
import Derived.Test.YtjmojddnedngaaaDoorRefU
import Derived.Deep.LoopGhost
namespace Go.Proofs.YtjmojddnedngaaaDoor
open Go.ChangeShapes Go.WideShapes Go.ChangeAt Go.RowKit
set_option linter.unusedVariables false

set_option maxHeartbeats 16000000 in
set_option maxRecDepth 20000 in
theorem words_1 (T C : Nat) (v : Value) (z : Int) (w : World) (hv : Num w T C v z) (hc : ((digs z.natAbs).length = 16 ∧ 32768 ≤ dg (digs z.natAbs) 15) ∧ decide (z < 0) = false) :
    Calls Tryd.prog 34 #[v] w fun e w' => ((Fit z ∧ e = .returned (.tuple #[.agg #[.int .u64 (L0 z), .int .u64 (L1 z), .int .u64 (L2 z), .int .u64 (L3 z)], .bool true])) ∨ (¬ Fit z ∧ e = .returned (.tuple #[.agg #[.int .u64 0, .int .u64 0, .int .u64 0, .int .u64 0], .bool false]))) ∧ Below w.heap.size w w' := by
  obtain ⟨a, len, cap, rfl, hr⟩ := hv
  have hl := hr.hlen
  have hm0 := hr.hmax
  have hm1 := hr.hcap
  have hm : (len : Int) ≤ 9223372036854775807 := by unfold maxLen at hm0; omega
  have HX := Lib.hid hr.hcells
  have LONG := Lib.hid (long_no (z := z))
  have SMALL := Lib.hid (fit_small (z := z))
  have LEAST := Lib.hid (fit_least (z := z))
  have DGD := Lib.hid (fun k => dg_digs k z.natAbs)
  have W16 := Lib.hid (words_16 (z := z))
  obtain ⟨s, hs⟩ : ∃ s, decide (z < 0) = s := ⟨_, rfl⟩
  rw [hs] at LEAST W16 hc ⊢
  obtain ⟨zs, hzs⟩ : ∃ zs, digs z.natAbs = zs := ⟨_, rfl⟩
  rw [hzs] at hl HX LONG SMALL LEAST DGD hc
  replace hc := Lib.hid hc
  clear hr hs hzs hm0 hm1
  obtain ⟨u, hu⟩ : ∃ u : Int, (z.natAbs : Int) = u := ⟨_, rfl⟩
  rw [hu] at DGD W16
  clear hu
  go_enter Tryd.func34, Tryd.ntmps34
  go_upto_region 2 with fail
  go_name_world W0 hW0
  have ON : Own W0 w.heap.size 42 #[.bool s, .slice a len cap] := hW0 ▸ (by repeat' (first | (with_reducible assumption) | (with_reducible refine Own.drawnN ?_ _) | (with_reducible refine Own.drawn ?_) | (with_reducible refine Own.made_at ?_; first | rfl | (simp; done) | omega | (simp; omega)) | (with_reducible refine Own.more ?_ _) | (with_reducible refine Own.apart ?_ ?_ _ _; rotate_left; first | omega | (simp; done) | (simp; omega)) | (refine Own.put ?_ _ _)))
  have OR : Own W0 (w.heap.size + 1) 23 #[.int .u64 0, .int .u64 0, .int .u64 0, .int .u64 0] := hW0 ▸ (by repeat' (first | (with_reducible assumption) | (with_reducible refine Own.drawnN ?_ _) | (with_reducible refine Own.drawn ?_) | (with_reducible refine Own.made_at ?_; first | rfl | (simp; done) | omega | (simp; omega)) | (with_reducible refine Own.more ?_ _) | (with_reducible refine Own.apart ?_ ?_ _ _; rotate_left; first | omega | (simp; done) | (simp; omega)) | (refine Own.put ?_ _ _)))
  have OW : Own W0 (w.heap.size + 2) 23 #[.int .u64 0, .int .u64 0, .int .u64 0, .int .u64 0] := hW0 ▸ (by repeat' (first | (with_reducible assumption) | (with_reducible refine Own.drawnN ?_ _) | (with_reducible refine Own.drawn ?_) | (with_reducible refine Own.made_at ?_; first | rfl | (simp; done) | omega | (simp; omega)) | (with_reducible refine Own.more ?_ _) | (with_reducible refine Own.apart ?_ ?_ _ _; rotate_left; first | omega | (simp; done) | (simp; omega)) | (refine Own.put ?_ _ _)))
  have hB : Below w.heap.size w W0 := hW0 ▸ (by repeat' (first | (with_reducible exact Below.refl _ _) | (with_reducible assumption) | (with_reducible refine below_drewN ?_ _) | (with_reducible refine Below.drew ?_) | (with_reducible refine Below.alloc ?_ ?_ _) | (with_reducible refine Below.setCell ?_ ?_ _) | (with_reducible refine then_ ?_ (by with_reducible assumption) ?_) | (with_reducible exact Nat.le_refl _) | (with_reducible exact Nat.le_succ _) | (with_reducible exact Nat.le_succ_of_le (by with_reducible assumption)) | omega | (simp; done) | (simp; omega) | (exact Nat.le_succ _) | (exact Nat.le_succ_of_le (by with_reducible assumption))))
  clear hW0
  have CELL : Hid (∀ k, k < len → ∃ p o, a = some ⟨p, o, none⟩ ∧ w.cell? ⟨p, o + k, none⟩ = some (.int .i64 (dg zs k))) := fun k hk => by
    rcases HX.out with h | ⟨p, o, e1, _, e2⟩
    · rw [h] at hl; simp at hl; omega
    · exact ⟨p, o, e1, e2 k _ (dg_at (by omega))⟩
  clear HX
  obtain ⟨N1, N2, N3⟩ := ON.at_
  obtain ⟨R1, R2, R3⟩ := OR.at_
  obtain ⟨V1, V2, V3⟩ := OW.at_
  by_cases h16 : 16 < len
  · have nf := Lib.hid (LONG.out (by omega))
    have t1 : (16 : Int) < len := by omega
    clear LONG SMALL LEAST DGD W16 CELL hl
    go_wp2
    refine bodyPost_ret (v := .tuple #[.agg #[.int .u64 0, .int .u64 0, .int .u64 0, .int .u64 0], .bool false]) (by simp [results, Tryd.results34, go_sem, R1]) rfl ⟨.inr ⟨nf.out, rfl⟩, ?_⟩
    repeat' (first | (with_reducible exact Below.refl _ _) | (with_reducible assumption) | (with_reducible refine below_drewN ?_ _) | (with_reducible refine Below.drew ?_) | (with_reducible refine Below.alloc ?_ ?_ _) | (with_reducible refine Below.setCell ?_ ?_ _) | (with_reducible refine then_ ?_ (by with_reducible assumption) ?_) | (with_reducible exact Nat.le_refl _) | (with_reducible exact Nat.le_succ _) | (with_reducible exact Nat.le_succ_of_le (by with_reducible assumption)) | omega | (simp; done) | (simp; omega) | (exact Nat.le_succ _) | (exact Nat.le_succ_of_le (by with_reducible assumption)))
  have t1 : ¬ (16 : Int) < len := by omega
  have hsm := Lib.hid (fun h => SMALL.out (by omega) h)
  have hle := Lib.hid (fun h => LEAST.out (by omega) h)
  clear LONG SMALL LEAST
  have TOP : 15 < len → Hid (∃ p o, a = some ⟨p, o, none⟩ ∧ W0.cell? ⟨p, o + 15, none⟩ = some (.int .i64 (dg zs 15))) := fun h => by
    obtain ⟨p, o, e1, e2⟩ := CELL.out 15 h
    exact ⟨p, o, e1, keep hB e2⟩
  have h1 : len = 16 ∧ 32768 ≤ dg zs 15 := ⟨by have := hc.out.1.1; omega, hc.out.1.2⟩
  have hs0 := hc.out.2
  obtain ⟨e16, h2⟩ := h1
  obtain ⟨p, o, ha, c15⟩ := (TOP (by omega)).out
  have e16' : (len : Int) = 16 := by omega
  have CELL2 : Hid (∀ k, k < 16 → W0.cell? ⟨p, o + k, none⟩ = some (.int .i64 (dg zs k))) := fun k hk => by
    obtain ⟨p', o', e1, e2⟩ := CELL.out k (by omega)
    rw [ha] at e1
    cases e1
    exact keep hB e2
  obtain ⟨x15, hx15⟩ : ∃ x, dg zs 15 = x := ⟨_, rfl⟩
  rw [hx15] at h2 c15 hle
  obtain ⟨b0, hb0⟩ : ∃ b, (x15 == 32768) = b := ⟨_, rfl⟩
  have hb0' : b0 = true ↔ x15 = 32768 := by rw [← hb0]; simp
  have LZ0 : Hid ((s && b0) = true ↔ (s = true ∧ x15 = 32768 ∧ ∀ j, j < 0 → dg zs j = 0)) := by
    unfold Hid
    rw [Bool.and_eq_true, hb0']
    exact ⟨fun ⟨a, b⟩ => ⟨a, b, fun j hj => by omega⟩, fun ⟨a, b, _⟩ => ⟨a, b⟩⟩
  have hlf := Lib.hid (hle.out h2)
  clear hsm hle TOP hx15 hb0'
  have L : ∀ l0 : Bool, (s && b0) = l0 → Hid (l0 = true ↔ (s = true ∧ x15 = 32768 ∧ ∀ j, j < 0 → dg zs j = 0)) := fun l0 h => h ▸ LZ0
  have LL := Lib.hid L
  clear LZ0 L
  go_upto_region 6 with fail
  have LS := LL.out _ (by rw [hs0])
  clear c15 h2 hb0 LL hs0
  go_wp2
  go_loop [5, 6] (fun l i => ∃ (k : Nat) (b : Bool), k ≤ 15 ∧ i = .int .i64 k ∧ l = .bool b ∧ Hid (b = true ↔ (s = true ∧ x15 = 32768 ∧ ∀ j, j < k → dg zs j = 0))) (fun _ i => 15 - (intOf i).toNat)
  case atStart => exact ⟨0, _, by omega, rfl, rfl, LS⟩
  case round =>
    obtain ⟨k, b, hk, rfl, rfl, HI⟩ := hrel
    by_cases hk15 : k < 15
    · have ck := CELL2.out k (by omega)
      obtain ⟨x, hx⟩ : ∃ x, dg zs k = x := ⟨_, rfl⟩
      rw [hx] at ck
      obtain ⟨t, ht⟩ : ∃ t, (x == 0) = t := ⟨_, rfl⟩
      have HJ : Hid ((b && t) = true ↔ (s = true ∧ x15 = 32768 ∧ ∀ j, j < k + 1 → dg zs j = 0)) := by
        unfold Hid
        rw [Bool.and_eq_true, HI.out]
        refine ⟨fun ⟨⟨a, b, c⟩, d⟩ => ⟨a, b, fun j hj => ?_⟩, fun ⟨a, b, c⟩ => ⟨⟨a, b, fun j hj => c j (by omega)⟩, by rw [← ht, ← hx, c k (by omega)]; rfl⟩⟩
        by_cases e : j = k
        · subst e; rw [hx]; simpa [← ht] using d
        · exact c j (by omega)
      clear hx HI LS
      cases b with
      | false =>
        go_wp2
        go_round
        case rel => exact ⟨k + 1, false, by omega, by go_num, rfl, HJ⟩
        case measure => first | (simp [intOf]; done) | (simp [intOf]; omega)
      | true =>
        go_wp2
        go_round
        case rel => exact ⟨k + 1, t, by omega, by go_num, rfl, HJ⟩
        case measure => first | (simp [intOf]; done) | (simp [intOf]; omega)
    · obtain rfl : k = 15 := by omega
      cases b with
      | false =>
        have nf : Hid (¬ Fit z) := fun h => by
          have := HI.out.2 (hlf.out.1 h)
          cases this
        clear HI LS hlf CELL CELL2 DGD W16
        go_wp2
        refine bodyPost_ret (v := .tuple #[.agg #[.int .u64 0, .int .u64 0, .int .u64 0, .int .u64 0], .bool false]) (by simp [results, Tryd.results34, go_sem, R1]) rfl ⟨.inr ⟨nf.out, rfl⟩, ?_⟩
        repeat' (first | (with_reducible exact Below.refl _ _) | (with_reducible assumption) | (with_reducible refine below_drewN ?_ _) | (with_reducible refine Below.drew ?_) | (with_reducible refine Below.alloc ?_ ?_ _) | (with_reducible refine Below.setCell ?_ ?_ _) | (with_reducible refine then_ ?_ (by with_reducible assumption) ?_) | (with_reducible exact Nat.le_refl _) | (with_reducible exact Nat.le_succ _) | (with_reducible exact Nat.le_succ_of_le (by with_reducible assumption)) | omega | (simp; done) | (simp; omega) | (exact Nat.le_succ _) | (exact Nat.le_succ_of_le (by with_reducible assumption)))
      | true =>
        have hF := Lib.hid (hlf.out.2 (HI.out.1 rfl))
        clear HI LS hlf CELL2
        go_upto_region 12 with fail
        clear N1 N2 N3 R1 R2 R3 V1 V2 V3 t1 e16 e16'
        try clear ha
        go_wp2
        go_loopg [7, 8] 16 (fun g c i wr => ∃ (k : Nat) (V : Int), g + k = 16 ∧ i = .int .i64 k ∧ c = .int .i64 (fr u s k).2 ∧ Hid (vl (fr u s k).1 = V) ∧ Own wr w.heap.size 42 #[.bool s, .slice a len cap] ∧ Own wr (w.heap.size + 1) 23 #[.int .u64 0, .int .u64 0, .int .u64 0, .int .u64 0] ∧ Own wr (w.heap.size + 2) 23 (wcs V) ∧ Below w.heap.size w wr)
        case atStart => exact ⟨0, 0, rfl, rfl, rfl, Lib.hid rfl, ON, OR, OW.as wcs_zero.symm, hB⟩
        case round =>
          clear ON OR OW hB
          obtain ⟨k, V, hk, rfl, rfl, HV, ON, OR, OW, hB⟩ := hrel
          by_cases h16 : k < 16
          · obtain ⟨g1, g2, g3, g4, _⟩ := fr_ok u s k
            have v0 := vl_nonneg g2
            have v1 := vl_lt g2
            obtain ⟨dd, cc, FS, d0, d1, KK⟩ := fr_key u s k
            have hD := frd_range u k
            have hdo := fun h : len ≤ k => dg_out (zs := zs) (i := k) (by omega)
            have VS : vl (fr u s (k + 1)).1 = V + 65536 ^ k * dd := by rw [FS, vl_snoc, g1, HV.out]
            have FSc : (fr u s (k + 1)).2 = cc := by rw [FS]
            rw [g1, HV.out] at v1
            rw [HV.out] at v0
            obtain ⟨SET, x0, y0, xy⟩ := wcs_set h16 v0 v1 d0 d1
            have GET := wcs_get V h16
            rw [← DGD.out k] at KK hD
            have CK := Lib.hid (CELL.out k)
            obtain ⟨D, hDD⟩ : ∃ D, dg zs k = D := ⟨_, rfl⟩
            rw [hDD] at KK hD hdo CK
            obtain ⟨c, hc⟩ : ∃ c, (fr u s k).2 = c := ⟨_, rfl⟩
            rw [hc] at KK g3 g4 ⊢
            obtain ⟨V', hV'⟩ : ∃ V', V + 65536 ^ k * dd = V' := ⟨_, rfl⟩
            rw [hV'] at SET VS
            obtain ⟨q, hq⟩ : ∃ q : Nat, k / 4 = q := ⟨_, rfl⟩
            obtain ⟨r, hr⟩ : ∃ r : Nat, k % 4 = r := ⟨_, rfl⟩
            obtain ⟨x, hx⟩ : ∃ x, lw V k = x := ⟨_, rfl⟩
            rw [hx] at SET GET x0 xy
            rw [hq] at SET GET
            rw [hr] at SET y0 xy
            obtain ⟨y, hy⟩ : ∃ y, dd * 65536 ^ r = y := ⟨_, rfl⟩
            rw [hy] at SET y0 xy
            have hq2 : (k : Int) / 4 = (q : Int) := by omega
            have hq4 : q < 4 := by omega
            have hr2 : (k : Int) % 4 = (r : Int) := by omega
            have hr4 : r < 4 := by omega
            have SETH := Lib.hid SET
            have VSH := Lib.hid VS
            have FSH := Lib.hid FSc
            have YH := Lib.hid hy
            obtain ⟨P1, P2, P3⟩ := OW.at_
            have P4 : wr.cell? ⟨w.heap.size + 2, q, none⟩ = some (.int .u64 x) := (P1 q).trans GET
            obtain ⟨Q1, Q2, Q3⟩ := ON.at_
            have hBs := hB.size
            obtain ⟨D0, D1⟩ := hD
            clear SET VS FSc FS hy GET hx hq hr hV' hc hDD v0 v1 g1 g2 P1 HV DGD W16 CELL
            have WAY : (k < len ∧ ∃ p o, a = some ⟨p, o, none⟩ ∧ w.cell? ⟨p, o + k, none⟩ = some (.int .i64 D)) ∨ (¬ k < len ∧ D = 0) := by
              by_cases h : k < len
              · exact .inl ⟨h, CK.out h⟩
              · exact .inr ⟨h, hdo (by omega)⟩
            clear hdo CK
            rcases WAY with ⟨hkl, p, o, ha, hc0⟩ | ⟨hkl, hD0⟩
            · have hck := keep hB hc0
              have hkl2 : (k : Int) < len := by omega
              cases ha
              clear hc0
              rcases KK with ⟨rfl, rfl, rfl⟩ | ⟨rfl, rfl, rfl⟩
              all_goals
                go_upto_region 23 with fail
                clear hck
                clear Q1 Q2 Q3
                go_wp2
                go_loop [10, 11] (fun p j => ∃ m : Nat, m ≤ r ∧ j = .int .i64 m ∧ p = .int .u64 (65536 ^ m)) (fun _ j => r - (intOf j).toNat)
                case atStart => exact ⟨0, by omega, rfl, rfl⟩
                case round =>
                  obtain ⟨m, hm, rfl, rfl⟩ := hrel
                  by_cases hmr : m < r
                  · obtain ⟨b0, b1⟩ := pow_small (m := m) (by omega)
                    have PS : (65536 : Int) ^ (m + 1) = 65536 ^ m * 65536 := Int.pow_succ _ _
                    obtain ⟨pp, hpp⟩ : ∃ pp, (65536 : Int) ^ m = pp := ⟨_, rfl⟩
                    rw [hpp] at b0 b1 PS ⊢
                    have PSH := Lib.hid PS
                    clear hpp PS
                    go_wp2
                    go_round
                    case rel => exact ⟨m + 1, by omega, by go_num, by rw [PSH.out]⟩
                    case measure => simp [intOf]; omega
                  · obtain rfl : m = r := by omega
                    obtain ⟨pp, hpp⟩ : ∃ pp, (65536 : Int) ^ m = pp := ⟨_, rfl⟩
                    have hy := YH.out
                    rw [hpp] at hy ⊢
                    clear hpp YH
                    go_wp2
                    go_roundg (gk - 1)
                    case measure => omega
                    case rel => exact ⟨k + 1, V', by omega, by go_num, by rw [FSH.out], VSH, ON.apart (by omega) _ _, OR.apart (by omega) _ _, (OW.put q _).as SETH.out, hB.setCell (by show w.heap.size ≤ w.heap.size + 2; omega) _⟩
            · have hkl2 : ¬ (k : Int) < len := by omega
              subst hD0
              simp only [Int.sub_zero] at KK
              rcases KK with ⟨rfl, rfl, rfl⟩ | ⟨rfl, rfl, rfl⟩
              all_goals
                go_upto_region 23 with fail
                clear Q1 Q2 Q3
                go_wp2
                go_loop [10, 11] (fun p j => ∃ m : Nat, m ≤ r ∧ j = .int .i64 m ∧ p = .int .u64 (65536 ^ m)) (fun _ j => r - (intOf j).toNat)
                case atStart => exact ⟨0, by omega, rfl, rfl⟩
                case round =>
                  obtain ⟨m, hm, rfl, rfl⟩ := hrel
                  by_cases hmr : m < r
                  · obtain ⟨b0, b1⟩ := pow_small (m := m) (by omega)
                    have PS : (65536 : Int) ^ (m + 1) = 65536 ^ m * 65536 := Int.pow_succ _ _
                    obtain ⟨pp, hpp⟩ : ∃ pp, (65536 : Int) ^ m = pp := ⟨_, rfl⟩
                    rw [hpp] at b0 b1 PS ⊢
                    have PSH := Lib.hid PS
                    clear hpp PS
                    go_wp2
                    go_round
                    case rel => exact ⟨m + 1, by omega, by go_num, by rw [PSH.out]⟩
                    case measure => simp [intOf]; omega
                  · obtain rfl : m = r := by omega
                    obtain ⟨pp, hpp⟩ : ∃ pp, (65536 : Int) ^ m = pp := ⟨_, rfl⟩
                    have hy := YH.out
                    rw [hpp] at hy ⊢
                    clear hpp YH
                    go_wp2
                    go_roundg (gk - 1)
                    case measure => omega
                    case rel => exact ⟨k + 1, V', by omega, by go_num, by rw [FSH.out], VSH, ON.apart (by omega) _ _, OR.apart (by omega) _ _, (OW.put q _).as SETH.out, hB.setCell (by show w.heap.size ≤ w.heap.size + 2; omega) _⟩
          · obtain rfl : k = 16 := by omega
            have OV : Own wr (w.heap.size + 2) 23 #[.int .u64 (L0 z), .int .u64 (L1 z), .int .u64 (L2 z), .int .u64 (L3 z)] := OW.as (by rw [← HV.out, W16.out hF.out]; rfl)
            clear OW HV W16 DGD CELL hl
            obtain ⟨c, hc⟩ : ∃ c, (fr u s 16).2 = c := ⟨_, rfl⟩
            rw [hc]
            clear hc
            obtain ⟨P1, P2, P3⟩ := OV.at_
            obtain ⟨R1, R2, R3⟩ := OR.at_
            go_wp2
            refine bodyPost_ret (v := .tuple #[.agg #[.int .u64 (L0 z), .int .u64 (L1 z), .int .u64 (L2 z), .int .u64 (L3 z)], .bool true]) (by simp [results, Tryd.results34, go_sem, R1]) rfl ⟨.inl ⟨hF.out, rfl⟩, ?_⟩
            repeat' (first | (with_reducible exact Below.refl _ _) | (with_reducible assumption) | (with_reducible refine below_drewN ?_ _) | (with_reducible refine Below.drew ?_) | (with_reducible refine Below.alloc ?_ ?_ _) | (with_reducible refine Below.setCell ?_ ?_ _) | (with_reducible refine then_ ?_ (by with_reducible assumption) ?_) | (with_reducible exact Nat.le_refl _) | (with_reducible exact Nat.le_succ _) | (with_reducible exact Nat.le_succ_of_le (by with_reducible assumption)) | omega | (simp; done) | (simp; omega) | (exact Nat.le_succ _) | (exact Nat.le_succ_of_le (by with_reducible assumption)))
end Go.Proofs.YtjmojddnedngaaaDoor
