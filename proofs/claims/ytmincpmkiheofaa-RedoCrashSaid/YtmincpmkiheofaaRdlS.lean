
/- The contract of the ninth reference's Same. Conditions: slices that stand in memory. -/
import Derived.Test.YtmincpmkiheofaaTxns
import Derived.Test.YtmincpmkiheofaaSeq
namespace Go.Proofs.Ytmincpmkiheofaa
open Go.ChangeShapes Go.WideShapes Go.ChangeAt Go.RowKit
set_option linter.unusedVariables false
set_option linter.unusedSimpArgs false

set_option maxRecDepth 10000 in
set_option maxHeartbeats 4000000 in
theorem same_any (w : World) (S T : Nat → Prop) (v1 v2 : Value) (ts us : List (Nat × List ByteArray)) (h : TxnsIn w S v1 ts) (h' : TxnsIn w T v2 us) (hb : ∀ t ∈ ts, t.1 ≤ 18446744073709551615) (hb' : ∀ t ∈ us, t.1 ≤ 18446744073709551615) :
    Calls Try.prog 14 #[v1, v2] w fun e w' => e = .returned (.bool (decide (ts = us))) ∧ ∃ q, w' = w.drewN q := by
  obtain ⟨a, cap, rfl, h1, h2, h3⟩ := h.open_
  obtain ⟨a', cap', rfl, h1', h2', h3'⟩ := h'.open_
  clear h h'
  unfold maxLen at h2 h2'
  replace h3 := Lib.hid h3
  replace h3' := Lib.hid h3'
  by_cases hlen : ts.length = us.length
  rotate_left
  · have d : decide (ts = us) = false := decide_eq_false fun e => hlen (by rw [e])
    rw [d]
    have t1 : ((ts.length : Int) != (us.length : Int)) = true := by rw [bne_iff_ne]; omega
    clear d hlen
    go_enter Try.func14, Try.ntmps14
    go_wp2
    go_ret
    exact ⟨rfl, 0, rfl⟩
  obtain ⟨n, hn⟩ : ∃ n, n = ts.length := ⟨_, rfl⟩
  have hn' : n = us.length := by omega
  rw [← hn] at h1 ⊢
  rw [← hn'] at h1' ⊢
  have N1 := Lib.hid hn
  have N2 := Lib.hid hn'
  have FALSE : Hid (∀ (i : Nat) (h1 : i < ts.length) (h2 : i < us.length), ts[i]'h1 ≠ us[i]'h2 → decide (ts = us) = false) := Lib.hid fun i h1 h2 hne => decide_eq_false fun e => by subst e; exact hne rfl
  clear hn hn' hlen
  obtain ⟨R, hR⟩ : ∃ R, R = decide (ts = us) := ⟨_, rfl⟩
  rw [← hR] at FALSE
  rw [← hR]
  have HR := Lib.hid hR
  clear hR
  go_enter Try.func14, Try.ntmps14
  go_wp2
  go_loopw [5] (fun i wr => ∃ k q : Nat, k ≤ n ∧ i = .int .i64 k ∧ wr = w.drewN q ∧ ∀ j (h1 : j < ts.length) (h2 : j < us.length), j < k → ts[j]'h1 = us[j]'h2) (fun i wr => n - (intOf i).toNat)
  case atStart => exact ⟨0, 0, by omega, rfl, rfl, fun j _ _ h => absurd h (Nat.not_lt_zero _)⟩
  case round =>
    obtain ⟨k, q, hk, rfl, rfl, hE⟩ := hrel
    replace hE := Lib.hid hE
    by_cases hlt : k < n
    · have hk1 : k < ts.length := by rw [← N1.out]; exact hlt
      have hk2 : k < us.length := by rw [← N2.out]; exact hlt
      obtain ⟨b, o, rfl, -, -, c1, u, c2, hsu⟩ := h3.out k hk1
      obtain ⟨b', o', rfl, -, -, c1', u', c2', hsu'⟩ := h3'.out k hk2
      obtain ⟨ua, uc, rfl, p1, p2, p3⟩ := hsu.open_
      obtain ⟨ua', uc', rfl, p1', p2', p3'⟩ := hsu'.open_
      have hbt := hb _ (List.getElem_mem hk1)
      have hbu := hb' _ (List.getElem_mem hk2)
      have FK := FALSE.out k hk1 hk2
      obtain ⟨t, ht⟩ : ∃ t, t = ts[k]'hk1 := ⟨_, rfl⟩
      obtain ⟨t', ht'⟩ : ∃ t', t' = us[k]'hk2 := ⟨_, rfl⟩
      rw [← ht] at c1 c2 p1 p3 hbt FK
      rw [← ht'] at c1' c2' p1' p3' hbu FK
      have HT := Lib.hid ht
      have HT' := Lib.hid ht'
      obtain ⟨sq, ps⟩ := t
      obtain ⟨sq', ps'⟩ := t'
      simp only at c1 c2 p1 p3 hbt c1' c2' p1' p3' hbu
      replace FK := Lib.hid FK
      replace p3 := Lib.hid p3
      replace p3' := Lib.hid p3'
      have k1 : (k : Int) < n := by omega
      clear ht ht' hsu hsu'
      unfold maxLen at p2 p2'
      have CC : Hid (w.cell? ⟨b, o + k * 2, none⟩ = some (.int .u64 (sq : Int)) ∧ w.cell? ⟨b, o + k * 2 + 1, none⟩ = some (.slice ua ps.length uc) ∧ w.cell? ⟨b', o' + k * 2, none⟩ = some (.int .u64 (sq' : Int)) ∧ w.cell? ⟨b', o' + k * 2 + 1, none⟩ = some (.slice ua' ps'.length uc')) := Lib.hid ⟨c1, c2, c1', c2'⟩
      clear c1 c2 c1' c2'
      by_cases es : sq = sq'
      · have d1 : ((sq : Int) != (sq' : Int)) = false := by rw [es]; simp
        by_cases el : ps.length = ps'.length
        rotate_left
        · have d2 : ((ps.length : Int) == (ps'.length : Int)) = false := by rw [beq_eq_false_iff_ne]; omega
          have F := Lib.hid (FK.out (fun e => el (congrArg List.length (Prod.mk.inj e).2)))
          clear el es
          go_upto_region 6 with fail
          refine wp_region_seq (fun W => W.cell? ⟨b, o + k * 2, none⟩ = some (.int .u64 (sq : Int)) ∧ W.cell? ⟨b, o + k * 2 + 1, none⟩ = some (.slice ua ps.length uc) ∧ W.cell? ⟨b', o' + k * 2, none⟩ = some (.int .u64 (sq' : Int)) ∧ W.cell? ⟨b', o' + k * 2 + 1, none⟩ = some (.slice ua' ps'.length uc')) (0 :: 1 :: 2 :: 3 :: 4 :: 5 :: 6 :: 7 :: 8 :: 9 :: 10 :: 11 :: 12 :: 13 :: 14 :: 15 :: 16 :: 17 :: 18 :: 19 :: 20 :: 21 :: 22 :: 23 :: 24 :: 25 :: []) (4 :: 9 :: 16 :: 22 :: []) (0 :: 1 :: 2 :: 3 :: 4 :: 5 :: 6 :: 7 :: 8 :: 9 :: 10 :: 11 :: 12 :: 13 :: 14 :: 15 :: 16 :: 17 :: 18 :: 19 :: 20 :: 21 :: 22 :: 23 :: 24 :: 25 :: []) (by kernel_rfl) (by kernel_rfl) rfl (by kernel_rfl) rfl (CC.out) (by simp only [picked, List.filterMap_cons, List.filterMap_nil, List.getElem?_cons_zero, List.getElem?_cons_succ, Option.map_some]; exact rfl) ?_
          iterate 26
            refine seq_want (v := ?_) rfl rfl (fun W hS => ?_) ?_
            rotate_left
            · first
                | (conv => lhs; simp [go_sem, k1, d1, d2]
                   first | done | exact rfl)
                | (have hS := hS rfl
                   obtain ⟨q1, q2, q3, q4⟩ := hS
                   conv => lhs; simp [go_sem, *, k1, d1, d2]
                   first | done | exact rfl)
            simp only [Act.put, List.setIfInBounds_toArray, List.set_cons_zero, List.set_cons_succ]
          refine seq_end ?_
          go_wp2
          go_ret
          exact ⟨by rw [F.out]; rfl, q + 1, rfl⟩
        have d2 : ((ps.length : Int) == (ps'.length : Int)) = true := by rw [beq_iff_eq]; omega
        have EL := Lib.hid el
        have ES := Lib.hid es
        clear el es
        go_upto_region 6 with fail
        refine wp_region_seq (fun W => W.cell? ⟨b, o + k * 2, none⟩ = some (.int .u64 (sq : Int)) ∧ W.cell? ⟨b, o + k * 2 + 1, none⟩ = some (.slice ua ps.length uc) ∧ W.cell? ⟨b', o' + k * 2, none⟩ = some (.int .u64 (sq' : Int)) ∧ W.cell? ⟨b', o' + k * 2 + 1, none⟩ = some (.slice ua' ps'.length uc')) (0 :: 1 :: 2 :: 3 :: 4 :: 5 :: 6 :: 7 :: 8 :: 9 :: 10 :: 11 :: 12 :: 13 :: 14 :: 15 :: 16 :: 17 :: 18 :: 19 :: 20 :: 21 :: 22 :: 23 :: 24 :: 25 :: []) (4 :: 9 :: 16 :: 22 :: []) (0 :: 1 :: 2 :: 3 :: 4 :: 5 :: 6 :: 7 :: 8 :: 9 :: 10 :: 11 :: 12 :: 13 :: 14 :: 15 :: 16 :: 17 :: 18 :: 19 :: 20 :: 21 :: 22 :: 23 :: 24 :: 25 :: []) (by kernel_rfl) (by kernel_rfl) rfl (by kernel_rfl) rfl (CC.out) (by simp only [picked, List.filterMap_cons, List.filterMap_nil, List.getElem?_cons_zero, List.getElem?_cons_succ, Option.map_some]; exact rfl) ?_
        iterate 26
          refine seq_want (v := ?_) rfl rfl (fun W hS => ?_) ?_
          rotate_left
          · first
              | (conv => lhs; simp [go_sem, k1, d1, d2]
                 first | done | exact rfl)
              | (have hS := hS rfl
                 obtain ⟨q1, q2, q3, q4⟩ := hS
                 conv => lhs; simp [go_sem, *, k1, d1, d2]
                 first | done | exact rfl)
          simp only [Act.put, List.setIfInBounds_toArray, List.set_cons_zero, List.set_cons_succ]
        refine seq_end ?_
        go_upto_region 9 with fail
        obtain ⟨L, hL⟩ : ∃ L, L = ps.length := ⟨_, rfl⟩
        have hL' : L = ps'.length := by rw [hL]; exact EL.out
        have LH := Lib.hid hL
        have LH' := Lib.hid hL'
        rw [← hL] at p1 CC ⊢
        rw [← hL'] at p1' CC ⊢
        clear hL hL' d2
        go_loopw [6] (fun i wr => ∃ m r : Nat, m ≤ L ∧ i = .int .i64 m ∧ wr = w.drewN r ∧ ∀ j (h1 : j < ps.length) (h2 : j < ps'.length), j < m → ps[j]'h1 = ps'[j]'h2) (fun i wr => L - (intOf i).toNat)
        case atStart => exact ⟨0, q + 1, by omega, rfl, rfl, fun j _ _ h => absurd h (Nat.not_lt_zero _)⟩
        case round =>
          obtain ⟨m, r, hm, rfl, rfl, hP⟩ := hrel
          replace hP := Lib.hid hP
          obtain ⟨c1, c2, c3, c4⟩ := CC.out
          by_cases hlm : m < L
          · have hm1 : m < ps.length := by rw [← LH.out]; exact hlm
            have hm2 : m < ps'.length := by rw [← LH'.out]; exact hlm
            obtain ⟨z1, e1, f1, rfl, -, -, y1⟩ := p3.out m hm1
            obtain ⟨z2, e2, f2, rfl, -, -, y2⟩ := p3'.out m hm2
            obtain ⟨x, hx⟩ : ∃ x, x = ps[m]'hm1 := ⟨_, rfl⟩
            obtain ⟨x', hx'⟩ : ∃ x', x' = ps'[m]'hm2 := ⟨_, rfl⟩
            rw [← hx] at y1
            rw [← hx'] at y2
            have HX := Lib.hid hx
            have HX' := Lib.hid hx'
            have Y := Lib.hid (And.intro y1 y2)
            have k2 : (m : Int) < L := by omega
            clear hx hx' z1 z2 y1 y2
            go_upto_region 11 with fail
            clear c1 c2 c3 c4
            refine wp_region_seq (fun W => (W.cell? ⟨b, o + k * 2, none⟩ = some (.int .u64 (sq : Int)) ∧ W.cell? ⟨b, o + k * 2 + 1, none⟩ = some (.slice (some ⟨e1, f1, none⟩) L uc) ∧ W.cell? ⟨b', o' + k * 2, none⟩ = some (.int .u64 (sq' : Int)) ∧ W.cell? ⟨b', o' + k * 2 + 1, none⟩ = some (.slice (some ⟨e2, f2, none⟩) L uc')) ∧ W.cell? ⟨e1, f1 + m, none⟩ = some (.string x) ∧ W.cell? ⟨e2, f2 + m, none⟩ = some (.string x')) (0 :: 1 :: 2 :: 3 :: 4 :: 5 :: 6 :: 7 :: 8 :: 9 :: 10 :: 11 :: 12 :: 13 :: 14 :: 15 :: 16 :: []) (4 :: 7 :: 12 :: 15 :: []) (0 :: 1 :: 2 :: 3 :: 4 :: 5 :: 6 :: 7 :: 8 :: 9 :: 10 :: 11 :: 12 :: 13 :: 14 :: 15 :: 16 :: []) (by kernel_rfl) (by kernel_rfl) rfl (by kernel_rfl) rfl (⟨CC.out, Y.out⟩) (by simp only [picked, List.filterMap_cons, List.filterMap_nil, List.getElem?_cons_zero, List.getElem?_cons_succ, Option.map_some]; exact rfl) ?_
            iterate 16
              refine seq_want (v := ?_) rfl rfl (fun W hS => ?_) ?_
              rotate_left
              · first
                  | (conv => lhs; simp [go_sem, k1, k2]
                     first | done | exact rfl)
                  | (have hS := hS rfl
                     obtain ⟨⟨q1, q2, q3, q4⟩, q5, q6⟩ := hS
                     conv => lhs; simp [go_sem, *, k1, k2]
                     first | done | exact rfl)
              simp only [Act.put, List.setIfInBounds_toArray, List.set_cons_zero, List.set_cons_succ]
            by_cases ex : x = x'
            · have d5 : (x.toList == x'.toList) = true := by rw [ex]; simp
              have EX := Lib.hid ex
              clear ex
              iterate 1
                refine seq_want (v := ?_) rfl rfl (fun W hS => ?_) ?_
                rotate_left
                · conv => lhs; simp [go_sem, d5]
                  first | done | exact rfl
                simp only [Act.put, List.setIfInBounds_toArray, List.set_cons_zero, List.set_cons_succ]
              refine seq_end ?_
              go_wp2
              go_roundw
              case rel =>
                refine ⟨m + 1, r + 1, by omega, by go_num, rfl, fun j g1 g2 hj => ?_⟩
                by_cases e : j = m
                · subst e; rw [← HX.out, ← HX'.out]; exact EX.out
                · exact hP.out j g1 g2 (by omega)
              case measure => simp [intOf]; omega
            · have d5 : (x.toList == x'.toList) = false := str_ne ex
              have F := Lib.hid (FK.out (fun e => ex (by
                have e2 := (Prod.mk.inj e).2
                rw [HX.out, HX'.out]
                simp only [e2])))
              clear ex
              iterate 1
                refine seq_want (v := ?_) rfl rfl (fun W hS => ?_) ?_
                rotate_left
                · conv => lhs; simp [go_sem, d5]
                  first | done | exact rfl
                simp only [Act.put, List.setIfInBounds_toArray, List.set_cons_zero, List.set_cons_succ]
              refine seq_end ?_
              go_wp2
              go_ret
              exact ⟨by rw [F.out]; rfl, r + 1, rfl⟩
          · obtain rfl : m = L := by omega
            have hps : ps = ps' := List.ext_getElem EL.out fun i g1 g2 => hP.out i g1 g2 (by rw [LH.out]; exact g1)
            have HPS := Lib.hid hps
            clear hps
            go_wp2
            clear c1 c2 c3 c4
            go_roundw
            case rel =>
              refine ⟨k + 1, r, by omega, by go_num, rfl, fun j g1 g2 hj => ?_⟩
              by_cases e : j = k
              · subst e; rw [← HT.out, ← HT'.out, ES.out, HPS.out]
              · exact hE.out j g1 g2 (by omega)
            case measure => simp [intOf]; omega
      · have d1 : ((sq : Int) == (sq' : Int)) = false := by rw [beq_eq_false_iff_ne]; omega
        have d3 : ((sq : Int) != (sq' : Int)) = true := by rw [bne_iff_ne]; omega
        have F := Lib.hid (FK.out (fun e => es (Prod.mk.inj e).1))
        clear es
        go_upto_region 6 with fail
        refine wp_region_seq (fun W => W.cell? ⟨b, o + k * 2, none⟩ = some (.int .u64 (sq : Int)) ∧ W.cell? ⟨b, o + k * 2 + 1, none⟩ = some (.slice ua ps.length uc) ∧ W.cell? ⟨b', o' + k * 2, none⟩ = some (.int .u64 (sq' : Int)) ∧ W.cell? ⟨b', o' + k * 2 + 1, none⟩ = some (.slice ua' ps'.length uc')) (0 :: 1 :: 2 :: 3 :: 4 :: 5 :: 6 :: 7 :: 8 :: 9 :: 10 :: 11 :: 12 :: 13 :: 14 :: 15 :: 16 :: 17 :: 18 :: 19 :: 20 :: 21 :: 22 :: 23 :: 24 :: 25 :: []) (4 :: 9 :: 16 :: 22 :: []) (0 :: 1 :: 2 :: 3 :: 4 :: 5 :: 6 :: 7 :: 8 :: 9 :: 10 :: 11 :: 12 :: 13 :: 14 :: 15 :: 16 :: 17 :: 18 :: 19 :: 20 :: 21 :: 22 :: 23 :: 24 :: 25 :: []) (by kernel_rfl) (by kernel_rfl) rfl (by kernel_rfl) rfl (CC.out) (by simp only [picked, List.filterMap_cons, List.filterMap_nil, List.getElem?_cons_zero, List.getElem?_cons_succ, Option.map_some]; exact rfl) ?_
        iterate 12
          refine seq_want (v := ?_) rfl rfl (fun W hS => ?_) ?_
          rotate_left
          · first
              | (conv => lhs; simp [go_sem, k1, d1, d3]
                 first | done | exact rfl)
              | (have hS := hS rfl
                 obtain ⟨q1, q2, q3, q4⟩ := hS
                 conv => lhs; simp [go_sem, *, k1, d1, d3]
                 first | done | exact rfl)
          simp only [Act.put, List.setIfInBounds_toArray, List.set_cons_zero, List.set_cons_succ]
        iterate 13
          refine seq_skip rfl rfl ?_
          simp only [Act.put, List.setIfInBounds_toArray, List.set_cons_zero, List.set_cons_succ]
        iterate 1
          refine seq_want (v := ?_) rfl rfl (fun W hS => ?_) ?_
          rotate_left
          · conv => lhs; simp [go_sem, d1, d3]
            first | done | exact rfl
          simp only [Act.put, List.setIfInBounds_toArray, List.set_cons_zero, List.set_cons_succ]
        refine seq_end ?_
        go_wp2
        go_ret
        exact ⟨by rw [F.out]; rfl, q + 1, rfl⟩
    · obtain rfl : k = n := by omega
      have e : R = true := by
        rw [HR.out]
        refine decide_eq_true (List.ext_getElem (by rw [← N1.out, ← N2.out]) fun i h1 h2 => hE.out i h1 h2 (by rw [N1.out]; exact h1))
      have E := Lib.hid e
      clear e
      go_wp2
      go_ret
      exact ⟨by rw [E.out]; rfl, q, rfl⟩
end Go.Proofs.Ytmincpmkiheofaa
