
/- The reference's CanAdd. Conditions: at most 100,000 vertices, and edges. -/
import Derived.Test.YtdkmclaihojknaaPlnU
import Derived.Test.YtdkmclaihojknaaPlnK
namespace Go.Proofs.Ytdkmclaihojknaa.Pl
open Go.ChangeShapes Go.WideShapes Go.ChangeAt Go.RowKit
set_option linter.unusedVariables false
set_option linter.unusedSimpArgs false
section
variable {v e : Value} {vs : List Vx} {es : List Eg} {w : World}
set_option maxRecDepth 10000 in
set_option maxHeartbeats 2000000 in
theorem rcanAdd_any (x y : Int) (hv : VIn w v vs) (he : EIn w e es) (hn : vs.length ≤ 100000) (hm : es.length ≤ 100000) : Calls Try.prog 31 #[.agg #[v, e], .agg #[.int .i64 x, .int .i64 y]] w fun r w' => r = .returned (.int .i64 (orArg vs es (cAdd vs es x y))) ∧ Below w.heap.size w w' := by
  have RG := Lib.hid (fun W (hW : Below w.heap.size w W) => rright_any (TIn.below hv hW) (TIn.below he hW) hn hm)
  have AT := Lib.hid (fun W (hW : Below w.heap.size w W) (i : Int) (hi : hasV vs i = true) => at_any v e vs i W (TIn.below hv hW) (by obtain ⟨a, c, k⟩ := he.sl; exact ⟨_, _, _, k⟩) hn hi)
  obtain ⟨a, cap, rfl, hc1, hc2, -, hcl⟩ := TIn.open_ hv
  obtain ⟨a', cap', rfl, hc1', hc2', -, hcl'⟩ := TIn.open_ he
  have HV := Lib.hid hcl
  have HE := Lib.hid hcl'
  have INC := Lib.hid (fun W => RIn_any x y W)
  have BB := Lib.hid ((bx1 w 25 #[.slice a vs.length cap, .slice a' es.length cap']).alloc (bx1 w _ _).size (.cells #[.int .i64 x, .int .i64 y] 27))
  have OB : Hid (Own ((w.alloc (.cells #[.slice a vs.length cap, .slice a' es.length cap'] 25)).alloc (.cells #[.int .i64 x, .int .i64 y] 27)) w.heap.size 25 #[.slice a vs.length cap, .slice a' es.length cap']) := Lib.hid ((Own.made _ _ _).more _)
  have OO : Hid (Own ((w.alloc (.cells #[.slice a vs.length cap, .slice a' es.length cap'] 25)).alloc (.cells #[.int .i64 x, .int .i64 y] 27)) (w.heap.size + 1) 27 #[.int .i64 x, .int .i64 y]) := Lib.hid (Own.made_at (by simp))
  clear hv he hcl hcl'
  unfold orArg
  by_cases hrt : Rt vs es
  · have hb := rtB_iff.2 hrt
    rw [hb] at RG ⊢
    rw [if_pos rfl]
    have FV : Hid (FlV vs) := Lib.hid (rt_iff.1 hrt).1
    have FE : Hid (FlE vs es) := Lib.hid (rt_iff.1 hrt).2
    clear hb hrt
    obtain ⟨Z, hZ⟩ : ∃ Z, Z = cAdd vs es x y := ⟨_, rfl⟩
    rw [← hZ]
    have HZ := Lib.hid hZ
    clear hZ
    have ATV : Hid (∀ k (hk : k < vs.length), decide ((vs[k]'hk).x = x ∧ (vs[k]'hk).y = y) = true → atV vs x y = true) := Lib.hid fun k hk h => any_at (P := fun v : Vx => decide (v.x = x ∧ v.y = y)) hk h
    have ATN : Hid ((∀ k (hk : k < vs.length), decide ((vs[k]'hk).x = x ∧ (vs[k]'hk).y = y) = false) → atV vs x y = false) := Lib.hid fun h => any_not h
    have ONY : Hid (∀ k (hk : k < es.length), onB x y (px vs (es[k]'hk).a) (py vs (es[k]'hk).a) (px vs (es[k]'hk).b) (py vs (es[k]'hk).b) = true → onL vs es x y = true) := Lib.hid fun k hk h => any_at (P := fun e : Eg => onB x y (px vs e.a) (py vs e.a) (px vs e.b) (py vs e.b)) hk h
    have ONN : Hid ((∀ k (hk : k < es.length), onB x y (px vs (es[k]'hk).a) (py vs (es[k]'hk).a) (px vs (es[k]'hk).b) (py vs (es[k]'hk).b) = false) → onL vs es x y = false) := Lib.hid fun h => any_not h
    have CON : Hid (inB x y = true → ∀ k (hk : k < es.length), hasV vs (es[k]'hk).a = true ∧ hasV vs (es[k]'hk).b = true ∧ ∀ W, Calls Try.prog 49 #[.agg #[.int .i64 x, .int .i64 y], .agg #[.int .i64 (px vs (es[k]'hk).a), .int .i64 (py vs (es[k]'hk).a)], .agg #[.int .i64 (px vs (es[k]'hk).b), .int .i64 (py vs (es[k]'hk).b)]] W fun e w' => e = .returned (.bool (onB x y (px vs (es[k]'hk).a) (py vs (es[k]'hk).a) (px vs (es[k]'hk).b) (py vs (es[k]'hk).b))) ∧ Below W.heap.size W w') := Lib.hid fun hin k hk => by
      obtain ⟨h1, h2, h3⟩ := FE.out.ends _ (List.getElem_mem hk)
      refine ⟨h2, h3, fun W => ?_⟩
      have r2 := inB_rng.1 (px_rng FV.out.rng h2)
      have r3 := inB_rng.1 (px_rng FV.out.rng h3)
      rw [on_in (in3_iff.2 ⟨inB_rng.1 hin, r2, r3⟩)]
      exact ROn_in (inB_rng.1 hin) r2 r3 W
    clear FV FE
    have ZD : Hid (Z = if inB x y = false then 5 else if atV vs x y = true then 7 else if onL vs es x y = true then 14 else if 512 ≤ vs.length then 18 else 0) := Lib.hid HZ.out
    clear HZ
    generalize atV vs x y = ta at *
    generalize onL vs es x y = tl at *
    generalize inB x y = tb at *
    obtain ⟨n, hnn⟩ : ∃ n, n = vs.length := ⟨_, rfl⟩
    obtain ⟨m, hmm⟩ : ∃ m, m = es.length := ⟨_, rfl⟩
    rw [← hnn] at hc1 hn RG AT BB OB OO ZD ⊢
    rw [← hmm] at hc1' hm RG AT BB OB OO ⊢
    have HN := Lib.hid hnn
    have HM := Lib.hid hmm
    clear hnn hmm
    go_enter Try.func31, Try.ntmps31
    go_upto_region 1 with fail
    generalize hW0 : (w.alloc (.cells #[.slice a n cap, .slice a' m cap'] 25)).alloc (.cells #[.int .i64 x, .int .i64 y] 27) = W0 at BB OB OO ⊢
    clear hW0
    have KB : Hid (∀ W, Below W0.heap.size W0 W → Below w.heap.size w W ∧ Own W w.heap.size 25 #[.slice a n cap, .slice a' m cap'] ∧ Own W (w.heap.size + 1) 27 #[.int .i64 x, .int .i64 y]) := Lib.hid fun W hW => ⟨then_ BB.out hW BB.out.size, OB.out.keep hW, OO.out.keep hW⟩
    obtain ⟨p1, p2, p3⟩ := OB.out.at_
    obtain ⟨o1, o2, o3⟩ := OO.out.at_
    go_upto_region 3 with (go_at_call 24; refine (RG.out _ BB.out).mono ?_; rintro e w1 ⟨rfl, b1⟩)
    have B1 := Lib.hid b1
    obtain ⟨-, h1, h2⟩ := KB.out _ B1.out
    obtain ⟨p1, p2, p3⟩ := h1.at_
    obtain ⟨o1, o2, o3⟩ := h2.at_
    clear b1 h1 h2 BB OB OO
    cases tb with
    | false =>
      obtain rfl : Z = 5 := by rw [ZD.out]; rfl
      go_wp2_with (go_at_call 44; refine (INC.out _).mono ?_; rintro e w2 ⟨rfl, b2⟩; have B2 := Lib.hid (then_ B1.out b2 B1.out.size); clear b2)
      go_ret
      exact ⟨rfl, (KB.out _ B2.out).1⟩
    | true =>
      have CN := Lib.hid (CON.out rfl)
      clear CON
      go_upto_region 5 with (go_at_call 44; refine (INC.out _).mono ?_; rintro e w2 ⟨rfl, b2⟩; have B2 := Lib.hid (then_ B1.out b2 B1.out.size); clear b2)
      obtain ⟨-, h1, h2⟩ := KB.out _ B2.out
      obtain ⟨p1, p2, p3⟩ := h1.at_
      clear h1 h2 o1 o2 o3 RG INC
      go_wp2
      go_loopw [5] (fun j wq => ∃ k : Nat, k ≤ n ∧ j = .int .i64 (k : Int) ∧ Hid (∀ q (hq : q < vs.length), q < k → decide ((vs[q]'hq).x = x ∧ (vs[q]'hq).y = y) = false) ∧ Hid (Below W0.heap.size W0 wq)) (fun j wq => n - (intOf j).toNat)
      case atStart => exact ⟨0, by omega, rfl, Lib.hid fun q hq h => by omega, B2⟩
      case round =>
        clear p1 p2 p3
        obtain ⟨k, hk, rfl, hno, HQ⟩ := hrel
        have KQ := Lib.hid (KB.out _ HQ.out)
        obtain ⟨p1, p2, p3⟩ := KQ.out.2.1.at_
        by_cases hlk : k < n
        · have hkl : k < vs.length := by rw [← HN.out]; exact hlk
          obtain ⟨b7, o7, rfl, hb7, hc7⟩ := HV.out k hkl
          have H7 := Lib.hid hc7
          have AK := Lib.hid (ATV.out k hkl)
          obtain ⟨y0, hy⟩ : ∃ y0, y0 = vs[k]'hkl := ⟨_, rfl⟩
          rw [← hy] at H7 AK
          have HY := Lib.hid hy
          clear hy hc7
          obtain ⟨y1, y2, y3⟩ := y0
          simp only at H7 AK
          have k9 : (k : Int) < (n : Int) := by omega
          go_upto_region 8 with fail
          clear p1 p2 p3
          by_cases hyx : y2 = x ∧ y3 = y
          · have hye : decide (y2 = x ∧ y3 = y) = true := by simpa using hyx
            obtain rfl : ta = true := AK.out hye
            obtain rfl : Z = 7 := by rw [ZD.out]; rfl
            refine wp_region_seq (fun W => Below W0.heap.size W0 W) (0 :: 1 :: 2 :: 3 :: 4 :: 5 :: 6 :: 7 :: []) (1 :: 5 :: 6 :: []) (0 :: 1 :: 2 :: 3 :: 4 :: 5 :: 6 :: 7 :: []) (by kernel_rfl) (by kernel_rfl) rfl (by kernel_rfl) rfl (HQ.out.drew) (by simp only [picked, List.filterMap_cons, List.filterMap_nil, List.getElem?_cons_zero, List.getElem?_cons_succ, Option.map_some]; exact rfl) ?_
            iterate 8
              refine seq_want (v := ?_) rfl rfl (fun W hS => ?_) ?_
              rotate_left
              · first
                  | (conv => lhs; simp [go_sem, eq_Point, k9, hyx.1, hyx.2]
                     first | done | exact rfl)
                  | (have hS := hS rfl
                     obtain ⟨hbw, h1, h2⟩ := KB.out _ hS
                     obtain ⟨q0, q1⟩ := pl_two h1
                     obtain ⟨g0, g1⟩ := pl_two h2
                     obtain ⟨f1, f2, f3⟩ := H7.out _ hbw
                     conv => lhs; simp [go_sem, *, eq_Point, k9, hyx.1, hyx.2]
                     first | done | exact rfl)
              simp only [Act.put, List.setIfInBounds_toArray, List.set_cons_zero, List.set_cons_succ]
            refine seq_end ?_
            go_wp2
            go_ret
            exact ⟨rfl, (KB.out _ HQ.out.drew).1⟩
          · have hye : Hid (decide (y2 = x ∧ y3 = y) = false) := Lib.hid (by simpa using hyx)
            refine wp_region_seq (fun W => Below W0.heap.size W0 W) (0 :: 1 :: 2 :: 3 :: 4 :: 5 :: 6 :: 7 :: []) (1 :: 5 :: 6 :: []) (0 :: 1 :: 2 :: 3 :: 4 :: 5 :: 6 :: 7 :: []) (by kernel_rfl) (by kernel_rfl) rfl (by kernel_rfl) rfl (HQ.out.drew) (by simp only [picked, List.filterMap_cons, List.filterMap_nil, List.getElem?_cons_zero, List.getElem?_cons_succ, Option.map_some]; exact rfl) ?_
            iterate 8
              refine seq_want (v := ?_) rfl rfl (fun W hS => ?_) ?_
              rotate_left
              · first
                  | (conv => lhs; simp [go_sem, eq_Point, k9, hyx]
                     first | done | exact rfl)
                  | (have hS := hS rfl
                     obtain ⟨hbw, h1, h2⟩ := KB.out _ hS
                     obtain ⟨q0, q1⟩ := pl_two h1
                     obtain ⟨g0, g1⟩ := pl_two h2
                     obtain ⟨f1, f2, f3⟩ := H7.out _ hbw
                     conv => lhs; simp [go_sem, *, eq_Point, k9, hyx]
                     first | done | exact rfl)
              simp only [Act.put, List.setIfInBounds_toArray, List.set_cons_zero, List.set_cons_succ]
            refine seq_end ?_
            go_wp2
            go_roundw
            case rel =>
              refine ⟨k + 1, by omega, by go_num, Lib.hid fun q hq hqk => ?_, Lib.hid HQ.out.drew⟩
              rcases Nat.lt_succ_iff_lt_or_eq.1 hqk with hqk | rfl
              · exact hno.out q hq hqk
              · rw [← HY.out]; exact hye.out
            case measure => simp [intOf] <;> omega
        · obtain rfl : ta = false := ATN.out fun q hq => hno.out q hq (by have := HN.out; omega)
          have HQ0 := HQ
          clear ATV ATN hno HQ HV
          go_wp2
          go_loopw [6] (fun j wq => ∃ i : Nat, i ≤ m ∧ j = .int .i64 (i : Int) ∧ Hid (∀ q (hq : q < es.length), q < i → onB x y (px vs (es[q]'hq).a) (py vs (es[q]'hq).a) (px vs (es[q]'hq).b) (py vs (es[q]'hq).b) = false) ∧ Hid (Below W0.heap.size W0 wq)) (fun j wq => m - (intOf j).toNat)
          case atStart => exact ⟨0, by omega, rfl, Lib.hid fun q hq h => by omega, HQ0⟩
          case round =>
            clear p1 p2 p3 KQ HQ0 hlk
            obtain ⟨i, hi, rfl, hno, HQ⟩ := hrel
            have KQ := Lib.hid (KB.out _ HQ.out)
            obtain ⟨p1, p2, p3⟩ := KQ.out.2.1.at_
            by_cases hli : i < m
            · have hil : i < es.length := by rw [← HM.out]; exact hli
              obtain ⟨b7, o7, rfl, hb7, hc7⟩ := HE.out i hil
              have H7 := Lib.hid hc7
              have AK := Lib.hid (ONY.out i hil)
              have CK := Lib.hid (CN.out i hil)
              obtain ⟨y0, hy⟩ : ∃ y0, y0 = es[i]'hil := ⟨_, rfl⟩
              rw [← hy] at H7 AK CK
              have HY := Lib.hid hy
              clear hy hc7
              obtain ⟨y1, y2, y3⟩ := y0
              simp only at H7 AK CK
              have HA := Lib.hid (fun W (hW : Below W0.heap.size W0 W) => AT.out W (KB.out W hW).1 y2 CK.out.1)
              have HBB := Lib.hid (fun W (hW : Below W0.heap.size W0 W) => AT.out W (KB.out W hW).1 y3 CK.out.2.1)
              replace CK := Lib.hid CK.out.2.2
              obtain ⟨tt, htt⟩ : ∃ t, t = onB x y (px vs y2) (py vs y2) (px vs y3) (py vs y3) := ⟨_, rfl⟩
              rw [← htt] at AK CK
              have HT := Lib.hid htt
              generalize px vs y2 = ax at HA CK
              generalize py vs y2 = ay at HA CK
              generalize px vs y3 = bx at HBB CK
              generalize py vs y3 = byy at HBB CK
              clear htt
              have k9 : (i : Int) < (m : Int) := by omega
              have E2 : Below W0.heap.size W0 wr.drew := HQ.out.drew
              go_upto_region 13 with fail
              clear p1 p2 p3
              cases tt with
              | true =>
                obtain rfl : tl = true := AK.out rfl
                obtain rfl : Z = 14 := by rw [ZD.out]; rfl
                refine wp_region_seq (fun W => Below W0.heap.size W0 W) (0 :: 1 :: 2 :: 3 :: 4 :: 5 :: 6 :: 7 :: 9 :: 10 :: 11 :: 12 :: 13 :: 14 :: 15 :: []) (0 :: 1 :: 3 :: 7 :: 9 :: 11 :: 15 :: []) (0 :: 1 :: 2 :: 3 :: 4 :: 5 :: 6 :: 7 :: 9 :: 10 :: 11 :: 12 :: 13 :: 14 :: 15 :: 8 :: 16 :: 17 :: []) (by kernel_rfl) (by kernel_rfl) rfl (by kernel_rfl) rfl (E2) (by simp only [picked, List.filterMap_cons, List.filterMap_nil, List.getElem?_cons_zero, List.getElem?_cons_succ, Option.map_some]; exact rfl) ?_
                iterate 15
                  refine seq_want (v := ?_) rfl rfl (fun W hS => ?_) ?_
                  rotate_left
                  · first
                      | (conv => lhs; simp [go_sem, k9]
                         first | done | exact rfl)
                      | (have hS := hS rfl
                         obtain ⟨hbw, h1, h2⟩ := KB.out _ hS
                         obtain ⟨q0, q1⟩ := pl_two h1
                         obtain ⟨g0, g1⟩ := pl_two h2
                         obtain ⟨f1, f2, f3⟩ := H7.out _ hbw
                         conv => lhs; simp [go_sem, *, k9]
                         first | done | exact rfl)
                  simp only [Act.put, List.setIfInBounds_toArray, List.set_cons_zero, List.set_cons_succ]
                refine seq_on rfl rfl fun K hK => ?_
                go_wp2_with (go_at_call 47; refine (HA.out _ E2).mono ?_; rintro e y1' ⟨rfl, c1⟩)
                have Y1 := Lib.hid (then_ E2 c1 E2.size)
                refine hK _ _ Y1.out ?_
                clear hK K c1
                refine seq_on rfl rfl fun K hK => ?_
                go_wp2_with (go_at_call 47; refine (HBB.out _ Y1.out).mono ?_; rintro e y2' ⟨rfl, c2⟩)
                have Y2 := Lib.hid (then_ Y1.out c2 Y1.out.size)
                refine hK _ _ Y2.out ?_
                clear hK K c2
                refine seq_on rfl rfl fun K hK => ?_
                go_wp2_with (go_at_call 49; refine (CK.out _).mono ?_; rintro e y3' ⟨rfl, c3⟩)
                have Y3 := Lib.hid (then_ Y2.out c3 Y2.out.size)
                refine hK _ _ Y3.out ?_
                clear hK K c3
                refine seq_end ?_
                go_wp2
                go_ret
                exact ⟨rfl, (KB.out _ Y3.out).1⟩
              | false =>
                refine wp_region_seq (fun W => Below W0.heap.size W0 W) (0 :: 1 :: 2 :: 3 :: 4 :: 5 :: 6 :: 7 :: 9 :: 10 :: 11 :: 12 :: 13 :: 14 :: 15 :: []) (0 :: 1 :: 3 :: 7 :: 9 :: 11 :: 15 :: []) (0 :: 1 :: 2 :: 3 :: 4 :: 5 :: 6 :: 7 :: 9 :: 10 :: 11 :: 12 :: 13 :: 14 :: 15 :: 8 :: 16 :: 17 :: []) (by kernel_rfl) (by kernel_rfl) rfl (by kernel_rfl) rfl (E2) (by simp only [picked, List.filterMap_cons, List.filterMap_nil, List.getElem?_cons_zero, List.getElem?_cons_succ, Option.map_some]; exact rfl) ?_
                iterate 15
                  refine seq_want (v := ?_) rfl rfl (fun W hS => ?_) ?_
                  rotate_left
                  · first
                      | (conv => lhs; simp [go_sem, k9]
                         first | done | exact rfl)
                      | (have hS := hS rfl
                         obtain ⟨hbw, h1, h2⟩ := KB.out _ hS
                         obtain ⟨q0, q1⟩ := pl_two h1
                         obtain ⟨g0, g1⟩ := pl_two h2
                         obtain ⟨f1, f2, f3⟩ := H7.out _ hbw
                         conv => lhs; simp [go_sem, *, k9]
                         first | done | exact rfl)
                  simp only [Act.put, List.setIfInBounds_toArray, List.set_cons_zero, List.set_cons_succ]
                refine seq_on rfl rfl fun K hK => ?_
                go_wp2_with (go_at_call 47; refine (HA.out _ E2).mono ?_; rintro e y1' ⟨rfl, c1⟩)
                have Y1 := Lib.hid (then_ E2 c1 E2.size)
                refine hK _ _ Y1.out ?_
                clear hK K c1
                refine seq_on rfl rfl fun K hK => ?_
                go_wp2_with (go_at_call 47; refine (HBB.out _ Y1.out).mono ?_; rintro e y2' ⟨rfl, c2⟩)
                have Y2 := Lib.hid (then_ Y1.out c2 Y1.out.size)
                refine hK _ _ Y2.out ?_
                clear hK K c2
                refine seq_on rfl rfl fun K hK => ?_
                go_wp2_with (go_at_call 49; refine (CK.out _).mono ?_; rintro e y3' ⟨rfl, c3⟩)
                have Y3 := Lib.hid (then_ Y2.out c3 Y2.out.size)
                refine hK _ _ Y3.out ?_
                clear hK K c3
                refine seq_end ?_
                go_wp2
                go_roundw
                case rel =>
                  refine ⟨i + 1, by omega, by go_num, Lib.hid fun q hq hqk => ?_, Y3⟩
                  rcases Nat.lt_succ_iff_lt_or_eq.1 hqk with hqk | rfl
                  · exact hno.out q hq hqk
                  · rw [← HY.out]; exact HT.out.symm
                case measure => simp [intOf] <;> omega
            · obtain rfl : tl = false := ONN.out fun q hq => hno.out q hq (by have := HM.out; omega)
              by_cases h5 : 512 ≤ n
              · obtain rfl : Z = 18 := by rw [ZD.out, if_neg (by decide), if_neg (by decide), if_neg (by decide), if_pos h5]
                go_wp2
                go_ret
                exact ⟨rfl, KQ.out.1⟩
              · obtain rfl : Z = 0 := by rw [ZD.out, if_neg (by decide), if_neg (by decide), if_neg (by decide), if_neg h5]
                go_wp2
                go_ret
                exact ⟨rfl, KQ.out.1⟩
  · have hb := rtB_not hrt
    rw [hb] at RG ⊢
    rw [if_neg (by decide)]
    clear hb hrt HV HE AT INC OO
    generalize vs.length = n at *
    generalize es.length = m at *
    obtain ⟨p1, p2, p3⟩ := OB.out.at_
    go_enter Try.func31, Try.ntmps31
    go_wp2_with (go_at_call 24; refine (RG.out _ BB.out).mono ?_; rintro e w1 ⟨rfl, b1⟩; have B1 := Lib.hid (then_ BB.out b1 BB.out.size); clear b1)
    go_ret
    exact ⟨rfl, B1.out⟩
end
end Go.Proofs.Ytdkmclaihojknaa.Pl