
/- The contract of plan's CanSplit. Conditions: at most 100,000 vertices, and edges. -/
import Derived.Test.YtdkmclaihojknaaPlnH
namespace Go.Proofs.Ytdkmclaihojknaa.Pl
open Go.ChangeShapes Go.WideShapes Go.ChangeAt Go.RowKit
set_option linter.unusedVariables false
set_option linter.unusedSimpArgs false
section
variable {v e : Value} {vs : List Vx} {es : List Eg} {w : World}
set_option maxRecDepth 10000 in
set_option maxHeartbeats 1000000 in
theorem pcanSplit_any (id x y : Int) (hv : VIn w v vs) (he : EIn w e es) (hn : vs.length ≤ 100000) (hm : es.length ≤ 100000) : Calls Try.prog 19 #[.agg #[v, e], .int .i64 id, .agg #[.int .i64 x, .int .i64 y]] w fun r w' => r = .returned (.int .i64 (orArg vs es (cSplit vs es id x y))) ∧ Below w.heap.size w w' := by
  have HV : Hid (∀ W, Below w.heap.size w W → VIn W v vs) := Lib.hid fun W hW => TIn.below hv hW
  have HE : Hid (∀ W, Below w.heap.size w W → EIn W e es) := Lib.hid fun W hW => TIn.below he hW
  have DY := Lib.hid (fun W (hW : Below w.heap.size w W) (h : Rt vs es) => draw_yes (HV.out W hW) (HE.out W hW) hn hm h)
  have DN := Lib.hid (fun W (hW : Below w.heap.size w W) (h : ¬ Rt vs es) => draw_no (HV.out W hW) (HE.out W hW) hn hm h)
  have ED := Lib.hid (fun W (hW : Below w.heap.size w W) => edge_any v e es id W (HE.out W hW) (by obtain ⟨a, c, h⟩ := hv.sl; exact ⟨_, _, _, h⟩) (by omega))
  have AV := Lib.hid (fun (W : World) (B d : Nat) (hd : DrawAt W B d vs es) => allV_any hd (by omega))
  have AE := Lib.hid (fun (W : World) (B d : Nat) (hd : DrawAt W B d vs es) => allE_any hd (by omega))
  obtain ⟨a, c, rfl⟩ := hv.sl
  obtain ⟨a', c', rfl⟩ := he.sl
  have BB := Lib.hid ((bx1 w 35 #[.slice a vs.length c, .slice a' es.length c']).alloc (bx1 w _ _).size (.cells #[.int .i64 x, .int .i64 y] 27))
  have OB : Hid (Own ((w.alloc (.cells #[.slice a vs.length c, .slice a' es.length c'] 35)).alloc (.cells #[.int .i64 x, .int .i64 y] 27)) w.heap.size 35 #[.slice a vs.length c, .slice a' es.length c']) := Lib.hid ((Own.made _ _ _).more _)
  have OO : Hid (Own ((w.alloc (.cells #[.slice a vs.length c, .slice a' es.length c'] 35)).alloc (.cells #[.int .i64 x, .int .i64 y] 27)) (w.heap.size + 1) 27 #[.int .i64 x, .int .i64 y]) := Lib.hid (Own.made_at (by simp))
  clear HV HE hv he
  by_cases h : Rt vs es
  · unfold orArg
    rw [rtB_iff.2 h, if_pos rfl]
    have RT := Lib.hid h
    clear h DN
    unfold cSplit
    cases hf : fE es id with
    | none =>
      have hs : hasE es id = false := by unfold hasE; rw [hf]; rfl
      rw [hf, hs] at ED
      unfold egO at ED
      simp only at ED ⊢
      clear hf hs
      generalize vs.length = n at *
      generalize es.length = m at *
      go_enter Try.func19, Try.ntmps19
      go_upto_region 2 with (go_at_call 36; refine (DY.out _ BB.out RT.out).mono ?_; rintro e w2 ⟨d, rfl, d2, b2⟩; have D2 := Lib.hid d2; have B2 := Lib.hid (then_ BB.out b2 BB.out.size); have P2 := Lib.hid (OB.out.keep b2); have T2 := Lib.hid (OO.out.keep b2); clear d2 b2)
      obtain ⟨q1, q2, q3⟩ := P2.out.at_
      go_wp2_with (go_at_call 26; refine (ED.out _ B2.out).mono ?_; rintro e w3 ⟨rfl, b3⟩; have B3 := Lib.hid ((then_ B2.out b3 B2.out.size).alloc (then_ B2.out b3 B2.out.size).size (.cells #[.int .i64 0, .int .i64 0, .int .i64 0] 33)); clear b3)
      go_ret
      exact ⟨rfl, B3.out⟩
    | some u =>
      have hs : hasE es id = true := by unfold hasE; rw [hf]; rfl
      rw [hf, hs] at ED
      unfold egO at ED
      obtain ⟨z1, z2, z3⟩ := u
      simp only at ED ⊢
      have HR : Hid ((sgOf vs z2 z3).on x y = onB x y (px vs z2) (py vs z2) (px vs z3) (py vs z3)) := Lib.hid rfl
      obtain ⟨R, hR⟩ : ∃ R, R = onB x y (px vs z2) (py vs z2) (px vs z3) (py vs z3) := ⟨_, rfl⟩
      rw [← hR] at HR ⊢
      have E9 : (if 512 ≤ vs.length ∨ 1024 ≤ es.length then (18 : Int) else 0) = if (decide (512 ≤ vs.length) || decide (1024 ≤ es.length)) = true then 18 else 0 := by simp
      rw [E9]
      clear hf hs hR E9
      generalize decide (512 ≤ vs.length) = m1 at *
      generalize decide (1024 ≤ es.length) = m2 at *
      generalize vs.length = n at *
      generalize es.length = m at *
      go_enter Try.func19, Try.ntmps19
      go_upto_region 2 with (go_at_call 36; refine (DY.out _ BB.out RT.out).mono ?_; rintro e w2 ⟨d, rfl, d2, b2⟩; have D2 := Lib.hid d2; have B2 := Lib.hid (then_ BB.out b2 BB.out.size); have P2 := Lib.hid (OB.out.keep b2); have T2 := Lib.hid (OO.out.keep b2); clear d2 b2)
      obtain ⟨q1, q2, q3⟩ := P2.out.at_
      go_upto_region 7 with (go_at_call 26; refine (ED.out _ B2.out).mono ?_; rintro e w3 ⟨rfl, b3⟩; have B3 := Lib.hid (then_ B2.out b3 B2.out.size); have D3 := Lib.hid (D2.out.below b3); have P3 := Lib.hid (T2.out.keep b3); clear b3)
      have BX := Lib.hid (bx1 w3 33 #[.int .i64 z1, .int .i64 z2, .int .i64 z3])
      have B4 := Lib.hid (then_ B3.out BX.out B3.out.size)
      have D4 := Lib.hid (D3.out.below BX.out)
      have P4 := Lib.hid (P3.out.keep BX.out)
      have O4 := Lib.hid (Own.made w3 33 #[.int .i64 z1, .int .i64 z2, .int .i64 z3])
      generalize hW4 : w3.alloc (.cells #[.int .i64 z1, .int .i64 z2, .int .i64 z3] 33) = W4 at BX B4 D4 P4 O4 ⊢
      have DD : Below W4.heap.size W4 W4.drew := (Below.refl _ _).drew
      have LD := Lib.hid (line_any (D4.out.below DD) z2 z3)
      clear hW4 q1 q2 q3
      refine wp_region_seq (fun W => Below W4.heap.size W4 W) (0 :: 1 :: 2 :: 3 :: 4 :: 6 :: 8 :: 9 :: []) (2 :: 4 :: 6 :: []) (0 :: 1 :: 2 :: 3 :: 4 :: 6 :: 5 :: 7 :: 8 :: 9 :: []) (by kernel_rfl) (by kernel_rfl) rfl (by kernel_rfl) rfl (DD) (by simp only [picked, List.filterMap_cons, List.filterMap_nil, List.getElem?_cons_zero, List.getElem?_cons_succ, Option.map_some]; exact rfl) ?_
      iterate 6
        refine seq_want (v := ?_) rfl rfl (fun W hS => ?_) ?_
        rotate_left
        · first
            | (conv => lhs; simp [go_sem]
               first | done | exact rfl)
            | (have hS := hS rfl
               obtain ⟨g1, g2, g3⟩ := three_at (O4.out.keep hS)
               obtain ⟨f0, f1⟩ := two_at (P4.out.keep hS)
               conv => lhs; simp [go_sem, *]
               first | done | exact rfl)
        simp only [Act.put, List.setIfInBounds_toArray, List.set_cons_zero, List.set_cons_succ]
      refine seq_on rfl rfl fun K hK => ?_
      go_wp2_with (go_at_call 39; refine LD.out.mono ?_; rintro e w5 ⟨q, rfl, lq, lnq, b5⟩)
      have LNQ := Lib.hid lnq
      have B5 := Lib.hid (then_ DD b5 (Nat.le_refl _))
      refine hK _ _ B5.out ?_
      clear hK K b5 lnq lq
      refine seq_on rfl rfl fun K hK => ?_
      go_wp2_with (go_at_call 40; refine (holds_any q (sgOf vs z2 z3) x y _ LNQ.out).mono ?_; rintro e w6 ⟨rfl, b6⟩)
      have B6 := Lib.hid (then_ B5.out b6 B5.out.size)
      rw [HR.out]
      refine hK _ _ B6.out ?_
      clear hK K b6
      iterate 2
        refine seq_want (v := ?_) rfl rfl (fun W hS => ?_) ?_
        rotate_left
        · first
            | (conv => lhs; simp [go_sem]
               first | done | exact rfl)
            | (have hS := hS rfl
               obtain ⟨g1, g2, g3⟩ := three_at (O4.out.keep hS)
               obtain ⟨f0, f1⟩ := two_at (P4.out.keep hS)
               conv => lhs; simp [go_sem, *]
               first | done | exact rfl)
        simp only [Act.put, List.setIfInBounds_toArray, List.set_cons_zero, List.set_cons_succ]
      refine seq_end ?_
      have D6 := Lib.hid (D4.out.below B6.out)
      have B7 := Lib.hid (then_ B4.out B6.out B4.out.size)
      cases R with
      | false =>
        go_wp2
        go_ret
        exact ⟨rfl, B7.out⟩
      | true =>
        cases m1 with
        | true =>
          go_wp2_with (go_at_call 41; refine (AV.out _ _ _ D6.out).mono ?_; rintro e w8 ⟨rfl, b8⟩; have B8 := Lib.hid (then_ B7.out b8 B7.out.size); have D8 := Lib.hid (D6.out.below b8); clear b8)
          go_ret
          exact ⟨rfl, B8.out⟩
        | false =>
          cases m2 with
          | true =>
            go_wp2_with (first
              | (go_at_call 41; refine (AV.out _ _ _ D6.out).mono ?_; rintro e w8 ⟨rfl, b8⟩; have B8 := Lib.hid (then_ B7.out b8 B7.out.size); have D8 := Lib.hid (D6.out.below b8); clear b8)
              | (go_at_call 42; refine (AE.out _ _ _ D8.out).mono ?_; rintro e w9 ⟨rfl, b9⟩; have B9 := Lib.hid (then_ B8.out b9 B8.out.size); clear b9))
            go_ret
            exact ⟨rfl, B9.out⟩
          | false =>
            go_wp2_with (first
              | (go_at_call 41; refine (AV.out _ _ _ D6.out).mono ?_; rintro e w8 ⟨rfl, b8⟩; have B8 := Lib.hid (then_ B7.out b8 B7.out.size); have D8 := Lib.hid (D6.out.below b8); clear b8)
              | (go_at_call 42; refine (AE.out _ _ _ D8.out).mono ?_; rintro e w9 ⟨rfl, b9⟩; have B9 := Lib.hid (then_ B8.out b9 B8.out.size); clear b9))
            go_ret
            exact ⟨rfl, B9.out⟩
  · unfold orArg
    rw [rtB_not h, if_neg (by decide)]
    have RT := Lib.hid h
    clear h DY
    obtain ⟨E0, hE0⟩ : ∃ o : Int × Int × Int, egO (fE es id) = .agg #[.int .i64 o.1, .int .i64 o.2.1, .int .i64 o.2.2] := by cases fE es id with
      | none => exact ⟨(0, 0, 0), rfl⟩
      | some u => exact ⟨(u.id, u.a, u.b), rfl⟩
    rw [hE0] at ED
    obtain ⟨z1, z2, z3⟩ := E0
    clear hE0
    generalize hasE es id = T at *
    generalize vs.length = n at *
    generalize es.length = m at *
    go_enter Try.func19, Try.ntmps19
    go_upto_region 2 with (go_at_call 36; refine (DN.out _ BB.out RT.out).mono ?_; rintro e w2 ⟨rfl, b2⟩; have B2 := Lib.hid (then_ BB.out b2 BB.out.size); have P2 := Lib.hid (OB.out.keep b2); clear b2)
    obtain ⟨q1, q2, q3⟩ := P2.out.at_
    go_wp2_with (go_at_call 26; refine (ED.out _ B2.out).mono ?_; rintro e w3 ⟨rfl, b3⟩; have B3 := Lib.hid ((then_ B2.out b3 B2.out.size).alloc (then_ B2.out b3 B2.out.size).size (.cells #[.int .i64 z1, .int .i64 z2, .int .i64 z3] 33)); clear b3)
    go_ret
    exact ⟨rfl, B3.out⟩
end
end Go.Proofs.Ytdkmclaihojknaa.Pl