
/- The contracts of plan's Right, CanAdd, CanLink, CanSplit, CanDrop, CanCut. Conditions: at most 100,000 vertices, and edges. -/
import Derived.Test.YtdkmclaihojknaaPlnG
import Derived.Test.YtdkmclaihojknaaPlnK
namespace Go.Proofs.Ytdkmclaihojknaa.Pl
open Go.ChangeShapes Go.WideShapes Go.ChangeAt Go.RowKit
set_option linter.unusedVariables false
set_option linter.unusedSimpArgs false

section
variable {v e : Value} {vs : List Vx} {es : List Eg} {w : World}
theorem draw_yes (hv : VIn w v vs) (he : EIn w e es) (hn : vs.length ≤ 100000) (hm : es.length ≤ 100000) (h : Rt vs es) : Calls Try.prog 36 #[.agg #[v, e]] w fun r w' => ∃ d, r = .returned (.tuple #[.pointer (some ⟨d, 0, none⟩), .bool true]) ∧ DrawAt w' w.heap.size d vs es ∧ Below w.heap.size w w' := by
  refine (draw_any v e vs es w hv he hn hm).mono ?_
  rintro r w' ⟨⟨_, d, h1, h2⟩ | ⟨hr, _⟩, hb⟩
  · exact ⟨d, h1, h2, hb⟩
  · exact absurd h hr
theorem draw_no (hv : VIn w v vs) (he : EIn w e es) (hn : vs.length ≤ 100000) (hm : es.length ≤ 100000) (h : ¬ Rt vs es) : Calls Try.prog 36 #[.agg #[v, e]] w fun r w' => r = .returned (.tuple #[.pointer none, .bool false]) ∧ Below w.heap.size w w' := by
  refine (draw_any v e vs es w hv he hn hm).mono ?_
  rintro r w' ⟨⟨hr, d, h1, h2⟩ | ⟨_, h1⟩, hb⟩
  · exact absurd hr h
  · exact ⟨h1, hb⟩
set_option maxRecDepth 10000 in
theorem right_any (hv : VIn w v vs) (he : EIn w e es) (hn : vs.length ≤ 100000) (hm : es.length ≤ 100000) : Calls Try.prog 13 #[.agg #[v, e]] w fun r w' => r = .returned (.bool (rtB vs es)) ∧ Below w.heap.size w w' := by
  have HV : Hid (∀ W, Below w.heap.size w W → VIn W v vs) := Lib.hid fun W hW => TIn.below hv hW
  have HE : Hid (∀ W, Below w.heap.size w W → EIn W e es) := Lib.hid fun W hW => TIn.below he hW
  have DY := Lib.hid (fun W (hW : Below w.heap.size w W) (h : Rt vs es) => draw_yes (HV.out W hW) (HE.out W hW) hn hm h)
  have DN := Lib.hid (fun W (hW : Below w.heap.size w W) (h : ¬ Rt vs es) => draw_no (HV.out W hW) (HE.out W hW) hn hm h)
  obtain ⟨a, c, rfl⟩ := hv.sl
  obtain ⟨a', c', rfl⟩ := he.sl
  have BB := Lib.hid (bx1 w 35 #[.slice a vs.length c, .slice a' es.length c'])
  clear HV HE hv he
  by_cases h : Rt vs es
  · rw [rtB_iff.2 h]
    have RT := Lib.hid h
    clear h DN
    generalize vs.length = n at *
    generalize es.length = m at *
    go_enter Try.func13, Try.ntmps13
    go_wp2_with (go_at_call 36; refine (DY.out _ BB.out RT.out).mono ?_; rintro e w2 ⟨d, rfl, d2, b2⟩; have D2 := Lib.hid d2; have B2 := Lib.hid (then_ BB.out b2 BB.out.size); clear d2 b2)
    go_ret
    exact ⟨rfl, B2.out⟩
  · rw [rtB_not h]
    have RT := Lib.hid h
    clear h DY
    generalize vs.length = n at *
    generalize es.length = m at *
    go_enter Try.func13, Try.ntmps13
    go_wp2_with (go_at_call 36; refine (DN.out _ BB.out RT.out).mono ?_; rintro e w2 ⟨rfl, b2⟩; have B2 := Lib.hid (then_ BB.out b2 BB.out.size); clear b2)
    go_ret
    exact ⟨rfl, B2.out⟩
set_option maxRecDepth 10000 in
theorem pcanAdd_any (x y : Int) (hv : VIn w v vs) (he : EIn w e es) (hn : vs.length ≤ 100000) (hm : es.length ≤ 100000) : Calls Try.prog 15 #[.agg #[v, e], .agg #[.int .i64 x, .int .i64 y]] w fun r w' => r = .returned (.int .i64 (orArg vs es (cAdd vs es x y))) ∧ Below w.heap.size w w' := by
  unfold orArg
  have HV : Hid (∀ W, Below w.heap.size w W → VIn W v vs) := Lib.hid fun W hW => TIn.below hv hW
  have HE : Hid (∀ W, Below w.heap.size w W → EIn W e es) := Lib.hid fun W hW => TIn.below he hW
  have DY := Lib.hid (fun W (hW : Below w.heap.size w W) (h : Rt vs es) => draw_yes (HV.out W hW) (HE.out W hW) hn hm h)
  have DN := Lib.hid (fun W (hW : Below w.heap.size w W) (h : ¬ Rt vs es) => draw_no (HV.out W hW) (HE.out W hW) hn hm h)
  have CA := Lib.hid (fun (W : World) (B d : Nat) (hd : DrawAt W B d vs es) => canAdd_any hd (by omega) x y)
  obtain ⟨a, c, rfl⟩ := hv.sl
  obtain ⟨a', c', rfl⟩ := he.sl
  have BB := Lib.hid ((bx1 w 35 #[.slice a vs.length c, .slice a' es.length c']).alloc (bx1 w _ _).size (.cells #[.int .i64 x, .int .i64 y] 27))
  have OO : Hid (Own ((w.alloc (.cells #[.slice a vs.length c, .slice a' es.length c'] 35)).alloc (.cells #[.int .i64 x, .int .i64 y] 27)) (w.heap.size + 1) 27 #[.int .i64 x, .int .i64 y]) := Lib.hid (Own.made_at (by simp))
  clear HV HE hv he
  obtain ⟨R, hR⟩ : ∃ R, R = cAdd vs es x y := ⟨_, rfl⟩
  rw [← hR] at CA ⊢
  clear hR
  by_cases h : Rt vs es
  · rw [rtB_iff.2 h, if_pos rfl]
    have RT := Lib.hid h
    clear h DN
    generalize vs.length = n at *
    generalize es.length = m at *
    go_enter Try.func15, Try.ntmps15
    go_upto_region 4 with (go_at_call 36; refine (DY.out _ BB.out RT.out).mono ?_; rintro e w2 ⟨d, rfl, d2, b2⟩; have D2 := Lib.hid d2; have B2 := Lib.hid (then_ BB.out b2 BB.out.size); have O2 := Lib.hid (OO.out.keep b2); clear d2 b2)
    obtain ⟨q0, q1⟩ := two_at O2.out
    go_wp2_with (go_at_call 37; refine (CA.out _ _ _ D2.out).mono ?_; rintro e w3 ⟨rfl, b3⟩; have B3 := Lib.hid (then_ B2.out b3 B2.out.size); clear b3)
    go_ret
    exact ⟨rfl, B3.out⟩
  · rw [rtB_not h, if_neg (by decide)]
    have RT := Lib.hid h
    clear h DY
    generalize vs.length = n at *
    generalize es.length = m at *
    go_enter Try.func15, Try.ntmps15
    go_wp2_with (go_at_call 36; refine (DN.out _ BB.out RT.out).mono ?_; rintro e w2 ⟨rfl, b2⟩; have B2 := Lib.hid (then_ BB.out b2 BB.out.size); clear b2)
    go_ret
    exact ⟨rfl, B2.out⟩
set_option maxRecDepth 10000 in
theorem pcanLink_any (x y : Int) (hv : VIn w v vs) (he : EIn w e es) (hn : vs.length ≤ 100000) (hm : es.length ≤ 100000) : Calls Try.prog 16 #[.agg #[v, e], .int .i64 x, .int .i64 y] w fun r w' => r = .returned (.int .i64 (orArg vs es (cLink vs es x y))) ∧ Below w.heap.size w w' := by
  unfold orArg
  have HV : Hid (∀ W, Below w.heap.size w W → VIn W v vs) := Lib.hid fun W hW => TIn.below hv hW
  have HE : Hid (∀ W, Below w.heap.size w W → EIn W e es) := Lib.hid fun W hW => TIn.below he hW
  have DY := Lib.hid (fun W (hW : Below w.heap.size w W) (h : Rt vs es) => draw_yes (HV.out W hW) (HE.out W hW) hn hm h)
  have DN := Lib.hid (fun W (hW : Below w.heap.size w W) (h : ¬ Rt vs es) => draw_no (HV.out W hW) (HE.out W hW) hn hm h)
  have CA := Lib.hid (fun (W : World) (B d : Nat) (hd : DrawAt W B d vs es) => canLink_any hd (by omega) x y)
  obtain ⟨a, c, rfl⟩ := hv.sl
  obtain ⟨a', c', rfl⟩ := he.sl
  have BB := Lib.hid (bx1 w 35 #[.slice a vs.length c, .slice a' es.length c'])
  clear HV HE hv he
  obtain ⟨R, hR⟩ : ∃ R, R = cLink vs es x y := ⟨_, rfl⟩
  rw [← hR] at CA ⊢
  clear hR
  by_cases h : Rt vs es
  · rw [rtB_iff.2 h, if_pos rfl]
    have RT := Lib.hid h
    clear h DN
    generalize vs.length = n at *
    generalize es.length = m at *
    go_enter Try.func16, Try.ntmps16
    go_wp2_with (first
      | (go_at_call 36; refine (DY.out _ BB.out RT.out).mono ?_; rintro e w2 ⟨d, rfl, d2, b2⟩; have D2 := Lib.hid d2; have B2 := Lib.hid (then_ BB.out b2 BB.out.size); clear d2 b2)
      | (go_at_call 38; refine (CA.out _ _ _ D2.out).mono ?_; rintro e w3 ⟨rfl, b3⟩; have B3 := Lib.hid (then_ B2.out b3 B2.out.size); clear b3))
    go_ret
    exact ⟨rfl, B3.out⟩
  · rw [rtB_not h, if_neg (by decide)]
    have RT := Lib.hid h
    clear h DY
    generalize vs.length = n at *
    generalize es.length = m at *
    go_enter Try.func16, Try.ntmps16
    go_wp2_with (go_at_call 36; refine (DN.out _ BB.out RT.out).mono ?_; rintro e w2 ⟨rfl, b2⟩; have B2 := Lib.hid (then_ BB.out b2 BB.out.size); clear b2)
    go_ret
    exact ⟨rfl, B2.out⟩
set_option maxRecDepth 10000 in
theorem pcanCut_any (x : Int) (hv : VIn w v vs) (he : EIn w e es) (hn : vs.length ≤ 100000) (hm : es.length ≤ 100000) : Calls Try.prog 18 #[.agg #[v, e], .int .i64 x] w fun r w' => r = .returned (.int .i64 (orArg vs es (cCut es x))) ∧ Below w.heap.size w w' := by
  have HV : Hid (∀ W, Below w.heap.size w W → VIn W v vs) := Lib.hid fun W hW => TIn.below hv hW
  have HE : Hid (∀ W, Below w.heap.size w W → EIn W e es) := Lib.hid fun W hW => TIn.below he hW
  have RG := Lib.hid (fun W (hW : Below w.heap.size w W) => right_any (HV.out W hW) (HE.out W hW) hn hm)
  have ED := Lib.hid (fun W (hW : Below w.heap.size w W) => edge_any v e es x W (HE.out W hW) (by obtain ⟨a, c, h⟩ := hv.sl; exact ⟨_, _, _, h⟩) (by omega))
  obtain ⟨a, c, rfl⟩ := hv.sl
  obtain ⟨a', c', rfl⟩ := he.sl
  have BB := Lib.hid (bx1 w 35 #[.slice a vs.length c, .slice a' es.length c'])
  have OB := Lib.hid (Own.made w 35 #[.slice a vs.length c, .slice a' es.length c'])
  clear HV HE hv he
  obtain ⟨E0, hE0⟩ : ∃ o : Int × Int × Int, egO (fE es x) = .agg #[.int .i64 o.1, .int .i64 o.2.1, .int .i64 o.2.2] := by cases fE es x with
    | none => exact ⟨(0, 0, 0), rfl⟩
    | some u => exact ⟨(u.id, u.a, u.b), rfl⟩
  rw [hE0] at ED
  obtain ⟨z1, z2, z3⟩ := E0
  unfold orArg cCut
  obtain ⟨R, hR⟩ : ∃ R, R = rtB vs es := ⟨_, rfl⟩
  obtain ⟨T, hT⟩ : ∃ T, T = hasE es x := ⟨_, rfl⟩
  rw [← hR] at RG ⊢
  rw [← hT] at ED ⊢
  clear hR hT hE0
  generalize vs.length = n at *
  generalize es.length = m at *
  cases R with
  | false =>
    go_enter Try.func18, Try.ntmps18
    go_upto_region 2 with (go_at_call 26; refine (ED.out _ BB.out).mono ?_; rintro e w2 ⟨rfl, b2⟩; have B2 := Lib.hid ((then_ BB.out b2 BB.out.size).alloc (then_ BB.out b2 BB.out.size).size (.cells #[.int .i64 z1, .int .i64 z2, .int .i64 z3] 33)); have O2 := Lib.hid ((OB.out.keep b2).more (.cells #[.int .i64 z1, .int .i64 z2, .int .i64 z3] 33)); clear b2)
    obtain ⟨q1, q2, q3⟩ := O2.out.at_
    go_wp2_with (go_at_call 13; refine (RG.out _ B2.out).mono ?_; rintro e w3 ⟨rfl, b3⟩; have B3 := Lib.hid (then_ B2.out b3 B2.out.size); clear b3)
    go_ret
    exact ⟨rfl, B3.out⟩
  | true =>
    cases T with
    | false =>
      go_enter Try.func18, Try.ntmps18
      go_upto_region 2 with (go_at_call 26; refine (ED.out _ BB.out).mono ?_; rintro e w2 ⟨rfl, b2⟩; have B2 := Lib.hid ((then_ BB.out b2 BB.out.size).alloc (then_ BB.out b2 BB.out.size).size (.cells #[.int .i64 z1, .int .i64 z2, .int .i64 z3] 33)); have O2 := Lib.hid ((OB.out.keep b2).more (.cells #[.int .i64 z1, .int .i64 z2, .int .i64 z3] 33)); clear b2)
      obtain ⟨q1, q2, q3⟩ := O2.out.at_
      go_wp2_with (go_at_call 13; refine (RG.out _ B2.out).mono ?_; rintro e w3 ⟨rfl, b3⟩; have B3 := Lib.hid (then_ B2.out b3 B2.out.size); clear b3)
      go_ret
      exact ⟨rfl, B3.out⟩
    | true =>
      go_enter Try.func18, Try.ntmps18
      go_upto_region 2 with (go_at_call 26; refine (ED.out _ BB.out).mono ?_; rintro e w2 ⟨rfl, b2⟩; have B2 := Lib.hid ((then_ BB.out b2 BB.out.size).alloc (then_ BB.out b2 BB.out.size).size (.cells #[.int .i64 z1, .int .i64 z2, .int .i64 z3] 33)); have O2 := Lib.hid ((OB.out.keep b2).more (.cells #[.int .i64 z1, .int .i64 z2, .int .i64 z3] 33)); clear b2)
      obtain ⟨q1, q2, q3⟩ := O2.out.at_
      go_wp2_with (go_at_call 13; refine (RG.out _ B2.out).mono ?_; rintro e w3 ⟨rfl, b3⟩; have B3 := Lib.hid (then_ B2.out b3 B2.out.size); clear b3)
      go_ret
      exact ⟨rfl, B3.out⟩
set_option maxRecDepth 10000 in
theorem pcanDrop_any (x : Int) (hv : VIn w v vs) (he : EIn w e es) (hn : vs.length ≤ 100000) (hm : es.length ≤ 100000) : Calls Try.prog 17 #[.agg #[v, e], .int .i64 x] w fun r w' => r = .returned (.int .i64 (orArg vs es (cDrop vs es x))) ∧ Below w.heap.size w w' := by
  have HV : Hid (∀ W, Below w.heap.size w W → VIn W v vs) := Lib.hid fun W hW => TIn.below hv hW
  have HE : Hid (∀ W, Below w.heap.size w W → EIn W e es) := Lib.hid fun W hW => TIn.below he hW
  have RG := Lib.hid (fun W (hW : Below w.heap.size w W) => right_any (HV.out W hW) (HE.out W hW) hn hm)
  have ED := Lib.hid (fun W (hW : Below w.heap.size w W) => vertex_any v e vs x W (HV.out W hW) (by obtain ⟨a, c, h⟩ := he.sl; exact ⟨_, _, _, h⟩) (by omega))
  have DG := Lib.hid (fun W (hW : Below w.heap.size w W) => degree_any v e es x W (HE.out W hW) (by obtain ⟨a, c, h⟩ := hv.sl; exact ⟨_, _, _, h⟩) (by omega))
  obtain ⟨a, c, rfl⟩ := hv.sl
  obtain ⟨a', c', rfl⟩ := he.sl
  have BB := Lib.hid (bx1 w 35 #[.slice a vs.length c, .slice a' es.length c'])
  have OB := Lib.hid (Own.made w 35 #[.slice a vs.length c, .slice a' es.length c'])
  clear HV HE hv he
  obtain ⟨E0, hE0⟩ : ∃ o : Int × Int × Int, vxO (fV vs x) = .agg #[.int .i64 o.1, .int .i64 o.2.1, .int .i64 o.2.2] := by cases fV vs x with
    | none => exact ⟨(0, 0, 0), rfl⟩
    | some u => exact ⟨(u.id, u.x, u.y), rfl⟩
  rw [hE0] at ED
  obtain ⟨z1, z2, z3⟩ := E0
  unfold orArg cDrop
  obtain ⟨R, hR⟩ : ∃ R, R = rtB vs es := ⟨_, rfl⟩
  obtain ⟨T, hT⟩ : ∃ T, T = hasV vs x := ⟨_, rfl⟩
  obtain ⟨D, hD⟩ : ∃ D, D = deg es x := ⟨_, rfl⟩
  rw [← hR] at RG ⊢
  rw [← hT] at ED ⊢
  rw [← hD] at DG ⊢
  clear hR hT hE0 hD
  generalize vs.length = n at *
  generalize es.length = m at *
  cases R with
  | false =>
    go_enter Try.func17, Try.ntmps17
    go_upto_region 2 with (go_at_call 25; refine (ED.out _ BB.out).mono ?_; rintro e w2 ⟨rfl, b2⟩; have B2 := Lib.hid ((then_ BB.out b2 BB.out.size).alloc (then_ BB.out b2 BB.out.size).size (.cells #[.int .i64 z1, .int .i64 z2, .int .i64 z3] 31)); have O2 := Lib.hid ((OB.out.keep b2).more (.cells #[.int .i64 z1, .int .i64 z2, .int .i64 z3] 31)); clear b2)
    obtain ⟨q1, q2, q3⟩ := O2.out.at_
    go_wp2_with (go_at_call 13; refine (RG.out _ B2.out).mono ?_; rintro e w3 ⟨rfl, b3⟩; have O3 := Lib.hid (O2.out.keep b3); have B3 := Lib.hid (then_ B2.out b3 B2.out.size); clear b3)
    go_ret
    exact ⟨rfl, B3.out⟩
  | true =>
    cases T with
    | false =>
      go_enter Try.func17, Try.ntmps17
      go_upto_region 2 with (go_at_call 25; refine (ED.out _ BB.out).mono ?_; rintro e w2 ⟨rfl, b2⟩; have B2 := Lib.hid ((then_ BB.out b2 BB.out.size).alloc (then_ BB.out b2 BB.out.size).size (.cells #[.int .i64 z1, .int .i64 z2, .int .i64 z3] 31)); have O2 := Lib.hid ((OB.out.keep b2).more (.cells #[.int .i64 z1, .int .i64 z2, .int .i64 z3] 31)); clear b2)
      obtain ⟨q1, q2, q3⟩ := O2.out.at_
      go_wp2_with (go_at_call 13; refine (RG.out _ B2.out).mono ?_; rintro e w3 ⟨rfl, b3⟩; have O3 := Lib.hid (O2.out.keep b3); have B3 := Lib.hid (then_ B2.out b3 B2.out.size); clear b3)
      go_ret
      exact ⟨rfl, B3.out⟩
    | true =>
      by_cases h0 : 0 < D
      · rw [if_pos rfl, if_neg (by decide), if_pos h0]
        have h1 : (0 : Int) < (D : Int) := by omega
        go_enter Try.func17, Try.ntmps17
        go_upto_region 2 with (go_at_call 25; refine (ED.out _ BB.out).mono ?_; rintro e w2 ⟨rfl, b2⟩; have B2 := Lib.hid ((then_ BB.out b2 BB.out.size).alloc (then_ BB.out b2 BB.out.size).size (.cells #[.int .i64 z1, .int .i64 z2, .int .i64 z3] 31)); have O2 := Lib.hid ((OB.out.keep b2).more (.cells #[.int .i64 z1, .int .i64 z2, .int .i64 z3] 31)); clear b2)
        obtain ⟨q1, q2, q3⟩ := O2.out.at_
        go_upto_region 6 with (go_at_call 13; refine (RG.out _ B2.out).mono ?_; rintro e w3 ⟨rfl, b3⟩; have O3 := Lib.hid (O2.out.keep b3); have B3 := Lib.hid (then_ B2.out b3 B2.out.size); clear b3)
        obtain ⟨q1, q2, q3⟩ := O3.out.at_
        go_wp2_with (go_at_call 29; refine (DG.out _ B3.out).mono ?_; rintro e w4 ⟨rfl, b4⟩; have B4 := Lib.hid (then_ B3.out b4 B3.out.size); clear b4)
        go_ret
        exact ⟨rfl, B4.out⟩
      · rw [if_pos rfl, if_neg (by decide), if_neg h0]
        obtain rfl : D = 0 := by omega
        go_enter Try.func17, Try.ntmps17
        go_upto_region 2 with (go_at_call 25; refine (ED.out _ BB.out).mono ?_; rintro e w2 ⟨rfl, b2⟩; have B2 := Lib.hid ((then_ BB.out b2 BB.out.size).alloc (then_ BB.out b2 BB.out.size).size (.cells #[.int .i64 z1, .int .i64 z2, .int .i64 z3] 31)); have O2 := Lib.hid ((OB.out.keep b2).more (.cells #[.int .i64 z1, .int .i64 z2, .int .i64 z3] 31)); clear b2)
        obtain ⟨q1, q2, q3⟩ := O2.out.at_
        go_upto_region 6 with (go_at_call 13; refine (RG.out _ B2.out).mono ?_; rintro e w3 ⟨rfl, b3⟩; have O3 := Lib.hid (O2.out.keep b3); have B3 := Lib.hid (then_ B2.out b3 B2.out.size); clear b3)
        obtain ⟨q1, q2, q3⟩ := O3.out.at_
        go_wp2_with (go_at_call 29; refine (DG.out _ B3.out).mono ?_; rintro e w4 ⟨rfl, b4⟩; have B4 := Lib.hid (then_ B3.out b4 B3.out.size); clear b4)
        go_ret
        exact ⟨rfl, B4.out⟩
end
end Go.Proofs.Ytdkmclaihojknaa.Pl