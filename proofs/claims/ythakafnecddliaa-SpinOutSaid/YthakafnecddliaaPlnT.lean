/- -/
import Derived.Test.YthakafnecddliaaPlnR
import Derived.Test.YthakafnecddliaaTree
import Derived.Test.YthakafnecddliaaOps
section
namespace Go.Proofs.Ythakafnecddliaa.Pl
open Go.ChangeShapes Go.WideShapes Go.ChangeAt Go.RowKit
set_option linter.unusedVariables false
set_option linter.unusedSimpArgs false

theorem pl_two {w : World} {p : Nat} {T : TypeId} {x y : Value} (h : Own w p T #[x, y]) : w.cell? ⟨p, 0, none⟩ = some x ∧ w.cell? ⟨p, 1, none⟩ = some y := ⟨(h.at_).1 0, (h.at_).1 1⟩
set_option maxRecDepth 10000 in
theorem at_any (v e : Value) (vs : List Vx) (i : Int) (w : World) (h : VIn w v vs) (he : ∃ a l c, e = .slice a l c) (hn : vs.length ≤ 100000) (hi : hasV vs i = true) :
    Calls Try.prog 28 #[.agg #[v, e], .int .i64 i] w fun x w' => x = .returned (.agg #[.int .i64 (px vs i), .int .i64 (py vs i)]) ∧ Below w.heap.size w w' := by
  have VX := Lib.hid (fun W (hW : Below w.heap.size w W) => rvertex_any v e vs i W (TIn.below h hW) he hn)
  obtain ⟨k, hk, hkx, hfv⟩ := vIx_yes hi
  rw [hkx] at VX
  obtain ⟨a, cap, rfl, hc1, hc2, -, hcl⟩ := TIn.open_ h
  obtain ⟨ea, el, ec, rfl⟩ := he
  obtain ⟨b, o, rfl, hb, hc⟩ := hcl k hk
  have hx : px vs i = (vs[k]'hk).x := by unfold px; rw [hfv]
  have hy : py vs i = (vs[k]'hk).y := by unfold py; rw [hfv]
  rw [hx, hy]
  have HC := Lib.hid hc
  have kl : (k : Int) < (vs.length : Int) := by omega
  clear hx hy hfv hkx hcl hc h
  generalize vs[k]'hk = x at *
  obtain ⟨x1, x2, x3⟩ := x
  simp only at HC ⊢
  generalize vs.length = n at *
  have OB := Lib.hid ((Own.made w 25 #[.slice (some ⟨b, o, none⟩) n cap, .slice ea el ec]).more (.cells #[.int .i64 0, .int .i64 0] 37))
  have BB := Lib.hid ((bx1 w 25 #[.slice (some ⟨b, o, none⟩) n cap, .slice ea el ec]).alloc (bx1 w _ _).size (.cells #[.int .i64 0, .int .i64 0] 37))
  have OR : Hid (Own ((w.alloc (.cells #[.slice (some ⟨b, o, none⟩) n cap, .slice ea el ec] 25)).alloc (.cells #[.int .i64 0, .int .i64 0] 37)) (w.heap.size + 1) 37 #[.int .i64 0, .int .i64 0]) := Lib.hid (Own.made_at (by simp))
  go_enter Try.func28, Try.ntmps28
  go_upto_region 1 with fail
  refine wp_region_seq (fun W => Below w.heap.size w W ∧ Own W w.heap.size 25 #[.slice (some ⟨b, o, none⟩) n cap, .slice ea el ec]) (0 :: 1 :: 2 :: 3 :: 5 :: 6 :: 7 :: []) (1 :: 2 :: 7 :: []) (0 :: 1 :: 2 :: 3 :: 4 :: 5 :: 6 :: 7 :: 8 :: []) (by kernel_rfl) (by kernel_rfl) rfl (by kernel_rfl) rfl (⟨BB.out.drew, OB.out⟩) (by simp only [picked, List.filterMap_cons, List.filterMap_nil, List.getElem?_cons_zero, List.getElem?_cons_succ, Option.map_some]; exact rfl) ?_
  iterate 4
    refine seq_want (v := ?_) rfl rfl (fun W hS => ?_) ?_
    rotate_left
    · first
        | (conv => lhs; simp [go_sem, kl]
           first | done | exact rfl)
        | (have hS := hS rfl
           obtain ⟨q0, q1⟩ := pl_two hS.2
           obtain ⟨c1, c2, c3⟩ := HC.out _ hS.1
           conv => lhs; simp [go_sem, *, kl]
           first | done | exact rfl)
    simp only [Act.put, List.setIfInBounds_toArray, List.set_cons_zero, List.set_cons_succ]
  refine seq_on rfl rfl fun K hK => ?_
  go_wp2_with (go_at_call 36; refine (VX.out _ BB.out.drew).mono ?_; rintro e w2 ⟨rfl, b2⟩)
  have B2 := Lib.hid (then_ BB.out.drew b2 BB.out.size)
  have O2 := Lib.hid ((OB.out.drawn).keep b2)
  have R2 := Lib.hid ((OR.out.drawn).keep b2)
  refine hK _ _ ⟨B2.out, O2.out⟩ ?_
  clear hK K b2
  iterate 3
    refine seq_want (v := ?_) rfl rfl (fun W hS => ?_) ?_
    rotate_left
    · first
        | (conv => lhs; simp [go_sem, kl]
           first | done | exact rfl)
        | (have hS := hS rfl
           obtain ⟨q0, q1⟩ := pl_two hS.2
           obtain ⟨c1, c2, c3⟩ := HC.out _ hS.1
           conv => lhs; simp [go_sem, *, kl]
           first | done | exact rfl)
    simp only [Act.put, List.setIfInBounds_toArray, List.set_cons_zero, List.set_cons_succ]
  obtain ⟨r1, r2, r3⟩ := R2.out.at_
  refine seq_last rfl rfl (by kernel_rfl) rfl fun K hK => ?_
  go_wp2
  refine hK _ _ ?_
  clear hK K
  refine seq_end ?_
  have R3 := Lib.hid (((R2.out.put 0 (.int .i64 x2)).put 1 (.int .i64 x3)).as (show (_ : Array Value) = #[.int .i64 x2, .int .i64 x3] by simp))
  obtain ⟨t0, t1⟩ := pl_two R3.out
  go_wp2
  refine bodyPost_ret (by simp [results, Try.results28, go_sem, t0, t1]) rfl ⟨rfl, ?_⟩
  exact (B2.out.setCell (show w.heap.size ≤ w.heap.size + 1 by omega) _).setCell (show w.heap.size ≤ w.heap.size + 1 by omega) _
set_option maxRecDepth 10000 in
set_option maxHeartbeats 1000000 in
theorem links_any (v e : Value) (es : List Eg) (i1 i2 : Int) (w : World) (h : EIn w e es) (he : ∃ a l c, v = .slice a l c) (hn : es.length ≤ 100000) :
    Calls Try.prog 39 #[.agg #[v, e], .int .i64 i1, .int .i64 i2] w fun x w' => x = .returned (.bool (jnL es i1 i2)) ∧ Below w.heap.size w w' := by
  obtain ⟨a, cap, rfl, hc1, hc2, -, hcl⟩ := TIn.open_ h
  obtain ⟨ea, el, ec, rfl⟩ := he
  have YES : Hid (∀ k (hk : k < es.length), jn (es[k]'hk) i1 i2 = true → jnL es i1 i2 = true) := Lib.hid fun k hk hj => any_at hk hj
  have NO : Hid ((∀ k (hk : k < es.length), jn (es[k]'hk) i1 i2 = false) → jnL es i1 i2 = false) := Lib.hid fun hj => any_not hj
  obtain ⟨R, hR⟩ : ∃ R, R = jnL es i1 i2 := ⟨_, rfl⟩
  rw [← hR] at YES NO ⊢
  clear hR h
  obtain ⟨n, hnn⟩ : ∃ n, n = es.length := ⟨_, rfl⟩
  rw [← hnn] at hc1 hn ⊢
  have HN := Lib.hid hnn
  clear hnn
  have OB := Lib.hid (Own.made w 25 #[.slice ea el ec, .slice a n cap])
  have BB := Lib.hid (bx1 w 25 #[.slice ea el ec, .slice a n cap])
  go_enter Try.func39, Try.ntmps39
  go_wp2
  go_loopw [7] (fun j wr => ∃ k : Nat, k ≤ n ∧ j = .int .i64 (k : Int) ∧ Hid (∀ m (hm : m < es.length), m < k → jn (es[m]'hm) i1 i2 = false) ∧ Hid (Below w.heap.size w wr) ∧ Hid (Own wr w.heap.size 25 #[.slice ea el ec, .slice a n cap])) (fun j wr => n - (intOf j).toNat)
  case atStart => exact ⟨0, by omega, rfl, Lib.hid fun m hm h => by omega, BB, OB⟩
  case round =>
    obtain ⟨k, hk, rfl, hno, HB, HO⟩ := hrel
    obtain ⟨q1, q2, q3⟩ := HO.out.at_
    by_cases hlt : k < n
    · have hkl : k < es.length := by rw [← HN.out]; exact hlt
      obtain ⟨b, o, rfl, hb, hc⟩ := hcl k hkl
      obtain ⟨c1, c2, c3⟩ := hc wr HB.out
      have YK := Lib.hid (YES.out k hkl)
      obtain ⟨x, hx⟩ : ∃ x, x = es[k]'hkl := ⟨_, rfl⟩
      rw [← hx] at c1 c2 c3 YK
      have HX := Lib.hid hx
      clear hx hcl hc
      obtain ⟨x1, x2, x3⟩ := x
      simp only at c1 c2 c3
      have HB2 : Hid (Below w.heap.size w (wr.alloc (.cells #[.int .i64 x1, .int .i64 x2, .int .i64 x3] 61))) := Lib.hid (HB.out.alloc HB.out.size _)
      have HO2 := Lib.hid (HO.out.more (.cells #[.int .i64 x1, .int .i64 x2, .int .i64 x3] 61))
      have HJ : Hid (jn ⟨x1, x2, x3⟩ i1 i2 = ((x2 == i1 && x3 == i2) || (x2 == i2 && x3 == i1))) := Lib.hid rfl
      obtain ⟨t1, ht1⟩ : ∃ t, t = (x2 == i1) := ⟨_, rfl⟩
      obtain ⟨t2, ht2⟩ : ∃ t, t = (x3 == i2) := ⟨_, rfl⟩
      obtain ⟨t3, ht3⟩ : ∃ t, t = (x2 == i2) := ⟨_, rfl⟩
      obtain ⟨t4, ht4⟩ : ∃ t, t = (x3 == i1) := ⟨_, rfl⟩
      rw [← ht1, ← ht2, ← ht3, ← ht4] at HJ
      replace ht1 := ht1.symm
      replace ht2 := ht2.symm
      replace ht3 := ht3.symm
      replace ht4 := ht4.symm
      cases t1 <;> cases t2 <;> cases t3 <;> cases t4
      all_goals first
        | (have hj : Hid (jn ⟨x1, x2, x3⟩ i1 i2 = true) := Lib.hid (by rw [HJ.out]; rfl)
           obtain rfl : R = true := YK.out hj.out
           go_wp2
           go_ret
           exact ⟨rfl, HB2.out⟩)
        | (have hj : Hid (jn ⟨x1, x2, x3⟩ i1 i2 = false) := Lib.hid (by rw [HJ.out]; rfl)
           go_wp2
           go_roundw
           case rel =>
             refine ⟨k + 1, by omega, by go_num, Lib.hid fun m hm hmk => ?_, HB2, HO2⟩
             rcases Nat.lt_succ_iff_lt_or_eq.1 hmk with hmk | rfl
             · exact hno.out m hm hmk
             · rw [← HX.out]; exact hj.out
           case measure => simp [intOf] <;> omega)
    · obtain rfl : R = false := NO.out fun m hm => hno.out m hm (by rw [← HN.out] at hm; omega)
      go_wp2
      go_ret
      exact ⟨rfl, HB.out⟩
set_option maxRecDepth 10000 in
set_option maxHeartbeats 1000000 in
theorem ron_any (v e : Value) (vs : List Vx) (p1 p2 s1 s2 : Int) (w : World) (h : VIn w v vs) (he : ∃ a l c, e = .slice a l c) (hn : vs.length ≤ 100000) (hr : ∀ u ∈ vs, inB u.x u.y = true) (hp : inB p1 p2 = true) (hs : inB s1 s2 = true) :
    Calls Try.prog 40 #[.agg #[v, e], .agg #[.int .i64 p1, .int .i64 p2], .agg #[.int .i64 s1, .int .i64 s2]] w fun x w' => x = .returned (.bool (onV vs p1 p2 s1 s2)) ∧ Below w.heap.size w w' := by
  obtain ⟨a, cap, rfl, hc1, hc2, -, hcl⟩ := TIn.open_ h
  obtain ⟨ea, el, ec, rfl⟩ := he
  have YES : Hid (∀ k (hk : k < vs.length), onB (vs[k]'hk).x (vs[k]'hk).y p1 p2 s1 s2 = true → onV vs p1 p2 s1 s2 = true) := Lib.hid fun k hk hj => any_at (P := fun v : Vx => onB v.x v.y p1 p2 s1 s2) hk hj
  have NO : Hid ((∀ k (hk : k < vs.length), onB (vs[k]'hk).x (vs[k]'hk).y p1 p2 s1 s2 = false) → onV vs p1 p2 s1 s2 = false) := Lib.hid fun hj => any_not hj
  have CON : Hid (∀ k (hk : k < vs.length) W, Calls Try.prog 53 #[.agg #[.int .i64 (vs[k]'hk).x, .int .i64 (vs[k]'hk).y], .agg #[.int .i64 p1, .int .i64 p2], .agg #[.int .i64 s1, .int .i64 s2]] W fun e w' => e = .returned (.bool (onB (vs[k]'hk).x (vs[k]'hk).y p1 p2 s1 s2)) ∧ Below W.heap.size W w') := Lib.hid fun k hk W => by
    have hv := hr _ (List.getElem_mem hk)
    rw [on_in (in3_iff.2 ⟨inB_rng.1 hv, inB_rng.1 hp, inB_rng.1 hs⟩)]
    exact ROn_in (inB_rng.1 hv) (inB_rng.1 hp) (inB_rng.1 hs) W
  obtain ⟨R, hR⟩ : ∃ R, R = onV vs p1 p2 s1 s2 := ⟨_, rfl⟩
  rw [← hR] at YES NO ⊢
  clear hR h hr hp hs
  obtain ⟨n, hnn⟩ : ∃ n, n = vs.length := ⟨_, rfl⟩
  rw [← hnn] at hc1 hn ⊢
  have HN := Lib.hid hnn
  clear hnn
  have OB := Lib.hid ((Own.made w 25 #[.slice a n cap, .slice ea el ec]).more (.cells #[.int .i64 p1, .int .i64 p2] 37) |>.more (.cells #[.int .i64 s1, .int .i64 s2] 37))
  have BB : Hid (Below w.heap.size w (((w.alloc (.cells #[.slice a n cap, .slice ea el ec] 25)).alloc (.cells #[.int .i64 p1, .int .i64 p2] 37)).alloc (.cells #[.int .i64 s1, .int .i64 s2] 37))) := Lib.hid (by repeat' (first | (with_reducible exact Below.refl _ _) | (with_reducible assumption) | (with_reducible refine below_drewN ?_ _) | (with_reducible refine Below.drew ?_) | (with_reducible refine Below.alloc ?_ ?_ _) | (with_reducible refine Below.setCell ?_ ?_ _) | (with_reducible refine then_ ?_ (by with_reducible assumption) ?_) | (with_reducible exact Nat.le_refl _) | (with_reducible exact Nat.le_succ _) | (with_reducible exact Nat.le_succ_of_le (by with_reducible assumption)) | omega | (simp; done) | (simp; omega) | (exact Nat.le_succ _) | (exact Nat.le_succ_of_le (by with_reducible assumption))))
  have OP : Hid (Own (((w.alloc (.cells #[.slice a n cap, .slice ea el ec] 25)).alloc (.cells #[.int .i64 p1, .int .i64 p2] 37)).alloc (.cells #[.int .i64 s1, .int .i64 s2] 37)) (w.heap.size + 1) 37 #[.int .i64 p1, .int .i64 p2]) := Lib.hid (Own.more (Own.made_at (by simp)) _)
  have OS : Hid (Own (((w.alloc (.cells #[.slice a n cap, .slice ea el ec] 25)).alloc (.cells #[.int .i64 p1, .int .i64 p2] 37)).alloc (.cells #[.int .i64 s1, .int .i64 s2] 37)) (w.heap.size + 2) 37 #[.int .i64 s1, .int .i64 s2]) := Lib.hid (Own.made_at (by simp))
  go_enter Try.func40, Try.ntmps40
  go_upto_region 2 with fail
  generalize hW0 : ((w.alloc (.cells #[.slice a n cap, .slice ea el ec] 25)).alloc (.cells #[.int .i64 p1, .int .i64 p2] 37)).alloc (.cells #[.int .i64 s1, .int .i64 s2] 37) = W0 at OB BB OP OS ⊢
  clear hW0
  have KB : Hid (∀ W, Below W0.heap.size W0 W → Below w.heap.size w W ∧ Own W w.heap.size 25 #[.slice a n cap, .slice ea el ec] ∧ Own W (w.heap.size + 1) 37 #[.int .i64 p1, .int .i64 p2] ∧ Own W (w.heap.size + 2) 37 #[.int .i64 s1, .int .i64 s2]) := Lib.hid fun W hW => ⟨then_ BB.out hW BB.out.size, OB.out.keep hW, OP.out.keep hW, OS.out.keep hW⟩
  clear OB BB OP OS
  go_wp2
  go_loopw [7] (fun j wr => ∃ k : Nat, k ≤ n ∧ j = .int .i64 (k : Int) ∧ Hid (∀ m (hm : m < vs.length), m < k → onB (vs[m]'hm).x (vs[m]'hm).y p1 p2 s1 s2 = false) ∧ Hid (Below W0.heap.size W0 wr)) (fun j wr => n - (intOf j).toNat)
  case atStart => exact ⟨0, by omega, rfl, Lib.hid fun m hm h => by omega, Lib.hid (Below.refl _ _)⟩
  case round =>
    obtain ⟨k, hk, rfl, hno, HB⟩ := hrel
    obtain ⟨hbw, h1, h2, h3⟩ := KB.out _ HB.out
    obtain ⟨q1, q2, q3⟩ := h1.at_
    by_cases hlt : k < n
    · have hkl : k < vs.length := by rw [← HN.out]; exact hlt
      obtain ⟨b, o, rfl, hb, hc⟩ := hcl k hkl
      have HC := Lib.hid hc
      have YK := Lib.hid (YES.out k hkl)
      have CK := Lib.hid (CON.out k hkl)
      obtain ⟨x, hx⟩ : ∃ x, x = vs[k]'hkl := ⟨_, rfl⟩
      rw [← hx] at HC YK CK
      have HX := Lib.hid hx
      clear hx hcl hc hbw h1 h2 h3 YES CON
      obtain ⟨x1, x2, x3⟩ := x
      simp only at HC YK CK
      have kl : (k : Int) < (n : Int) := by omega
      cases ht : onB x2 x3 p1 p2 s1 s2 with
      | true =>
        rw [ht] at CK YK
        have HT := Lib.hid ht
        obtain rfl : R = true := YK.out rfl
        clear ht YK
        go_upto_region 4 with fail
        clear q1 q2 q3
        refine wp_region_seq (fun W => Below W0.heap.size W0 W) (0 :: 1 :: 2 :: 3 :: 4 :: 5 :: 6 :: 7 :: []) (1 :: 5 :: 6 :: 7 :: []) (0 :: 1 :: 2 :: 3 :: 4 :: 5 :: 6 :: 7 :: 8 :: []) (by kernel_rfl) (by kernel_rfl) rfl (by kernel_rfl) rfl (HB.out.drew) (by simp only [picked, List.filterMap_cons, List.filterMap_nil, List.getElem?_cons_zero, List.getElem?_cons_succ, Option.map_some]; exact rfl) ?_
        iterate 8
          refine seq_want (v := ?_) rfl rfl (fun W hS => ?_) ?_
          rotate_left
          · first
              | (conv => lhs; simp [go_sem, kl]
                 first | done | exact rfl)
              | (have hS := hS rfl
                 obtain ⟨hbw, h1, h2, h3⟩ := KB.out _ hS
                 obtain ⟨q0, q1⟩ := pl_two h1
                 obtain ⟨f0, f1⟩ := pl_two h2
                 obtain ⟨g0, g1⟩ := pl_two h3
                 obtain ⟨c1, c2, c3⟩ := HC.out _ hbw
                 conv => lhs; simp [go_sem, *, kl]
                 first | done | exact rfl)
          simp only [Act.put, List.setIfInBounds_toArray, List.set_cons_zero, List.set_cons_succ]
        refine seq_on rfl rfl fun K hK => ?_
        go_wp2_with (go_at_call 53; refine (CK.out _).mono ?_; rintro e w3 ⟨rfl, b3⟩)
        have B3 := Lib.hid (then_ HB.out.drew b3 HB.out.size)
        refine hK _ _ B3.out ?_
        clear hK K b3
        refine seq_end ?_
        go_wp2
        go_ret
        exact ⟨rfl, (KB.out _ B3.out).1⟩
      | false =>
        rw [ht] at CK
        have HT := Lib.hid ht
        clear ht YK
        go_upto_region 4 with fail
        clear q1 q2 q3
        refine wp_region_seq (fun W => Below W0.heap.size W0 W) (0 :: 1 :: 2 :: 3 :: 4 :: 5 :: 6 :: 7 :: []) (1 :: 5 :: 6 :: 7 :: []) (0 :: 1 :: 2 :: 3 :: 4 :: 5 :: 6 :: 7 :: 8 :: []) (by kernel_rfl) (by kernel_rfl) rfl (by kernel_rfl) rfl (HB.out.drew) (by simp only [picked, List.filterMap_cons, List.filterMap_nil, List.getElem?_cons_zero, List.getElem?_cons_succ, Option.map_some]; exact rfl) ?_
        iterate 8
          refine seq_want (v := ?_) rfl rfl (fun W hS => ?_) ?_
          rotate_left
          · first
              | (conv => lhs; simp [go_sem, kl]
                 first | done | exact rfl)
              | (have hS := hS rfl
                 obtain ⟨hbw, h1, h2, h3⟩ := KB.out _ hS
                 obtain ⟨q0, q1⟩ := pl_two h1
                 obtain ⟨f0, f1⟩ := pl_two h2
                 obtain ⟨g0, g1⟩ := pl_two h3
                 obtain ⟨c1, c2, c3⟩ := HC.out _ hbw
                 conv => lhs; simp [go_sem, *, kl]
                 first | done | exact rfl)
          simp only [Act.put, List.setIfInBounds_toArray, List.set_cons_zero, List.set_cons_succ]
        refine seq_on rfl rfl fun K hK => ?_
        go_wp2_with (go_at_call 53; refine (CK.out _).mono ?_; rintro e w3 ⟨rfl, b3⟩)
        have B3 := Lib.hid (then_ HB.out.drew b3 HB.out.size)
        refine hK _ _ B3.out ?_
        clear hK K b3
        refine seq_end ?_
        go_wp2
        go_roundw
        case rel =>
          refine ⟨k + 1, by omega, by go_num, Lib.hid fun m hm hmk => ?_, B3⟩
          rcases Nat.lt_succ_iff_lt_or_eq.1 hmk with hmk | rfl
          · exact hno.out m hm hmk
          · rw [← HX.out]; exact HT.out
        case measure => simp [intOf] <;> omega
    · obtain rfl : R = false := NO.out fun m hm => hno.out m hm (by rw [← HN.out] at hm; omega)
      go_wp2
      go_ret
      exact ⟨rfl, hbw⟩
end Go.Proofs.Ythakafnecddliaa.Pl
end
section
namespace Go.Proofs.Ythakafnecddliaa.Pl
open Go.ChangeShapes Go.WideShapes Go.ChangeAt Go.RowKit
set_option linter.unusedVariables false
set_option linter.unusedSimpArgs false

def mtE (vs : List Vx) (p1 p2 s1 s2 : Int) (u : Eg) : Bool := mtB p1 p2 s1 s2 (px vs u.a) (py vs u.a) (px vs u.b) (py vs u.b)
set_option maxRecDepth 10000 in
set_option maxHeartbeats 1000000 in
theorem rmeets_any (v e : Value) (vs : List Vx) (es : List Eg) (p1 p2 s1 s2 : Int) (w : World) (h : VIn w v vs) (he : EIn w e es) (hn : vs.length ≤ 100000) (hm : es.length ≤ 100000) (n : Nat) (hne : n ≤ es.length) (hV : FlV vs)
    (hE : ∀ (k : Nat) (u : Eg), k < n → es[k]? = some u → u.a ≠ u.b ∧ hasV vs u.a = true ∧ hasV vs u.b = true) (hp : inB p1 p2 = true) (hs : inB s1 s2 = true) (hps : decide (p1 = s1 ∧ p2 = s2) = false) :
    Calls Try.prog 41 #[.agg #[v, e], .agg #[.int .i64 p1, .int .i64 p2], .agg #[.int .i64 s1, .int .i64 s2], .int .i64 (n : Int)] w fun x w' => x = .returned (.bool (mtL vs (es.take n) p1 p2 s1 s2)) ∧ Below w.heap.size w w' := by
  have AT := Lib.hid (fun W (hW : Below w.heap.size w W) (i : Int) (hi : hasV vs i = true) => at_any v e vs i W (TIn.below h hW) (by obtain ⟨a, c, k⟩ := he.sl; exact ⟨_, _, _, k⟩) hn hi)
  obtain ⟨va, vc, rfl⟩ := h.sl
  obtain ⟨a, cap, rfl, hc1, hc2, -, hcl⟩ := TIn.open_ he
  have YES : Hid (∀ k (hk : k < es.length), k < n → mtE vs p1 p2 s1 s2 (es[k]'hk) = true → mtL vs (es.take n) p1 p2 s1 s2 = true) := Lib.hid fun k hk hkn hj => List.any_eq_true.2 ⟨es[k]'hk, by rw [List.mem_take_iff_getElem]; exact ⟨k, by omega, rfl⟩, hj⟩
  have NO : Hid ((∀ k (hk : k < es.length), k < n → mtE vs p1 p2 s1 s2 (es[k]'hk) = false) → mtL vs (es.take n) p1 p2 s1 s2 = false) := Lib.hid fun hj => by
    unfold mtL
    rw [List.any_eq_false]
    intro u hu
    rw [List.mem_take_iff_getElem] at hu
    obtain ⟨k, hk, rfl⟩ := hu
    have := hj k (by omega) (by omega)
    unfold mtE at this
    rw [this]
    simp
  have CON : Hid (∀ k (hk : k < es.length), k < n → hasV vs (es[k]'hk).a = true ∧ hasV vs (es[k]'hk).b = true ∧ ∀ W, Calls Try.prog 54 #[.agg #[.int .i64 p1, .int .i64 p2], .agg #[.int .i64 s1, .int .i64 s2], .agg #[.int .i64 (px vs (es[k]'hk).a), .int .i64 (py vs (es[k]'hk).a)], .agg #[.int .i64 (px vs (es[k]'hk).b), .int .i64 (py vs (es[k]'hk).b)]] W fun e w' => e = .returned (.bool (mtE vs p1 p2 s1 s2 (es[k]'hk))) ∧ Below W.heap.size W w') := Lib.hid fun k hk hkn => by
    obtain ⟨h1, h2, h3⟩ := hE k _ hkn (List.getElem?_eq_getElem hk)
    refine ⟨h2, h3, fun W => ?_⟩
    have r2 := inB_rng.1 (px_rng hV.rng h2)
    have r3 := inB_rng.1 (px_rng hV.rng h3)
    unfold mtE
    rw [mt_in (in4_iff.2 ⟨inB_rng.1 hp, inB_rng.1 hs, r2, r3⟩) hps (px_apart hV h2 h3 h1)]
    exact RMeet_in (inB_rng.1 hp) (inB_rng.1 hs) r2 r3 W
  obtain ⟨R, hR⟩ : ∃ R, R = mtL vs (es.take n) p1 p2 s1 s2 := ⟨_, rfl⟩
  rw [← hR] at YES NO ⊢
  clear hR h he hp hs hps hV hE
  obtain ⟨l, hl⟩ : ∃ l, l = vs.length := ⟨_, rfl⟩
  rw [← hl] at AT hn ⊢
  obtain ⟨m, hnn⟩ : ∃ n, n = es.length := ⟨_, rfl⟩
  rw [← hnn] at hc1 hm hne AT ⊢
  have HN := Lib.hid hnn
  clear hnn hl
  have OB := Lib.hid ((Own.made w 25 #[.slice va l vc, .slice a m cap]).more (.cells #[.int .i64 p1, .int .i64 p2] 37) |>.more (.cells #[.int .i64 s1, .int .i64 s2] 37))
  have BB : Hid (Below w.heap.size w (((w.alloc (.cells #[.slice va l vc, .slice a m cap] 25)).alloc (.cells #[.int .i64 p1, .int .i64 p2] 37)).alloc (.cells #[.int .i64 s1, .int .i64 s2] 37))) := Lib.hid (by repeat' (first | (with_reducible exact Below.refl _ _) | (with_reducible assumption) | (with_reducible refine below_drewN ?_ _) | (with_reducible refine Below.drew ?_) | (with_reducible refine Below.alloc ?_ ?_ _) | (with_reducible refine Below.setCell ?_ ?_ _) | (with_reducible refine then_ ?_ (by with_reducible assumption) ?_) | (with_reducible exact Nat.le_refl _) | (with_reducible exact Nat.le_succ _) | (with_reducible exact Nat.le_succ_of_le (by with_reducible assumption)) | omega | (simp; done) | (simp; omega) | (exact Nat.le_succ _) | (exact Nat.le_succ_of_le (by with_reducible assumption))))
  have OP : Hid (Own (((w.alloc (.cells #[.slice va l vc, .slice a m cap] 25)).alloc (.cells #[.int .i64 p1, .int .i64 p2] 37)).alloc (.cells #[.int .i64 s1, .int .i64 s2] 37)) (w.heap.size + 1) 37 #[.int .i64 p1, .int .i64 p2]) := Lib.hid (Own.more (Own.made_at (by simp)) _)
  have OS : Hid (Own (((w.alloc (.cells #[.slice va l vc, .slice a m cap] 25)).alloc (.cells #[.int .i64 p1, .int .i64 p2] 37)).alloc (.cells #[.int .i64 s1, .int .i64 s2] 37)) (w.heap.size + 2) 37 #[.int .i64 s1, .int .i64 s2]) := Lib.hid (Own.made_at (by simp))
  go_enter Try.func41, Try.ntmps41
  go_upto_region 2 with fail
  generalize hW0 : ((w.alloc (.cells #[.slice va l vc, .slice a m cap] 25)).alloc (.cells #[.int .i64 p1, .int .i64 p2] 37)).alloc (.cells #[.int .i64 s1, .int .i64 s2] 37) = W0 at OB BB OP OS ⊢
  clear hW0
  have KB : Hid (∀ W, Below W0.heap.size W0 W → Below w.heap.size w W ∧ Own W w.heap.size 25 #[.slice va l vc, .slice a m cap] ∧ Own W (w.heap.size + 1) 37 #[.int .i64 p1, .int .i64 p2] ∧ Own W (w.heap.size + 2) 37 #[.int .i64 s1, .int .i64 s2]) := Lib.hid fun W hW => ⟨then_ BB.out hW BB.out.size, OB.out.keep hW, OP.out.keep hW, OS.out.keep hW⟩
  clear OB BB OP OS
  go_wp2
  go_loopw [9] (fun j wr => ∃ k : Nat, k ≤ n ∧ j = .int .i64 (k : Int) ∧ Hid (∀ i (hi : i < es.length), i < k → mtE vs p1 p2 s1 s2 (es[i]'hi) = false) ∧ Hid (Below W0.heap.size W0 wr)) (fun j wr => n - (intOf j).toNat)
  case atStart => exact ⟨0, by omega, rfl, Lib.hid fun i hi h => by omega, Lib.hid (Below.refl _ _)⟩
  case round =>
    obtain ⟨k, hk, rfl, hno, HB⟩ := hrel
    obtain ⟨hbw, h1, h2, h3⟩ := KB.out _ HB.out
    obtain ⟨q1, q2, q3⟩ := h1.at_
    by_cases hlt : k < n
    · have hkl : k < es.length := by rw [← HN.out]; omega
      obtain ⟨b, o, rfl, hb, hc⟩ := hcl k hkl
      have HC := Lib.hid hc
      have YK := Lib.hid (YES.out k hkl hlt)
      have CK := Lib.hid (CON.out k hkl hlt)
      obtain ⟨x, hx⟩ : ∃ x, x = es[k]'hkl := ⟨_, rfl⟩
      rw [← hx] at HC YK CK
      have HX := Lib.hid hx
      clear hx hcl hc hbw h1 h2 h3 YES CON
      obtain ⟨x1, x2, x3⟩ := x
      simp only at HC YK CK
      have ATA := Lib.hid (fun W hW => AT.out W hW x2 CK.out.1)
      have ATB := Lib.hid (fun W hW => AT.out W hW x3 CK.out.2.1)
      replace CK := Lib.hid CK.out.2.2
      generalize px vs x2 = ax at *
      generalize py vs x2 = ay at *
      generalize px vs x3 = bx at *
      generalize py vs x3 = by_ at *
      have kl : (k : Int) < (m : Int) := by omega
      cases ht : mtE vs p1 p2 s1 s2 ⟨x1, x2, x3⟩ with
      | true =>
        rw [ht] at CK YK
        have HT := Lib.hid ht
        obtain rfl : R = true := YK.out rfl
        clear ht YK
        go_upto_region 4 with fail
        clear q1 q2 q3
        refine wp_region_seq (fun W => Below W0.heap.size W0 W) (0 :: 1 :: 2 :: 3 :: 4 :: 5 :: 6 :: 7 :: 8 :: 10 :: 11 :: 12 :: 13 :: 14 :: 15 :: 16 :: []) (0 :: 1 :: 2 :: 4 :: 8 :: 10 :: 12 :: 16 :: []) (0 :: 1 :: 2 :: 3 :: 4 :: 5 :: 6 :: 7 :: 8 :: 10 :: 11 :: 12 :: 13 :: 14 :: 15 :: 16 :: 9 :: 17 :: 18 :: []) (by kernel_rfl) (by kernel_rfl) rfl (by kernel_rfl) rfl (HB.out.drew) (by simp only [picked, List.filterMap_cons, List.filterMap_nil, List.getElem?_cons_zero, List.getElem?_cons_succ, Option.map_some]; exact rfl) ?_
        iterate 16
          refine seq_want (v := ?_) rfl rfl (fun W hS => ?_) ?_
          rotate_left
          · first
              | (conv => lhs; simp [go_sem, kl]
                 first | done | exact rfl)
              | (have hS := hS rfl
                 obtain ⟨hbw, h1, h2, h3⟩ := KB.out _ hS
                 obtain ⟨q0, q1⟩ := pl_two h1
                 obtain ⟨f0, f1⟩ := pl_two h2
                 obtain ⟨g0, g1⟩ := pl_two h3
                 obtain ⟨c1, c2, c3⟩ := HC.out _ hbw
                 conv => lhs; simp [go_sem, *, kl]
                 first | done | exact rfl)
          simp only [Act.put, List.setIfInBounds_toArray, List.set_cons_zero, List.set_cons_succ]
        refine seq_on rfl rfl fun K hK => ?_
        go_wp2_with (go_at_call 28; refine (ATA.out _ (KB.out _ HB.out.drew).1).mono ?_; rintro e w3 ⟨rfl, b3⟩)
        have B3 := Lib.hid (then_ HB.out.drew b3 HB.out.drew.size)
        refine hK _ _ B3.out ?_
        clear hK K b3
        refine seq_on rfl rfl fun K hK => ?_
        go_wp2_with (go_at_call 28; refine (ATB.out _ (KB.out _ B3.out).1).mono ?_; rintro e w4 ⟨rfl, b4⟩)
        have B4 := Lib.hid (then_ B3.out b4 B3.out.size)
        refine hK _ _ B4.out ?_
        clear hK K b4
        refine seq_on rfl rfl fun K hK => ?_
        go_wp2_with (go_at_call 54; refine (CK.out _).mono ?_; rintro e w5 ⟨rfl, b5⟩)
        have B5 := Lib.hid (then_ B4.out b5 B4.out.size)
        refine hK _ _ B5.out ?_
        clear hK K b5
        refine seq_end ?_
        go_wp2
        go_ret
        exact ⟨rfl, (KB.out _ B5.out).1⟩
      | false =>
        rw [ht] at CK
        have HT := Lib.hid ht
        clear ht YK
        go_upto_region 4 with fail
        clear q1 q2 q3
        refine wp_region_seq (fun W => Below W0.heap.size W0 W) (0 :: 1 :: 2 :: 3 :: 4 :: 5 :: 6 :: 7 :: 8 :: 10 :: 11 :: 12 :: 13 :: 14 :: 15 :: 16 :: []) (0 :: 1 :: 2 :: 4 :: 8 :: 10 :: 12 :: 16 :: []) (0 :: 1 :: 2 :: 3 :: 4 :: 5 :: 6 :: 7 :: 8 :: 10 :: 11 :: 12 :: 13 :: 14 :: 15 :: 16 :: 9 :: 17 :: 18 :: []) (by kernel_rfl) (by kernel_rfl) rfl (by kernel_rfl) rfl (HB.out.drew) (by simp only [picked, List.filterMap_cons, List.filterMap_nil, List.getElem?_cons_zero, List.getElem?_cons_succ, Option.map_some]; exact rfl) ?_
        iterate 16
          refine seq_want (v := ?_) rfl rfl (fun W hS => ?_) ?_
          rotate_left
          · first
              | (conv => lhs; simp [go_sem, kl]
                 first | done | exact rfl)
              | (have hS := hS rfl
                 obtain ⟨hbw, h1, h2, h3⟩ := KB.out _ hS
                 obtain ⟨q0, q1⟩ := pl_two h1
                 obtain ⟨f0, f1⟩ := pl_two h2
                 obtain ⟨g0, g1⟩ := pl_two h3
                 obtain ⟨c1, c2, c3⟩ := HC.out _ hbw
                 conv => lhs; simp [go_sem, *, kl]
                 first | done | exact rfl)
          simp only [Act.put, List.setIfInBounds_toArray, List.set_cons_zero, List.set_cons_succ]
        refine seq_on rfl rfl fun K hK => ?_
        go_wp2_with (go_at_call 28; refine (ATA.out _ (KB.out _ HB.out.drew).1).mono ?_; rintro e w3 ⟨rfl, b3⟩)
        have B3 := Lib.hid (then_ HB.out.drew b3 HB.out.drew.size)
        refine hK _ _ B3.out ?_
        clear hK K b3
        refine seq_on rfl rfl fun K hK => ?_
        go_wp2_with (go_at_call 28; refine (ATB.out _ (KB.out _ B3.out).1).mono ?_; rintro e w4 ⟨rfl, b4⟩)
        have B4 := Lib.hid (then_ B3.out b4 B3.out.size)
        refine hK _ _ B4.out ?_
        clear hK K b4
        refine seq_on rfl rfl fun K hK => ?_
        go_wp2_with (go_at_call 54; refine (CK.out _).mono ?_; rintro e w5 ⟨rfl, b5⟩)
        have B5 := Lib.hid (then_ B4.out b5 B4.out.size)
        refine hK _ _ B5.out ?_
        clear hK K b5
        refine seq_end ?_
        go_wp2
        go_roundw
        case rel =>
          refine ⟨k + 1, by omega, by go_num, Lib.hid fun i hi hik => ?_, B5⟩
          rcases Nat.lt_succ_iff_lt_or_eq.1 hik with hik | rfl
          · exact hno.out i hi hik
          · rw [← HX.out]; exact HT.out
        case measure => simp [intOf] <;> omega
    · obtain rfl : R = false := NO.out fun i hi hin => hno.out i hi (by omega)
      go_wp2
      go_ret
      exact ⟨rfl, hbw⟩
end Go.Proofs.Ythakafnecddliaa.Pl
end
