
/- The contracts of Ends, Out and Next. Conditions: at most 30,000 vertices, and edges. -/
import Derived.Test.YtibnackmddigaaaSpnD
import Derived.Test.YtibnackmddigaaaTree
namespace Go.Proofs.Ytibnackmddigaaa.Pl
open Go.ChangeShapes Go.WideShapes Go.ChangeAt Go.RowKit Go.Proofs.Ytibnackmddigaaa.Mp
set_option linter.unusedVariables false
set_option linter.unusedSimpArgs false

/-- a plan's vertices and edges, none of a plan that isn't right -/
noncomputable def pvs (vs : List Vx) (es : List Eg) : List Vx := if rtB vs es = true then vs else []
noncomputable def pes (vs : List Vx) (es : List Eg) : List Eg := if rtB vs es = true then es else []
theorem pvs_yes {vs : List Vx} {es : List Eg} (h : Rt vs es) : pvs vs es = vs ∧ pes vs es = es := by
  unfold pvs pes
  rw [if_pos (rtB_iff.2 h), if_pos (rtB_iff.2 h)]
  exact ⟨rfl, rfl⟩
theorem pvs_no {vs : List Vx} {es : List Eg} (h : ¬ Rt vs es) : pvs vs es = [] ∧ pes vs es = [] := by
  unfold pvs pes
  rw [rtB_not h]
  exact ⟨rfl, rfl⟩
theorem pfl (vs : List Vx) (es : List Eg) : FlV (pvs vs es) ∧ FlE (pvs vs es) (pes vs es) := by
  by_cases h : Rt vs es
  · rw [(pvs_yes h).1, (pvs_yes h).2]
    exact rt_iff.1 h
  · rw [(pvs_no h).1, (pvs_no h).2]
    exact ⟨⟨by simp, by simp, by simp, by simp, by simp⟩, ⟨by simp, by simp, by simp, by simp, by simp, by simp, by simp⟩⟩
theorem pes_len (vs : List Vx) (es : List Eg) : (pes vs es).length ≤ es.length := by
  unfold pes
  split
  · exact Nat.le_refl _
  · simp
section
variable {v e : Value} {vs : List Vx} {es : List Eg} {w : World}
theorem weave_any (hv : VIn w v vs) (he : EIn w e es) (hn : vs.length ≤ 30000) (hm : es.length ≤ 30000) : Calls Try.prog 35 #[.agg #[v, e]] w fun r w' => ∃ p Z, r = .returned (.pointer (some ⟨p, 0, none⟩)) ∧ Web w' w.heap.size p (wys (pvs vs es) (pes vs es)) Z ∧ Below w.heap.size w w' := by
  by_cases h : Rt vs es
  · rw [(pvs_yes h).1, (pvs_yes h).2]
    exact weave_yes hv he hn hm h
  · rw [(pvs_no h).1, (pvs_no h).2]
    exact weave_no hv he (by omega) (by omega) h
noncomputable def enA (vs : List Vx) (es : List Eg) (h : Hf) : Vx := if h ∈ hfs (pes vs es) then vx (pvs vs es) (frm (pes vs es) h) else ⟨0, 0, 0⟩
noncomputable def enB (vs : List Vx) (es : List Eg) (h : Hf) : Vx := if h ∈ hfs (pes vs es) then vx (pvs vs es) (dst (pes vs es) h) else ⟨0, 0, 0⟩
theorem lk_en (vs : List Vx) (es : List Eg) (h : Hf) : (lkG (wyP (wys (pvs vs es) (pes vs es))) h).getD (.agg #[.int .i64 0, .int .i64 0, .int .i64 0, .int .i64 0, .int .i64 0, .int .i64 0]) = wV (enA vs es h, enB vs es h) ∧ (lkG (wyP (wys (pvs vs es) (pes vs es))) h).isSome = decide (h ∈ hfs (pes vs es)) := by
  unfold enA enB
  by_cases k : h ∈ hfs (pes vs es)
  · rw [lk_wys (pfl vs es).2.rise k, if_pos k, if_pos k, decide_eq_true k]
    exact ⟨rfl, rfl⟩
  · rw [lk_wys_none k, if_neg k, if_neg k, decide_eq_false k]
    exact ⟨rfl, rfl⟩
set_option maxRecDepth 10000 in
set_option maxHeartbeats 2000000 in
theorem ends_any (hv : VIn w v vs) (he : EIn w e es) (hn : vs.length ≤ 30000) (hm : es.length ≤ 30000) (h : Hf) : Calls Try.prog 16 #[.agg #[v, e], hV h] w fun r w' =>
    r = .returned (.tuple #[.agg #[.int .i64 (enA vs es h).id, .int .i64 (enA vs es h).x, .int .i64 (enA vs es h).y], .agg #[.int .i64 (enB vs es h).id, .int .i64 (enB vs es h).x, .int .i64 (enB vs es h).y], .bool (decide (h ∈ hfs (pes vs es)))]) ∧ Below w.heap.size w w' := by
  have WV := Lib.hid (fun (W : World) (hW : Below w.heap.size w W) => weave_any (TIn.below hv hW) (TIn.below he hW) hn hm)
  have LKF := Lib.hid (fun (q : Nat) (W : World) (hq : MapG W q hV (wyP (wys (pvs vs es) (pes vs es)))) => show (Instr.lookup 80 (.map (some q)) (hV h) true).run Try.prog W = .ok (.tuple #[wV (enA vs es h, enB vs es h), .bool (decide (h ∈ hfs (pes vs es)))]) W from by
    rw [← (lk_en vs es h).1, ← (lk_en vs es h).2]
    exact hq.look (t := 80) Try.underlying80 key_half (zero_wy W) h)
  obtain ⟨a, c, rfl⟩ := hv.sl
  obtain ⟨a', c', rfl⟩ := he.sl
  clear hv he
  unfold wV at LKF
  simp only at LKF
  generalize enA vs es h = A at *
  generalize enB vs es h = Bv at *
  generalize decide (h ∈ hfs (pes vs es)) = ok at *
  generalize vs.length = n at *
  generalize es.length = m at *
  obtain ⟨ai, ax, ay⟩ := A
  obtain ⟨bi, bx, by_⟩ := Bv
  obtain ⟨he, hb⟩ := h
  unfold hV at LKF ⊢
  simp only at LKF ⊢
  obtain ⟨W0, hW0⟩ : ∃ W0, W0 = (((w.alloc (.cells #[.slice a n c, .slice a' m c'] 30)).alloc (.cells #[.int .i64 he, .bool hb] 42)).alloc (.cells #[.int .i64 0, .int .i64 0, .int .i64 0] 39)).alloc (.cells #[.int .i64 0, .int .i64 0, .int .i64 0] 39) := ⟨_, rfl⟩
  have BB : Hid (Below w.heap.size w W0) := Lib.hid (by rw [hW0]; repeat' (first | (with_reducible exact Below.refl _ _) | (with_reducible assumption) | (with_reducible refine below_drewN ?_ _) | (with_reducible refine Below.drew ?_) | (with_reducible refine Below.alloc ?_ ?_ _) | (with_reducible refine Below.setCell ?_ ?_ _) | (with_reducible refine then_ ?_ (by with_reducible assumption) ?_) | (with_reducible exact Nat.le_refl _) | (with_reducible exact Nat.le_succ _) | (with_reducible exact Nat.le_succ_of_le (by with_reducible assumption)) | omega | (simp; done) | (simp; omega) | (exact Nat.le_succ _) | (exact Nat.le_succ_of_le (by with_reducible assumption))))
  have PO : Hid (Own W0 w.heap.size 30 #[.slice a n c, .slice a' m c']) := Lib.hid (by rw [hW0]; exact (((Own.made w _ _).more _).more _).more _)
  have HO : Hid (Own W0 (w.heap.size + 1) 42 #[.int .i64 he, .bool hb]) := Lib.hid (by rw [hW0]; exact ((Own.made_at (by simp)).more _).more _)
  have R4 : Hid (Own W0 (w.heap.size + 1 + 1) 39 #[.int .i64 0, .int .i64 0, .int .i64 0]) := Lib.hid (by rw [hW0]; exact (Own.made_at (by simp)).more _)
  have R5 : Hid (Own W0 (w.heap.size + 1 + 1 + 1) 39 #[.int .i64 0, .int .i64 0, .int .i64 0]) := Lib.hid (by rw [hW0]; exact Own.made_at (by simp))
  have SF : Hid (∀ W, Below W0.heap.size W0 W → Own W w.heap.size 30 #[.slice a n c, .slice a' m c'] ∧ Own W (w.heap.size + 1) 42 #[.int .i64 he, .bool hb]) := Lib.hid fun W hW => ⟨PO.out.keep hW, HO.out.keep hW⟩
  go_enter Try.func16, Try.ntmps16
  go_upto_region 1 with fail
  rw [← hW0]
  clear hW0
  have B1 : Hid (Below W0.heap.size W0 W0.drew) := Lib.hid (Below.refl _ _).drew
  go_cut [7, 8] (fun s7 s8 wx => ∃ g, s7 = .pointer (some ⟨g, 0, none⟩) ∧ s8 = .bool ok ∧ Hid (Own wx g 88 #[.int .i64 ai, .int .i64 ax, .int .i64 ay, .int .i64 bi, .int .i64 bx, .int .i64 by_]) ∧ Hid (Below W0.heap.size W0 wx) ∧ W0.heap.size ≤ g)
  case first =>
    go_upto_region 1 with fail
    refine wp_region_tree (fun W => Own W w.heap.size 30 #[.slice a n c, .slice a' m c'] ∧ Own W (w.heap.size + 1) 42 #[.int .i64 he, .bool hb]) [0, 2, 3, 5, 7, 8, 9, 12] [0, 5] 13 (by kernel_rfl) rfl ?_
    generalize hD_ : W0.drew = Wd0 at B1 ⊢
    clear hD_
    refine tree_pure (i := 0) (v := ?_) rfl rfl (by kernel_rfl) (by kernel_rfl) (by kernel_rfl) rfl (fun W hS => ?_) (SF.out _ B1.out) ?_
    rotate_left
    · have hS := hS rfl
      obtain ⟨hp1, hp2⟩ := hS
      obtain ⟨g1, g2⟩ := half_at hp1
      obtain ⟨g3, g4⟩ := half_at hp2
      conv => lhs; simp [go_sem, *]
      first | done | exact rfl
    simp only [Act.put, List.getElem_toArray, List.getElem_cons_zero, List.getElem_cons_succ, List.setIfInBounds_toArray, List.set_cons_zero, List.set_cons_succ]
    refine tree_pure (i := 5) (v := ?_) rfl rfl (by kernel_rfl) (by kernel_rfl) (by kernel_rfl) rfl (fun W hS => ?_) (SF.out _ B1.out) ?_
    rotate_left
    · have hS := hS rfl
      obtain ⟨hp1, hp2⟩ := hS
      obtain ⟨g1, g2⟩ := half_at hp1
      obtain ⟨g3, g4⟩ := half_at hp2
      conv => lhs; simp [go_sem, *]
      first | done | exact rfl
    simp only [Act.put, List.getElem_toArray, List.getElem_cons_zero, List.getElem_cons_succ, List.setIfInBounds_toArray, List.set_cons_zero, List.set_cons_succ]
    refine tree_two (i := 1) (k := 10) (by kernel_rfl) rfl rfl ?_ ?_
    · refine ⟨_, rfl, fun K hK => ?_⟩
      go_wp2_with (go_at_call 35; refine (WV.out _ (then_ BB.out B1.out BB.out.size)).mono ?_; rintro e wt1 ⟨p, Z, rfl, ⟨m2, m3, hv2, M, hW2, _, _⟩, bt1⟩; replace bt1 := Lib.hid bt1; have OW := Lib.hid hW2.own; have MW := Lib.hid hW2.ways; clear hW2)
      replace B1 := Lib.hid (then_ B1.out bt1.out B1.out.size)
      refine hK _ _ (SF.out _ B1.out) ?_
      clear hK K
      refine tree_pure (i := 2) (v := ?_) rfl rfl (by kernel_rfl) (by kernel_rfl) (by kernel_rfl) rfl (fun W hS => ?_) (SF.out _ B1.out) ?_
      rotate_left
      · conv => lhs; simp [go_sem]
        first | done | exact rfl
      simp only [Act.put, List.getElem_toArray, List.getElem_cons_zero, List.getElem_cons_succ, List.setIfInBounds_toArray, List.set_cons_zero, List.set_cons_succ]
      refine tree_pure (i := 3) (v := ?_) rfl rfl (by kernel_rfl) (by kernel_rfl) (by kernel_rfl) rfl (fun W hS => ?_) (SF.out _ B1.out) ?_
      rotate_left
      · conv => lhs; simp [go_sem]
        first | done | exact rfl
      simp only [Act.put, List.getElem_toArray, List.getElem_cons_zero, List.getElem_cons_succ, List.setIfInBounds_toArray, List.set_cons_zero, List.set_cons_succ]
      refine tree_two (i := 4) (k := 10) (by kernel_rfl) rfl rfl ?_ ?_
      · refine ⟨_, rfl, fun K hK => ?_⟩
        obtain ⟨fx1, fx2, fx3⟩ := OW.out.at_
        go_wp2
        refine hK _ _ (SF.out _ B1.out) ?_
        clear hK K
        refine tree_two (i := 6) (k := 10) (by kernel_rfl) rfl rfl ?_ ?_
        · refine ⟨_, rfl, fun K hK => ?_⟩
          have lk6 := LKF.out _ _ MW.out
          go_wp2
          refine hK _ _ (SF.out _ B1.out) ?_
          clear hK K
          refine tree_pure (i := 7) (v := ?_) rfl rfl (by kernel_rfl) (by kernel_rfl) (by kernel_rfl) rfl (fun W hS => ?_) (SF.out _ B1.out) ?_
          rotate_left
          · conv => lhs; simp [go_sem]
            first | done | exact rfl
          simp only [Act.put, List.getElem_toArray, List.getElem_cons_zero, List.getElem_cons_succ, List.setIfInBounds_toArray, List.set_cons_zero, List.set_cons_succ]
          refine tree_pure (i := 8) (v := ?_) rfl rfl (by kernel_rfl) (by kernel_rfl) (by kernel_rfl) rfl (fun W hS => ?_) (SF.out _ B1.out) ?_
          rotate_left
          · conv => lhs; simp [go_sem]
            first | done | exact rfl
          simp only [Act.put, List.getElem_toArray, List.getElem_cons_zero, List.getElem_cons_succ, List.setIfInBounds_toArray, List.set_cons_zero, List.set_cons_succ]
          refine tree_pure (i := 9) (v := ?_) rfl rfl (by kernel_rfl) (by kernel_rfl) (by kernel_rfl) rfl (fun W hS => ?_) (SF.out _ B1.out) ?_
          rotate_left
          · conv => lhs; simp [go_sem]
            first | done | exact rfl
          simp only [Act.put, List.getElem_toArray, List.getElem_cons_zero, List.getElem_cons_succ, List.setIfInBounds_toArray, List.set_cons_zero, List.set_cons_succ]
          refine tree_one (i := 10) (by kernel_rfl) rfl ?_
          · refine ⟨_, rfl, fun K hK => ?_⟩
            go_wp2
            obtain ⟨wt4, hW⟩ : ∃ X, X = World.alloc wt1 (.cells #[.int .i64 0, .int .i64 0, .int .i64 0, .int .i64 0, .int .i64 0, .int .i64 0] 88) := ⟨_, rfl⟩
            have bt4 : Hid (Below (wt1).heap.size (wt1) wt4) := Lib.hid (by rw [hW]; exact bx1 _ _ _)
            have t7_ : Hid (Own wt4 (wt1).heap.size 88 #[.int .i64 0, .int .i64 0, .int .i64 0, .int .i64 0, .int .i64 0, .int .i64 0]) := Lib.hid (by rw [hW]; exact Own.made _ _ _)
            have t7_lo : Hid (W0.heap.size ≤ (wt1).heap.size) := Lib.hid B1.out.size
            replace B1 := Lib.hid (then_ B1.out bt4.out B1.out.size)
            replace OW := Lib.hid (OW.out.keep bt4.out)
            replace MW := Lib.hid (MW.out.keep (bt4.out.block _ MW.out.in_))
            rw [← hW]
            obtain ⟨gb_t7, hg_t7⟩ : ∃ g, g = (wt1).heap.size := ⟨_, rfl⟩
            rw [← hg_t7] at t7_ t7_lo  ⊢
            clear hW hg_t7
            have t7 := t7_
            refine hK _ _ (SF.out _ B1.out) ?_
            clear hK K
            refine tree_one (i := 11) (by kernel_rfl) rfl ?_
            · refine ⟨_, rfl, fun K hK => ?_⟩
              obtain ⟨fz1, fz2, fz3⟩ := t7.out.at_
              go_wp2
              clear fz1 fz2 fz3
              have t7_f : Hid (Own (World.setCell (World.setCell (World.setCell (World.setCell (World.setCell (World.setCell wt4 ⟨gb_t7, 0, none⟩ (.int .i64 ai)) ⟨gb_t7, 1, none⟩ (.int .i64 ax)) ⟨gb_t7, 2, none⟩ (.int .i64 ay)) ⟨gb_t7, 3, none⟩ (.int .i64 bi)) ⟨gb_t7, 4, none⟩ (.int .i64 bx)) ⟨gb_t7, 5, none⟩ (.int .i64 by_)) gb_t7 88 #[.int .i64 ai, .int .i64 ax, .int .i64 ay, .int .i64 bi, .int .i64 bx, .int .i64 by_]) := Lib.hid (((((((t7.out.put 0 _).put 1 _).put 2 _).put 3 _).put 4 _).put 5 _).as (by simp))
              have BF_ : Hid (Below W0.heap.size W0 (World.setCell (World.setCell (World.setCell (World.setCell (World.setCell (World.setCell wt4 ⟨gb_t7, 0, none⟩ (.int .i64 ai)) ⟨gb_t7, 1, none⟩ (.int .i64 ax)) ⟨gb_t7, 2, none⟩ (.int .i64 ay)) ⟨gb_t7, 3, none⟩ (.int .i64 bi)) ⟨gb_t7, 4, none⟩ (.int .i64 bx)) ⟨gb_t7, 5, none⟩ (.int .i64 by_))) := Lib.hid (Below.setCell (Below.setCell (Below.setCell (Below.setCell (Below.setCell (Below.setCell B1.out (p := ⟨gb_t7, 0, none⟩) (t7_lo.out) _) (p := ⟨gb_t7, 1, none⟩) (t7_lo.out) _) (p := ⟨gb_t7, 2, none⟩) (t7_lo.out) _) (p := ⟨gb_t7, 3, none⟩) (t7_lo.out) _) (p := ⟨gb_t7, 4, none⟩) (t7_lo.out) _) (p := ⟨gb_t7, 5, none⟩) (t7_lo.out) _)
              generalize hWF_ : (World.setCell (World.setCell (World.setCell (World.setCell (World.setCell (World.setCell wt4 ⟨gb_t7, 0, none⟩ (.int .i64 ai)) ⟨gb_t7, 1, none⟩ (.int .i64 ax)) ⟨gb_t7, 2, none⟩ (.int .i64 ay)) ⟨gb_t7, 3, none⟩ (.int .i64 bi)) ⟨gb_t7, 4, none⟩ (.int .i64 bx)) ⟨gb_t7, 5, none⟩ (.int .i64 by_)) = wt5 at t7_f BF_ ⊢
              clear hWF_
              have BF := BF_
              refine hK _ _ (SF.out _ BF.out) ?_
              clear hK K
              refine tree_pure (i := 12) (v := ?_) rfl rfl (by kernel_rfl) (by kernel_rfl) (by kernel_rfl) rfl (fun W hS => ?_) (SF.out _ BF.out) ?_
              rotate_left
              · conv => lhs; simp [go_sem]
                first | done | exact rfl
              simp only [Act.put, List.getElem_toArray, List.getElem_cons_zero, List.getElem_cons_succ, List.setIfInBounds_toArray, List.set_cons_zero, List.set_cons_succ]
              refine tree_end (by kernel_rfl) ?_
              go_wp2_with fail
              go_meet
              exact ⟨_, rfl, rfl, t7_f, BF, t7_lo.out⟩
        · refine ⟨_, rfl, fun K hK => ?_⟩
          go_wp2
          obtain ⟨wt6, hW⟩ : ∃ X, X = World.alloc wt1 (.cells #[.int .i64 0, .int .i64 0, .int .i64 0, .int .i64 0, .int .i64 0, .int .i64 0] 88) := ⟨_, rfl⟩
          have bt6 : Hid (Below (wt1).heap.size (wt1) wt6) := Lib.hid (by rw [hW]; exact bx1 _ _ _)
          have t7_ : Hid (Own wt6 (wt1).heap.size 88 #[.int .i64 0, .int .i64 0, .int .i64 0, .int .i64 0, .int .i64 0, .int .i64 0]) := Lib.hid (by rw [hW]; exact Own.made _ _ _)
          have t7_lo : Hid (W0.heap.size ≤ (wt1).heap.size) := Lib.hid B1.out.size
          replace B1 := Lib.hid (then_ B1.out bt6.out B1.out.size)
          replace OW := Lib.hid (OW.out.keep bt6.out)
          replace MW := Lib.hid (MW.out.keep (bt6.out.block _ MW.out.in_))
          rw [← hW]
          obtain ⟨gb_t7, hg_t7⟩ : ∃ g, g = (wt1).heap.size := ⟨_, rfl⟩
          rw [← hg_t7] at t7_ t7_lo  ⊢
          clear hW hg_t7
          have t7 := t7_
          refine hK _ _ (SF.out _ B1.out) ?_
          clear hK K
          refine tree_one (i := 6) (by kernel_rfl) rfl ?_
          · refine ⟨_, rfl, fun K hK => ?_⟩
            have lk6 := LKF.out _ _ MW.out
            go_wp2
            refine hK _ _ (SF.out _ B1.out) ?_
            clear hK K
            refine tree_pure (i := 7) (v := ?_) rfl rfl (by kernel_rfl) (by kernel_rfl) (by kernel_rfl) rfl (fun W hS => ?_) (SF.out _ B1.out) ?_
            rotate_left
            · conv => lhs; simp [go_sem]
              first | done | exact rfl
            simp only [Act.put, List.getElem_toArray, List.getElem_cons_zero, List.getElem_cons_succ, List.setIfInBounds_toArray, List.set_cons_zero, List.set_cons_succ]
            refine tree_pure (i := 8) (v := ?_) rfl rfl (by kernel_rfl) (by kernel_rfl) (by kernel_rfl) rfl (fun W hS => ?_) (SF.out _ B1.out) ?_
            rotate_left
            · conv => lhs; simp [go_sem]
              first | done | exact rfl
            simp only [Act.put, List.getElem_toArray, List.getElem_cons_zero, List.getElem_cons_succ, List.setIfInBounds_toArray, List.set_cons_zero, List.set_cons_succ]
            refine tree_pure (i := 9) (v := ?_) rfl rfl (by kernel_rfl) (by kernel_rfl) (by kernel_rfl) rfl (fun W hS => ?_) (SF.out _ B1.out) ?_
            rotate_left
            · conv => lhs; simp [go_sem]
              first | done | exact rfl
            simp only [Act.put, List.getElem_toArray, List.getElem_cons_zero, List.getElem_cons_succ, List.setIfInBounds_toArray, List.set_cons_zero, List.set_cons_succ]
            refine tree_one (i := 11) (by kernel_rfl) rfl ?_
            · refine ⟨_, rfl, fun K hK => ?_⟩
              obtain ⟨fz1, fz2, fz3⟩ := t7.out.at_
              go_wp2
              clear fz1 fz2 fz3
              have t7_f : Hid (Own (World.setCell (World.setCell (World.setCell (World.setCell (World.setCell (World.setCell wt6 ⟨gb_t7, 0, none⟩ (.int .i64 ai)) ⟨gb_t7, 1, none⟩ (.int .i64 ax)) ⟨gb_t7, 2, none⟩ (.int .i64 ay)) ⟨gb_t7, 3, none⟩ (.int .i64 bi)) ⟨gb_t7, 4, none⟩ (.int .i64 bx)) ⟨gb_t7, 5, none⟩ (.int .i64 by_)) gb_t7 88 #[.int .i64 ai, .int .i64 ax, .int .i64 ay, .int .i64 bi, .int .i64 bx, .int .i64 by_]) := Lib.hid (((((((t7.out.put 0 _).put 1 _).put 2 _).put 3 _).put 4 _).put 5 _).as (by simp))
              have BF_ : Hid (Below W0.heap.size W0 (World.setCell (World.setCell (World.setCell (World.setCell (World.setCell (World.setCell wt6 ⟨gb_t7, 0, none⟩ (.int .i64 ai)) ⟨gb_t7, 1, none⟩ (.int .i64 ax)) ⟨gb_t7, 2, none⟩ (.int .i64 ay)) ⟨gb_t7, 3, none⟩ (.int .i64 bi)) ⟨gb_t7, 4, none⟩ (.int .i64 bx)) ⟨gb_t7, 5, none⟩ (.int .i64 by_))) := Lib.hid (Below.setCell (Below.setCell (Below.setCell (Below.setCell (Below.setCell (Below.setCell B1.out (p := ⟨gb_t7, 0, none⟩) (t7_lo.out) _) (p := ⟨gb_t7, 1, none⟩) (t7_lo.out) _) (p := ⟨gb_t7, 2, none⟩) (t7_lo.out) _) (p := ⟨gb_t7, 3, none⟩) (t7_lo.out) _) (p := ⟨gb_t7, 4, none⟩) (t7_lo.out) _) (p := ⟨gb_t7, 5, none⟩) (t7_lo.out) _)
              generalize hWF_ : (World.setCell (World.setCell (World.setCell (World.setCell (World.setCell (World.setCell wt6 ⟨gb_t7, 0, none⟩ (.int .i64 ai)) ⟨gb_t7, 1, none⟩ (.int .i64 ax)) ⟨gb_t7, 2, none⟩ (.int .i64 ay)) ⟨gb_t7, 3, none⟩ (.int .i64 bi)) ⟨gb_t7, 4, none⟩ (.int .i64 bx)) ⟨gb_t7, 5, none⟩ (.int .i64 by_)) = wt8 at t7_f BF_ ⊢
              clear hWF_
              have BF := BF_
              refine hK _ _ (SF.out _ BF.out) ?_
              clear hK K
              refine tree_pure (i := 12) (v := ?_) rfl rfl (by kernel_rfl) (by kernel_rfl) (by kernel_rfl) rfl (fun W hS => ?_) (SF.out _ BF.out) ?_
              rotate_left
              · conv => lhs; simp [go_sem]
                first | done | exact rfl
              simp only [Act.put, List.getElem_toArray, List.getElem_cons_zero, List.getElem_cons_succ, List.setIfInBounds_toArray, List.set_cons_zero, List.set_cons_succ]
              refine tree_end (by kernel_rfl) ?_
              go_wp2_with fail
              go_meet
              exact ⟨_, rfl, rfl, t7_f, BF, t7_lo.out⟩
      · refine ⟨_, rfl, fun K hK => ?_⟩
        go_wp2
        obtain ⟨wt9, hW⟩ : ∃ X, X = World.alloc wt1 (.cells #[.int .i64 0, .int .i64 0, .int .i64 0, .int .i64 0, .int .i64 0, .int .i64 0] 88) := ⟨_, rfl⟩
        have bt9 : Hid (Below (wt1).heap.size (wt1) wt9) := Lib.hid (by rw [hW]; exact bx1 _ _ _)
        have t7_ : Hid (Own wt9 (wt1).heap.size 88 #[.int .i64 0, .int .i64 0, .int .i64 0, .int .i64 0, .int .i64 0, .int .i64 0]) := Lib.hid (by rw [hW]; exact Own.made _ _ _)
        have t7_lo : Hid (W0.heap.size ≤ (wt1).heap.size) := Lib.hid B1.out.size
        replace B1 := Lib.hid (then_ B1.out bt9.out B1.out.size)
        replace OW := Lib.hid (OW.out.keep bt9.out)
        replace MW := Lib.hid (MW.out.keep (bt9.out.block _ MW.out.in_))
        rw [← hW]
        obtain ⟨gb_t7, hg_t7⟩ : ∃ g, g = (wt1).heap.size := ⟨_, rfl⟩
        rw [← hg_t7] at t7_ t7_lo  ⊢
        clear hW hg_t7
        have t7 := t7_
        refine hK _ _ (SF.out _ B1.out) ?_
        clear hK K
        refine tree_one (i := 4) (by kernel_rfl) rfl ?_
        · refine ⟨_, rfl, fun K hK => ?_⟩
          obtain ⟨fx1, fx2, fx3⟩ := OW.out.at_
          go_wp2
          refine hK _ _ (SF.out _ B1.out) ?_
          clear hK K
          refine tree_one (i := 6) (by kernel_rfl) rfl ?_
          · refine ⟨_, rfl, fun K hK => ?_⟩
            have lk6 := LKF.out _ _ MW.out
            go_wp2
            refine hK _ _ (SF.out _ B1.out) ?_
            clear hK K
            refine tree_pure (i := 7) (v := ?_) rfl rfl (by kernel_rfl) (by kernel_rfl) (by kernel_rfl) rfl (fun W hS => ?_) (SF.out _ B1.out) ?_
            rotate_left
            · conv => lhs; simp [go_sem]
              first | done | exact rfl
            simp only [Act.put, List.getElem_toArray, List.getElem_cons_zero, List.getElem_cons_succ, List.setIfInBounds_toArray, List.set_cons_zero, List.set_cons_succ]
            refine tree_pure (i := 8) (v := ?_) rfl rfl (by kernel_rfl) (by kernel_rfl) (by kernel_rfl) rfl (fun W hS => ?_) (SF.out _ B1.out) ?_
            rotate_left
            · conv => lhs; simp [go_sem]
              first | done | exact rfl
            simp only [Act.put, List.getElem_toArray, List.getElem_cons_zero, List.getElem_cons_succ, List.setIfInBounds_toArray, List.set_cons_zero, List.set_cons_succ]
            refine tree_pure (i := 9) (v := ?_) rfl rfl (by kernel_rfl) (by kernel_rfl) (by kernel_rfl) rfl (fun W hS => ?_) (SF.out _ B1.out) ?_
            rotate_left
            · conv => lhs; simp [go_sem]
              first | done | exact rfl
            simp only [Act.put, List.getElem_toArray, List.getElem_cons_zero, List.getElem_cons_succ, List.setIfInBounds_toArray, List.set_cons_zero, List.set_cons_succ]
            refine tree_one (i := 11) (by kernel_rfl) rfl ?_
            · refine ⟨_, rfl, fun K hK => ?_⟩
              obtain ⟨fz1, fz2, fz3⟩ := t7.out.at_
              go_wp2
              clear fz1 fz2 fz3
              have t7_f : Hid (Own (World.setCell (World.setCell (World.setCell (World.setCell (World.setCell (World.setCell wt9 ⟨gb_t7, 0, none⟩ (.int .i64 ai)) ⟨gb_t7, 1, none⟩ (.int .i64 ax)) ⟨gb_t7, 2, none⟩ (.int .i64 ay)) ⟨gb_t7, 3, none⟩ (.int .i64 bi)) ⟨gb_t7, 4, none⟩ (.int .i64 bx)) ⟨gb_t7, 5, none⟩ (.int .i64 by_)) gb_t7 88 #[.int .i64 ai, .int .i64 ax, .int .i64 ay, .int .i64 bi, .int .i64 bx, .int .i64 by_]) := Lib.hid (((((((t7.out.put 0 _).put 1 _).put 2 _).put 3 _).put 4 _).put 5 _).as (by simp))
              have BF_ : Hid (Below W0.heap.size W0 (World.setCell (World.setCell (World.setCell (World.setCell (World.setCell (World.setCell wt9 ⟨gb_t7, 0, none⟩ (.int .i64 ai)) ⟨gb_t7, 1, none⟩ (.int .i64 ax)) ⟨gb_t7, 2, none⟩ (.int .i64 ay)) ⟨gb_t7, 3, none⟩ (.int .i64 bi)) ⟨gb_t7, 4, none⟩ (.int .i64 bx)) ⟨gb_t7, 5, none⟩ (.int .i64 by_))) := Lib.hid (Below.setCell (Below.setCell (Below.setCell (Below.setCell (Below.setCell (Below.setCell B1.out (p := ⟨gb_t7, 0, none⟩) (t7_lo.out) _) (p := ⟨gb_t7, 1, none⟩) (t7_lo.out) _) (p := ⟨gb_t7, 2, none⟩) (t7_lo.out) _) (p := ⟨gb_t7, 3, none⟩) (t7_lo.out) _) (p := ⟨gb_t7, 4, none⟩) (t7_lo.out) _) (p := ⟨gb_t7, 5, none⟩) (t7_lo.out) _)
              generalize hWF_ : (World.setCell (World.setCell (World.setCell (World.setCell (World.setCell (World.setCell wt9 ⟨gb_t7, 0, none⟩ (.int .i64 ai)) ⟨gb_t7, 1, none⟩ (.int .i64 ax)) ⟨gb_t7, 2, none⟩ (.int .i64 ay)) ⟨gb_t7, 3, none⟩ (.int .i64 bi)) ⟨gb_t7, 4, none⟩ (.int .i64 bx)) ⟨gb_t7, 5, none⟩ (.int .i64 by_)) = wt12 at t7_f BF_ ⊢
              clear hWF_
              have BF := BF_
              refine hK _ _ (SF.out _ BF.out) ?_
              clear hK K
              refine tree_pure (i := 12) (v := ?_) rfl rfl (by kernel_rfl) (by kernel_rfl) (by kernel_rfl) rfl (fun W hS => ?_) (SF.out _ BF.out) ?_
              rotate_left
              · conv => lhs; simp [go_sem]
                first | done | exact rfl
              simp only [Act.put, List.getElem_toArray, List.getElem_cons_zero, List.getElem_cons_succ, List.setIfInBounds_toArray, List.set_cons_zero, List.set_cons_succ]
              refine tree_end (by kernel_rfl) ?_
              go_wp2_with fail
              go_meet
              exact ⟨_, rfl, rfl, t7_f, BF, t7_lo.out⟩
    · refine ⟨_, rfl, fun K hK => ?_⟩
      go_wp2
      obtain ⟨wt13, hW⟩ : ∃ X, X = World.alloc Wd0 (.cells #[.int .i64 0, .int .i64 0, .int .i64 0, .int .i64 0, .int .i64 0, .int .i64 0] 88) := ⟨_, rfl⟩
      have bt13 : Hid (Below (Wd0).heap.size (Wd0) wt13) := Lib.hid (by rw [hW]; exact bx1 _ _ _)
      have t7_ : Hid (Own wt13 (Wd0).heap.size 88 #[.int .i64 0, .int .i64 0, .int .i64 0, .int .i64 0, .int .i64 0, .int .i64 0]) := Lib.hid (by rw [hW]; exact Own.made _ _ _)
      have t7_lo : Hid (W0.heap.size ≤ (Wd0).heap.size) := Lib.hid B1.out.size
      replace B1 := Lib.hid (then_ B1.out bt13.out B1.out.size)
      rw [← hW]
      obtain ⟨gb_t7, hg_t7⟩ : ∃ g, g = (Wd0).heap.size := ⟨_, rfl⟩
      rw [← hg_t7] at t7_ t7_lo  ⊢
      clear hW hg_t7
      have t7 := t7_
      refine hK _ _ (SF.out _ B1.out) ?_
      clear hK K
      refine tree_one (i := 1) (by kernel_rfl) rfl ?_
      · refine ⟨_, rfl, fun K hK => ?_⟩
        go_wp2_with (go_at_call 35; refine (WV.out _ (then_ BB.out B1.out BB.out.size)).mono ?_; rintro e wt14 ⟨p, Z, rfl, ⟨m2, m3, hv2, M, hW2, _, _⟩, bt14⟩; replace bt14 := Lib.hid bt14; have OW := Lib.hid hW2.own; have MW := Lib.hid hW2.ways; clear hW2)
        replace B1 := Lib.hid (then_ B1.out bt14.out B1.out.size)
        replace t7 := Lib.hid (t7.out.keep bt14.out)
        refine hK _ _ (SF.out _ B1.out) ?_
        clear hK K
        refine tree_pure (i := 2) (v := ?_) rfl rfl (by kernel_rfl) (by kernel_rfl) (by kernel_rfl) rfl (fun W hS => ?_) (SF.out _ B1.out) ?_
        rotate_left
        · conv => lhs; simp [go_sem]
          first | done | exact rfl
        simp only [Act.put, List.getElem_toArray, List.getElem_cons_zero, List.getElem_cons_succ, List.setIfInBounds_toArray, List.set_cons_zero, List.set_cons_succ]
        refine tree_pure (i := 3) (v := ?_) rfl rfl (by kernel_rfl) (by kernel_rfl) (by kernel_rfl) rfl (fun W hS => ?_) (SF.out _ B1.out) ?_
        rotate_left
        · conv => lhs; simp [go_sem]
          first | done | exact rfl
        simp only [Act.put, List.getElem_toArray, List.getElem_cons_zero, List.getElem_cons_succ, List.setIfInBounds_toArray, List.set_cons_zero, List.set_cons_succ]
        refine tree_one (i := 4) (by kernel_rfl) rfl ?_
        · refine ⟨_, rfl, fun K hK => ?_⟩
          obtain ⟨fx1, fx2, fx3⟩ := OW.out.at_
          go_wp2
          refine hK _ _ (SF.out _ B1.out) ?_
          clear hK K
          refine tree_one (i := 6) (by kernel_rfl) rfl ?_
          · refine ⟨_, rfl, fun K hK => ?_⟩
            have lk6 := LKF.out _ _ MW.out
            go_wp2
            refine hK _ _ (SF.out _ B1.out) ?_
            clear hK K
            refine tree_pure (i := 7) (v := ?_) rfl rfl (by kernel_rfl) (by kernel_rfl) (by kernel_rfl) rfl (fun W hS => ?_) (SF.out _ B1.out) ?_
            rotate_left
            · conv => lhs; simp [go_sem]
              first | done | exact rfl
            simp only [Act.put, List.getElem_toArray, List.getElem_cons_zero, List.getElem_cons_succ, List.setIfInBounds_toArray, List.set_cons_zero, List.set_cons_succ]
            refine tree_pure (i := 8) (v := ?_) rfl rfl (by kernel_rfl) (by kernel_rfl) (by kernel_rfl) rfl (fun W hS => ?_) (SF.out _ B1.out) ?_
            rotate_left
            · conv => lhs; simp [go_sem]
              first | done | exact rfl
            simp only [Act.put, List.getElem_toArray, List.getElem_cons_zero, List.getElem_cons_succ, List.setIfInBounds_toArray, List.set_cons_zero, List.set_cons_succ]
            refine tree_pure (i := 9) (v := ?_) rfl rfl (by kernel_rfl) (by kernel_rfl) (by kernel_rfl) rfl (fun W hS => ?_) (SF.out _ B1.out) ?_
            rotate_left
            · conv => lhs; simp [go_sem]
              first | done | exact rfl
            simp only [Act.put, List.getElem_toArray, List.getElem_cons_zero, List.getElem_cons_succ, List.setIfInBounds_toArray, List.set_cons_zero, List.set_cons_succ]
            refine tree_one (i := 11) (by kernel_rfl) rfl ?_
            · refine ⟨_, rfl, fun K hK => ?_⟩
              obtain ⟨fz1, fz2, fz3⟩ := t7.out.at_
              go_wp2
              clear fz1 fz2 fz3
              have t7_f : Hid (Own (World.setCell (World.setCell (World.setCell (World.setCell (World.setCell (World.setCell wt14 ⟨gb_t7, 0, none⟩ (.int .i64 ai)) ⟨gb_t7, 1, none⟩ (.int .i64 ax)) ⟨gb_t7, 2, none⟩ (.int .i64 ay)) ⟨gb_t7, 3, none⟩ (.int .i64 bi)) ⟨gb_t7, 4, none⟩ (.int .i64 bx)) ⟨gb_t7, 5, none⟩ (.int .i64 by_)) gb_t7 88 #[.int .i64 ai, .int .i64 ax, .int .i64 ay, .int .i64 bi, .int .i64 bx, .int .i64 by_]) := Lib.hid (((((((t7.out.put 0 _).put 1 _).put 2 _).put 3 _).put 4 _).put 5 _).as (by simp))
              have BF_ : Hid (Below W0.heap.size W0 (World.setCell (World.setCell (World.setCell (World.setCell (World.setCell (World.setCell wt14 ⟨gb_t7, 0, none⟩ (.int .i64 ai)) ⟨gb_t7, 1, none⟩ (.int .i64 ax)) ⟨gb_t7, 2, none⟩ (.int .i64 ay)) ⟨gb_t7, 3, none⟩ (.int .i64 bi)) ⟨gb_t7, 4, none⟩ (.int .i64 bx)) ⟨gb_t7, 5, none⟩ (.int .i64 by_))) := Lib.hid (Below.setCell (Below.setCell (Below.setCell (Below.setCell (Below.setCell (Below.setCell B1.out (p := ⟨gb_t7, 0, none⟩) (t7_lo.out) _) (p := ⟨gb_t7, 1, none⟩) (t7_lo.out) _) (p := ⟨gb_t7, 2, none⟩) (t7_lo.out) _) (p := ⟨gb_t7, 3, none⟩) (t7_lo.out) _) (p := ⟨gb_t7, 4, none⟩) (t7_lo.out) _) (p := ⟨gb_t7, 5, none⟩) (t7_lo.out) _)
              generalize hWF_ : (World.setCell (World.setCell (World.setCell (World.setCell (World.setCell (World.setCell wt14 ⟨gb_t7, 0, none⟩ (.int .i64 ai)) ⟨gb_t7, 1, none⟩ (.int .i64 ax)) ⟨gb_t7, 2, none⟩ (.int .i64 ay)) ⟨gb_t7, 3, none⟩ (.int .i64 bi)) ⟨gb_t7, 4, none⟩ (.int .i64 bx)) ⟨gb_t7, 5, none⟩ (.int .i64 by_)) = wt17 at t7_f BF_ ⊢
              clear hWF_
              have BF := BF_
              refine hK _ _ (SF.out _ BF.out) ?_
              clear hK K
              refine tree_pure (i := 12) (v := ?_) rfl rfl (by kernel_rfl) (by kernel_rfl) (by kernel_rfl) rfl (fun W hS => ?_) (SF.out _ BF.out) ?_
              rotate_left
              · conv => lhs; simp [go_sem]
                first | done | exact rfl
              simp only [Act.put, List.getElem_toArray, List.getElem_cons_zero, List.getElem_cons_succ, List.setIfInBounds_toArray, List.set_cons_zero, List.set_cons_succ]
              refine tree_end (by kernel_rfl) ?_
              go_wp2_with fail
              go_meet
              exact ⟨_, rfl, rfl, t7_f, BF, t7_lo.out⟩
  case rest =>
    obtain ⟨g, rfl, rfl, H7, BF, hlo⟩ := hcut
    have A4 := Lib.hid (R4.out.keep BF.out)
    have A5 := Lib.hid (R5.out.keep BF.out)
    have HBF := Lib.hid (then_ BB.out BF.out BB.out.size)
    have hsz : w.heap.size + 1 + 1 + 1 < W0.heap.size := R5.out.in_
    clear BB PO HO R4 R5 SF B1 BF LKF WV
    replace H7 : Hid (Own wc.drew g 88 #[.int .i64 ai, .int .i64 ax, .int .i64 ay, .int .i64 bi, .int .i64 bx, .int .i64 by_]) := Lib.hid H7.out.drawn
    replace A4 : Hid (Own wc.drew (w.heap.size + 1 + 1) 39 #[.int .i64 0, .int .i64 0, .int .i64 0]) := Lib.hid A4.out.drawn
    replace A5 : Hid (Own wc.drew (w.heap.size + 1 + 1 + 1) 39 #[.int .i64 0, .int .i64 0, .int .i64 0]) := Lib.hid A5.out.drawn
    replace HBF : Hid (Below w.heap.size w wc.drew) := Lib.hid HBF.out.drew
    have S4 : Hid (∀ W, Own W g 88 #[.int .i64 ai, .int .i64 ax, .int .i64 ay, .int .i64 bi, .int .i64 bx, .int .i64 by_] → Own (((W.setCell ⟨w.heap.size + 1 + 1, 0, none⟩ (.int .i64 ai)).setCell ⟨w.heap.size + 1 + 1, 1, none⟩ (.int .i64 ax)).setCell ⟨w.heap.size + 1 + 1, 2, none⟩ (.int .i64 ay)) g 88 #[.int .i64 ai, .int .i64 ax, .int .i64 ay, .int .i64 bi, .int .i64 bx, .int .i64 by_]) := Lib.hid fun W h => (((h.apart (by omega) _ _).apart (by omega) _ _).apart (by omega) _ _)
    have S5 : Hid (∀ W, Own W g 88 #[.int .i64 ai, .int .i64 ax, .int .i64 ay, .int .i64 bi, .int .i64 bx, .int .i64 by_] → Own (((W.setCell ⟨w.heap.size + 1 + 1 + 1, 0, none⟩ (.int .i64 bi)).setCell ⟨w.heap.size + 1 + 1 + 1, 1, none⟩ (.int .i64 bx)).setCell ⟨w.heap.size + 1 + 1 + 1, 2, none⟩ (.int .i64 by_)) g 88 #[.int .i64 ai, .int .i64 ax, .int .i64 ay, .int .i64 bi, .int .i64 bx, .int .i64 by_]) := Lib.hid fun W h => (((h.apart (by omega) _ _).apart (by omega) _ _).apart (by omega) _ _)
    go_upto_region 2 with fail
    refine wp_region_seq (fun W => Own W g 88 #[.int .i64 ai, .int .i64 ax, .int .i64 ay, .int .i64 bi, .int .i64 bx, .int .i64 by_]) (0 :: 1 :: 2 :: 3 :: 4 :: 7 :: []) (1 :: 3 :: []) (0 :: 1 :: 2 :: 3 :: 4 :: 5 :: 6 :: 7 :: []) (by kernel_rfl) (by kernel_rfl) rfl (by kernel_rfl) rfl (H7.out) (by simp only [picked, List.filterMap_cons, List.filterMap_nil, List.getElem?_cons_zero, List.getElem?_cons_succ, Option.map_some]; exact rfl) ?_
    generalize hD_ : wc.drew = Wd0 at A4 A5 H7 HBF ⊢
    clear hD_
    obtain ⟨a1, a2, a3⟩ := A4.out.at_
    obtain ⟨b1, b2, b3⟩ := A5.out.at_
    iterate 5
      refine seq_want (v := ?_) rfl rfl (fun W hS => ?_) ?_
      rotate_left
      · first
          | (conv => lhs; simp [go_sem]
             first | done | exact rfl)
          | (have hS := hS rfl
             obtain ⟨g0, g1, g2, g3, g4, g5⟩ := six_at hS
             conv => lhs; simp [go_sem, *]
             first | done | exact rfl)
      simp only [Act.put, List.setIfInBounds_toArray, List.set_cons_zero, List.set_cons_succ]
    refine seq_on rfl rfl fun K hK => ?_
    go_wp2
    refine hK _ _ (S4.out _ H7.out) ?_
    clear hK K
    refine seq_on rfl rfl fun K hK => ?_
    go_wp2
    refine hK _ _ (S5.out _ (S4.out _ H7.out)) ?_
    clear hK K
    iterate 1
      refine seq_want (v := ?_) rfl rfl (fun W hS => ?_) ?_
      rotate_left
      · first
          | (conv => lhs; simp [go_sem]
             first | done | exact rfl)
          | (have hS := hS rfl
             obtain ⟨g0, g1, g2, g3, g4, g5⟩ := six_at hS
             conv => lhs; simp [go_sem, *]
             first | done | exact rfl)
      simp only [Act.put, List.setIfInBounds_toArray, List.set_cons_zero, List.set_cons_succ]
    refine seq_end ?_
    have F4 : Hid (Own ((((((Wd0.setCell ⟨w.heap.size + 1 + 1, 0, none⟩ (.int .i64 ai)).setCell ⟨w.heap.size + 1 + 1, 1, none⟩ (.int .i64 ax)).setCell ⟨w.heap.size + 1 + 1, 2, none⟩ (.int .i64 ay)).setCell ⟨w.heap.size + 1 + 1 + 1, 0, none⟩ (.int .i64 bi)).setCell ⟨w.heap.size + 1 + 1 + 1, 1, none⟩ (.int .i64 bx)).setCell ⟨w.heap.size + 1 + 1 + 1, 2, none⟩ (.int .i64 by_)) (w.heap.size + 1 + 1) 39 #[.int .i64 ai, .int .i64 ax, .int .i64 ay]) := Lib.hid ((((((((A4.out.put 0 _).put 1 _).put 2 _).apart (by omega) _ _).apart (by omega) _ _).apart (by omega) _ _)).as (by simp))
    have F5 : Hid (Own ((((((Wd0.setCell ⟨w.heap.size + 1 + 1, 0, none⟩ (.int .i64 ai)).setCell ⟨w.heap.size + 1 + 1, 1, none⟩ (.int .i64 ax)).setCell ⟨w.heap.size + 1 + 1, 2, none⟩ (.int .i64 ay)).setCell ⟨w.heap.size + 1 + 1 + 1, 0, none⟩ (.int .i64 bi)).setCell ⟨w.heap.size + 1 + 1 + 1, 1, none⟩ (.int .i64 bx)).setCell ⟨w.heap.size + 1 + 1 + 1, 2, none⟩ (.int .i64 by_)) (w.heap.size + 1 + 1 + 1) 39 #[.int .i64 bi, .int .i64 bx, .int .i64 by_]) := Lib.hid ((((((((A5.out.apart (by omega) _ _).apart (by omega) _ _).apart (by omega) _ _).put 0 _).put 1 _).put 2 _)).as (by simp))
    have FB : Hid (Below w.heap.size w ((((((Wd0.setCell ⟨w.heap.size + 1 + 1, 0, none⟩ (.int .i64 ai)).setCell ⟨w.heap.size + 1 + 1, 1, none⟩ (.int .i64 ax)).setCell ⟨w.heap.size + 1 + 1, 2, none⟩ (.int .i64 ay)).setCell ⟨w.heap.size + 1 + 1 + 1, 0, none⟩ (.int .i64 bi)).setCell ⟨w.heap.size + 1 + 1 + 1, 1, none⟩ (.int .i64 bx)).setCell ⟨w.heap.size + 1 + 1 + 1, 2, none⟩ (.int .i64 by_))) := Lib.hid ((((((HBF.out.setCell (by show w.heap.size ≤ w.heap.size + 1 + 1; omega) _).setCell (by show w.heap.size ≤ w.heap.size + 1 + 1; omega) _).setCell (by show w.heap.size ≤ w.heap.size + 1 + 1; omega) _).setCell (by show w.heap.size ≤ w.heap.size + 1 + 1 + 1; omega) _).setCell (by show w.heap.size ≤ w.heap.size + 1 + 1 + 1; omega) _).setCell (by show w.heap.size ≤ w.heap.size + 1 + 1 + 1; omega) _)
    generalize hWF : ((((((Wd0.setCell ⟨w.heap.size + 1 + 1, 0, none⟩ (.int .i64 ai)).setCell ⟨w.heap.size + 1 + 1, 1, none⟩ (.int .i64 ax)).setCell ⟨w.heap.size + 1 + 1, 2, none⟩ (.int .i64 ay)).setCell ⟨w.heap.size + 1 + 1 + 1, 0, none⟩ (.int .i64 bi)).setCell ⟨w.heap.size + 1 + 1 + 1, 1, none⟩ (.int .i64 bx)).setCell ⟨w.heap.size + 1 + 1 + 1, 2, none⟩ (.int .i64 by_)) = WF at F4 F5 FB ⊢
    clear hWF S4 S5 A4 A5 H7 HBF a1 a2 a3 b1 b2 b3
    obtain ⟨k0, k1, k2⟩ := three_at F4.out
    obtain ⟨l0, l1, l2⟩ := three_at F5.out
    go_wp2
    refine bodyPost_ret (by simp [results, Try.results16, go_sem, k0, k1, k2, l0, l1, l2]) rfl ⟨rfl, FB.out⟩
end
end Go.Proofs.Ytibnackmddigaaa.Pl