
/- The contract of Next. Conditions: at most 30,000 vertices, and edges. -/
import Derived.Test.YtibnackmddigaaaSpnE
namespace Go.Proofs.Ytibnackmddigaaa.Pl
open Go.ChangeShapes Go.WideShapes Go.ChangeAt Go.RowKit Go.Proofs.Ytibnackmddigaaa.Mp
set_option linter.unusedVariables false
set_option linter.unusedSimpArgs false

theorem zero_half (w : World) : (zeroValue 42).run Try.prog w = .ok (hV (0, false)) w := by kernel_rfl
noncomputable def nxE (vs : List Vx) (es : List Eg) (h : Hf) : Hf := if h ∈ hfs (pes vs es) then nx (pvs vs es) (pes vs es) h else (0, false)
section
variable {v e : Value} {vs : List Vx} {es : List Eg} {w : World}
set_option maxRecDepth 10000 in
set_option maxHeartbeats 1000000 in
theorem next_any (hv : VIn w v vs) (he : EIn w e es) (hn : vs.length ≤ 30000) (hm : es.length ≤ 30000) (h : Hf) : Calls Try.prog 15 #[.agg #[v, e], hV h] w fun r w' =>
    r = .returned (.tuple #[hV (nxE vs es h), .bool (decide (h ∈ hfs (pes vs es)))]) ∧ Below w.heap.size w w' := by
  have WV := Lib.hid (fun (W : World) (hW : Below w.heap.size w W) => weave_any (TIn.below hv hW) (TIn.below he hW) hn hm)
  have FO := Lib.hid (fun (W : World) (B p : Nat) (Z : Nat → Prop) (h : Web W B p (wys (pvs vs es) (pes vs es)) Z) => follow_any (pfl vs es).1 (pfl vs es).2 h (Nat.le_trans (pes_len vs es) hm))
  have LKF := Lib.hid (fun (L : List (Hf × Value)) (hL : ∀ h, (h ∈ hfs (pes vs es) → lkG L h = some (hV (nx (pvs vs es) (pes vs es) h))) ∧ (h ∉ hfs (pes vs es) → lkG L h = none)) (q : Nat) (W : World) (hq : MapG W q hV L) => show (Instr.lookup 74 (.map (some q)) (hV h) true).run Try.prog W = .ok (.tuple #[hV (nxE vs es h), .bool (decide (h ∈ hfs (pes vs es)))]) W from by
    have k := hq.look (t := 74) Try.underlying74 key_half (zero_half W) h
    rw [k]
    unfold nxE
    by_cases m : h ∈ hfs (pes vs es)
    · rw [(hL h).1 m, if_pos m, decide_eq_true m]; rfl
    · rw [(hL h).2 m, if_neg m, decide_eq_false m]; rfl)
  obtain ⟨a, c, rfl⟩ := hv.sl
  obtain ⟨a', c', rfl⟩ := he.sl
  clear hv he
  generalize nxE vs es h = A at *
  generalize decide (h ∈ hfs (pes vs es)) = ok at *
  generalize vs.length = n at *
  generalize es.length = m at *
  obtain ⟨ne, nb⟩ := A
  obtain ⟨he, hb⟩ := h
  have hVe : ∀ x : Hf, hV x = .agg #[.int .i64 x.1, .bool x.2] := fun _ => rfl
  rw [hVe (he, hb), hVe (ne, nb)]
  have LKG : Hid (∀ (L : List (Hf × Value)), (∀ h, (h ∈ hfs (pes vs es) → lkG L h = some (hV (nx (pvs vs es) (pes vs es) h))) ∧ (h ∉ hfs (pes vs es) → lkG L h = none)) → ∀ (q : Nat) (W : World), MapG W q hV L → (Instr.lookup 74 (.map (some q)) (.agg #[.int .i64 he, .bool hb]) true).run Try.prog W = .ok (.tuple #[.agg #[.int .i64 ne, .bool nb], .bool ok]) W) := LKF
  clear LKF hVe
  simp only
  obtain ⟨W0, hW0⟩ : ∃ W0, W0 = ((w.alloc (.cells #[.slice a n c, .slice a' m c'] 30)).alloc (.cells #[.int .i64 he, .bool hb] 42)).alloc (.cells #[.int .i64 0, .bool false] 42) := ⟨_, rfl⟩
  have BB : Hid (Below w.heap.size w W0) := Lib.hid (by rw [hW0]; repeat' (first | (with_reducible exact Below.refl _ _) | (with_reducible assumption) | (with_reducible refine below_drewN ?_ _) | (with_reducible refine Below.drew ?_) | (with_reducible refine Below.alloc ?_ ?_ _) | (with_reducible refine Below.setCell ?_ ?_ _) | (with_reducible refine then_ ?_ (by with_reducible assumption) ?_) | (with_reducible exact Nat.le_refl _) | (with_reducible exact Nat.le_succ _) | (with_reducible exact Nat.le_succ_of_le (by with_reducible assumption)) | omega | (simp; done) | (simp; omega) | (exact Nat.le_succ _) | (exact Nat.le_succ_of_le (by with_reducible assumption))))
  have PO : Hid (Own W0 w.heap.size 30 #[.slice a n c, .slice a' m c']) := Lib.hid (by rw [hW0]; exact ((Own.made w _ _).more _).more _)
  have HO : Hid (Own W0 (w.heap.size + 1) 42 #[.int .i64 he, .bool hb]) := Lib.hid (by rw [hW0]; exact (Own.made_at (by simp)).more _)
  have R4 : Hid (Own W0 (w.heap.size + 1 + 1) 42 #[.int .i64 0, .bool false]) := Lib.hid (by rw [hW0]; exact Own.made_at (by simp))
  have SF : Hid (∀ W, Below W0.heap.size W0 W → Own W w.heap.size 30 #[.slice a n c, .slice a' m c'] ∧ Own W (w.heap.size + 1) 42 #[.int .i64 he, .bool hb]) := Lib.hid fun W hW => ⟨PO.out.keep hW, HO.out.keep hW⟩
  go_enter Try.func15, Try.ntmps15
  go_upto_region 1 with fail
  rw [← hW0]
  clear hW0
  have B1 : Hid (Below W0.heap.size W0 W0.drew) := Lib.hid (Below.refl _ _).drew
  go_cut [6, 7] (fun s7 s8 wx => ∃ g, s7 = .pointer (some ⟨g, 0, none⟩) ∧ s8 = .bool ok ∧ Hid (Own wx g 42 #[.int .i64 ne, .bool nb]) ∧ Hid (Below W0.heap.size W0 wx) ∧ W0.heap.size ≤ g)
  case first =>
    go_upto_region 1 with fail
    refine wp_region_tree (fun W => Own W w.heap.size 30 #[.slice a n c, .slice a' m c'] ∧ Own W (w.heap.size + 1) 42 #[.int .i64 he, .bool hb]) [0, 3, 5, 6, 7, 10] [0, 3] 11 (by kernel_rfl) rfl ?_
    generalize hD_ : W0.drew = Wd0 at B1 ⊢
    clear hD_
    refine tree_pure (i := 0) (v := ?_) rfl rfl (by kernel_rfl) (by kernel_rfl) (by kernel_rfl) rfl (fun W hS => ?_) (SF.out _ B1.out) ?_
    rotate_left
    · have hS := hS rfl
      obtain ⟨hp1, hp2⟩ := hS
      obtain ⟨g1, g2⟩ := half_at hp1
      obtain ⟨g3, g4⟩ := half_at hp2
      conv => lhs; simp [go_sem, *]
      first | done | exact rfl
    simp only [Act.put, List.getElem_toArray, List.getElem_cons_zero, List.getElem_cons_succ, List.setIfInBounds_toArray, List.set_cons_zero, List.set_cons_succ]
    refine tree_pure (i := 3) (v := ?_) rfl rfl (by kernel_rfl) (by kernel_rfl) (by kernel_rfl) rfl (fun W hS => ?_) (SF.out _ B1.out) ?_
    rotate_left
    · have hS := hS rfl
      obtain ⟨hp1, hp2⟩ := hS
      obtain ⟨g1, g2⟩ := half_at hp1
      obtain ⟨g3, g4⟩ := half_at hp2
      conv => lhs; simp [go_sem, *]
      first | done | exact rfl
    simp only [Act.put, List.getElem_toArray, List.getElem_cons_zero, List.getElem_cons_succ, List.setIfInBounds_toArray, List.set_cons_zero, List.set_cons_succ]
    refine tree_two (i := 1) (k := 8) (by kernel_rfl) rfl rfl ?_ ?_
    · refine ⟨_, rfl, fun K hK => ?_⟩
      go_wp2_with (go_at_call 35; refine (WV.out _ (then_ BB.out B1.out BB.out.size)).mono ?_; rintro e wt1 ⟨p, Z, rfl, hw2, bt1⟩; replace bt1 := Lib.hid bt1; have HW := Lib.hid hw2; clear hw2)
      replace B1 := Lib.hid (then_ B1.out bt1.out B1.out.size)
      refine hK _ _ (SF.out _ B1.out) ?_
      clear hK K
      refine tree_two (i := 2) (k := 8) (by kernel_rfl) rfl rfl ?_ ?_
      · refine ⟨_, rfl, fun K hK => ?_⟩
        go_wp2_with (go_at_call 36; refine (FO.out _ _ _ _ HW.out).mono ?_; rintro e wt2 ⟨mq, L, rfl, -, mw, fl, bt2⟩; replace bt2 := Lib.hid bt2; have MW := Lib.hid mw; have LL := Lib.hid (LKG.out L fl mq); clear mw fl)
        replace B1 := Lib.hid (then_ B1.out bt2.out B1.out.size)
        replace HW := Lib.hid (HW.out.below bt2.out)
        refine hK _ _ (SF.out _ B1.out) ?_
        clear hK K
        refine tree_two (i := 4) (k := 8) (by kernel_rfl) rfl rfl ?_ ?_
        · refine ⟨_, rfl, fun K hK => ?_⟩
          have lk6 := LL.out _ MW.out
          go_wp2
          refine hK _ _ (SF.out _ B1.out) ?_
          clear hK K
          refine tree_pure (i := 5) (v := ?_) rfl rfl (by kernel_rfl) (by kernel_rfl) (by kernel_rfl) rfl (fun W hS => ?_) (SF.out _ B1.out) ?_
          rotate_left
          · conv => lhs; simp [go_sem]
            first | done | exact rfl
          simp only [Act.put, List.getElem_toArray, List.getElem_cons_zero, List.getElem_cons_succ, List.setIfInBounds_toArray, List.set_cons_zero, List.set_cons_succ]
          refine tree_pure (i := 6) (v := ?_) rfl rfl (by kernel_rfl) (by kernel_rfl) (by kernel_rfl) rfl (fun W hS => ?_) (SF.out _ B1.out) ?_
          rotate_left
          · conv => lhs; simp [go_sem]
            first | done | exact rfl
          simp only [Act.put, List.getElem_toArray, List.getElem_cons_zero, List.getElem_cons_succ, List.setIfInBounds_toArray, List.set_cons_zero, List.set_cons_succ]
          refine tree_pure (i := 7) (v := ?_) rfl rfl (by kernel_rfl) (by kernel_rfl) (by kernel_rfl) rfl (fun W hS => ?_) (SF.out _ B1.out) ?_
          rotate_left
          · conv => lhs; simp [go_sem]
            first | done | exact rfl
          simp only [Act.put, List.getElem_toArray, List.getElem_cons_zero, List.getElem_cons_succ, List.setIfInBounds_toArray, List.set_cons_zero, List.set_cons_succ]
          refine tree_one (i := 8) (by kernel_rfl) rfl ?_
          · refine ⟨_, rfl, fun K hK => ?_⟩
            go_wp2
            obtain ⟨wt4, hW⟩ : ∃ X, X = World.alloc wt2 (.cells #[.int .i64 0, .bool false] 42) := ⟨_, rfl⟩
            have bt4 : Hid (Below (wt2).heap.size (wt2) wt4) := Lib.hid (by rw [hW]; exact bx1 _ _ _)
            have t7_ : Hid (Own wt4 (wt2).heap.size 42 #[.int .i64 0, .bool false]) := Lib.hid (by rw [hW]; exact Own.made _ _ _)
            have t7_lo : Hid (W0.heap.size ≤ (wt2).heap.size) := Lib.hid B1.out.size
            replace B1 := Lib.hid (then_ B1.out bt4.out B1.out.size)
            replace HW := Lib.hid (HW.out.below bt4.out)
            replace MW := Lib.hid (MW.out.keep (bt4.out.block _ MW.out.in_))
            rw [← hW]
            obtain ⟨gb_t7, hg_t7⟩ : ∃ g, g = (wt2).heap.size := ⟨_, rfl⟩
            rw [← hg_t7] at t7_ t7_lo  ⊢
            clear hW hg_t7
            have t7 := t7_
            refine hK _ _ (SF.out _ B1.out) ?_
            clear hK K
            refine tree_one (i := 9) (by kernel_rfl) rfl ?_
            · refine ⟨_, rfl, fun K hK => ?_⟩
              obtain ⟨fz1, fz2, fz3⟩ := t7.out.at_
              go_wp2
              clear fz1 fz2 fz3
              have t7_f : Hid (Own (World.setCell (World.setCell wt4 ⟨gb_t7, 0, none⟩ (.int .i64 ne)) ⟨gb_t7, 1, none⟩ (.bool nb)) gb_t7 42 #[.int .i64 ne, .bool nb]) := Lib.hid (((t7.out.put 0 _).put 1 _).as (by simp))
              have BF_ : Hid (Below W0.heap.size W0 (World.setCell (World.setCell wt4 ⟨gb_t7, 0, none⟩ (.int .i64 ne)) ⟨gb_t7, 1, none⟩ (.bool nb))) := Lib.hid (Below.setCell (Below.setCell B1.out (p := ⟨gb_t7, 0, none⟩) (t7_lo.out) _) (p := ⟨gb_t7, 1, none⟩) (t7_lo.out) _)
              generalize hWF_ : (World.setCell (World.setCell wt4 ⟨gb_t7, 0, none⟩ (.int .i64 ne)) ⟨gb_t7, 1, none⟩ (.bool nb)) = wt5 at t7_f BF_ ⊢
              clear hWF_
              have BF := BF_
              refine hK _ _ (SF.out _ BF.out) ?_
              clear hK K
              refine tree_pure (i := 10) (v := ?_) rfl rfl (by kernel_rfl) (by kernel_rfl) (by kernel_rfl) rfl (fun W hS => ?_) (SF.out _ BF.out) ?_
              rotate_left
              · conv => lhs; simp [go_sem]
                first | done | exact rfl
              simp only [Act.put, List.getElem_toArray, List.getElem_cons_zero, List.getElem_cons_succ, List.setIfInBounds_toArray, List.set_cons_zero, List.set_cons_succ]
              refine tree_end (by kernel_rfl) ?_
              go_wp2_with fail
              go_meet
              exact ⟨_, rfl, rfl, t7_f, BF, t7_lo.out⟩
        · refine ⟨_, rfl, fun K hK => ?_⟩
          go_wp2
          obtain ⟨wt6, hW⟩ : ∃ X, X = World.alloc wt2 (.cells #[.int .i64 0, .bool false] 42) := ⟨_, rfl⟩
          have bt6 : Hid (Below (wt2).heap.size (wt2) wt6) := Lib.hid (by rw [hW]; exact bx1 _ _ _)
          have t7_ : Hid (Own wt6 (wt2).heap.size 42 #[.int .i64 0, .bool false]) := Lib.hid (by rw [hW]; exact Own.made _ _ _)
          have t7_lo : Hid (W0.heap.size ≤ (wt2).heap.size) := Lib.hid B1.out.size
          replace B1 := Lib.hid (then_ B1.out bt6.out B1.out.size)
          replace HW := Lib.hid (HW.out.below bt6.out)
          replace MW := Lib.hid (MW.out.keep (bt6.out.block _ MW.out.in_))
          rw [← hW]
          obtain ⟨gb_t7, hg_t7⟩ : ∃ g, g = (wt2).heap.size := ⟨_, rfl⟩
          rw [← hg_t7] at t7_ t7_lo  ⊢
          clear hW hg_t7
          have t7 := t7_
          refine hK _ _ (SF.out _ B1.out) ?_
          clear hK K
          refine tree_one (i := 4) (by kernel_rfl) rfl ?_
          · refine ⟨_, rfl, fun K hK => ?_⟩
            have lk6 := LL.out _ MW.out
            go_wp2
            refine hK _ _ (SF.out _ B1.out) ?_
            clear hK K
            refine tree_pure (i := 5) (v := ?_) rfl rfl (by kernel_rfl) (by kernel_rfl) (by kernel_rfl) rfl (fun W hS => ?_) (SF.out _ B1.out) ?_
            rotate_left
            · conv => lhs; simp [go_sem]
              first | done | exact rfl
            simp only [Act.put, List.getElem_toArray, List.getElem_cons_zero, List.getElem_cons_succ, List.setIfInBounds_toArray, List.set_cons_zero, List.set_cons_succ]
            refine tree_pure (i := 6) (v := ?_) rfl rfl (by kernel_rfl) (by kernel_rfl) (by kernel_rfl) rfl (fun W hS => ?_) (SF.out _ B1.out) ?_
            rotate_left
            · conv => lhs; simp [go_sem]
              first | done | exact rfl
            simp only [Act.put, List.getElem_toArray, List.getElem_cons_zero, List.getElem_cons_succ, List.setIfInBounds_toArray, List.set_cons_zero, List.set_cons_succ]
            refine tree_pure (i := 7) (v := ?_) rfl rfl (by kernel_rfl) (by kernel_rfl) (by kernel_rfl) rfl (fun W hS => ?_) (SF.out _ B1.out) ?_
            rotate_left
            · conv => lhs; simp [go_sem]
              first | done | exact rfl
            simp only [Act.put, List.getElem_toArray, List.getElem_cons_zero, List.getElem_cons_succ, List.setIfInBounds_toArray, List.set_cons_zero, List.set_cons_succ]
            refine tree_one (i := 9) (by kernel_rfl) rfl ?_
            · refine ⟨_, rfl, fun K hK => ?_⟩
              obtain ⟨fz1, fz2, fz3⟩ := t7.out.at_
              go_wp2
              clear fz1 fz2 fz3
              have t7_f : Hid (Own (World.setCell (World.setCell wt6 ⟨gb_t7, 0, none⟩ (.int .i64 ne)) ⟨gb_t7, 1, none⟩ (.bool nb)) gb_t7 42 #[.int .i64 ne, .bool nb]) := Lib.hid (((t7.out.put 0 _).put 1 _).as (by simp))
              have BF_ : Hid (Below W0.heap.size W0 (World.setCell (World.setCell wt6 ⟨gb_t7, 0, none⟩ (.int .i64 ne)) ⟨gb_t7, 1, none⟩ (.bool nb))) := Lib.hid (Below.setCell (Below.setCell B1.out (p := ⟨gb_t7, 0, none⟩) (t7_lo.out) _) (p := ⟨gb_t7, 1, none⟩) (t7_lo.out) _)
              generalize hWF_ : (World.setCell (World.setCell wt6 ⟨gb_t7, 0, none⟩ (.int .i64 ne)) ⟨gb_t7, 1, none⟩ (.bool nb)) = wt8 at t7_f BF_ ⊢
              clear hWF_
              have BF := BF_
              refine hK _ _ (SF.out _ BF.out) ?_
              clear hK K
              refine tree_pure (i := 10) (v := ?_) rfl rfl (by kernel_rfl) (by kernel_rfl) (by kernel_rfl) rfl (fun W hS => ?_) (SF.out _ BF.out) ?_
              rotate_left
              · conv => lhs; simp [go_sem]
                first | done | exact rfl
              simp only [Act.put, List.getElem_toArray, List.getElem_cons_zero, List.getElem_cons_succ, List.setIfInBounds_toArray, List.set_cons_zero, List.set_cons_succ]
              refine tree_end (by kernel_rfl) ?_
              go_wp2_with fail
              go_meet
              exact ⟨_, rfl, rfl, t7_f, BF, t7_lo.out⟩
      · refine ⟨_, rfl, fun K hK => ?_⟩
        go_wp2
        obtain ⟨wt9, hW⟩ : ∃ X, X = World.alloc wt1 (.cells #[.int .i64 0, .bool false] 42) := ⟨_, rfl⟩
        have bt9 : Hid (Below (wt1).heap.size (wt1) wt9) := Lib.hid (by rw [hW]; exact bx1 _ _ _)
        have t7_ : Hid (Own wt9 (wt1).heap.size 42 #[.int .i64 0, .bool false]) := Lib.hid (by rw [hW]; exact Own.made _ _ _)
        have t7_lo : Hid (W0.heap.size ≤ (wt1).heap.size) := Lib.hid B1.out.size
        replace B1 := Lib.hid (then_ B1.out bt9.out B1.out.size)
        replace HW := Lib.hid (HW.out.below bt9.out)
        rw [← hW]
        obtain ⟨gb_t7, hg_t7⟩ : ∃ g, g = (wt1).heap.size := ⟨_, rfl⟩
        rw [← hg_t7] at t7_ t7_lo  ⊢
        clear hW hg_t7
        have t7 := t7_
        refine hK _ _ (SF.out _ B1.out) ?_
        clear hK K
        refine tree_one (i := 2) (by kernel_rfl) rfl ?_
        · refine ⟨_, rfl, fun K hK => ?_⟩
          go_wp2_with (go_at_call 36; refine (FO.out _ _ _ _ HW.out).mono ?_; rintro e wt10 ⟨mq, L, rfl, -, mw, fl, bt10⟩; replace bt10 := Lib.hid bt10; have MW := Lib.hid mw; have LL := Lib.hid (LKG.out L fl mq); clear mw fl)
          replace B1 := Lib.hid (then_ B1.out bt10.out B1.out.size)
          replace HW := Lib.hid (HW.out.below bt10.out)
          replace t7 := Lib.hid (t7.out.keep bt10.out)
          refine hK _ _ (SF.out _ B1.out) ?_
          clear hK K
          refine tree_one (i := 4) (by kernel_rfl) rfl ?_
          · refine ⟨_, rfl, fun K hK => ?_⟩
            have lk6 := LL.out _ MW.out
            go_wp2
            refine hK _ _ (SF.out _ B1.out) ?_
            clear hK K
            refine tree_pure (i := 5) (v := ?_) rfl rfl (by kernel_rfl) (by kernel_rfl) (by kernel_rfl) rfl (fun W hS => ?_) (SF.out _ B1.out) ?_
            rotate_left
            · conv => lhs; simp [go_sem]
              first | done | exact rfl
            simp only [Act.put, List.getElem_toArray, List.getElem_cons_zero, List.getElem_cons_succ, List.setIfInBounds_toArray, List.set_cons_zero, List.set_cons_succ]
            refine tree_pure (i := 6) (v := ?_) rfl rfl (by kernel_rfl) (by kernel_rfl) (by kernel_rfl) rfl (fun W hS => ?_) (SF.out _ B1.out) ?_
            rotate_left
            · conv => lhs; simp [go_sem]
              first | done | exact rfl
            simp only [Act.put, List.getElem_toArray, List.getElem_cons_zero, List.getElem_cons_succ, List.setIfInBounds_toArray, List.set_cons_zero, List.set_cons_succ]
            refine tree_pure (i := 7) (v := ?_) rfl rfl (by kernel_rfl) (by kernel_rfl) (by kernel_rfl) rfl (fun W hS => ?_) (SF.out _ B1.out) ?_
            rotate_left
            · conv => lhs; simp [go_sem]
              first | done | exact rfl
            simp only [Act.put, List.getElem_toArray, List.getElem_cons_zero, List.getElem_cons_succ, List.setIfInBounds_toArray, List.set_cons_zero, List.set_cons_succ]
            refine tree_one (i := 9) (by kernel_rfl) rfl ?_
            · refine ⟨_, rfl, fun K hK => ?_⟩
              obtain ⟨fz1, fz2, fz3⟩ := t7.out.at_
              go_wp2
              clear fz1 fz2 fz3
              have t7_f : Hid (Own (World.setCell (World.setCell wt10 ⟨gb_t7, 0, none⟩ (.int .i64 ne)) ⟨gb_t7, 1, none⟩ (.bool nb)) gb_t7 42 #[.int .i64 ne, .bool nb]) := Lib.hid (((t7.out.put 0 _).put 1 _).as (by simp))
              have BF_ : Hid (Below W0.heap.size W0 (World.setCell (World.setCell wt10 ⟨gb_t7, 0, none⟩ (.int .i64 ne)) ⟨gb_t7, 1, none⟩ (.bool nb))) := Lib.hid (Below.setCell (Below.setCell B1.out (p := ⟨gb_t7, 0, none⟩) (t7_lo.out) _) (p := ⟨gb_t7, 1, none⟩) (t7_lo.out) _)
              generalize hWF_ : (World.setCell (World.setCell wt10 ⟨gb_t7, 0, none⟩ (.int .i64 ne)) ⟨gb_t7, 1, none⟩ (.bool nb)) = wt12 at t7_f BF_ ⊢
              clear hWF_
              have BF := BF_
              refine hK _ _ (SF.out _ BF.out) ?_
              clear hK K
              refine tree_pure (i := 10) (v := ?_) rfl rfl (by kernel_rfl) (by kernel_rfl) (by kernel_rfl) rfl (fun W hS => ?_) (SF.out _ BF.out) ?_
              rotate_left
              · conv => lhs; simp [go_sem]
                first | done | exact rfl
              simp only [Act.put, List.getElem_toArray, List.getElem_cons_zero, List.getElem_cons_succ, List.setIfInBounds_toArray, List.set_cons_zero, List.set_cons_succ]
              refine tree_end (by kernel_rfl) ?_
              go_wp2_with fail
              go_meet
              exact ⟨_, rfl, rfl, t7_f, BF, t7_lo.out⟩
    · refine ⟨_, rfl, fun K hK => ?_⟩
      go_wp2
      obtain ⟨wt13, hW⟩ : ∃ X, X = World.alloc Wd0 (.cells #[.int .i64 0, .bool false] 42) := ⟨_, rfl⟩
      have bt13 : Hid (Below (Wd0).heap.size (Wd0) wt13) := Lib.hid (by rw [hW]; exact bx1 _ _ _)
      have t7_ : Hid (Own wt13 (Wd0).heap.size 42 #[.int .i64 0, .bool false]) := Lib.hid (by rw [hW]; exact Own.made _ _ _)
      have t7_lo : Hid (W0.heap.size ≤ (Wd0).heap.size) := Lib.hid B1.out.size
      replace B1 := Lib.hid (then_ B1.out bt13.out B1.out.size)
      rw [← hW]
      obtain ⟨gb_t7, hg_t7⟩ : ∃ g, g = (Wd0).heap.size := ⟨_, rfl⟩
      rw [← hg_t7] at t7_ t7_lo  ⊢
      clear hW hg_t7
      have t7 := t7_
      refine hK _ _ (SF.out _ B1.out) ?_
      clear hK K
      refine tree_one (i := 1) (by kernel_rfl) rfl ?_
      · refine ⟨_, rfl, fun K hK => ?_⟩
        go_wp2_with (go_at_call 35; refine (WV.out _ (then_ BB.out B1.out BB.out.size)).mono ?_; rintro e wt14 ⟨p, Z, rfl, hw2, bt14⟩; replace bt14 := Lib.hid bt14; have HW := Lib.hid hw2; clear hw2)
        replace B1 := Lib.hid (then_ B1.out bt14.out B1.out.size)
        replace t7 := Lib.hid (t7.out.keep bt14.out)
        refine hK _ _ (SF.out _ B1.out) ?_
        clear hK K
        refine tree_one (i := 2) (by kernel_rfl) rfl ?_
        · refine ⟨_, rfl, fun K hK => ?_⟩
          go_wp2_with (go_at_call 36; refine (FO.out _ _ _ _ HW.out).mono ?_; rintro e wt15 ⟨mq, L, rfl, -, mw, fl, bt15⟩; replace bt15 := Lib.hid bt15; have MW := Lib.hid mw; have LL := Lib.hid (LKG.out L fl mq); clear mw fl)
          replace B1 := Lib.hid (then_ B1.out bt15.out B1.out.size)
          replace t7 := Lib.hid (t7.out.keep bt15.out)
          replace HW := Lib.hid (HW.out.below bt15.out)
          refine hK _ _ (SF.out _ B1.out) ?_
          clear hK K
          refine tree_one (i := 4) (by kernel_rfl) rfl ?_
          · refine ⟨_, rfl, fun K hK => ?_⟩
            have lk6 := LL.out _ MW.out
            go_wp2
            refine hK _ _ (SF.out _ B1.out) ?_
            clear hK K
            refine tree_pure (i := 5) (v := ?_) rfl rfl (by kernel_rfl) (by kernel_rfl) (by kernel_rfl) rfl (fun W hS => ?_) (SF.out _ B1.out) ?_
            rotate_left
            · conv => lhs; simp [go_sem]
              first | done | exact rfl
            simp only [Act.put, List.getElem_toArray, List.getElem_cons_zero, List.getElem_cons_succ, List.setIfInBounds_toArray, List.set_cons_zero, List.set_cons_succ]
            refine tree_pure (i := 6) (v := ?_) rfl rfl (by kernel_rfl) (by kernel_rfl) (by kernel_rfl) rfl (fun W hS => ?_) (SF.out _ B1.out) ?_
            rotate_left
            · conv => lhs; simp [go_sem]
              first | done | exact rfl
            simp only [Act.put, List.getElem_toArray, List.getElem_cons_zero, List.getElem_cons_succ, List.setIfInBounds_toArray, List.set_cons_zero, List.set_cons_succ]
            refine tree_pure (i := 7) (v := ?_) rfl rfl (by kernel_rfl) (by kernel_rfl) (by kernel_rfl) rfl (fun W hS => ?_) (SF.out _ B1.out) ?_
            rotate_left
            · conv => lhs; simp [go_sem]
              first | done | exact rfl
            simp only [Act.put, List.getElem_toArray, List.getElem_cons_zero, List.getElem_cons_succ, List.setIfInBounds_toArray, List.set_cons_zero, List.set_cons_succ]
            refine tree_one (i := 9) (by kernel_rfl) rfl ?_
            · refine ⟨_, rfl, fun K hK => ?_⟩
              obtain ⟨fz1, fz2, fz3⟩ := t7.out.at_
              go_wp2
              clear fz1 fz2 fz3
              have t7_f : Hid (Own (World.setCell (World.setCell wt15 ⟨gb_t7, 0, none⟩ (.int .i64 ne)) ⟨gb_t7, 1, none⟩ (.bool nb)) gb_t7 42 #[.int .i64 ne, .bool nb]) := Lib.hid (((t7.out.put 0 _).put 1 _).as (by simp))
              have BF_ : Hid (Below W0.heap.size W0 (World.setCell (World.setCell wt15 ⟨gb_t7, 0, none⟩ (.int .i64 ne)) ⟨gb_t7, 1, none⟩ (.bool nb))) := Lib.hid (Below.setCell (Below.setCell B1.out (p := ⟨gb_t7, 0, none⟩) (t7_lo.out) _) (p := ⟨gb_t7, 1, none⟩) (t7_lo.out) _)
              generalize hWF_ : (World.setCell (World.setCell wt15 ⟨gb_t7, 0, none⟩ (.int .i64 ne)) ⟨gb_t7, 1, none⟩ (.bool nb)) = wt17 at t7_f BF_ ⊢
              clear hWF_
              have BF := BF_
              refine hK _ _ (SF.out _ BF.out) ?_
              clear hK K
              refine tree_pure (i := 10) (v := ?_) rfl rfl (by kernel_rfl) (by kernel_rfl) (by kernel_rfl) rfl (fun W hS => ?_) (SF.out _ BF.out) ?_
              rotate_left
              · conv => lhs; simp [go_sem]
                first | done | exact rfl
              simp only [Act.put, List.getElem_toArray, List.getElem_cons_zero, List.getElem_cons_succ, List.setIfInBounds_toArray, List.set_cons_zero, List.set_cons_succ]
              refine tree_end (by kernel_rfl) ?_
              go_wp2_with fail
              go_meet
              exact ⟨_, rfl, rfl, t7_f, BF, t7_lo.out⟩
  case rest =>
    obtain ⟨g, rfl, rfl, H7, BF, hlo⟩ := hcut
    have A4 := Lib.hid (R4.out.keep BF.out)
    have HBF := Lib.hid (then_ BB.out BF.out BB.out.size)
    clear BB PO HO R4 SF B1 BF LKG WV FO
    obtain ⟨a1, a2, a3⟩ := A4.out.at_
    obtain ⟨b1, b2⟩ := half_at H7.out
    have F4 : Hid (Own ((wc.setCell ⟨w.heap.size + 1 + 1, 0, none⟩ (.int .i64 ne)).setCell ⟨w.heap.size + 1 + 1, 1, none⟩ (.bool nb)) (w.heap.size + 1 + 1) 42 #[.int .i64 ne, .bool nb]) := Lib.hid (((A4.out.put 0 _).put 1 _).as (by simp))
    have FB : Hid (Below w.heap.size w ((wc.setCell ⟨w.heap.size + 1 + 1, 0, none⟩ (.int .i64 ne)).setCell ⟨w.heap.size + 1 + 1, 1, none⟩ (.bool nb))) := Lib.hid ((HBF.out.setCell (by show w.heap.size ≤ w.heap.size + 1 + 1; omega) _).setCell (by show w.heap.size ≤ w.heap.size + 1 + 1; omega) _)
    obtain ⟨k0, k1⟩ := half_at F4.out
    go_wp2
    refine bodyPost_ret (by simp [results, Try.results15, go_sem, k0, k1]) rfl ⟨rfl, FB.out⟩
end
end Go.Proofs.Ytibnackmddigaaa.Pl