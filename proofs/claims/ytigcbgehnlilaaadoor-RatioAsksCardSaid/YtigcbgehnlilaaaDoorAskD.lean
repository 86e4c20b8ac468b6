
/- The contract of croftref04.Floor; written by gen_rfloor.py. Conditions: numbers that a wide.Int can be, the second above 0. -/
import Derived.Test.YtigcbgehnlilaaaDoorAskC
import Derived.Test.YtigcbgehnlilaaaDoorAskB
import Derived.Test.YtigcbgehnlilaaaDoorDivA
import Derived.Test.YtigcbgehnlilaaaDoorTree
namespace Go.Proofs.YtigcbgehnlilaaaDoor
open Go.ChangeShapes Go.WideShapes Go.ChangeAt Go.RowKit
set_option linter.unusedVariables false
set_option linter.unusedSimpArgs false

theorem dlen {z : Int} (h : Fit z) : (digs z.natAbs).length ≤ 100000000 := Nat.le_trans (short_20 (fit20 h)) (by decide)
theorem words_fit {z : Int} (hz : Fit z) (S : Nat → Prop) (v : Value) (w : World) (h : NumP w S v z) : Calls Tryd.prog 47 #[v] w fun e w' => e = .returned (.tuple #[.agg #[.int .u64 (L0 z), .int .u64 (L1 z), .int .u64 (L2 z), .int .u64 (L3 z)], .bool true]) ∧ Below w.heap.size w w' := by
  have h2 := words_fb _ 0 v z w (h.old 0)
  have e1 := (fb_fit z).2 hz
  have e2 : fz z = z := by unfold fz; rw [e1]; rfl
  rw [e2, e1] at h2
  exact h2
set_option maxHeartbeats 64000000 in
set_option maxRecDepth 20000 in
theorem rfloor_any {n d : Int} (hn : Fit n) (hd : Fit d) (hd0 : 0 < d) (w : World) : Calls Tryd.prog 21 #[.agg #[.int .u64 (L0 n), .int .u64 (L1 n), .int .u64 (L2 n), .int .u64 (L3 n), .int .u64 (L0 d), .int .u64 (L1 d), .int .u64 (L2 d), .int .u64 (L3 d)]] w fun e w' => e = .returned (.agg #[.int .u64 (L0 (fl n d)), .int .u64 (L1 (fl n d)), .int .u64 (L2 (fl n d)), .int .u64 (L3 (fl n d))]) ∧ Below w.heap.size w w' := by
  have FN := Lib.hid (fun w => of_num n hn w)
  have FD := Lib.hid (fun w => of_num d hd w)
  have LN := Lib.hid (fit20 hn)
  have LD := Lib.hid (fit20 hd)
  have HZ : Hid (d ≠ 0) := Lib.hid (by omega)
  have HQ := Lib.hid (tdiv_pos_fit hn hd0)
  have HF := Lib.hid (fl_fit hn hd0)
  clear hn hd hd0
  go_enter Tryd.func21, Tryd.ntmps21
  go_upto_region 1 with fail
  go_name_world W0 hW0e
  have OA : Own W0 w.heap.size 34 #[.int .u64 (L0 n), .int .u64 (L1 n), .int .u64 (L2 n), .int .u64 (L3 n), .int .u64 (L0 d), .int .u64 (L1 d), .int .u64 (L2 d), .int .u64 (L3 d)] := hW0e ▸ (by repeat' (first | (with_reducible assumption) | (with_reducible refine Own.drawnN ?_ _) | (with_reducible refine Own.drawn ?_) | (with_reducible refine Own.made_at ?_; first | rfl | (simp; done) | omega | (simp; omega)) | (with_reducible refine Own.more ?_ _) | (with_reducible refine Own.apart ?_ ?_ _ _; rotate_left; first | omega | (simp; done) | (simp; omega)) | (refine Own.put ?_ _ _)))
  have OR : Own W0 (w.heap.size + 1) 23 #[.int .u64 0, .int .u64 0, .int .u64 0, .int .u64 0] := hW0e ▸ (by repeat' (first | (with_reducible assumption) | (with_reducible refine Own.drawnN ?_ _) | (with_reducible refine Own.drawn ?_) | (with_reducible refine Own.made_at ?_; first | rfl | (simp; done) | omega | (simp; omega)) | (with_reducible refine Own.more ?_ _) | (with_reducible refine Own.apart ?_ ?_ _ _; rotate_left; first | omega | (simp; done) | (simp; omega)) | (refine Own.put ?_ _ _)))
  have hB : Below w.heap.size w W0 := hW0e ▸ (by repeat' (first | (with_reducible exact Below.refl _ _) | (with_reducible assumption) | (with_reducible refine below_drewN ?_ _) | (with_reducible refine Below.drew ?_) | (with_reducible refine Below.alloc ?_ ?_ _) | (with_reducible refine Below.setCell ?_ ?_ _) | (with_reducible refine then_ ?_ (by with_reducible assumption) ?_) | (with_reducible exact Nat.le_refl _) | (with_reducible exact Nat.le_succ _) | (with_reducible exact Nat.le_succ_of_le (by with_reducible assumption)) | omega | (simp; done) | (simp; omega) | (exact Nat.le_succ _) | (exact Nat.le_succ_of_le (by with_reducible assumption))))
  clear hW0e
  have sz0 := OR.in_
  go_cut [3, 4] (fun u v wx => ∃ (b5 b6 : Nat) (s5 : Bool) (a5 : Option Addr) (l5 c5 : Nat) (s6 : Bool) (a6 : Option Addr) (l6 c6 : Nat), u = .pointer (some ⟨b5, 0, none⟩) ∧ v = .pointer (some ⟨b6, 0, none⟩) ∧ w.heap.size + 1 < b5 ∧ Own wx b5 59 #[.bool s5, .slice a5 l5 c5] ∧ Own wx b6 59 #[.bool s6, .slice a6 l6 c6] ∧ NumP wx (fun _ => True) (.agg #[.bool s5, .slice a5 l5 c5]) (n.tdiv d) ∧ NumP wx (fun _ => True) (.agg #[.bool s6, .slice a6 l6 c6]) (n.tmod d) ∧ Own wx (w.heap.size + 1) 23 #[.int .u64 0, .int .u64 0, .int .u64 0, .int .u64 0] ∧ Below w.heap.size w wx)
  case first =>
    refine wp_region_tree (fun W => Own W w.heap.size 34 #[.int .u64 (L0 n), .int .u64 (L1 n), .int .u64 (L2 n), .int .u64 (L3 n), .int .u64 (L0 d), .int .u64 (L1 d), .int .u64 (L2 d), .int .u64 (L3 d)] ∧ Own W (w.heap.size + 1) 23 #[.int .u64 0, .int .u64 0, .int .u64 0, .int .u64 0]) [0, 1, 3, 4, 7, 8, 9] [1, 4] 14 (by kernel_rfl) rfl ?_
    replace OA := OA.drawn
    replace OR := OR.drawn
    replace hB := hB.drew
    obtain ⟨W_s, hWs⟩ : ∃ X, W0.drew = X := ⟨_, rfl⟩
    rw [hWs] at OA OR hB ⊢
    replace sz0 := OR.in_
    clear hWs
    refine tree_pure (i := 0) (v := ?_) rfl rfl (by kernel_rfl) (by kernel_rfl) (by kernel_rfl) rfl (fun W hS => ?_) ⟨OA, OR⟩ ?_
    rotate_left
    · conv => lhs; simp [go_sem]
      first | done | exact rfl
    simp only [Act.put, List.setIfInBounds_toArray, List.set_cons_zero, List.set_cons_succ]
    refine tree_pure (i := 1) (v := ?_) rfl rfl (by kernel_rfl) (by kernel_rfl) (by kernel_rfl) rfl (fun W hS => ?_) ⟨OA, OR⟩ ?_
    rotate_left
    · have hS := hS rfl
      obtain ⟨q0, q1⟩ := hS
      obtain ⟨q01, q02, q03⟩ := q0.at_
      obtain ⟨q11, q12, q13⟩ := q1.at_
      conv => lhs; simp [go_sem, *]
      first | done | exact rfl
    simp only [Act.put, List.setIfInBounds_toArray, List.set_cons_zero, List.set_cons_succ]
    refine tree_pure (i := 3) (v := ?_) rfl rfl (by kernel_rfl) (by kernel_rfl) (by kernel_rfl) rfl (fun W hS => ?_) ⟨OA, OR⟩ ?_
    rotate_left
    · conv => lhs; simp [go_sem]
      first | done | exact rfl
    simp only [Act.put, List.setIfInBounds_toArray, List.set_cons_zero, List.set_cons_succ]
    refine tree_pure (i := 4) (v := ?_) rfl rfl (by kernel_rfl) (by kernel_rfl) (by kernel_rfl) rfl (fun W hS => ?_) ⟨OA, OR⟩ ?_
    rotate_left
    · have hS := hS rfl
      obtain ⟨q0, q1⟩ := hS
      obtain ⟨q01, q02, q03⟩ := q0.at_
      obtain ⟨q11, q12, q13⟩ := q1.at_
      conv => lhs; simp [go_sem, *]
      first | done | exact rfl
    simp only [Act.put, List.setIfInBounds_toArray, List.set_cons_zero, List.set_cons_succ]
    refine tree_three (i := 2) (k := 10) (m := 11) (by kernel_rfl) rfl rfl rfl ?_ ?_ ?_
    · refine ⟨_, rfl, fun K hK => ?_⟩
      go_wp2_with (go_at_call 35; refine (FN.out W_s).mono ?_; rintro e W_4 ⟨v_, rfl, hn, hb_4⟩)
      have sz_4 := hb_4.size
      obtain ⟨s_x, a_x, l_x, c_x, rfl⟩ := hn.shape
      have NX := hn.mono (S' := fun b => W_s.heap.size ≤ b ∧ b < W_4.heap.size) (fun b h1 h2 => ⟨h2, h1⟩)
      clear hn
      replace OA := OA.keep hb_4
      replace OR := OR.keep hb_4
      replace hB := then_ hB hb_4 hB.size
      refine hK _ _ ⟨OA, OR⟩ ?_
      clear hK K hb_4
      refine tree_three (i := 5) (k := 10) (m := 11) (by kernel_rfl) rfl rfl rfl ?_ ?_ ?_
      · refine ⟨_, rfl, fun K hK => ?_⟩
        go_wp2_with (go_at_call 35; refine (FD.out W_4).mono ?_; rintro e W_5 ⟨v_, rfl, hn, hb_5⟩)
        have sz_5 := hb_5.size
        obtain ⟨s_y, a_y, l_y, c_y, rfl⟩ := hn.shape
        have NY := hn.mono (S' := fun b => W_4.heap.size ≤ b ∧ b < W_5.heap.size) (fun b h1 h2 => ⟨h2, h1⟩)
        clear hn
        replace OA := OA.keep hb_5
        replace OR := OR.keep hb_5
        replace NX := NX.keep hb_5
        replace hB := then_ hB hb_5 hB.size
        refine hK _ _ ⟨OA, OR⟩ ?_
        clear hK K hb_5
        refine tree_three (i := 6) (k := 10) (m := 11) (by kernel_rfl) rfl rfl rfl ?_ ?_ ?_
        · refine ⟨_, rfl, fun K hK => ?_⟩
          go_wp2_with (go_at_call 46; refine (div_num _ 0 0 _ _ n d W_5 NX (NY.num (T := 0) (C := 0) (fun b _ _ => .inr (Nat.zero_le _))) HZ.out LN.out LD.out).mono ?_; rintro e W_6 ⟨v_, v__, rfl, hq, hr, hb_6⟩)
          have sz_6 := hb_6.size
          obtain ⟨s_q, a_q, l_q, c_q, rfl⟩ := hq.shape
          obtain ⟨s_r, a_r, l_r, c_r, rfl⟩ := hr.shape
          have NQ := hq.mono (S' := fun b => W_5.heap.size ≤ b ∧ b < W_6.heap.size) (fun b h1 h2 => ⟨h2, h1⟩)
          have NR := hr.mono (S' := fun b => (((W_s.heap.size ≤ b ∧ b < W_4.heap.size) ∧ b < W_5.heap.size) ∨ W_5.heap.size ≤ b) ∧ b < W_6.heap.size) (fun b h1 h2 => ⟨h2, h1⟩)
          clear hq hr NX NY
          replace OA := OA.keep hb_6
          replace OR := OR.keep hb_6
          replace hB := then_ hB hb_6 hB.size
          refine hK _ _ ⟨OA, OR⟩ ?_
          clear hK K hb_6
          refine tree_pure (i := 7) (v := ?_) rfl rfl (by kernel_rfl) (by kernel_rfl) (by kernel_rfl) rfl (fun W hS => ?_) ⟨OA, OR⟩ ?_
          rotate_left
          · conv => lhs; simp [go_sem]
            first | done | exact rfl
          simp only [Act.put, List.setIfInBounds_toArray, List.set_cons_zero, List.set_cons_succ]
          refine tree_pure (i := 8) (v := ?_) rfl rfl (by kernel_rfl) (by kernel_rfl) (by kernel_rfl) rfl (fun W hS => ?_) ⟨OA, OR⟩ ?_
          rotate_left
          · conv => lhs; simp [go_sem]
            first | done | exact rfl
          simp only [Act.put, List.setIfInBounds_toArray, List.set_cons_zero, List.set_cons_succ]
          refine tree_pure (i := 9) (v := ?_) rfl rfl (by kernel_rfl) (by kernel_rfl) (by kernel_rfl) rfl (fun W hS => ?_) ⟨OA, OR⟩ ?_
          rotate_left
          · conv => lhs; simp [go_sem]
            first | done | exact rfl
          simp only [Act.put, List.setIfInBounds_toArray, List.set_cons_zero, List.set_cons_succ]
          refine tree_two (i := 10) (k := 11) (by kernel_rfl) rfl rfl ?_ ?_
          · refine ⟨_, rfl, fun K hK => ?_⟩
            go_wp2
            refine hK _ _ ⟨OA.more _, OR.more _⟩ ?_
            clear hK K
            obtain ⟨W_10, hW⟩ : ∃ X, W_6.alloc (.cells #[.bool false, .slice none 0 0] 59) = X := ⟨_, rfl⟩
            have hb_10 : Below W_6.heap.size W_6 W_10 := hW ▸ (Below.refl _ _).alloc (Nat.le_refl _) _
            have O8_ : Own W_10 W_6.heap.size 59 #[.bool false, .slice none 0 0] := hW ▸ Own.made _ _ _
            have sz_10 := O8_.in_
            rw [hW]
            clear hW
            replace OA := OA.keep hb_10
            replace OR := OR.keep hb_10
            replace NQ := NQ.keep hb_10
            replace NR := NR.keep hb_10
            replace hB := then_ hB hb_10 hB.size
            clear hb_10
            have O8 := O8_
            clear O8_
            refine tree_one (i := 11) (by kernel_rfl) rfl ?_
            · refine ⟨_, rfl, fun K hK => ?_⟩
              go_wp2
              refine hK _ _ ⟨OA.more _, OR.more _⟩ ?_
              clear hK K
              obtain ⟨W_11, hW⟩ : ∃ X, W_10.alloc (.cells #[.bool false, .slice none 0 0] 59) = X := ⟨_, rfl⟩
              have hb_11 : Below W_10.heap.size W_10 W_11 := hW ▸ (Below.refl _ _).alloc (Nat.le_refl _) _
              have O9_ : Own W_11 W_10.heap.size 59 #[.bool false, .slice none 0 0] := hW ▸ Own.made _ _ _
              have sz_11 := O9_.in_
              rw [hW]
              clear hW
              replace OA := OA.keep hb_11
              replace OR := OR.keep hb_11
              replace O8 := O8.keep hb_11
              replace NQ := NQ.keep hb_11
              replace NR := NR.keep hb_11
              replace hB := then_ hB hb_11 hB.size
              clear hb_11
              have O9 := O9_
              clear O9_
              refine tree_one (i := 12) (by kernel_rfl) rfl ?_
              · refine ⟨_, rfl, fun K hK => ?_⟩
                have hfr := O8.at_
                obtain ⟨P1, P2, P3⟩ := hfr
                go_wp2
                clear P1 P2 P3
                refine hK _ _ ⟨(OA.apart (by omega) _ _).apart (by omega) _ _, (OR.apart (by omega) _ _).apart (by omega) _ _⟩ ?_
                clear hK K
                obtain ⟨W_12, hW⟩ : ∃ X, (W_11.setCell ⟨W_6.heap.size, 0, none⟩ (.bool s_q)).setCell ⟨W_6.heap.size, 1, none⟩ (.slice a_q l_q c_q) = X := ⟨_, rfl⟩
                have OA_ : Own W_12 w.heap.size 34 #[.int .u64 (L0 n), .int .u64 (L1 n), .int .u64 (L2 n), .int .u64 (L3 n), .int .u64 (L0 d), .int .u64 (L1 d), .int .u64 (L2 d), .int .u64 (L3 d)] := hW ▸ ((OA.apart (by omega) _ _).apart (by omega) _ _)
                have OR_ : Own W_12 (w.heap.size + 1) 23 #[.int .u64 0, .int .u64 0, .int .u64 0, .int .u64 0] := hW ▸ ((OR.apart (by omega) _ _).apart (by omega) _ _)
                have O8_ : Own W_12 W_6.heap.size 59 #[.bool s_q, .slice a_q l_q c_q] := hW ▸ (((O8.put 0 _).put 1 _).as rfl)
                have O9_ : Own W_12 W_10.heap.size 59 #[.bool false, .slice none 0 0] := hW ▸ ((O9.apart (by omega) _ _).apart (by omega) _ _)
                have NQ_ := hW ▸ (NQ.put (p := W_6.heap.size) (i := 0) (by omega) (.bool s_q)).put (p := W_6.heap.size) (i := 1) (by omega) (.slice a_q l_q c_q)
                have NR_ := hW ▸ (NR.put (p := W_6.heap.size) (i := 0) (by omega) (.bool s_q)).put (p := W_6.heap.size) (i := 1) (by omega) (.slice a_q l_q c_q)
                have hB_ : Below w.heap.size w W_12 := hW ▸ ((hB.setCell (by show w.heap.size ≤ W_6.heap.size; omega) _).setCell (by show w.heap.size ≤ W_6.heap.size; omega) _)
                rw [hW]
                clear hW
                clear OA OR O8 O9 NQ NR hB
                have OA := OA_
                have OR := OR_
                have O8 := O8_
                have O9 := O9_
                have NQ := NQ_
                have NR := NR_
                have hB := hB_
                clear OA_ OR_ O8_ O9_ NQ_ NR_ hB_
                refine tree_one (i := 13) (by kernel_rfl) rfl ?_
                · refine ⟨_, rfl, fun K hK => ?_⟩
                  have hfr := O9.at_
                  obtain ⟨P1, P2, P3⟩ := hfr
                  go_wp2
                  clear P1 P2 P3
                  refine hK _ _ ⟨(OA.apart (by omega) _ _).apart (by omega) _ _, (OR.apart (by omega) _ _).apart (by omega) _ _⟩ ?_
                  clear hK K
                  obtain ⟨W_13, hW⟩ : ∃ X, (W_12.setCell ⟨W_10.heap.size, 0, none⟩ (.bool s_r)).setCell ⟨W_10.heap.size, 1, none⟩ (.slice a_r l_r c_r) = X := ⟨_, rfl⟩
                  have OA_ : Own W_13 w.heap.size 34 #[.int .u64 (L0 n), .int .u64 (L1 n), .int .u64 (L2 n), .int .u64 (L3 n), .int .u64 (L0 d), .int .u64 (L1 d), .int .u64 (L2 d), .int .u64 (L3 d)] := hW ▸ ((OA.apart (by omega) _ _).apart (by omega) _ _)
                  have OR_ : Own W_13 (w.heap.size + 1) 23 #[.int .u64 0, .int .u64 0, .int .u64 0, .int .u64 0] := hW ▸ ((OR.apart (by omega) _ _).apart (by omega) _ _)
                  have O8_ : Own W_13 W_6.heap.size 59 #[.bool s_q, .slice a_q l_q c_q] := hW ▸ ((O8.apart (by omega) _ _).apart (by omega) _ _)
                  have O9_ : Own W_13 W_10.heap.size 59 #[.bool s_r, .slice a_r l_r c_r] := hW ▸ (((O9.put 0 _).put 1 _).as rfl)
                  have NQ_ := hW ▸ (NQ.put (p := W_10.heap.size) (i := 0) (by omega) (.bool s_r)).put (p := W_10.heap.size) (i := 1) (by omega) (.slice a_r l_r c_r)
                  have NR_ := hW ▸ (NR.put (p := W_10.heap.size) (i := 0) (by omega) (.bool s_r)).put (p := W_10.heap.size) (i := 1) (by omega) (.slice a_r l_r c_r)
                  have hB_ : Below w.heap.size w W_13 := hW ▸ ((hB.setCell (by show w.heap.size ≤ W_10.heap.size; omega) _).setCell (by show w.heap.size ≤ W_10.heap.size; omega) _)
                  rw [hW]
                  clear hW
                  clear OA OR O8 O9 NQ NR hB
                  have OA := OA_
                  have OR := OR_
                  have O8 := O8_
                  have O9 := O9_
                  have NQ := NQ_
                  have NR := NR_
                  have hB := hB_
                  clear OA_ OR_ O8_ O9_ NQ_ NR_ hB_
                  refine tree_end (by kernel_rfl) ?_
                  go_wp2_with fail
                  go_meet
                  exact ⟨W_6.heap.size, W_10.heap.size, s_q, a_q, l_q, c_q, s_r, a_r, l_r, c_r, rfl, rfl, by omega, O8, O9, NQ.mono (fun _ _ _ => trivial), NR.mono (fun _ _ _ => trivial), OR, hB⟩
          · refine ⟨_, rfl, fun K hK => ?_⟩
            go_wp2
            refine hK _ _ ⟨OA.more _, OR.more _⟩ ?_
            clear hK K
            obtain ⟨W_10, hW⟩ : ∃ X, W_6.alloc (.cells #[.bool false, .slice none 0 0] 59) = X := ⟨_, rfl⟩
            have hb_10 : Below W_6.heap.size W_6 W_10 := hW ▸ (Below.refl _ _).alloc (Nat.le_refl _) _
            have O9_ : Own W_10 W_6.heap.size 59 #[.bool false, .slice none 0 0] := hW ▸ Own.made _ _ _
            have sz_10 := O9_.in_
            rw [hW]
            clear hW
            replace OA := OA.keep hb_10
            replace OR := OR.keep hb_10
            replace NQ := NQ.keep hb_10
            replace NR := NR.keep hb_10
            replace hB := then_ hB hb_10 hB.size
            clear hb_10
            have O9 := O9_
            clear O9_
            refine tree_one (i := 10) (by kernel_rfl) rfl ?_
            · refine ⟨_, rfl, fun K hK => ?_⟩
              go_wp2
              refine hK _ _ ⟨OA.more _, OR.more _⟩ ?_
              clear hK K
              obtain ⟨W_11, hW⟩ : ∃ X, W_10.alloc (.cells #[.bool false, .slice none 0 0] 59) = X := ⟨_, rfl⟩
              have hb_11 : Below W_10.heap.size W_10 W_11 := hW ▸ (Below.refl _ _).alloc (Nat.le_refl _) _
              have O8_ : Own W_11 W_10.heap.size 59 #[.bool false, .slice none 0 0] := hW ▸ Own.made _ _ _
              have sz_11 := O8_.in_
              rw [hW]
              clear hW
              replace OA := OA.keep hb_11
              replace OR := OR.keep hb_11
              replace O9 := O9.keep hb_11
              replace NQ := NQ.keep hb_11
              replace NR := NR.keep hb_11
              replace hB := then_ hB hb_11 hB.size
              clear hb_11
              have O8 := O8_
              clear O8_
              refine tree_one (i := 12) (by kernel_rfl) rfl ?_
              · refine ⟨_, rfl, fun K hK => ?_⟩
                have hfr := O8.at_
                obtain ⟨P1, P2, P3⟩ := hfr
                go_wp2
                clear P1 P2 P3
                refine hK _ _ ⟨(OA.apart (by omega) _ _).apart (by omega) _ _, (OR.apart (by omega) _ _).apart (by omega) _ _⟩ ?_
                clear hK K
                obtain ⟨W_12, hW⟩ : ∃ X, (W_11.setCell ⟨W_10.heap.size, 0, none⟩ (.bool s_q)).setCell ⟨W_10.heap.size, 1, none⟩ (.slice a_q l_q c_q) = X := ⟨_, rfl⟩
                have OA_ : Own W_12 w.heap.size 34 #[.int .u64 (L0 n), .int .u64 (L1 n), .int .u64 (L2 n), .int .u64 (L3 n), .int .u64 (L0 d), .int .u64 (L1 d), .int .u64 (L2 d), .int .u64 (L3 d)] := hW ▸ ((OA.apart (by omega) _ _).apart (by omega) _ _)
                have OR_ : Own W_12 (w.heap.size + 1) 23 #[.int .u64 0, .int .u64 0, .int .u64 0, .int .u64 0] := hW ▸ ((OR.apart (by omega) _ _).apart (by omega) _ _)
                have O9_ : Own W_12 W_6.heap.size 59 #[.bool false, .slice none 0 0] := hW ▸ ((O9.apart (by omega) _ _).apart (by omega) _ _)
                have O8_ : Own W_12 W_10.heap.size 59 #[.bool s_q, .slice a_q l_q c_q] := hW ▸ (((O8.put 0 _).put 1 _).as rfl)
                have NQ_ := hW ▸ (NQ.put (p := W_10.heap.size) (i := 0) (by omega) (.bool s_q)).put (p := W_10.heap.size) (i := 1) (by omega) (.slice a_q l_q c_q)
                have NR_ := hW ▸ (NR.put (p := W_10.heap.size) (i := 0) (by omega) (.bool s_q)).put (p := W_10.heap.size) (i := 1) (by omega) (.slice a_q l_q c_q)
                have hB_ : Below w.heap.size w W_12 := hW ▸ ((hB.setCell (by show w.heap.size ≤ W_10.heap.size; omega) _).setCell (by show w.heap.size ≤ W_10.heap.size; omega) _)
                rw [hW]
                clear hW
                clear OA OR O9 O8 NQ NR hB
                have OA := OA_
                have OR := OR_
                have O9 := O9_
                have O8 := O8_
                have NQ := NQ_
                have NR := NR_
                have hB := hB_
                clear OA_ OR_ O9_ O8_ NQ_ NR_ hB_
                refine tree_one (i := 13) (by kernel_rfl) rfl ?_
                · refine ⟨_, rfl, fun K hK => ?_⟩
                  have hfr := O9.at_
                  obtain ⟨P1, P2, P3⟩ := hfr
                  go_wp2
                  clear P1 P2 P3
                  refine hK _ _ ⟨(OA.apart (by omega) _ _).apart (by omega) _ _, (OR.apart (by omega) _ _).apart (by omega) _ _⟩ ?_
                  clear hK K
                  obtain ⟨W_13, hW⟩ : ∃ X, (W_12.setCell ⟨W_6.heap.size, 0, none⟩ (.bool s_r)).setCell ⟨W_6.heap.size, 1, none⟩ (.slice a_r l_r c_r) = X := ⟨_, rfl⟩
                  have OA_ : Own W_13 w.heap.size 34 #[.int .u64 (L0 n), .int .u64 (L1 n), .int .u64 (L2 n), .int .u64 (L3 n), .int .u64 (L0 d), .int .u64 (L1 d), .int .u64 (L2 d), .int .u64 (L3 d)] := hW ▸ ((OA.apart (by omega) _ _).apart (by omega) _ _)
                  have OR_ : Own W_13 (w.heap.size + 1) 23 #[.int .u64 0, .int .u64 0, .int .u64 0, .int .u64 0] := hW ▸ ((OR.apart (by omega) _ _).apart (by omega) _ _)
                  have O9_ : Own W_13 W_6.heap.size 59 #[.bool s_r, .slice a_r l_r c_r] := hW ▸ (((O9.put 0 _).put 1 _).as rfl)
                  have O8_ : Own W_13 W_10.heap.size 59 #[.bool s_q, .slice a_q l_q c_q] := hW ▸ ((O8.apart (by omega) _ _).apart (by omega) _ _)
                  have NQ_ := hW ▸ (NQ.put (p := W_6.heap.size) (i := 0) (by omega) (.bool s_r)).put (p := W_6.heap.size) (i := 1) (by omega) (.slice a_r l_r c_r)
                  have NR_ := hW ▸ (NR.put (p := W_6.heap.size) (i := 0) (by omega) (.bool s_r)).put (p := W_6.heap.size) (i := 1) (by omega) (.slice a_r l_r c_r)
                  have hB_ : Below w.heap.size w W_13 := hW ▸ ((hB.setCell (by show w.heap.size ≤ W_6.heap.size; omega) _).setCell (by show w.heap.size ≤ W_6.heap.size; omega) _)
                  rw [hW]
                  clear hW
                  clear OA OR O9 O8 NQ NR hB
                  have OA := OA_
                  have OR := OR_
                  have O9 := O9_
                  have O8 := O8_
                  have NQ := NQ_
                  have NR := NR_
                  have hB := hB_
                  clear OA_ OR_ O9_ O8_ NQ_ NR_ hB_
                  refine tree_end (by kernel_rfl) ?_
                  go_wp2_with fail
                  go_meet
                  exact ⟨W_10.heap.size, W_6.heap.size, s_q, a_q, l_q, c_q, s_r, a_r, l_r, c_r, rfl, rfl, by omega, O8, O9, NQ.mono (fun _ _ _ => trivial), NR.mono (fun _ _ _ => trivial), OR, hB⟩
        · refine ⟨_, rfl, fun K hK => ?_⟩
          go_wp2
          refine hK _ _ ⟨OA.more _, OR.more _⟩ ?_
          clear hK K
          obtain ⟨W_6, hW⟩ : ∃ X, W_5.alloc (.cells #[.bool false, .slice none 0 0] 59) = X := ⟨_, rfl⟩
          have hb_6 : Below W_5.heap.size W_5 W_6 := hW ▸ (Below.refl _ _).alloc (Nat.le_refl _) _
          have O8_ : Own W_6 W_5.heap.size 59 #[.bool false, .slice none 0 0] := hW ▸ Own.made _ _ _
          have sz_6 := O8_.in_
          rw [hW]
          clear hW
          replace OA := OA.keep hb_6
          replace OR := OR.keep hb_6
          replace NX := NX.keep hb_6
          replace NY := NY.keep hb_6
          replace hB := then_ hB hb_6 hB.size
          clear hb_6
          have O8 := O8_
          clear O8_
          refine tree_two (i := 6) (k := 11) (by kernel_rfl) rfl rfl ?_ ?_
          · refine ⟨_, rfl, fun K hK => ?_⟩
            go_wp2_with (go_at_call 46; refine (div_num _ 0 0 _ _ n d W_6 NX (NY.num (T := 0) (C := 0) (fun b _ _ => .inr (Nat.zero_le _))) HZ.out LN.out LD.out).mono ?_; rintro e W_7 ⟨v_, v__, rfl, hq, hr, hb_7⟩)
            have sz_7 := hb_7.size
            obtain ⟨s_q, a_q, l_q, c_q, rfl⟩ := hq.shape
            obtain ⟨s_r, a_r, l_r, c_r, rfl⟩ := hr.shape
            have NQ := hq.mono (S' := fun b => W_6.heap.size ≤ b ∧ b < W_7.heap.size) (fun b h1 h2 => ⟨h2, h1⟩)
            have NR := hr.mono (S' := fun b => (((W_s.heap.size ≤ b ∧ b < W_4.heap.size) ∧ b < W_6.heap.size) ∨ W_6.heap.size ≤ b) ∧ b < W_7.heap.size) (fun b h1 h2 => ⟨h2, h1⟩)
            clear hq hr NX NY
            replace OA := OA.keep hb_7
            replace OR := OR.keep hb_7
            replace O8 := O8.keep hb_7
            replace hB := then_ hB hb_7 hB.size
            refine hK _ _ ⟨OA, OR⟩ ?_
            clear hK K hb_7
            refine tree_pure (i := 7) (v := ?_) rfl rfl (by kernel_rfl) (by kernel_rfl) (by kernel_rfl) rfl (fun W hS => ?_) ⟨OA, OR⟩ ?_
            rotate_left
            · conv => lhs; simp [go_sem]
              first | done | exact rfl
            simp only [Act.put, List.setIfInBounds_toArray, List.set_cons_zero, List.set_cons_succ]
            refine tree_pure (i := 8) (v := ?_) rfl rfl (by kernel_rfl) (by kernel_rfl) (by kernel_rfl) rfl (fun W hS => ?_) ⟨OA, OR⟩ ?_
            rotate_left
            · conv => lhs; simp [go_sem]
              first | done | exact rfl
            simp only [Act.put, List.setIfInBounds_toArray, List.set_cons_zero, List.set_cons_succ]
            refine tree_pure (i := 9) (v := ?_) rfl rfl (by kernel_rfl) (by kernel_rfl) (by kernel_rfl) rfl (fun W hS => ?_) ⟨OA, OR⟩ ?_
            rotate_left
            · conv => lhs; simp [go_sem]
              first | done | exact rfl
            simp only [Act.put, List.setIfInBounds_toArray, List.set_cons_zero, List.set_cons_succ]
            refine tree_one (i := 11) (by kernel_rfl) rfl ?_
            · refine ⟨_, rfl, fun K hK => ?_⟩
              go_wp2
              refine hK _ _ ⟨OA.more _, OR.more _⟩ ?_
              clear hK K
              obtain ⟨W_11, hW⟩ : ∃ X, W_7.alloc (.cells #[.bool false, .slice none 0 0] 59) = X := ⟨_, rfl⟩
              have hb_11 : Below W_7.heap.size W_7 W_11 := hW ▸ (Below.refl _ _).alloc (Nat.le_refl _) _
              have O9_ : Own W_11 W_7.heap.size 59 #[.bool false, .slice none 0 0] := hW ▸ Own.made _ _ _
              have sz_11 := O9_.in_
              rw [hW]
              clear hW
              replace OA := OA.keep hb_11
              replace OR := OR.keep hb_11
              replace O8 := O8.keep hb_11
              replace NQ := NQ.keep hb_11
              replace NR := NR.keep hb_11
              replace hB := then_ hB hb_11 hB.size
              clear hb_11
              have O9 := O9_
              clear O9_
              refine tree_one (i := 12) (by kernel_rfl) rfl ?_
              · refine ⟨_, rfl, fun K hK => ?_⟩
                have hfr := O8.at_
                obtain ⟨P1, P2, P3⟩ := hfr
                go_wp2
                clear P1 P2 P3
                refine hK _ _ ⟨(OA.apart (by omega) _ _).apart (by omega) _ _, (OR.apart (by omega) _ _).apart (by omega) _ _⟩ ?_
                clear hK K
                obtain ⟨W_12, hW⟩ : ∃ X, (W_11.setCell ⟨W_5.heap.size, 0, none⟩ (.bool s_q)).setCell ⟨W_5.heap.size, 1, none⟩ (.slice a_q l_q c_q) = X := ⟨_, rfl⟩
                have OA_ : Own W_12 w.heap.size 34 #[.int .u64 (L0 n), .int .u64 (L1 n), .int .u64 (L2 n), .int .u64 (L3 n), .int .u64 (L0 d), .int .u64 (L1 d), .int .u64 (L2 d), .int .u64 (L3 d)] := hW ▸ ((OA.apart (by omega) _ _).apart (by omega) _ _)
                have OR_ : Own W_12 (w.heap.size + 1) 23 #[.int .u64 0, .int .u64 0, .int .u64 0, .int .u64 0] := hW ▸ ((OR.apart (by omega) _ _).apart (by omega) _ _)
                have O8_ : Own W_12 W_5.heap.size 59 #[.bool s_q, .slice a_q l_q c_q] := hW ▸ (((O8.put 0 _).put 1 _).as rfl)
                have O9_ : Own W_12 W_7.heap.size 59 #[.bool false, .slice none 0 0] := hW ▸ ((O9.apart (by omega) _ _).apart (by omega) _ _)
                have NQ_ := hW ▸ (NQ.put (p := W_5.heap.size) (i := 0) (by omega) (.bool s_q)).put (p := W_5.heap.size) (i := 1) (by omega) (.slice a_q l_q c_q)
                have NR_ := hW ▸ (NR.put (p := W_5.heap.size) (i := 0) (by omega) (.bool s_q)).put (p := W_5.heap.size) (i := 1) (by omega) (.slice a_q l_q c_q)
                have hB_ : Below w.heap.size w W_12 := hW ▸ ((hB.setCell (by show w.heap.size ≤ W_5.heap.size; omega) _).setCell (by show w.heap.size ≤ W_5.heap.size; omega) _)
                rw [hW]
                clear hW
                clear OA OR O8 O9 NQ NR hB
                have OA := OA_
                have OR := OR_
                have O8 := O8_
                have O9 := O9_
                have NQ := NQ_
                have NR := NR_
                have hB := hB_
                clear OA_ OR_ O8_ O9_ NQ_ NR_ hB_
                refine tree_one (i := 13) (by kernel_rfl) rfl ?_
                · refine ⟨_, rfl, fun K hK => ?_⟩
                  have hfr := O9.at_
                  obtain ⟨P1, P2, P3⟩ := hfr
                  go_wp2
                  clear P1 P2 P3
                  refine hK _ _ ⟨(OA.apart (by omega) _ _).apart (by omega) _ _, (OR.apart (by omega) _ _).apart (by omega) _ _⟩ ?_
                  clear hK K
                  obtain ⟨W_13, hW⟩ : ∃ X, (W_12.setCell ⟨W_7.heap.size, 0, none⟩ (.bool s_r)).setCell ⟨W_7.heap.size, 1, none⟩ (.slice a_r l_r c_r) = X := ⟨_, rfl⟩
                  have OA_ : Own W_13 w.heap.size 34 #[.int .u64 (L0 n), .int .u64 (L1 n), .int .u64 (L2 n), .int .u64 (L3 n), .int .u64 (L0 d), .int .u64 (L1 d), .int .u64 (L2 d), .int .u64 (L3 d)] := hW ▸ ((OA.apart (by omega) _ _).apart (by omega) _ _)
                  have OR_ : Own W_13 (w.heap.size + 1) 23 #[.int .u64 0, .int .u64 0, .int .u64 0, .int .u64 0] := hW ▸ ((OR.apart (by omega) _ _).apart (by omega) _ _)
                  have O8_ : Own W_13 W_5.heap.size 59 #[.bool s_q, .slice a_q l_q c_q] := hW ▸ ((O8.apart (by omega) _ _).apart (by omega) _ _)
                  have O9_ : Own W_13 W_7.heap.size 59 #[.bool s_r, .slice a_r l_r c_r] := hW ▸ (((O9.put 0 _).put 1 _).as rfl)
                  have NQ_ := hW ▸ (NQ.put (p := W_7.heap.size) (i := 0) (by omega) (.bool s_r)).put (p := W_7.heap.size) (i := 1) (by omega) (.slice a_r l_r c_r)
                  have NR_ := hW ▸ (NR.put (p := W_7.heap.size) (i := 0) (by omega) (.bool s_r)).put (p := W_7.heap.size) (i := 1) (by omega) (.slice a_r l_r c_r)
                  have hB_ : Below w.heap.size w W_13 := hW ▸ ((hB.setCell (by show w.heap.size ≤ W_7.heap.size; omega) _).setCell (by show w.heap.size ≤ W_7.heap.size; omega) _)
                  rw [hW]
                  clear hW
                  clear OA OR O8 O9 NQ NR hB
                  have OA := OA_
                  have OR := OR_
                  have O8 := O8_
                  have O9 := O9_
                  have NQ := NQ_
                  have NR := NR_
                  have hB := hB_
                  clear OA_ OR_ O8_ O9_ NQ_ NR_ hB_
                  refine tree_end (by kernel_rfl) ?_
                  go_wp2_with fail
                  go_meet
                  exact ⟨W_5.heap.size, W_7.heap.size, s_q, a_q, l_q, c_q, s_r, a_r, l_r, c_r, rfl, rfl, by omega, O8, O9, NQ.mono (fun _ _ _ => trivial), NR.mono (fun _ _ _ => trivial), OR, hB⟩
          · refine ⟨_, rfl, fun K hK => ?_⟩
            go_wp2
            refine hK _ _ ⟨OA.more _, OR.more _⟩ ?_
            clear hK K
            obtain ⟨W_7, hW⟩ : ∃ X, W_6.alloc (.cells #[.bool false, .slice none 0 0] 59) = X := ⟨_, rfl⟩
            have hb_7 : Below W_6.heap.size W_6 W_7 := hW ▸ (Below.refl _ _).alloc (Nat.le_refl _) _
            have O9_ : Own W_7 W_6.heap.size 59 #[.bool false, .slice none 0 0] := hW ▸ Own.made _ _ _
            have sz_7 := O9_.in_
            rw [hW]
            clear hW
            replace OA := OA.keep hb_7
            replace OR := OR.keep hb_7
            replace O8 := O8.keep hb_7
            replace NX := NX.keep hb_7
            replace NY := NY.keep hb_7
            replace hB := then_ hB hb_7 hB.size
            clear hb_7
            have O9 := O9_
            clear O9_
            refine tree_one (i := 6) (by kernel_rfl) rfl ?_
            · refine ⟨_, rfl, fun K hK => ?_⟩
              go_wp2_with (go_at_call 46; refine (div_num _ 0 0 _ _ n d W_7 NX (NY.num (T := 0) (C := 0) (fun b _ _ => .inr (Nat.zero_le _))) HZ.out LN.out LD.out).mono ?_; rintro e W_8 ⟨v_, v__, rfl, hq, hr, hb_8⟩)
              have sz_8 := hb_8.size
              obtain ⟨s_q, a_q, l_q, c_q, rfl⟩ := hq.shape
              obtain ⟨s_r, a_r, l_r, c_r, rfl⟩ := hr.shape
              have NQ := hq.mono (S' := fun b => W_7.heap.size ≤ b ∧ b < W_8.heap.size) (fun b h1 h2 => ⟨h2, h1⟩)
              have NR := hr.mono (S' := fun b => (((W_s.heap.size ≤ b ∧ b < W_4.heap.size) ∧ b < W_7.heap.size) ∨ W_7.heap.size ≤ b) ∧ b < W_8.heap.size) (fun b h1 h2 => ⟨h2, h1⟩)
              clear hq hr NX NY
              replace OA := OA.keep hb_8
              replace OR := OR.keep hb_8
              replace O8 := O8.keep hb_8
              replace O9 := O9.keep hb_8
              replace hB := then_ hB hb_8 hB.size
              refine hK _ _ ⟨OA, OR⟩ ?_
              clear hK K hb_8
              refine tree_pure (i := 7) (v := ?_) rfl rfl (by kernel_rfl) (by kernel_rfl) (by kernel_rfl) rfl (fun W hS => ?_) ⟨OA, OR⟩ ?_
              rotate_left
              · conv => lhs; simp [go_sem]
                first | done | exact rfl
              simp only [Act.put, List.setIfInBounds_toArray, List.set_cons_zero, List.set_cons_succ]
              refine tree_pure (i := 8) (v := ?_) rfl rfl (by kernel_rfl) (by kernel_rfl) (by kernel_rfl) rfl (fun W hS => ?_) ⟨OA, OR⟩ ?_
              rotate_left
              · conv => lhs; simp [go_sem]
                first | done | exact rfl
              simp only [Act.put, List.setIfInBounds_toArray, List.set_cons_zero, List.set_cons_succ]
              refine tree_pure (i := 9) (v := ?_) rfl rfl (by kernel_rfl) (by kernel_rfl) (by kernel_rfl) rfl (fun W hS => ?_) ⟨OA, OR⟩ ?_
              rotate_left
              · conv => lhs; simp [go_sem]
                first | done | exact rfl
              simp only [Act.put, List.setIfInBounds_toArray, List.set_cons_zero, List.set_cons_succ]
              refine tree_one (i := 12) (by kernel_rfl) rfl ?_
              · refine ⟨_, rfl, fun K hK => ?_⟩
                have hfr := O8.at_
                obtain ⟨P1, P2, P3⟩ := hfr
                go_wp2
                clear P1 P2 P3
                refine hK _ _ ⟨(OA.apart (by omega) _ _).apart (by omega) _ _, (OR.apart (by omega) _ _).apart (by omega) _ _⟩ ?_
                clear hK K
                obtain ⟨W_12, hW⟩ : ∃ X, (W_8.setCell ⟨W_5.heap.size, 0, none⟩ (.bool s_q)).setCell ⟨W_5.heap.size, 1, none⟩ (.slice a_q l_q c_q) = X := ⟨_, rfl⟩
                have OA_ : Own W_12 w.heap.size 34 #[.int .u64 (L0 n), .int .u64 (L1 n), .int .u64 (L2 n), .int .u64 (L3 n), .int .u64 (L0 d), .int .u64 (L1 d), .int .u64 (L2 d), .int .u64 (L3 d)] := hW ▸ ((OA.apart (by omega) _ _).apart (by omega) _ _)
                have OR_ : Own W_12 (w.heap.size + 1) 23 #[.int .u64 0, .int .u64 0, .int .u64 0, .int .u64 0] := hW ▸ ((OR.apart (by omega) _ _).apart (by omega) _ _)
                have O8_ : Own W_12 W_5.heap.size 59 #[.bool s_q, .slice a_q l_q c_q] := hW ▸ (((O8.put 0 _).put 1 _).as rfl)
                have O9_ : Own W_12 W_6.heap.size 59 #[.bool false, .slice none 0 0] := hW ▸ ((O9.apart (by omega) _ _).apart (by omega) _ _)
                have NQ_ := hW ▸ (NQ.put (p := W_5.heap.size) (i := 0) (by omega) (.bool s_q)).put (p := W_5.heap.size) (i := 1) (by omega) (.slice a_q l_q c_q)
                have NR_ := hW ▸ (NR.put (p := W_5.heap.size) (i := 0) (by omega) (.bool s_q)).put (p := W_5.heap.size) (i := 1) (by omega) (.slice a_q l_q c_q)
                have hB_ : Below w.heap.size w W_12 := hW ▸ ((hB.setCell (by show w.heap.size ≤ W_5.heap.size; omega) _).setCell (by show w.heap.size ≤ W_5.heap.size; omega) _)
                rw [hW]
                clear hW
                clear OA OR O8 O9 NQ NR hB
                have OA := OA_
                have OR := OR_
                have O8 := O8_
                have O9 := O9_
                have NQ := NQ_
                have NR := NR_
                have hB := hB_
                clear OA_ OR_ O8_ O9_ NQ_ NR_ hB_
                refine tree_one (i := 13) (by kernel_rfl) rfl ?_
                · refine ⟨_, rfl, fun K hK => ?_⟩
                  have hfr := O9.at_
                  obtain ⟨P1, P2, P3⟩ := hfr
                  go_wp2
                  clear P1 P2 P3
                  refine hK _ _ ⟨(OA.apart (by omega) _ _).apart (by omega) _ _, (OR.apart (by omega) _ _).apart (by omega) _ _⟩ ?_
                  clear hK K
                  obtain ⟨W_13, hW⟩ : ∃ X, (W_12.setCell ⟨W_6.heap.size, 0, none⟩ (.bool s_r)).setCell ⟨W_6.heap.size, 1, none⟩ (.slice a_r l_r c_r) = X := ⟨_, rfl⟩
                  have OA_ : Own W_13 w.heap.size 34 #[.int .u64 (L0 n), .int .u64 (L1 n), .int .u64 (L2 n), .int .u64 (L3 n), .int .u64 (L0 d), .int .u64 (L1 d), .int .u64 (L2 d), .int .u64 (L3 d)] := hW ▸ ((OA.apart (by omega) _ _).apart (by omega) _ _)
                  have OR_ : Own W_13 (w.heap.size + 1) 23 #[.int .u64 0, .int .u64 0, .int .u64 0, .int .u64 0] := hW ▸ ((OR.apart (by omega) _ _).apart (by omega) _ _)
                  have O8_ : Own W_13 W_5.heap.size 59 #[.bool s_q, .slice a_q l_q c_q] := hW ▸ ((O8.apart (by omega) _ _).apart (by omega) _ _)
                  have O9_ : Own W_13 W_6.heap.size 59 #[.bool s_r, .slice a_r l_r c_r] := hW ▸ (((O9.put 0 _).put 1 _).as rfl)
                  have NQ_ := hW ▸ (NQ.put (p := W_6.heap.size) (i := 0) (by omega) (.bool s_r)).put (p := W_6.heap.size) (i := 1) (by omega) (.slice a_r l_r c_r)
                  have NR_ := hW ▸ (NR.put (p := W_6.heap.size) (i := 0) (by omega) (.bool s_r)).put (p := W_6.heap.size) (i := 1) (by omega) (.slice a_r l_r c_r)
                  have hB_ : Below w.heap.size w W_13 := hW ▸ ((hB.setCell (by show w.heap.size ≤ W_6.heap.size; omega) _).setCell (by show w.heap.size ≤ W_6.heap.size; omega) _)
                  rw [hW]
                  clear hW
                  clear OA OR O8 O9 NQ NR hB
                  have OA := OA_
                  have OR := OR_
                  have O8 := O8_
                  have O9 := O9_
                  have NQ := NQ_
                  have NR := NR_
                  have hB := hB_
                  clear OA_ OR_ O8_ O9_ NQ_ NR_ hB_
                  refine tree_end (by kernel_rfl) ?_
                  go_wp2_with fail
                  go_meet
                  exact ⟨W_5.heap.size, W_6.heap.size, s_q, a_q, l_q, c_q, s_r, a_r, l_r, c_r, rfl, rfl, by omega, O8, O9, NQ.mono (fun _ _ _ => trivial), NR.mono (fun _ _ _ => trivial), OR, hB⟩
        · refine ⟨_, rfl, fun K hK => ?_⟩
          go_wp2
          refine hK _ _ ⟨OA.more _, OR.more _⟩ ?_
          clear hK K
          obtain ⟨W_6, hW⟩ : ∃ X, W_5.alloc (.cells #[.bool false, .slice none 0 0] 59) = X := ⟨_, rfl⟩
          have hb_6 : Below W_5.heap.size W_5 W_6 := hW ▸ (Below.refl _ _).alloc (Nat.le_refl _) _
          have O9_ : Own W_6 W_5.heap.size 59 #[.bool false, .slice none 0 0] := hW ▸ Own.made _ _ _
          have sz_6 := O9_.in_
          rw [hW]
          clear hW
          replace OA := OA.keep hb_6
          replace OR := OR.keep hb_6
          replace NX := NX.keep hb_6
          replace NY := NY.keep hb_6
          replace hB := then_ hB hb_6 hB.size
          clear hb_6
          have O9 := O9_
          clear O9_
          refine tree_two (i := 6) (k := 10) (by kernel_rfl) rfl rfl ?_ ?_
          · refine ⟨_, rfl, fun K hK => ?_⟩
            go_wp2_with (go_at_call 46; refine (div_num _ 0 0 _ _ n d W_6 NX (NY.num (T := 0) (C := 0) (fun b _ _ => .inr (Nat.zero_le _))) HZ.out LN.out LD.out).mono ?_; rintro e W_7 ⟨v_, v__, rfl, hq, hr, hb_7⟩)
            have sz_7 := hb_7.size
            obtain ⟨s_q, a_q, l_q, c_q, rfl⟩ := hq.shape
            obtain ⟨s_r, a_r, l_r, c_r, rfl⟩ := hr.shape
            have NQ := hq.mono (S' := fun b => W_6.heap.size ≤ b ∧ b < W_7.heap.size) (fun b h1 h2 => ⟨h2, h1⟩)
            have NR := hr.mono (S' := fun b => (((W_s.heap.size ≤ b ∧ b < W_4.heap.size) ∧ b < W_6.heap.size) ∨ W_6.heap.size ≤ b) ∧ b < W_7.heap.size) (fun b h1 h2 => ⟨h2, h1⟩)
            clear hq hr NX NY
            replace OA := OA.keep hb_7
            replace OR := OR.keep hb_7
            replace O9 := O9.keep hb_7
            replace hB := then_ hB hb_7 hB.size
            refine hK _ _ ⟨OA, OR⟩ ?_
            clear hK K hb_7
            refine tree_pure (i := 7) (v := ?_) rfl rfl (by kernel_rfl) (by kernel_rfl) (by kernel_rfl) rfl (fun W hS => ?_) ⟨OA, OR⟩ ?_
            rotate_left
            · conv => lhs; simp [go_sem]
              first | done | exact rfl
            simp only [Act.put, List.setIfInBounds_toArray, List.set_cons_zero, List.set_cons_succ]
            refine tree_pure (i := 8) (v := ?_) rfl rfl (by kernel_rfl) (by kernel_rfl) (by kernel_rfl) rfl (fun W hS => ?_) ⟨OA, OR⟩ ?_
            rotate_left
            · conv => lhs; simp [go_sem]
              first | done | exact rfl
            simp only [Act.put, List.setIfInBounds_toArray, List.set_cons_zero, List.set_cons_succ]
            refine tree_pure (i := 9) (v := ?_) rfl rfl (by kernel_rfl) (by kernel_rfl) (by kernel_rfl) rfl (fun W hS => ?_) ⟨OA, OR⟩ ?_
            rotate_left
            · conv => lhs; simp [go_sem]
              first | done | exact rfl
            simp only [Act.put, List.setIfInBounds_toArray, List.set_cons_zero, List.set_cons_succ]
            refine tree_one (i := 10) (by kernel_rfl) rfl ?_
            · refine ⟨_, rfl, fun K hK => ?_⟩
              go_wp2
              refine hK _ _ ⟨OA.more _, OR.more _⟩ ?_
              clear hK K
              obtain ⟨W_11, hW⟩ : ∃ X, W_7.alloc (.cells #[.bool false, .slice none 0 0] 59) = X := ⟨_, rfl⟩
              have hb_11 : Below W_7.heap.size W_7 W_11 := hW ▸ (Below.refl _ _).alloc (Nat.le_refl _) _
              have O8_ : Own W_11 W_7.heap.size 59 #[.bool false, .slice none 0 0] := hW ▸ Own.made _ _ _
              have sz_11 := O8_.in_
              rw [hW]
              clear hW
              replace OA := OA.keep hb_11
              replace OR := OR.keep hb_11
              replace O9 := O9.keep hb_11
              replace NQ := NQ.keep hb_11
              replace NR := NR.keep hb_11
              replace hB := then_ hB hb_11 hB.size
              clear hb_11
              have O8 := O8_
              clear O8_
              refine tree_one (i := 12) (by kernel_rfl) rfl ?_
              · refine ⟨_, rfl, fun K hK => ?_⟩
                have hfr := O8.at_
                obtain ⟨P1, P2, P3⟩ := hfr
                go_wp2
                clear P1 P2 P3
                refine hK _ _ ⟨(OA.apart (by omega) _ _).apart (by omega) _ _, (OR.apart (by omega) _ _).apart (by omega) _ _⟩ ?_
                clear hK K
                obtain ⟨W_12, hW⟩ : ∃ X, (W_11.setCell ⟨W_7.heap.size, 0, none⟩ (.bool s_q)).setCell ⟨W_7.heap.size, 1, none⟩ (.slice a_q l_q c_q) = X := ⟨_, rfl⟩
                have OA_ : Own W_12 w.heap.size 34 #[.int .u64 (L0 n), .int .u64 (L1 n), .int .u64 (L2 n), .int .u64 (L3 n), .int .u64 (L0 d), .int .u64 (L1 d), .int .u64 (L2 d), .int .u64 (L3 d)] := hW ▸ ((OA.apart (by omega) _ _).apart (by omega) _ _)
                have OR_ : Own W_12 (w.heap.size + 1) 23 #[.int .u64 0, .int .u64 0, .int .u64 0, .int .u64 0] := hW ▸ ((OR.apart (by omega) _ _).apart (by omega) _ _)
                have O9_ : Own W_12 W_5.heap.size 59 #[.bool false, .slice none 0 0] := hW ▸ ((O9.apart (by omega) _ _).apart (by omega) _ _)
                have O8_ : Own W_12 W_7.heap.size 59 #[.bool s_q, .slice a_q l_q c_q] := hW ▸ (((O8.put 0 _).put 1 _).as rfl)
                have NQ_ := hW ▸ (NQ.put (p := W_7.heap.size) (i := 0) (by omega) (.bool s_q)).put (p := W_7.heap.size) (i := 1) (by omega) (.slice a_q l_q c_q)
                have NR_ := hW ▸ (NR.put (p := W_7.heap.size) (i := 0) (by omega) (.bool s_q)).put (p := W_7.heap.size) (i := 1) (by omega) (.slice a_q l_q c_q)
                have hB_ : Below w.heap.size w W_12 := hW ▸ ((hB.setCell (by show w.heap.size ≤ W_7.heap.size; omega) _).setCell (by show w.heap.size ≤ W_7.heap.size; omega) _)
                rw [hW]
                clear hW
                clear OA OR O9 O8 NQ NR hB
                have OA := OA_
                have OR := OR_
                have O9 := O9_
                have O8 := O8_
                have NQ := NQ_
                have NR := NR_
                have hB := hB_
                clear OA_ OR_ O9_ O8_ NQ_ NR_ hB_
                refine tree_one (i := 13) (by kernel_rfl) rfl ?_
                · refine ⟨_, rfl, fun K hK => ?_⟩
                  have hfr := O9.at_
                  obtain ⟨P1, P2, P3⟩ := hfr
                  go_wp2
                  clear P1 P2 P3
                  refine hK _ _ ⟨(OA.apart (by omega) _ _).apart (by omega) _ _, (OR.apart (by omega) _ _).apart (by omega) _ _⟩ ?_
                  clear hK K
                  obtain ⟨W_13, hW⟩ : ∃ X, (W_12.setCell ⟨W_5.heap.size, 0, none⟩ (.bool s_r)).setCell ⟨W_5.heap.size, 1, none⟩ (.slice a_r l_r c_r) = X := ⟨_, rfl⟩
                  have OA_ : Own W_13 w.heap.size 34 #[.int .u64 (L0 n), .int .u64 (L1 n), .int .u64 (L2 n), .int .u64 (L3 n), .int .u64 (L0 d), .int .u64 (L1 d), .int .u64 (L2 d), .int .u64 (L3 d)] := hW ▸ ((OA.apart (by omega) _ _).apart (by omega) _ _)
                  have OR_ : Own W_13 (w.heap.size + 1) 23 #[.int .u64 0, .int .u64 0, .int .u64 0, .int .u64 0] := hW ▸ ((OR.apart (by omega) _ _).apart (by omega) _ _)
                  have O9_ : Own W_13 W_5.heap.size 59 #[.bool s_r, .slice a_r l_r c_r] := hW ▸ (((O9.put 0 _).put 1 _).as rfl)
                  have O8_ : Own W_13 W_7.heap.size 59 #[.bool s_q, .slice a_q l_q c_q] := hW ▸ ((O8.apart (by omega) _ _).apart (by omega) _ _)
                  have NQ_ := hW ▸ (NQ.put (p := W_5.heap.size) (i := 0) (by omega) (.bool s_r)).put (p := W_5.heap.size) (i := 1) (by omega) (.slice a_r l_r c_r)
                  have NR_ := hW ▸ (NR.put (p := W_5.heap.size) (i := 0) (by omega) (.bool s_r)).put (p := W_5.heap.size) (i := 1) (by omega) (.slice a_r l_r c_r)
                  have hB_ : Below w.heap.size w W_13 := hW ▸ ((hB.setCell (by show w.heap.size ≤ W_5.heap.size; omega) _).setCell (by show w.heap.size ≤ W_5.heap.size; omega) _)
                  rw [hW]
                  clear hW
                  clear OA OR O9 O8 NQ NR hB
                  have OA := OA_
                  have OR := OR_
                  have O9 := O9_
                  have O8 := O8_
                  have NQ := NQ_
                  have NR := NR_
                  have hB := hB_
                  clear OA_ OR_ O9_ O8_ NQ_ NR_ hB_
                  refine tree_end (by kernel_rfl) ?_
                  go_wp2_with fail
                  go_meet
                  exact ⟨W_7.heap.size, W_5.heap.size, s_q, a_q, l_q, c_q, s_r, a_r, l_r, c_r, rfl, rfl, by omega, O8, O9, NQ.mono (fun _ _ _ => trivial), NR.mono (fun _ _ _ => trivial), OR, hB⟩
          · refine ⟨_, rfl, fun K hK => ?_⟩
            go_wp2
            refine hK _ _ ⟨OA.more _, OR.more _⟩ ?_
            clear hK K
            obtain ⟨W_7, hW⟩ : ∃ X, W_6.alloc (.cells #[.bool false, .slice none 0 0] 59) = X := ⟨_, rfl⟩
            have hb_7 : Below W_6.heap.size W_6 W_7 := hW ▸ (Below.refl _ _).alloc (Nat.le_refl _) _
            have O8_ : Own W_7 W_6.heap.size 59 #[.bool false, .slice none 0 0] := hW ▸ Own.made _ _ _
            have sz_7 := O8_.in_
            rw [hW]
            clear hW
            replace OA := OA.keep hb_7
            replace OR := OR.keep hb_7
            replace O9 := O9.keep hb_7
            replace NX := NX.keep hb_7
            replace NY := NY.keep hb_7
            replace hB := then_ hB hb_7 hB.size
            clear hb_7
            have O8 := O8_
            clear O8_
            refine tree_one (i := 6) (by kernel_rfl) rfl ?_
            · refine ⟨_, rfl, fun K hK => ?_⟩
              go_wp2_with (go_at_call 46; refine (div_num _ 0 0 _ _ n d W_7 NX (NY.num (T := 0) (C := 0) (fun b _ _ => .inr (Nat.zero_le _))) HZ.out LN.out LD.out).mono ?_; rintro e W_8 ⟨v_, v__, rfl, hq, hr, hb_8⟩)
              have sz_8 := hb_8.size
              obtain ⟨s_q, a_q, l_q, c_q, rfl⟩ := hq.shape
              obtain ⟨s_r, a_r, l_r, c_r, rfl⟩ := hr.shape
              have NQ := hq.mono (S' := fun b => W_7.heap.size ≤ b ∧ b < W_8.heap.size) (fun b h1 h2 => ⟨h2, h1⟩)
              have NR := hr.mono (S' := fun b => (((W_s.heap.size ≤ b ∧ b < W_4.heap.size) ∧ b < W_7.heap.size) ∨ W_7.heap.size ≤ b) ∧ b < W_8.heap.size) (fun b h1 h2 => ⟨h2, h1⟩)
              clear hq hr NX NY
              replace OA := OA.keep hb_8
              replace OR := OR.keep hb_8
              replace O9 := O9.keep hb_8
              replace O8 := O8.keep hb_8
              replace hB := then_ hB hb_8 hB.size
              refine hK _ _ ⟨OA, OR⟩ ?_
              clear hK K hb_8
              refine tree_pure (i := 7) (v := ?_) rfl rfl (by kernel_rfl) (by kernel_rfl) (by kernel_rfl) rfl (fun W hS => ?_) ⟨OA, OR⟩ ?_
              rotate_left
              · conv => lhs; simp [go_sem]
                first | done | exact rfl
              simp only [Act.put, List.setIfInBounds_toArray, List.set_cons_zero, List.set_cons_succ]
              refine tree_pure (i := 8) (v := ?_) rfl rfl (by kernel_rfl) (by kernel_rfl) (by kernel_rfl) rfl (fun W hS => ?_) ⟨OA, OR⟩ ?_
              rotate_left
              · conv => lhs; simp [go_sem]
                first | done | exact rfl
              simp only [Act.put, List.setIfInBounds_toArray, List.set_cons_zero, List.set_cons_succ]
              refine tree_pure (i := 9) (v := ?_) rfl rfl (by kernel_rfl) (by kernel_rfl) (by kernel_rfl) rfl (fun W hS => ?_) ⟨OA, OR⟩ ?_
              rotate_left
              · conv => lhs; simp [go_sem]
                first | done | exact rfl
              simp only [Act.put, List.setIfInBounds_toArray, List.set_cons_zero, List.set_cons_succ]
              refine tree_one (i := 12) (by kernel_rfl) rfl ?_
              · refine ⟨_, rfl, fun K hK => ?_⟩
                have hfr := O8.at_
                obtain ⟨P1, P2, P3⟩ := hfr
                go_wp2
                clear P1 P2 P3
                refine hK _ _ ⟨(OA.apart (by omega) _ _).apart (by omega) _ _, (OR.apart (by omega) _ _).apart (by omega) _ _⟩ ?_
                clear hK K
                obtain ⟨W_12, hW⟩ : ∃ X, (W_8.setCell ⟨W_6.heap.size, 0, none⟩ (.bool s_q)).setCell ⟨W_6.heap.size, 1, none⟩ (.slice a_q l_q c_q) = X := ⟨_, rfl⟩
                have OA_ : Own W_12 w.heap.size 34 #[.int .u64 (L0 n), .int .u64 (L1 n), .int .u64 (L2 n), .int .u64 (L3 n), .int .u64 (L0 d), .int .u64 (L1 d), .int .u64 (L2 d), .int .u64 (L3 d)] := hW ▸ ((OA.apart (by omega) _ _).apart (by omega) _ _)
                have OR_ : Own W_12 (w.heap.size + 1) 23 #[.int .u64 0, .int .u64 0, .int .u64 0, .int .u64 0] := hW ▸ ((OR.apart (by omega) _ _).apart (by omega) _ _)
                have O9_ : Own W_12 W_5.heap.size 59 #[.bool false, .slice none 0 0] := hW ▸ ((O9.apart (by omega) _ _).apart (by omega) _ _)
                have O8_ : Own W_12 W_6.heap.size 59 #[.bool s_q, .slice a_q l_q c_q] := hW ▸ (((O8.put 0 _).put 1 _).as rfl)
                have NQ_ := hW ▸ (NQ.put (p := W_6.heap.size) (i := 0) (by omega) (.bool s_q)).put (p := W_6.heap.size) (i := 1) (by omega) (.slice a_q l_q c_q)
                have NR_ := hW ▸ (NR.put (p := W_6.heap.size) (i := 0) (by omega) (.bool s_q)).put (p := W_6.heap.size) (i := 1) (by omega) (.slice a_q l_q c_q)
                have hB_ : Below w.heap.size w W_12 := hW ▸ ((hB.setCell (by show w.heap.size ≤ W_6.heap.size; omega) _).setCell (by show w.heap.size ≤ W_6.heap.size; omega) _)
                rw [hW]
                clear hW
                clear OA OR O9 O8 NQ NR hB
                have OA := OA_
                have OR := OR_
                have O9 := O9_
                have O8 := O8_
                have NQ := NQ_
                have NR := NR_
                have hB := hB_
                clear OA_ OR_ O9_ O8_ NQ_ NR_ hB_
                refine tree_one (i := 13) (by kernel_rfl) rfl ?_
                · refine ⟨_, rfl, fun K hK => ?_⟩
                  have hfr := O9.at_
                  obtain ⟨P1, P2, P3⟩ := hfr
                  go_wp2
                  clear P1 P2 P3
                  refine hK _ _ ⟨(OA.apart (by omega) _ _).apart (by omega) _ _, (OR.apart (by omega) _ _).apart (by omega) _ _⟩ ?_
                  clear hK K
                  obtain ⟨W_13, hW⟩ : ∃ X, (W_12.setCell ⟨W_5.heap.size, 0, none⟩ (.bool s_r)).setCell ⟨W_5.heap.size, 1, none⟩ (.slice a_r l_r c_r) = X := ⟨_, rfl⟩
                  have OA_ : Own W_13 w.heap.size 34 #[.int .u64 (L0 n), .int .u64 (L1 n), .int .u64 (L2 n), .int .u64 (L3 n), .int .u64 (L0 d), .int .u64 (L1 d), .int .u64 (L2 d), .int .u64 (L3 d)] := hW ▸ ((OA.apart (by omega) _ _).apart (by omega) _ _)
                  have OR_ : Own W_13 (w.heap.size + 1) 23 #[.int .u64 0, .int .u64 0, .int .u64 0, .int .u64 0] := hW ▸ ((OR.apart (by omega) _ _).apart (by omega) _ _)
                  have O9_ : Own W_13 W_5.heap.size 59 #[.bool s_r, .slice a_r l_r c_r] := hW ▸ (((O9.put 0 _).put 1 _).as rfl)
                  have O8_ : Own W_13 W_6.heap.size 59 #[.bool s_q, .slice a_q l_q c_q] := hW ▸ ((O8.apart (by omega) _ _).apart (by omega) _ _)
                  have NQ_ := hW ▸ (NQ.put (p := W_5.heap.size) (i := 0) (by omega) (.bool s_r)).put (p := W_5.heap.size) (i := 1) (by omega) (.slice a_r l_r c_r)
                  have NR_ := hW ▸ (NR.put (p := W_5.heap.size) (i := 0) (by omega) (.bool s_r)).put (p := W_5.heap.size) (i := 1) (by omega) (.slice a_r l_r c_r)
                  have hB_ : Below w.heap.size w W_13 := hW ▸ ((hB.setCell (by show w.heap.size ≤ W_5.heap.size; omega) _).setCell (by show w.heap.size ≤ W_5.heap.size; omega) _)
                  rw [hW]
                  clear hW
                  clear OA OR O9 O8 NQ NR hB
                  have OA := OA_
                  have OR := OR_
                  have O9 := O9_
                  have O8 := O8_
                  have NQ := NQ_
                  have NR := NR_
                  have hB := hB_
                  clear OA_ OR_ O9_ O8_ NQ_ NR_ hB_
                  refine tree_end (by kernel_rfl) ?_
                  go_wp2_with fail
                  go_meet
                  exact ⟨W_6.heap.size, W_5.heap.size, s_q, a_q, l_q, c_q, s_r, a_r, l_r, c_r, rfl, rfl, by omega, O8, O9, NQ.mono (fun _ _ _ => trivial), NR.mono (fun _ _ _ => trivial), OR, hB⟩
      · refine ⟨_, rfl, fun K hK => ?_⟩
        go_wp2
        refine hK _ _ ⟨OA.more _, OR.more _⟩ ?_
        clear hK K
        obtain ⟨W_5, hW⟩ : ∃ X, W_4.alloc (.cells #[.bool false, .slice none 0 0] 59) = X := ⟨_, rfl⟩
        have hb_5 : Below W_4.heap.size W_4 W_5 := hW ▸ (Below.refl _ _).alloc (Nat.le_refl _) _
        have O8_ : Own W_5 W_4.heap.size 59 #[.bool false, .slice none 0 0] := hW ▸ Own.made _ _ _
        have sz_5 := O8_.in_
        rw [hW]
        clear hW
        replace OA := OA.keep hb_5
        replace OR := OR.keep hb_5
        replace NX := NX.keep hb_5
        replace hB := then_ hB hb_5 hB.size
        clear hb_5
        have O8 := O8_
        clear O8_
        refine tree_two (i := 5) (k := 11) (by kernel_rfl) rfl rfl ?_ ?_
        · refine ⟨_, rfl, fun K hK => ?_⟩
          go_wp2_with (go_at_call 35; refine (FD.out W_5).mono ?_; rintro e W_6 ⟨v_, rfl, hn, hb_6⟩)
          have sz_6 := hb_6.size
          obtain ⟨s_y, a_y, l_y, c_y, rfl⟩ := hn.shape
          have NY := hn.mono (S' := fun b => W_5.heap.size ≤ b ∧ b < W_6.heap.size) (fun b h1 h2 => ⟨h2, h1⟩)
          clear hn
          replace OA := OA.keep hb_6
          replace OR := OR.keep hb_6
          replace O8 := O8.keep hb_6
          replace NX := NX.keep hb_6
          replace hB := then_ hB hb_6 hB.size
          refine hK _ _ ⟨OA, OR⟩ ?_
          clear hK K hb_6
          refine tree_two (i := 6) (k := 11) (by kernel_rfl) rfl rfl ?_ ?_
          · refine ⟨_, rfl, fun K hK => ?_⟩
            go_wp2_with (go_at_call 46; refine (div_num _ 0 0 _ _ n d W_6 NX (NY.num (T := 0) (C := 0) (fun b _ _ => .inr (Nat.zero_le _))) HZ.out LN.out LD.out).mono ?_; rintro e W_7 ⟨v_, v__, rfl, hq, hr, hb_7⟩)
            have sz_7 := hb_7.size
            obtain ⟨s_q, a_q, l_q, c_q, rfl⟩ := hq.shape
            obtain ⟨s_r, a_r, l_r, c_r, rfl⟩ := hr.shape
            have NQ := hq.mono (S' := fun b => W_6.heap.size ≤ b ∧ b < W_7.heap.size) (fun b h1 h2 => ⟨h2, h1⟩)
            have NR := hr.mono (S' := fun b => (((W_s.heap.size ≤ b ∧ b < W_4.heap.size) ∧ b < W_6.heap.size) ∨ W_6.heap.size ≤ b) ∧ b < W_7.heap.size) (fun b h1 h2 => ⟨h2, h1⟩)
            clear hq hr NX NY
            replace OA := OA.keep hb_7
            replace OR := OR.keep hb_7
            replace O8 := O8.keep hb_7
            replace hB := then_ hB hb_7 hB.size
            refine hK _ _ ⟨OA, OR⟩ ?_
            clear hK K hb_7
            refine tree_pure (i := 7) (v := ?_) rfl rfl (by kernel_rfl) (by kernel_rfl) (by kernel_rfl) rfl (fun W hS => ?_) ⟨OA, OR⟩ ?_
            rotate_left
            · conv => lhs; simp [go_sem]
              first | done | exact rfl
            simp only [Act.put, List.setIfInBounds_toArray, List.set_cons_zero, List.set_cons_succ]
            refine tree_pure (i := 8) (v := ?_) rfl rfl (by kernel_rfl) (by kernel_rfl) (by kernel_rfl) rfl (fun W hS => ?_) ⟨OA, OR⟩ ?_
            rotate_left
            · conv => lhs; simp [go_sem]
              first | done | exact rfl
            simp only [Act.put, List.setIfInBounds_toArray, List.set_cons_zero, List.set_cons_succ]
            refine tree_pure (i := 9) (v := ?_) rfl rfl (by kernel_rfl) (by kernel_rfl) (by kernel_rfl) rfl (fun W hS => ?_) ⟨OA, OR⟩ ?_
            rotate_left
            · conv => lhs; simp [go_sem]
              first | done | exact rfl
            simp only [Act.put, List.setIfInBounds_toArray, List.set_cons_zero, List.set_cons_succ]
            refine tree_one (i := 11) (by kernel_rfl) rfl ?_
            · refine ⟨_, rfl, fun K hK => ?_⟩
              go_wp2
              refine hK _ _ ⟨OA.more _, OR.more _⟩ ?_
              clear hK K
              obtain ⟨W_11, hW⟩ : ∃ X, W_7.alloc (.cells #[.bool false, .slice none 0 0] 59) = X := ⟨_, rfl⟩
              have hb_11 : Below W_7.heap.size W_7 W_11 := hW ▸ (Below.refl _ _).alloc (Nat.le_refl _) _
              have O9_ : Own W_11 W_7.heap.size 59 #[.bool false, .slice none 0 0] := hW ▸ Own.made _ _ _
              have sz_11 := O9_.in_
              rw [hW]
              clear hW
              replace OA := OA.keep hb_11
              replace OR := OR.keep hb_11
              replace O8 := O8.keep hb_11
              replace NQ := NQ.keep hb_11
              replace NR := NR.keep hb_11
              replace hB := then_ hB hb_11 hB.size
              clear hb_11
              have O9 := O9_
              clear O9_
              refine tree_one (i := 12) (by kernel_rfl) rfl ?_
              · refine ⟨_, rfl, fun K hK => ?_⟩
                have hfr := O8.at_
                obtain ⟨P1, P2, P3⟩ := hfr
                go_wp2
                clear P1 P2 P3
                refine hK _ _ ⟨(OA.apart (by omega) _ _).apart (by omega) _ _, (OR.apart (by omega) _ _).apart (by omega) _ _⟩ ?_
                clear hK K
                obtain ⟨W_12, hW⟩ : ∃ X, (W_11.setCell ⟨W_4.heap.size, 0, none⟩ (.bool s_q)).setCell ⟨W_4.heap.size, 1, none⟩ (.slice a_q l_q c_q) = X := ⟨_, rfl⟩
                have OA_ : Own W_12 w.heap.size 34 #[.int .u64 (L0 n), .int .u64 (L1 n), .int .u64 (L2 n), .int .u64 (L3 n), .int .u64 (L0 d), .int .u64 (L1 d), .int .u64 (L2 d), .int .u64 (L3 d)] := hW ▸ ((OA.apart (by omega) _ _).apart (by omega) _ _)
                have OR_ : Own W_12 (w.heap.size + 1) 23 #[.int .u64 0, .int .u64 0, .int .u64 0, .int .u64 0] := hW ▸ ((OR.apart (by omega) _ _).apart (by omega) _ _)
                have O8_ : Own W_12 W_4.heap.size 59 #[.bool s_q, .slice a_q l_q c_q] := hW ▸ (((O8.put 0 _).put 1 _).as rfl)
                have O9_ : Own W_12 W_7.heap.size 59 #[.bool false, .slice none 0 0] := hW ▸ ((O9.apart (by omega) _ _).apart (by omega) _ _)
                have NQ_ := hW ▸ (NQ.put (p := W_4.heap.size) (i := 0) (by omega) (.bool s_q)).put (p := W_4.heap.size) (i := 1) (by omega) (.slice a_q l_q c_q)
                have NR_ := hW ▸ (NR.put (p := W_4.heap.size) (i := 0) (by omega) (.bool s_q)).put (p := W_4.heap.size) (i := 1) (by omega) (.slice a_q l_q c_q)
                have hB_ : Below w.heap.size w W_12 := hW ▸ ((hB.setCell (by show w.heap.size ≤ W_4.heap.size; omega) _).setCell (by show w.heap.size ≤ W_4.heap.size; omega) _)
                rw [hW]
                clear hW
                clear OA OR O8 O9 NQ NR hB
                have OA := OA_
                have OR := OR_
                have O8 := O8_
                have O9 := O9_
                have NQ := NQ_
                have NR := NR_
                have hB := hB_
                clear OA_ OR_ O8_ O9_ NQ_ NR_ hB_
                refine tree_one (i := 13) (by kernel_rfl) rfl ?_
                · refine ⟨_, rfl, fun K hK => ?_⟩
                  have hfr := O9.at_
                  obtain ⟨P1, P2, P3⟩ := hfr
                  go_wp2
                  clear P1 P2 P3
                  refine hK _ _ ⟨(OA.apart (by omega) _ _).apart (by omega) _ _, (OR.apart (by omega) _ _).apart (by omega) _ _⟩ ?_
                  clear hK K
                  obtain ⟨W_13, hW⟩ : ∃ X, (W_12.setCell ⟨W_7.heap.size, 0, none⟩ (.bool s_r)).setCell ⟨W_7.heap.size, 1, none⟩ (.slice a_r l_r c_r) = X := ⟨_, rfl⟩
                  have OA_ : Own W_13 w.heap.size 34 #[.int .u64 (L0 n), .int .u64 (L1 n), .int .u64 (L2 n), .int .u64 (L3 n), .int .u64 (L0 d), .int .u64 (L1 d), .int .u64 (L2 d), .int .u64 (L3 d)] := hW ▸ ((OA.apart (by omega) _ _).apart (by omega) _ _)
                  have OR_ : Own W_13 (w.heap.size + 1) 23 #[.int .u64 0, .int .u64 0, .int .u64 0, .int .u64 0] := hW ▸ ((OR.apart (by omega) _ _).apart (by omega) _ _)
                  have O8_ : Own W_13 W_4.heap.size 59 #[.bool s_q, .slice a_q l_q c_q] := hW ▸ ((O8.apart (by omega) _ _).apart (by omega) _ _)
                  have O9_ : Own W_13 W_7.heap.size 59 #[.bool s_r, .slice a_r l_r c_r] := hW ▸ (((O9.put 0 _).put 1 _).as rfl)
                  have NQ_ := hW ▸ (NQ.put (p := W_7.heap.size) (i := 0) (by omega) (.bool s_r)).put (p := W_7.heap.size) (i := 1) (by omega) (.slice a_r l_r c_r)
                  have NR_ := hW ▸ (NR.put (p := W_7.heap.size) (i := 0) (by omega) (.bool s_r)).put (p := W_7.heap.size) (i := 1) (by omega) (.slice a_r l_r c_r)
                  have hB_ : Below w.heap.size w W_13 := hW ▸ ((hB.setCell (by show w.heap.size ≤ W_7.heap.size; omega) _).setCell (by show w.heap.size ≤ W_7.heap.size; omega) _)
                  rw [hW]
                  clear hW
                  clear OA OR O8 O9 NQ NR hB
                  have OA := OA_
                  have OR := OR_
                  have O8 := O8_
                  have O9 := O9_
                  have NQ := NQ_
                  have NR := NR_
                  have hB := hB_
                  clear OA_ OR_ O8_ O9_ NQ_ NR_ hB_
                  refine tree_end (by kernel_rfl) ?_
                  go_wp2_with fail
                  go_meet
                  exact ⟨W_4.heap.size, W_7.heap.size, s_q, a_q, l_q, c_q, s_r, a_r, l_r, c_r, rfl, rfl, by omega, O8, O9, NQ.mono (fun _ _ _ => trivial), NR.mono (fun _ _ _ => trivial), OR, hB⟩
          · refine ⟨_, rfl, fun K hK => ?_⟩
            go_wp2
            refine hK _ _ ⟨OA.more _, OR.more _⟩ ?_
            clear hK K
            obtain ⟨W_7, hW⟩ : ∃ X, W_6.alloc (.cells #[.bool false, .slice none 0 0] 59) = X := ⟨_, rfl⟩
            have hb_7 : Below W_6.heap.size W_6 W_7 := hW ▸ (Below.refl _ _).alloc (Nat.le_refl _) _
            have O9_ : Own W_7 W_6.heap.size 59 #[.bool false, .slice none 0 0] := hW ▸ Own.made _ _ _
            have sz_7 := O9_.in_
            rw [hW]
            clear hW
            replace OA := OA.keep hb_7
            replace OR := OR.keep hb_7
            replace O8 := O8.keep hb_7
            replace NX := NX.keep hb_7
            replace NY := NY.keep hb_7
            replace hB := then_ hB hb_7 hB.size
            clear hb_7
            have O9 := O9_
            clear O9_
            refine tree_one (i := 6) (by kernel_rfl) rfl ?_
            · refine ⟨_, rfl, fun K hK => ?_⟩
              go_wp2_with (go_at_call 46; refine (div_num _ 0 0 _ _ n d W_7 NX (NY.num (T := 0) (C := 0) (fun b _ _ => .inr (Nat.zero_le _))) HZ.out LN.out LD.out).mono ?_; rintro e W_8 ⟨v_, v__, rfl, hq, hr, hb_8⟩)
              have sz_8 := hb_8.size
              obtain ⟨s_q, a_q, l_q, c_q, rfl⟩ := hq.shape
              obtain ⟨s_r, a_r, l_r, c_r, rfl⟩ := hr.shape
              have NQ := hq.mono (S' := fun b => W_7.heap.size ≤ b ∧ b < W_8.heap.size) (fun b h1 h2 => ⟨h2, h1⟩)
              have NR := hr.mono (S' := fun b => (((W_s.heap.size ≤ b ∧ b < W_4.heap.size) ∧ b < W_7.heap.size) ∨ W_7.heap.size ≤ b) ∧ b < W_8.heap.size) (fun b h1 h2 => ⟨h2, h1⟩)
              clear hq hr NX NY
              replace OA := OA.keep hb_8
              replace OR := OR.keep hb_8
              replace O8 := O8.keep hb_8
              replace O9 := O9.keep hb_8
              replace hB := then_ hB hb_8 hB.size
              refine hK _ _ ⟨OA, OR⟩ ?_
              clear hK K hb_8
              refine tree_pure (i := 7) (v := ?_) rfl rfl (by kernel_rfl) (by kernel_rfl) (by kernel_rfl) rfl (fun W hS => ?_) ⟨OA, OR⟩ ?_
              rotate_left
              · conv => lhs; simp [go_sem]
                first | done | exact rfl
              simp only [Act.put, List.setIfInBounds_toArray, List.set_cons_zero, List.set_cons_succ]
              refine tree_pure (i := 8) (v := ?_) rfl rfl (by kernel_rfl) (by kernel_rfl) (by kernel_rfl) rfl (fun W hS => ?_) ⟨OA, OR⟩ ?_
              rotate_left
              · conv => lhs; simp [go_sem]
                first | done | exact rfl
              simp only [Act.put, List.setIfInBounds_toArray, List.set_cons_zero, List.set_cons_succ]
              refine tree_pure (i := 9) (v := ?_) rfl rfl (by kernel_rfl) (by kernel_rfl) (by kernel_rfl) rfl (fun W hS => ?_) ⟨OA, OR⟩ ?_
              rotate_left
              · conv => lhs; simp [go_sem]
                first | done | exact rfl
              simp only [Act.put, List.setIfInBounds_toArray, List.set_cons_zero, List.set_cons_succ]
              refine tree_one (i := 12) (by kernel_rfl) rfl ?_
              · refine ⟨_, rfl, fun K hK => ?_⟩
                have hfr := O8.at_
                obtain ⟨P1, P2, P3⟩ := hfr
                go_wp2
                clear P1 P2 P3
                refine hK _ _ ⟨(OA.apart (by omega) _ _).apart (by omega) _ _, (OR.apart (by omega) _ _).apart (by omega) _ _⟩ ?_
                clear hK K
                obtain ⟨W_12, hW⟩ : ∃ X, (W_8.setCell ⟨W_4.heap.size, 0, none⟩ (.bool s_q)).setCell ⟨W_4.heap.size, 1, none⟩ (.slice a_q l_q c_q) = X := ⟨_, rfl⟩
                have OA_ : Own W_12 w.heap.size 34 #[.int .u64 (L0 n), .int .u64 (L1 n), .int .u64 (L2 n), .int .u64 (L3 n), .int .u64 (L0 d), .int .u64 (L1 d), .int .u64 (L2 d), .int .u64 (L3 d)] := hW ▸ ((OA.apart (by omega) _ _).apart (by omega) _ _)
                have OR_ : Own W_12 (w.heap.size + 1) 23 #[.int .u64 0, .int .u64 0, .int .u64 0, .int .u64 0] := hW ▸ ((OR.apart (by omega) _ _).apart (by omega) _ _)
                have O8_ : Own W_12 W_4.heap.size 59 #[.bool s_q, .slice a_q l_q c_q] := hW ▸ (((O8.put 0 _).put 1 _).as rfl)
                have O9_ : Own W_12 W_6.heap.size 59 #[.bool false, .slice none 0 0] := hW ▸ ((O9.apart (by omega) _ _).apart (by omega) _ _)
                have NQ_ := hW ▸ (NQ.put (p := W_4.heap.size) (i := 0) (by omega) (.bool s_q)).put (p := W_4.heap.size) (i := 1) (by omega) (.slice a_q l_q c_q)
                have NR_ := hW ▸ (NR.put (p := W_4.heap.size) (i := 0) (by omega) (.bool s_q)).put (p := W_4.heap.size) (i := 1) (by omega) (.slice a_q l_q c_q)
                have hB_ : Below w.heap.size w W_12 := hW ▸ ((hB.setCell (by show w.heap.size ≤ W_4.heap.size; omega) _).setCell (by show w.heap.size ≤ W_4.heap.size; omega) _)
                rw [hW]
                clear hW
                clear OA OR O8 O9 NQ NR hB
                have OA := OA_
                have OR := OR_
                have O8 := O8_
                have O9 := O9_
                have NQ := NQ_
                have NR := NR_
                have hB := hB_
                clear OA_ OR_ O8_ O9_ NQ_ NR_ hB_
                refine tree_one (i := 13) (by kernel_rfl) rfl ?_
                · refine ⟨_, rfl, fun K hK => ?_⟩
                  have hfr := O9.at_
                  obtain ⟨P1, P2, P3⟩ := hfr
                  go_wp2
                  clear P1 P2 P3
                  refine hK _ _ ⟨(OA.apart (by omega) _ _).apart (by omega) _ _, (OR.apart (by omega) _ _).apart (by omega) _ _⟩ ?_
                  clear hK K
                  obtain ⟨W_13, hW⟩ : ∃ X, (W_12.setCell ⟨W_6.heap.size, 0, none⟩ (.bool s_r)).setCell ⟨W_6.heap.size, 1, none⟩ (.slice a_r l_r c_r) = X := ⟨_, rfl⟩
                  have OA_ : Own W_13 w.heap.size 34 #[.int .u64 (L0 n), .int .u64 (L1 n), .int .u64 (L2 n), .int .u64 (L3 n), .int .u64 (L0 d), .int .u64 (L1 d), .int .u64 (L2 d), .int .u64 (L3 d)] := hW ▸ ((OA.apart (by omega) _ _).apart (by omega) _ _)
                  have OR_ : Own W_13 (w.heap.size + 1) 23 #[.int .u64 0, .int .u64 0, .int .u64 0, .int .u64 0] := hW ▸ ((OR.apart (by omega) _ _).apart (by omega) _ _)
                  have O8_ : Own W_13 W_4.heap.size 59 #[.bool s_q, .slice a_q l_q c_q] := hW ▸ ((O8.apart (by omega) _ _).apart (by omega) _ _)
                  have O9_ : Own W_13 W_6.heap.size 59 #[.bool s_r, .slice a_r l_r c_r] := hW ▸ (((O9.put 0 _).put 1 _).as rfl)
                  have NQ_ := hW ▸ (NQ.put (p := W_6.heap.size) (i := 0) (by omega) (.bool s_r)).put (p := W_6.heap.size) (i := 1) (by omega) (.slice a_r l_r c_r)
                  have NR_ := hW ▸ (NR.put (p := W_6.heap.size) (i := 0) (by omega) (.bool s_r)).put (p := W_6.heap.size) (i := 1) (by omega) (.slice a_r l_r c_r)
                  have hB_ : Below w.heap.size w W_13 := hW ▸ ((hB.setCell (by show w.heap.size ≤ W_6.heap.size; omega) _).setCell (by show w.heap.size ≤ W_6.heap.size; omega) _)
                  rw [hW]
                  clear hW
                  clear OA OR O8 O9 NQ NR hB
                  have OA := OA_
                  have OR := OR_
                  have O8 := O8_
                  have O9 := O9_
                  have NQ := NQ_
                  have NR := NR_
                  have hB := hB_
                  clear OA_ OR_ O8_ O9_ NQ_ NR_ hB_
                  refine tree_end (by kernel_rfl) ?_
                  go_wp2_with fail
                  go_meet
                  exact ⟨W_4.heap.size, W_6.heap.size, s_q, a_q, l_q, c_q, s_r, a_r, l_r, c_r, rfl, rfl, by omega, O8, O9, NQ.mono (fun _ _ _ => trivial), NR.mono (fun _ _ _ => trivial), OR, hB⟩
        · refine ⟨_, rfl, fun K hK => ?_⟩
          go_wp2
          refine hK _ _ ⟨OA.more _, OR.more _⟩ ?_
          clear hK K
          obtain ⟨W_6, hW⟩ : ∃ X, W_5.alloc (.cells #[.bool false, .slice none 0 0] 59) = X := ⟨_, rfl⟩
          have hb_6 : Below W_5.heap.size W_5 W_6 := hW ▸ (Below.refl _ _).alloc (Nat.le_refl _) _
          have O9_ : Own W_6 W_5.heap.size 59 #[.bool false, .slice none 0 0] := hW ▸ Own.made _ _ _
          have sz_6 := O9_.in_
          rw [hW]
          clear hW
          replace OA := OA.keep hb_6
          replace OR := OR.keep hb_6
          replace O8 := O8.keep hb_6
          replace NX := NX.keep hb_6
          replace hB := then_ hB hb_6 hB.size
          clear hb_6
          have O9 := O9_
          clear O9_
          refine tree_one (i := 5) (by kernel_rfl) rfl ?_
          · refine ⟨_, rfl, fun K hK => ?_⟩
            go_wp2_with (go_at_call 35; refine (FD.out W_6).mono ?_; rintro e W_7 ⟨v_, rfl, hn, hb_7⟩)
            have sz_7 := hb_7.size
            obtain ⟨s_y, a_y, l_y, c_y, rfl⟩ := hn.shape
            have NY := hn.mono (S' := fun b => W_6.heap.size ≤ b ∧ b < W_7.heap.size) (fun b h1 h2 => ⟨h2, h1⟩)
            clear hn
            replace OA := OA.keep hb_7
            replace OR := OR.keep hb_7
            replace O8 := O8.keep hb_7
            replace O9 := O9.keep hb_7
            replace NX := NX.keep hb_7
            replace hB := then_ hB hb_7 hB.size
            refine hK _ _ ⟨OA, OR⟩ ?_
            clear hK K hb_7
            refine tree_one (i := 6) (by kernel_rfl) rfl ?_
            · refine ⟨_, rfl, fun K hK => ?_⟩
              go_wp2_with (go_at_call 46; refine (div_num _ 0 0 _ _ n d W_7 NX (NY.num (T := 0) (C := 0) (fun b _ _ => .inr (Nat.zero_le _))) HZ.out LN.out LD.out).mono ?_; rintro e W_8 ⟨v_, v__, rfl, hq, hr, hb_8⟩)
              have sz_8 := hb_8.size
              obtain ⟨s_q, a_q, l_q, c_q, rfl⟩ := hq.shape
              obtain ⟨s_r, a_r, l_r, c_r, rfl⟩ := hr.shape
              have NQ := hq.mono (S' := fun b => W_7.heap.size ≤ b ∧ b < W_8.heap.size) (fun b h1 h2 => ⟨h2, h1⟩)
              have NR := hr.mono (S' := fun b => (((W_s.heap.size ≤ b ∧ b < W_4.heap.size) ∧ b < W_7.heap.size) ∨ W_7.heap.size ≤ b) ∧ b < W_8.heap.size) (fun b h1 h2 => ⟨h2, h1⟩)
              clear hq hr NX NY
              replace OA := OA.keep hb_8
              replace OR := OR.keep hb_8
              replace O8 := O8.keep hb_8
              replace O9 := O9.keep hb_8
              replace hB := then_ hB hb_8 hB.size
              refine hK _ _ ⟨OA, OR⟩ ?_
              clear hK K hb_8
              refine tree_pure (i := 7) (v := ?_) rfl rfl (by kernel_rfl) (by kernel_rfl) (by kernel_rfl) rfl (fun W hS => ?_) ⟨OA, OR⟩ ?_
              rotate_left
              · conv => lhs; simp [go_sem]
                first | done | exact rfl
              simp only [Act.put, List.setIfInBounds_toArray, List.set_cons_zero, List.set_cons_succ]
              refine tree_pure (i := 8) (v := ?_) rfl rfl (by kernel_rfl) (by kernel_rfl) (by kernel_rfl) rfl (fun W hS => ?_) ⟨OA, OR⟩ ?_
              rotate_left
              · conv => lhs; simp [go_sem]
                first | done | exact rfl
              simp only [Act.put, List.setIfInBounds_toArray, List.set_cons_zero, List.set_cons_succ]
              refine tree_pure (i := 9) (v := ?_) rfl rfl (by kernel_rfl) (by kernel_rfl) (by kernel_rfl) rfl (fun W hS => ?_) ⟨OA, OR⟩ ?_
              rotate_left
              · conv => lhs; simp [go_sem]
                first | done | exact rfl
              simp only [Act.put, List.setIfInBounds_toArray, List.set_cons_zero, List.set_cons_succ]
              refine tree_one (i := 12) (by kernel_rfl) rfl ?_
              · refine ⟨_, rfl, fun K hK => ?_⟩
                have hfr := O8.at_
                obtain ⟨P1, P2, P3⟩ := hfr
                go_wp2
                clear P1 P2 P3
                refine hK _ _ ⟨(OA.apart (by omega) _ _).apart (by omega) _ _, (OR.apart (by omega) _ _).apart (by omega) _ _⟩ ?_
                clear hK K
                obtain ⟨W_12, hW⟩ : ∃ X, (W_8.setCell ⟨W_4.heap.size, 0, none⟩ (.bool s_q)).setCell ⟨W_4.heap.size, 1, none⟩ (.slice a_q l_q c_q) = X := ⟨_, rfl⟩
                have OA_ : Own W_12 w.heap.size 34 #[.int .u64 (L0 n), .int .u64 (L1 n), .int .u64 (L2 n), .int .u64 (L3 n), .int .u64 (L0 d), .int .u64 (L1 d), .int .u64 (L2 d), .int .u64 (L3 d)] := hW ▸ ((OA.apart (by omega) _ _).apart (by omega) _ _)
                have OR_ : Own W_12 (w.heap.size + 1) 23 #[.int .u64 0, .int .u64 0, .int .u64 0, .int .u64 0] := hW ▸ ((OR.apart (by omega) _ _).apart (by omega) _ _)
                have O8_ : Own W_12 W_4.heap.size 59 #[.bool s_q, .slice a_q l_q c_q] := hW ▸ (((O8.put 0 _).put 1 _).as rfl)
                have O9_ : Own W_12 W_5.heap.size 59 #[.bool false, .slice none 0 0] := hW ▸ ((O9.apart (by omega) _ _).apart (by omega) _ _)
                have NQ_ := hW ▸ (NQ.put (p := W_4.heap.size) (i := 0) (by omega) (.bool s_q)).put (p := W_4.heap.size) (i := 1) (by omega) (.slice a_q l_q c_q)
                have NR_ := hW ▸ (NR.put (p := W_4.heap.size) (i := 0) (by omega) (.bool s_q)).put (p := W_4.heap.size) (i := 1) (by omega) (.slice a_q l_q c_q)
                have hB_ : Below w.heap.size w W_12 := hW ▸ ((hB.setCell (by show w.heap.size ≤ W_4.heap.size; omega) _).setCell (by show w.heap.size ≤ W_4.heap.size; omega) _)
                rw [hW]
                clear hW
                clear OA OR O8 O9 NQ NR hB
                have OA := OA_
                have OR := OR_
                have O8 := O8_
                have O9 := O9_
                have NQ := NQ_
                have NR := NR_
                have hB := hB_
                clear OA_ OR_ O8_ O9_ NQ_ NR_ hB_
                refine tree_one (i := 13) (by kernel_rfl) rfl ?_
                · refine ⟨_, rfl, fun K hK => ?_⟩
                  have hfr := O9.at_
                  obtain ⟨P1, P2, P3⟩ := hfr
                  go_wp2
                  clear P1 P2 P3
                  refine hK _ _ ⟨(OA.apart (by omega) _ _).apart (by omega) _ _, (OR.apart (by omega) _ _).apart (by omega) _ _⟩ ?_
                  clear hK K
                  obtain ⟨W_13, hW⟩ : ∃ X, (W_12.setCell ⟨W_5.heap.size, 0, none⟩ (.bool s_r)).setCell ⟨W_5.heap.size, 1, none⟩ (.slice a_r l_r c_r) = X := ⟨_, rfl⟩
                  have OA_ : Own W_13 w.heap.size 34 #[.int .u64 (L0 n), .int .u64 (L1 n), .int .u64 (L2 n), .int .u64 (L3 n), .int .u64 (L0 d), .int .u64 (L1 d), .int .u64 (L2 d), .int .u64 (L3 d)] := hW ▸ ((OA.apart (by omega) _ _).apart (by omega) _ _)
                  have OR_ : Own W_13 (w.heap.size + 1) 23 #[.int .u64 0, .int .u64 0, .int .u64 0, .int .u64 0] := hW ▸ ((OR.apart (by omega) _ _).apart (by omega) _ _)
                  have O8_ : Own W_13 W_4.heap.size 59 #[.bool s_q, .slice a_q l_q c_q] := hW ▸ ((O8.apart (by omega) _ _).apart (by omega) _ _)
                  have O9_ : Own W_13 W_5.heap.size 59 #[.bool s_r, .slice a_r l_r c_r] := hW ▸ (((O9.put 0 _).put 1 _).as rfl)
                  have NQ_ := hW ▸ (NQ.put (p := W_5.heap.size) (i := 0) (by omega) (.bool s_r)).put (p := W_5.heap.size) (i := 1) (by omega) (.slice a_r l_r c_r)
                  have NR_ := hW ▸ (NR.put (p := W_5.heap.size) (i := 0) (by omega) (.bool s_r)).put (p := W_5.heap.size) (i := 1) (by omega) (.slice a_r l_r c_r)
                  have hB_ : Below w.heap.size w W_13 := hW ▸ ((hB.setCell (by show w.heap.size ≤ W_5.heap.size; omega) _).setCell (by show w.heap.size ≤ W_5.heap.size; omega) _)
                  rw [hW]
                  clear hW
                  clear OA OR O8 O9 NQ NR hB
                  have OA := OA_
                  have OR := OR_
                  have O8 := O8_
                  have O9 := O9_
                  have NQ := NQ_
                  have NR := NR_
                  have hB := hB_
                  clear OA_ OR_ O8_ O9_ NQ_ NR_ hB_
                  refine tree_end (by kernel_rfl) ?_
                  go_wp2_with fail
                  go_meet
                  exact ⟨W_4.heap.size, W_5.heap.size, s_q, a_q, l_q, c_q, s_r, a_r, l_r, c_r, rfl, rfl, by omega, O8, O9, NQ.mono (fun _ _ _ => trivial), NR.mono (fun _ _ _ => trivial), OR, hB⟩
      · refine ⟨_, rfl, fun K hK => ?_⟩
        go_wp2
        refine hK _ _ ⟨OA.more _, OR.more _⟩ ?_
        clear hK K
        obtain ⟨W_5, hW⟩ : ∃ X, W_4.alloc (.cells #[.bool false, .slice none 0 0] 59) = X := ⟨_, rfl⟩
        have hb_5 : Below W_4.heap.size W_4 W_5 := hW ▸ (Below.refl _ _).alloc (Nat.le_refl _) _
        have O9_ : Own W_5 W_4.heap.size 59 #[.bool false, .slice none 0 0] := hW ▸ Own.made _ _ _
        have sz_5 := O9_.in_
        rw [hW]
        clear hW
        replace OA := OA.keep hb_5
        replace OR := OR.keep hb_5
        replace NX := NX.keep hb_5
        replace hB := then_ hB hb_5 hB.size
        clear hb_5
        have O9 := O9_
        clear O9_
        refine tree_two (i := 5) (k := 10) (by kernel_rfl) rfl rfl ?_ ?_
        · refine ⟨_, rfl, fun K hK => ?_⟩
          go_wp2_with (go_at_call 35; refine (FD.out W_5).mono ?_; rintro e W_6 ⟨v_, rfl, hn, hb_6⟩)
          have sz_6 := hb_6.size
          obtain ⟨s_y, a_y, l_y, c_y, rfl⟩ := hn.shape
          have NY := hn.mono (S' := fun b => W_5.heap.size ≤ b ∧ b < W_6.heap.size) (fun b h1 h2 => ⟨h2, h1⟩)
          clear hn
          replace OA := OA.keep hb_6
          replace OR := OR.keep hb_6
          replace O9 := O9.keep hb_6
          replace NX := NX.keep hb_6
          replace hB := then_ hB hb_6 hB.size
          refine hK _ _ ⟨OA, OR⟩ ?_
          clear hK K hb_6
          refine tree_two (i := 6) (k := 10) (by kernel_rfl) rfl rfl ?_ ?_
          · refine ⟨_, rfl, fun K hK => ?_⟩
            go_wp2_with (go_at_call 46; refine (div_num _ 0 0 _ _ n d W_6 NX (NY.num (T := 0) (C := 0) (fun b _ _ => .inr (Nat.zero_le _))) HZ.out LN.out LD.out).mono ?_; rintro e W_7 ⟨v_, v__, rfl, hq, hr, hb_7⟩)
            have sz_7 := hb_7.size
            obtain ⟨s_q, a_q, l_q, c_q, rfl⟩ := hq.shape
            obtain ⟨s_r, a_r, l_r, c_r, rfl⟩ := hr.shape
            have NQ := hq.mono (S' := fun b => W_6.heap.size ≤ b ∧ b < W_7.heap.size) (fun b h1 h2 => ⟨h2, h1⟩)
            have NR := hr.mono (S' := fun b => (((W_s.heap.size ≤ b ∧ b < W_4.heap.size) ∧ b < W_6.heap.size) ∨ W_6.heap.size ≤ b) ∧ b < W_7.heap.size) (fun b h1 h2 => ⟨h2, h1⟩)
            clear hq hr NX NY
            replace OA := OA.keep hb_7
            replace OR := OR.keep hb_7
            replace O9 := O9.keep hb_7
            replace hB := then_ hB hb_7 hB.size
            refine hK _ _ ⟨OA, OR⟩ ?_
            clear hK K hb_7
            refine tree_pure (i := 7) (v := ?_) rfl rfl (by kernel_rfl) (by kernel_rfl) (by kernel_rfl) rfl (fun W hS => ?_) ⟨OA, OR⟩ ?_
            rotate_left
            · conv => lhs; simp [go_sem]
              first | done | exact rfl
            simp only [Act.put, List.setIfInBounds_toArray, List.set_cons_zero, List.set_cons_succ]
            refine tree_pure (i := 8) (v := ?_) rfl rfl (by kernel_rfl) (by kernel_rfl) (by kernel_rfl) rfl (fun W hS => ?_) ⟨OA, OR⟩ ?_
            rotate_left
            · conv => lhs; simp [go_sem]
              first | done | exact rfl
            simp only [Act.put, List.setIfInBounds_toArray, List.set_cons_zero, List.set_cons_succ]
            refine tree_pure (i := 9) (v := ?_) rfl rfl (by kernel_rfl) (by kernel_rfl) (by kernel_rfl) rfl (fun W hS => ?_) ⟨OA, OR⟩ ?_
            rotate_left
            · conv => lhs; simp [go_sem]
              first | done | exact rfl
            simp only [Act.put, List.setIfInBounds_toArray, List.set_cons_zero, List.set_cons_succ]
            refine tree_one (i := 10) (by kernel_rfl) rfl ?_
            · refine ⟨_, rfl, fun K hK => ?_⟩
              go_wp2
              refine hK _ _ ⟨OA.more _, OR.more _⟩ ?_
              clear hK K
              obtain ⟨W_11, hW⟩ : ∃ X, W_7.alloc (.cells #[.bool false, .slice none 0 0] 59) = X := ⟨_, rfl⟩
              have hb_11 : Below W_7.heap.size W_7 W_11 := hW ▸ (Below.refl _ _).alloc (Nat.le_refl _) _
              have O8_ : Own W_11 W_7.heap.size 59 #[.bool false, .slice none 0 0] := hW ▸ Own.made _ _ _
              have sz_11 := O8_.in_
              rw [hW]
              clear hW
              replace OA := OA.keep hb_11
              replace OR := OR.keep hb_11
              replace O9 := O9.keep hb_11
              replace NQ := NQ.keep hb_11
              replace NR := NR.keep hb_11
              replace hB := then_ hB hb_11 hB.size
              clear hb_11
              have O8 := O8_
              clear O8_
              refine tree_one (i := 12) (by kernel_rfl) rfl ?_
              · refine ⟨_, rfl, fun K hK => ?_⟩
                have hfr := O8.at_
                obtain ⟨P1, P2, P3⟩ := hfr
                go_wp2
                clear P1 P2 P3
                refine hK _ _ ⟨(OA.apart (by omega) _ _).apart (by omega) _ _, (OR.apart (by omega) _ _).apart (by omega) _ _⟩ ?_
                clear hK K
                obtain ⟨W_12, hW⟩ : ∃ X, (W_11.setCell ⟨W_7.heap.size, 0, none⟩ (.bool s_q)).setCell ⟨W_7.heap.size, 1, none⟩ (.slice a_q l_q c_q) = X := ⟨_, rfl⟩
                have OA_ : Own W_12 w.heap.size 34 #[.int .u64 (L0 n), .int .u64 (L1 n), .int .u64 (L2 n), .int .u64 (L3 n), .int .u64 (L0 d), .int .u64 (L1 d), .int .u64 (L2 d), .int .u64 (L3 d)] := hW ▸ ((OA.apart (by omega) _ _).apart (by omega) _ _)
                have OR_ : Own W_12 (w.heap.size + 1) 23 #[.int .u64 0, .int .u64 0, .int .u64 0, .int .u64 0] := hW ▸ ((OR.apart (by omega) _ _).apart (by omega) _ _)
                have O9_ : Own W_12 W_4.heap.size 59 #[.bool false, .slice none 0 0] := hW ▸ ((O9.apart (by omega) _ _).apart (by omega) _ _)
                have O8_ : Own W_12 W_7.heap.size 59 #[.bool s_q, .slice a_q l_q c_q] := hW ▸ (((O8.put 0 _).put 1 _).as rfl)
                have NQ_ := hW ▸ (NQ.put (p := W_7.heap.size) (i := 0) (by omega) (.bool s_q)).put (p := W_7.heap.size) (i := 1) (by omega) (.slice a_q l_q c_q)
                have NR_ := hW ▸ (NR.put (p := W_7.heap.size) (i := 0) (by omega) (.bool s_q)).put (p := W_7.heap.size) (i := 1) (by omega) (.slice a_q l_q c_q)
                have hB_ : Below w.heap.size w W_12 := hW ▸ ((hB.setCell (by show w.heap.size ≤ W_7.heap.size; omega) _).setCell (by show w.heap.size ≤ W_7.heap.size; omega) _)
                rw [hW]
                clear hW
                clear OA OR O9 O8 NQ NR hB
                have OA := OA_
                have OR := OR_
                have O9 := O9_
                have O8 := O8_
                have NQ := NQ_
                have NR := NR_
                have hB := hB_
                clear OA_ OR_ O9_ O8_ NQ_ NR_ hB_
                refine tree_one (i := 13) (by kernel_rfl) rfl ?_
                · refine ⟨_, rfl, fun K hK => ?_⟩
                  have hfr := O9.at_
                  obtain ⟨P1, P2, P3⟩ := hfr
                  go_wp2
                  clear P1 P2 P3
                  refine hK _ _ ⟨(OA.apart (by omega) _ _).apart (by omega) _ _, (OR.apart (by omega) _ _).apart (by omega) _ _⟩ ?_
                  clear hK K
                  obtain ⟨W_13, hW⟩ : ∃ X, (W_12.setCell ⟨W_4.heap.size, 0, none⟩ (.bool s_r)).setCell ⟨W_4.heap.size, 1, none⟩ (.slice a_r l_r c_r) = X := ⟨_, rfl⟩
                  have OA_ : Own W_13 w.heap.size 34 #[.int .u64 (L0 n), .int .u64 (L1 n), .int .u64 (L2 n), .int .u64 (L3 n), .int .u64 (L0 d), .int .u64 (L1 d), .int .u64 (L2 d), .int .u64 (L3 d)] := hW ▸ ((OA.apart (by omega) _ _).apart (by omega) _ _)
                  have OR_ : Own W_13 (w.heap.size + 1) 23 #[.int .u64 0, .int .u64 0, .int .u64 0, .int .u64 0] := hW ▸ ((OR.apart (by omega) _ _).apart (by omega) _ _)
                  have O9_ : Own W_13 W_4.heap.size 59 #[.bool s_r, .slice a_r l_r c_r] := hW ▸ (((O9.put 0 _).put 1 _).as rfl)
                  have O8_ : Own W_13 W_7.heap.size 59 #[.bool s_q, .slice a_q l_q c_q] := hW ▸ ((O8.apart (by omega) _ _).apart (by omega) _ _)
                  have NQ_ := hW ▸ (NQ.put (p := W_4.heap.size) (i := 0) (by omega) (.bool s_r)).put (p := W_4.heap.size) (i := 1) (by omega) (.slice a_r l_r c_r)
                  have NR_ := hW ▸ (NR.put (p := W_4.heap.size) (i := 0) (by omega) (.bool s_r)).put (p := W_4.heap.size) (i := 1) (by omega) (.slice a_r l_r c_r)
                  have hB_ : Below w.heap.size w W_13 := hW ▸ ((hB.setCell (by show w.heap.size ≤ W_4.heap.size; omega) _).setCell (by show w.heap.size ≤ W_4.heap.size; omega) _)
                  rw [hW]
                  clear hW
                  clear OA OR O9 O8 NQ NR hB
                  have OA := OA_
                  have OR := OR_
                  have O9 := O9_
                  have O8 := O8_
                  have NQ := NQ_
                  have NR := NR_
                  have hB := hB_
                  clear OA_ OR_ O9_ O8_ NQ_ NR_ hB_
                  refine tree_end (by kernel_rfl) ?_
                  go_wp2_with fail
                  go_meet
                  exact ⟨W_7.heap.size, W_4.heap.size, s_q, a_q, l_q, c_q, s_r, a_r, l_r, c_r, rfl, rfl, by omega, O8, O9, NQ.mono (fun _ _ _ => trivial), NR.mono (fun _ _ _ => trivial), OR, hB⟩
          · refine ⟨_, rfl, fun K hK => ?_⟩
            go_wp2
            refine hK _ _ ⟨OA.more _, OR.more _⟩ ?_
            clear hK K
            obtain ⟨W_7, hW⟩ : ∃ X, W_6.alloc (.cells #[.bool false, .slice none 0 0] 59) = X := ⟨_, rfl⟩
            have hb_7 : Below W_6.heap.size W_6 W_7 := hW ▸ (Below.refl _ _).alloc (Nat.le_refl _) _
            have O8_ : Own W_7 W_6.heap.size 59 #[.bool false, .slice none 0 0] := hW ▸ Own.made _ _ _
            have sz_7 := O8_.in_
            rw [hW]
            clear hW
            replace OA := OA.keep hb_7
            replace OR := OR.keep hb_7
            replace O9 := O9.keep hb_7
            replace NX := NX.keep hb_7
            replace NY := NY.keep hb_7
            replace hB := then_ hB hb_7 hB.size
            clear hb_7
            have O8 := O8_
            clear O8_
            refine tree_one (i := 6) (by kernel_rfl) rfl ?_
            · refine ⟨_, rfl, fun K hK => ?_⟩
              go_wp2_with (go_at_call 46; refine (div_num _ 0 0 _ _ n d W_7 NX (NY.num (T := 0) (C := 0) (fun b _ _ => .inr (Nat.zero_le _))) HZ.out LN.out LD.out).mono ?_; rintro e W_8 ⟨v_, v__, rfl, hq, hr, hb_8⟩)
              have sz_8 := hb_8.size
              obtain ⟨s_q, a_q, l_q, c_q, rfl⟩ := hq.shape
              obtain ⟨s_r, a_r, l_r, c_r, rfl⟩ := hr.shape
              have NQ := hq.mono (S' := fun b => W_7.heap.size ≤ b ∧ b < W_8.heap.size) (fun b h1 h2 => ⟨h2, h1⟩)
              have NR := hr.mono (S' := fun b => (((W_s.heap.size ≤ b ∧ b < W_4.heap.size) ∧ b < W_7.heap.size) ∨ W_7.heap.size ≤ b) ∧ b < W_8.heap.size) (fun b h1 h2 => ⟨h2, h1⟩)
              clear hq hr NX NY
              replace OA := OA.keep hb_8
              replace OR := OR.keep hb_8
              replace O9 := O9.keep hb_8
              replace O8 := O8.keep hb_8
              replace hB := then_ hB hb_8 hB.size
              refine hK _ _ ⟨OA, OR⟩ ?_
              clear hK K hb_8
              refine tree_pure (i := 7) (v := ?_) rfl rfl (by kernel_rfl) (by kernel_rfl) (by kernel_rfl) rfl (fun W hS => ?_) ⟨OA, OR⟩ ?_
              rotate_left
              · conv => lhs; simp [go_sem]
                first | done | exact rfl
              simp only [Act.put, List.setIfInBounds_toArray, List.set_cons_zero, List.set_cons_succ]
              refine tree_pure (i := 8) (v := ?_) rfl rfl (by kernel_rfl) (by kernel_rfl) (by kernel_rfl) rfl (fun W hS => ?_) ⟨OA, OR⟩ ?_
              rotate_left
              · conv => lhs; simp [go_sem]
                first | done | exact rfl
              simp only [Act.put, List.setIfInBounds_toArray, List.set_cons_zero, List.set_cons_succ]
              refine tree_pure (i := 9) (v := ?_) rfl rfl (by kernel_rfl) (by kernel_rfl) (by kernel_rfl) rfl (fun W hS => ?_) ⟨OA, OR⟩ ?_
              rotate_left
              · conv => lhs; simp [go_sem]
                first | done | exact rfl
              simp only [Act.put, List.setIfInBounds_toArray, List.set_cons_zero, List.set_cons_succ]
              refine tree_one (i := 12) (by kernel_rfl) rfl ?_
              · refine ⟨_, rfl, fun K hK => ?_⟩
                have hfr := O8.at_
                obtain ⟨P1, P2, P3⟩ := hfr
                go_wp2
                clear P1 P2 P3
                refine hK _ _ ⟨(OA.apart (by omega) _ _).apart (by omega) _ _, (OR.apart (by omega) _ _).apart (by omega) _ _⟩ ?_
                clear hK K
                obtain ⟨W_12, hW⟩ : ∃ X, (W_8.setCell ⟨W_6.heap.size, 0, none⟩ (.bool s_q)).setCell ⟨W_6.heap.size, 1, none⟩ (.slice a_q l_q c_q) = X := ⟨_, rfl⟩
                have OA_ : Own W_12 w.heap.size 34 #[.int .u64 (L0 n), .int .u64 (L1 n), .int .u64 (L2 n), .int .u64 (L3 n), .int .u64 (L0 d), .int .u64 (L1 d), .int .u64 (L2 d), .int .u64 (L3 d)] := hW ▸ ((OA.apart (by omega) _ _).apart (by omega) _ _)
                have OR_ : Own W_12 (w.heap.size + 1) 23 #[.int .u64 0, .int .u64 0, .int .u64 0, .int .u64 0] := hW ▸ ((OR.apart (by omega) _ _).apart (by omega) _ _)
                have O9_ : Own W_12 W_4.heap.size 59 #[.bool false, .slice none 0 0] := hW ▸ ((O9.apart (by omega) _ _).apart (by omega) _ _)
                have O8_ : Own W_12 W_6.heap.size 59 #[.bool s_q, .slice a_q l_q c_q] := hW ▸ (((O8.put 0 _).put 1 _).as rfl)
                have NQ_ := hW ▸ (NQ.put (p := W_6.heap.size) (i := 0) (by omega) (.bool s_q)).put (p := W_6.heap.size) (i := 1) (by omega) (.slice a_q l_q c_q)
                have NR_ := hW ▸ (NR.put (p := W_6.heap.size) (i := 0) (by omega) (.bool s_q)).put (p := W_6.heap.size) (i := 1) (by omega) (.slice a_q l_q c_q)
                have hB_ : Below w.heap.size w W_12 := hW ▸ ((hB.setCell (by show w.heap.size ≤ W_6.heap.size; omega) _).setCell (by show w.heap.size ≤ W_6.heap.size; omega) _)
                rw [hW]
                clear hW
                clear OA OR O9 O8 NQ NR hB
                have OA := OA_
                have OR := OR_
                have O9 := O9_
                have O8 := O8_
                have NQ := NQ_
                have NR := NR_
                have hB := hB_
                clear OA_ OR_ O9_ O8_ NQ_ NR_ hB_
                refine tree_one (i := 13) (by kernel_rfl) rfl ?_
                · refine ⟨_, rfl, fun K hK => ?_⟩
                  have hfr := O9.at_
                  obtain ⟨P1, P2, P3⟩ := hfr
                  go_wp2
                  clear P1 P2 P3
                  refine hK _ _ ⟨(OA.apart (by omega) _ _).apart (by omega) _ _, (OR.apart (by omega) _ _).apart (by omega) _ _⟩ ?_
                  clear hK K
                  obtain ⟨W_13, hW⟩ : ∃ X, (W_12.setCell ⟨W_4.heap.size, 0, none⟩ (.bool s_r)).setCell ⟨W_4.heap.size, 1, none⟩ (.slice a_r l_r c_r) = X := ⟨_, rfl⟩
                  have OA_ : Own W_13 w.heap.size 34 #[.int .u64 (L0 n), .int .u64 (L1 n), .int .u64 (L2 n), .int .u64 (L3 n), .int .u64 (L0 d), .int .u64 (L1 d), .int .u64 (L2 d), .int .u64 (L3 d)] := hW ▸ ((OA.apart (by omega) _ _).apart (by omega) _ _)
                  have OR_ : Own W_13 (w.heap.size + 1) 23 #[.int .u64 0, .int .u64 0, .int .u64 0, .int .u64 0] := hW ▸ ((OR.apart (by omega) _ _).apart (by omega) _ _)
                  have O9_ : Own W_13 W_4.heap.size 59 #[.bool s_r, .slice a_r l_r c_r] := hW ▸ (((O9.put 0 _).put 1 _).as rfl)
                  have O8_ : Own W_13 W_6.heap.size 59 #[.bool s_q, .slice a_q l_q c_q] := hW ▸ ((O8.apart (by omega) _ _).apart (by omega) _ _)
                  have NQ_ := hW ▸ (NQ.put (p := W_4.heap.size) (i := 0) (by omega) (.bool s_r)).put (p := W_4.heap.size) (i := 1) (by omega) (.slice a_r l_r c_r)
                  have NR_ := hW ▸ (NR.put (p := W_4.heap.size) (i := 0) (by omega) (.bool s_r)).put (p := W_4.heap.size) (i := 1) (by omega) (.slice a_r l_r c_r)
                  have hB_ : Below w.heap.size w W_13 := hW ▸ ((hB.setCell (by show w.heap.size ≤ W_4.heap.size; omega) _).setCell (by show w.heap.size ≤ W_4.heap.size; omega) _)
                  rw [hW]
                  clear hW
                  clear OA OR O9 O8 NQ NR hB
                  have OA := OA_
                  have OR := OR_
                  have O9 := O9_
                  have O8 := O8_
                  have NQ := NQ_
                  have NR := NR_
                  have hB := hB_
                  clear OA_ OR_ O9_ O8_ NQ_ NR_ hB_
                  refine tree_end (by kernel_rfl) ?_
                  go_wp2_with fail
                  go_meet
                  exact ⟨W_6.heap.size, W_4.heap.size, s_q, a_q, l_q, c_q, s_r, a_r, l_r, c_r, rfl, rfl, by omega, O8, O9, NQ.mono (fun _ _ _ => trivial), NR.mono (fun _ _ _ => trivial), OR, hB⟩
        · refine ⟨_, rfl, fun K hK => ?_⟩
          go_wp2
          refine hK _ _ ⟨OA.more _, OR.more _⟩ ?_
          clear hK K
          obtain ⟨W_6, hW⟩ : ∃ X, W_5.alloc (.cells #[.bool false, .slice none 0 0] 59) = X := ⟨_, rfl⟩
          have hb_6 : Below W_5.heap.size W_5 W_6 := hW ▸ (Below.refl _ _).alloc (Nat.le_refl _) _
          have O8_ : Own W_6 W_5.heap.size 59 #[.bool false, .slice none 0 0] := hW ▸ Own.made _ _ _
          have sz_6 := O8_.in_
          rw [hW]
          clear hW
          replace OA := OA.keep hb_6
          replace OR := OR.keep hb_6
          replace O9 := O9.keep hb_6
          replace NX := NX.keep hb_6
          replace hB := then_ hB hb_6 hB.size
          clear hb_6
          have O8 := O8_
          clear O8_
          refine tree_one (i := 5) (by kernel_rfl) rfl ?_
          · refine ⟨_, rfl, fun K hK => ?_⟩
            go_wp2_with (go_at_call 35; refine (FD.out W_6).mono ?_; rintro e W_7 ⟨v_, rfl, hn, hb_7⟩)
            have sz_7 := hb_7.size
            obtain ⟨s_y, a_y, l_y, c_y, rfl⟩ := hn.shape
            have NY := hn.mono (S' := fun b => W_6.heap.size ≤ b ∧ b < W_7.heap.size) (fun b h1 h2 => ⟨h2, h1⟩)
            clear hn
            replace OA := OA.keep hb_7
            replace OR := OR.keep hb_7
            replace O9 := O9.keep hb_7
            replace O8 := O8.keep hb_7
            replace NX := NX.keep hb_7
            replace hB := then_ hB hb_7 hB.size
            refine hK _ _ ⟨OA, OR⟩ ?_
            clear hK K hb_7
            refine tree_one (i := 6) (by kernel_rfl) rfl ?_
            · refine ⟨_, rfl, fun K hK => ?_⟩
              go_wp2_with (go_at_call 46; refine (div_num _ 0 0 _ _ n d W_7 NX (NY.num (T := 0) (C := 0) (fun b _ _ => .inr (Nat.zero_le _))) HZ.out LN.out LD.out).mono ?_; rintro e W_8 ⟨v_, v__, rfl, hq, hr, hb_8⟩)
              have sz_8 := hb_8.size
              obtain ⟨s_q, a_q, l_q, c_q, rfl⟩ := hq.shape
              obtain ⟨s_r, a_r, l_r, c_r, rfl⟩ := hr.shape
              have NQ := hq.mono (S' := fun b => W_7.heap.size ≤ b ∧ b < W_8.heap.size) (fun b h1 h2 => ⟨h2, h1⟩)
              have NR := hr.mono (S' := fun b => (((W_s.heap.size ≤ b ∧ b < W_4.heap.size) ∧ b < W_7.heap.size) ∨ W_7.heap.size ≤ b) ∧ b < W_8.heap.size) (fun b h1 h2 => ⟨h2, h1⟩)
              clear hq hr NX NY
              replace OA := OA.keep hb_8
              replace OR := OR.keep hb_8
              replace O9 := O9.keep hb_8
              replace O8 := O8.keep hb_8
              replace hB := then_ hB hb_8 hB.size
              refine hK _ _ ⟨OA, OR⟩ ?_
              clear hK K hb_8
              refine tree_pure (i := 7) (v := ?_) rfl rfl (by kernel_rfl) (by kernel_rfl) (by kernel_rfl) rfl (fun W hS => ?_) ⟨OA, OR⟩ ?_
              rotate_left
              · conv => lhs; simp [go_sem]
                first | done | exact rfl
              simp only [Act.put, List.setIfInBounds_toArray, List.set_cons_zero, List.set_cons_succ]
              refine tree_pure (i := 8) (v := ?_) rfl rfl (by kernel_rfl) (by kernel_rfl) (by kernel_rfl) rfl (fun W hS => ?_) ⟨OA, OR⟩ ?_
              rotate_left
              · conv => lhs; simp [go_sem]
                first | done | exact rfl
              simp only [Act.put, List.setIfInBounds_toArray, List.set_cons_zero, List.set_cons_succ]
              refine tree_pure (i := 9) (v := ?_) rfl rfl (by kernel_rfl) (by kernel_rfl) (by kernel_rfl) rfl (fun W hS => ?_) ⟨OA, OR⟩ ?_
              rotate_left
              · conv => lhs; simp [go_sem]
                first | done | exact rfl
              simp only [Act.put, List.setIfInBounds_toArray, List.set_cons_zero, List.set_cons_succ]
              refine tree_one (i := 12) (by kernel_rfl) rfl ?_
              · refine ⟨_, rfl, fun K hK => ?_⟩
                have hfr := O8.at_
                obtain ⟨P1, P2, P3⟩ := hfr
                go_wp2
                clear P1 P2 P3
                refine hK _ _ ⟨(OA.apart (by omega) _ _).apart (by omega) _ _, (OR.apart (by omega) _ _).apart (by omega) _ _⟩ ?_
                clear hK K
                obtain ⟨W_12, hW⟩ : ∃ X, (W_8.setCell ⟨W_5.heap.size, 0, none⟩ (.bool s_q)).setCell ⟨W_5.heap.size, 1, none⟩ (.slice a_q l_q c_q) = X := ⟨_, rfl⟩
                have OA_ : Own W_12 w.heap.size 34 #[.int .u64 (L0 n), .int .u64 (L1 n), .int .u64 (L2 n), .int .u64 (L3 n), .int .u64 (L0 d), .int .u64 (L1 d), .int .u64 (L2 d), .int .u64 (L3 d)] := hW ▸ ((OA.apart (by omega) _ _).apart (by omega) _ _)
                have OR_ : Own W_12 (w.heap.size + 1) 23 #[.int .u64 0, .int .u64 0, .int .u64 0, .int .u64 0] := hW ▸ ((OR.apart (by omega) _ _).apart (by omega) _ _)
                have O9_ : Own W_12 W_4.heap.size 59 #[.bool false, .slice none 0 0] := hW ▸ ((O9.apart (by omega) _ _).apart (by omega) _ _)
                have O8_ : Own W_12 W_5.heap.size 59 #[.bool s_q, .slice a_q l_q c_q] := hW ▸ (((O8.put 0 _).put 1 _).as rfl)
                have NQ_ := hW ▸ (NQ.put (p := W_5.heap.size) (i := 0) (by omega) (.bool s_q)).put (p := W_5.heap.size) (i := 1) (by omega) (.slice a_q l_q c_q)
                have NR_ := hW ▸ (NR.put (p := W_5.heap.size) (i := 0) (by omega) (.bool s_q)).put (p := W_5.heap.size) (i := 1) (by omega) (.slice a_q l_q c_q)
                have hB_ : Below w.heap.size w W_12 := hW ▸ ((hB.setCell (by show w.heap.size ≤ W_5.heap.size; omega) _).setCell (by show w.heap.size ≤ W_5.heap.size; omega) _)
                rw [hW]
                clear hW
                clear OA OR O9 O8 NQ NR hB
                have OA := OA_
                have OR := OR_
                have O9 := O9_
                have O8 := O8_
                have NQ := NQ_
                have NR := NR_
                have hB := hB_
                clear OA_ OR_ O9_ O8_ NQ_ NR_ hB_
                refine tree_one (i := 13) (by kernel_rfl) rfl ?_
                · refine ⟨_, rfl, fun K hK => ?_⟩
                  have hfr := O9.at_
                  obtain ⟨P1, P2, P3⟩ := hfr
                  go_wp2
                  clear P1 P2 P3
                  refine hK _ _ ⟨(OA.apart (by omega) _ _).apart (by omega) _ _, (OR.apart (by omega) _ _).apart (by omega) _ _⟩ ?_
                  clear hK K
                  obtain ⟨W_13, hW⟩ : ∃ X, (W_12.setCell ⟨W_4.heap.size, 0, none⟩ (.bool s_r)).setCell ⟨W_4.heap.size, 1, none⟩ (.slice a_r l_r c_r) = X := ⟨_, rfl⟩
                  have OA_ : Own W_13 w.heap.size 34 #[.int .u64 (L0 n), .int .u64 (L1 n), .int .u64 (L2 n), .int .u64 (L3 n), .int .u64 (L0 d), .int .u64 (L1 d), .int .u64 (L2 d), .int .u64 (L3 d)] := hW ▸ ((OA.apart (by omega) _ _).apart (by omega) _ _)
                  have OR_ : Own W_13 (w.heap.size + 1) 23 #[.int .u64 0, .int .u64 0, .int .u64 0, .int .u64 0] := hW ▸ ((OR.apart (by omega) _ _).apart (by omega) _ _)
                  have O9_ : Own W_13 W_4.heap.size 59 #[.bool s_r, .slice a_r l_r c_r] := hW ▸ (((O9.put 0 _).put 1 _).as rfl)
                  have O8_ : Own W_13 W_5.heap.size 59 #[.bool s_q, .slice a_q l_q c_q] := hW ▸ ((O8.apart (by omega) _ _).apart (by omega) _ _)
                  have NQ_ := hW ▸ (NQ.put (p := W_4.heap.size) (i := 0) (by omega) (.bool s_r)).put (p := W_4.heap.size) (i := 1) (by omega) (.slice a_r l_r c_r)
                  have NR_ := hW ▸ (NR.put (p := W_4.heap.size) (i := 0) (by omega) (.bool s_r)).put (p := W_4.heap.size) (i := 1) (by omega) (.slice a_r l_r c_r)
                  have hB_ : Below w.heap.size w W_13 := hW ▸ ((hB.setCell (by show w.heap.size ≤ W_4.heap.size; omega) _).setCell (by show w.heap.size ≤ W_4.heap.size; omega) _)
                  rw [hW]
                  clear hW
                  clear OA OR O9 O8 NQ NR hB
                  have OA := OA_
                  have OR := OR_
                  have O9 := O9_
                  have O8 := O8_
                  have NQ := NQ_
                  have NR := NR_
                  have hB := hB_
                  clear OA_ OR_ O9_ O8_ NQ_ NR_ hB_
                  refine tree_end (by kernel_rfl) ?_
                  go_wp2_with fail
                  go_meet
                  exact ⟨W_5.heap.size, W_4.heap.size, s_q, a_q, l_q, c_q, s_r, a_r, l_r, c_r, rfl, rfl, by omega, O8, O9, NQ.mono (fun _ _ _ => trivial), NR.mono (fun _ _ _ => trivial), OR, hB⟩
    · refine ⟨_, rfl, fun K hK => ?_⟩
      go_wp2
      refine hK _ _ ⟨OA.more _, OR.more _⟩ ?_
      clear hK K
      obtain ⟨W_4, hW⟩ : ∃ X, W_s.alloc (.cells #[.bool false, .slice none 0 0] 59) = X := ⟨_, rfl⟩
      have hb_4 : Below W_s.heap.size W_s W_4 := hW ▸ (Below.refl _ _).alloc (Nat.le_refl _) _
      have O8_ : Own W_4 W_s.heap.size 59 #[.bool false, .slice none 0 0] := hW ▸ Own.made _ _ _
      have sz_4 := O8_.in_
      rw [hW]
      clear hW
      replace OA := OA.keep hb_4
      replace OR := OR.keep hb_4
      replace hB := then_ hB hb_4 hB.size
      clear hb_4
      have O8 := O8_
      clear O8_
      refine tree_two (i := 2) (k := 11) (by kernel_rfl) rfl rfl ?_ ?_
      · refine ⟨_, rfl, fun K hK => ?_⟩
        go_wp2_with (go_at_call 35; refine (FN.out W_4).mono ?_; rintro e W_5 ⟨v_, rfl, hn, hb_5⟩)
        have sz_5 := hb_5.size
        obtain ⟨s_x, a_x, l_x, c_x, rfl⟩ := hn.shape
        have NX := hn.mono (S' := fun b => W_4.heap.size ≤ b ∧ b < W_5.heap.size) (fun b h1 h2 => ⟨h2, h1⟩)
        clear hn
        replace OA := OA.keep hb_5
        replace OR := OR.keep hb_5
        replace O8 := O8.keep hb_5
        replace hB := then_ hB hb_5 hB.size
        refine hK _ _ ⟨OA, OR⟩ ?_
        clear hK K hb_5
        refine tree_two (i := 5) (k := 11) (by kernel_rfl) rfl rfl ?_ ?_
        · refine ⟨_, rfl, fun K hK => ?_⟩
          go_wp2_with (go_at_call 35; refine (FD.out W_5).mono ?_; rintro e W_6 ⟨v_, rfl, hn, hb_6⟩)
          have sz_6 := hb_6.size
          obtain ⟨s_y, a_y, l_y, c_y, rfl⟩ := hn.shape
          have NY := hn.mono (S' := fun b => W_5.heap.size ≤ b ∧ b < W_6.heap.size) (fun b h1 h2 => ⟨h2, h1⟩)
          clear hn
          replace OA := OA.keep hb_6
          replace OR := OR.keep hb_6
          replace O8 := O8.keep hb_6
          replace NX := NX.keep hb_6
          replace hB := then_ hB hb_6 hB.size
          refine hK _ _ ⟨OA, OR⟩ ?_
          clear hK K hb_6
          refine tree_two (i := 6) (k := 11) (by kernel_rfl) rfl rfl ?_ ?_
          · refine ⟨_, rfl, fun K hK => ?_⟩
            go_wp2_with (go_at_call 46; refine (div_num _ 0 0 _ _ n d W_6 NX (NY.num (T := 0) (C := 0) (fun b _ _ => .inr (Nat.zero_le _))) HZ.out LN.out LD.out).mono ?_; rintro e W_7 ⟨v_, v__, rfl, hq, hr, hb_7⟩)
            have sz_7 := hb_7.size
            obtain ⟨s_q, a_q, l_q, c_q, rfl⟩ := hq.shape
            obtain ⟨s_r, a_r, l_r, c_r, rfl⟩ := hr.shape
            have NQ := hq.mono (S' := fun b => W_6.heap.size ≤ b ∧ b < W_7.heap.size) (fun b h1 h2 => ⟨h2, h1⟩)
            have NR := hr.mono (S' := fun b => (((W_4.heap.size ≤ b ∧ b < W_5.heap.size) ∧ b < W_6.heap.size) ∨ W_6.heap.size ≤ b) ∧ b < W_7.heap.size) (fun b h1 h2 => ⟨h2, h1⟩)
            clear hq hr NX NY
            replace OA := OA.keep hb_7
            replace OR := OR.keep hb_7
            replace O8 := O8.keep hb_7
            replace hB := then_ hB hb_7 hB.size
            refine hK _ _ ⟨OA, OR⟩ ?_
            clear hK K hb_7
            refine tree_pure (i := 7) (v := ?_) rfl rfl (by kernel_rfl) (by kernel_rfl) (by kernel_rfl) rfl (fun W hS => ?_) ⟨OA, OR⟩ ?_
            rotate_left
            · conv => lhs; simp [go_sem]
              first | done | exact rfl
            simp only [Act.put, List.setIfInBounds_toArray, List.set_cons_zero, List.set_cons_succ]
            refine tree_pure (i := 8) (v := ?_) rfl rfl (by kernel_rfl) (by kernel_rfl) (by kernel_rfl) rfl (fun W hS => ?_) ⟨OA, OR⟩ ?_
            rotate_left
            · conv => lhs; simp [go_sem]
              first | done | exact rfl
            simp only [Act.put, List.setIfInBounds_toArray, List.set_cons_zero, List.set_cons_succ]
            refine tree_pure (i := 9) (v := ?_) rfl rfl (by kernel_rfl) (by kernel_rfl) (by kernel_rfl) rfl (fun W hS => ?_) ⟨OA, OR⟩ ?_
            rotate_left
            · conv => lhs; simp [go_sem]
              first | done | exact rfl
            simp only [Act.put, List.setIfInBounds_toArray, List.set_cons_zero, List.set_cons_succ]
            refine tree_one (i := 11) (by kernel_rfl) rfl ?_
            · refine ⟨_, rfl, fun K hK => ?_⟩
              go_wp2
              refine hK _ _ ⟨OA.more _, OR.more _⟩ ?_
              clear hK K
              obtain ⟨W_11, hW⟩ : ∃ X, W_7.alloc (.cells #[.bool false, .slice none 0 0] 59) = X := ⟨_, rfl⟩
              have hb_11 : Below W_7.heap.size W_7 W_11 := hW ▸ (Below.refl _ _).alloc (Nat.le_refl _) _
              have O9_ : Own W_11 W_7.heap.size 59 #[.bool false, .slice none 0 0] := hW ▸ Own.made _ _ _
              have sz_11 := O9_.in_
              rw [hW]
              clear hW
              replace OA := OA.keep hb_11
              replace OR := OR.keep hb_11
              replace O8 := O8.keep hb_11
              replace NQ := NQ.keep hb_11
              replace NR := NR.keep hb_11
              replace hB := then_ hB hb_11 hB.size
              clear hb_11
              have O9 := O9_
              clear O9_
              refine tree_one (i := 12) (by kernel_rfl) rfl ?_
              · refine ⟨_, rfl, fun K hK => ?_⟩
                have hfr := O8.at_
                obtain ⟨P1, P2, P3⟩ := hfr
                go_wp2
                clear P1 P2 P3
                refine hK _ _ ⟨(OA.apart (by omega) _ _).apart (by omega) _ _, (OR.apart (by omega) _ _).apart (by omega) _ _⟩ ?_
                clear hK K
                obtain ⟨W_12, hW⟩ : ∃ X, (W_11.setCell ⟨W_s.heap.size, 0, none⟩ (.bool s_q)).setCell ⟨W_s.heap.size, 1, none⟩ (.slice a_q l_q c_q) = X := ⟨_, rfl⟩
                have OA_ : Own W_12 w.heap.size 34 #[.int .u64 (L0 n), .int .u64 (L1 n), .int .u64 (L2 n), .int .u64 (L3 n), .int .u64 (L0 d), .int .u64 (L1 d), .int .u64 (L2 d), .int .u64 (L3 d)] := hW ▸ ((OA.apart (by omega) _ _).apart (by omega) _ _)
                have OR_ : Own W_12 (w.heap.size + 1) 23 #[.int .u64 0, .int .u64 0, .int .u64 0, .int .u64 0] := hW ▸ ((OR.apart (by omega) _ _).apart (by omega) _ _)
                have O8_ : Own W_12 W_s.heap.size 59 #[.bool s_q, .slice a_q l_q c_q] := hW ▸ (((O8.put 0 _).put 1 _).as rfl)
                have O9_ : Own W_12 W_7.heap.size 59 #[.bool false, .slice none 0 0] := hW ▸ ((O9.apart (by omega) _ _).apart (by omega) _ _)
                have NQ_ := hW ▸ (NQ.put (p := W_s.heap.size) (i := 0) (by omega) (.bool s_q)).put (p := W_s.heap.size) (i := 1) (by omega) (.slice a_q l_q c_q)
                have NR_ := hW ▸ (NR.put (p := W_s.heap.size) (i := 0) (by omega) (.bool s_q)).put (p := W_s.heap.size) (i := 1) (by omega) (.slice a_q l_q c_q)
                have hB_ : Below w.heap.size w W_12 := hW ▸ ((hB.setCell (by show w.heap.size ≤ W_s.heap.size; omega) _).setCell (by show w.heap.size ≤ W_s.heap.size; omega) _)
                rw [hW]
                clear hW
                clear OA OR O8 O9 NQ NR hB
                have OA := OA_
                have OR := OR_
                have O8 := O8_
                have O9 := O9_
                have NQ := NQ_
                have NR := NR_
                have hB := hB_
                clear OA_ OR_ O8_ O9_ NQ_ NR_ hB_
                refine tree_one (i := 13) (by kernel_rfl) rfl ?_
                · refine ⟨_, rfl, fun K hK => ?_⟩
                  have hfr := O9.at_
                  obtain ⟨P1, P2, P3⟩ := hfr
                  go_wp2
                  clear P1 P2 P3
                  refine hK _ _ ⟨(OA.apart (by omega) _ _).apart (by omega) _ _, (OR.apart (by omega) _ _).apart (by omega) _ _⟩ ?_
                  clear hK K
                  obtain ⟨W_13, hW⟩ : ∃ X, (W_12.setCell ⟨W_7.heap.size, 0, none⟩ (.bool s_r)).setCell ⟨W_7.heap.size, 1, none⟩ (.slice a_r l_r c_r) = X := ⟨_, rfl⟩
                  have OA_ : Own W_13 w.heap.size 34 #[.int .u64 (L0 n), .int .u64 (L1 n), .int .u64 (L2 n), .int .u64 (L3 n), .int .u64 (L0 d), .int .u64 (L1 d), .int .u64 (L2 d), .int .u64 (L3 d)] := hW ▸ ((OA.apart (by omega) _ _).apart (by omega) _ _)
                  have OR_ : Own W_13 (w.heap.size + 1) 23 #[.int .u64 0, .int .u64 0, .int .u64 0, .int .u64 0] := hW ▸ ((OR.apart (by omega) _ _).apart (by omega) _ _)
                  have O8_ : Own W_13 W_s.heap.size 59 #[.bool s_q, .slice a_q l_q c_q] := hW ▸ ((O8.apart (by omega) _ _).apart (by omega) _ _)
                  have O9_ : Own W_13 W_7.heap.size 59 #[.bool s_r, .slice a_r l_r c_r] := hW ▸ (((O9.put 0 _).put 1 _).as rfl)
                  have NQ_ := hW ▸ (NQ.put (p := W_7.heap.size) (i := 0) (by omega) (.bool s_r)).put (p := W_7.heap.size) (i := 1) (by omega) (.slice a_r l_r c_r)
                  have NR_ := hW ▸ (NR.put (p := W_7.heap.size) (i := 0) (by omega) (.bool s_r)).put (p := W_7.heap.size) (i := 1) (by omega) (.slice a_r l_r c_r)
                  have hB_ : Below w.heap.size w W_13 := hW ▸ ((hB.setCell (by show w.heap.size ≤ W_7.heap.size; omega) _).setCell (by show w.heap.size ≤ W_7.heap.size; omega) _)
                  rw [hW]
                  clear hW
                  clear OA OR O8 O9 NQ NR hB
                  have OA := OA_
                  have OR := OR_
                  have O8 := O8_
                  have O9 := O9_
                  have NQ := NQ_
                  have NR := NR_
                  have hB := hB_
                  clear OA_ OR_ O8_ O9_ NQ_ NR_ hB_
                  refine tree_end (by kernel_rfl) ?_
                  go_wp2_with fail
                  go_meet
                  exact ⟨W_s.heap.size, W_7.heap.size, s_q, a_q, l_q, c_q, s_r, a_r, l_r, c_r, rfl, rfl, by omega, O8, O9, NQ.mono (fun _ _ _ => trivial), NR.mono (fun _ _ _ => trivial), OR, hB⟩
          · refine ⟨_, rfl, fun K hK => ?_⟩
            go_wp2
            refine hK _ _ ⟨OA.more _, OR.more _⟩ ?_
            clear hK K
            obtain ⟨W_7, hW⟩ : ∃ X, W_6.alloc (.cells #[.bool false, .slice none 0 0] 59) = X := ⟨_, rfl⟩
            have hb_7 : Below W_6.heap.size W_6 W_7 := hW ▸ (Below.refl _ _).alloc (Nat.le_refl _) _
            have O9_ : Own W_7 W_6.heap.size 59 #[.bool false, .slice none 0 0] := hW ▸ Own.made _ _ _
            have sz_7 := O9_.in_
            rw [hW]
            clear hW
            replace OA := OA.keep hb_7
            replace OR := OR.keep hb_7
            replace O8 := O8.keep hb_7
            replace NX := NX.keep hb_7
            replace NY := NY.keep hb_7
            replace hB := then_ hB hb_7 hB.size
            clear hb_7
            have O9 := O9_
            clear O9_
            refine tree_one (i := 6) (by kernel_rfl) rfl ?_
            · refine ⟨_, rfl, fun K hK => ?_⟩
              go_wp2_with (go_at_call 46; refine (div_num _ 0 0 _ _ n d W_7 NX (NY.num (T := 0) (C := 0) (fun b _ _ => .inr (Nat.zero_le _))) HZ.out LN.out LD.out).mono ?_; rintro e W_8 ⟨v_, v__, rfl, hq, hr, hb_8⟩)
              have sz_8 := hb_8.size
              obtain ⟨s_q, a_q, l_q, c_q, rfl⟩ := hq.shape
              obtain ⟨s_r, a_r, l_r, c_r, rfl⟩ := hr.shape
              have NQ := hq.mono (S' := fun b => W_7.heap.size ≤ b ∧ b < W_8.heap.size) (fun b h1 h2 => ⟨h2, h1⟩)
              have NR := hr.mono (S' := fun b => (((W_4.heap.size ≤ b ∧ b < W_5.heap.size) ∧ b < W_7.heap.size) ∨ W_7.heap.size ≤ b) ∧ b < W_8.heap.size) (fun b h1 h2 => ⟨h2, h1⟩)
              clear hq hr NX NY
              replace OA := OA.keep hb_8
              replace OR := OR.keep hb_8
              replace O8 := O8.keep hb_8
              replace O9 := O9.keep hb_8
              replace hB := then_ hB hb_8 hB.size
              refine hK _ _ ⟨OA, OR⟩ ?_
              clear hK K hb_8
              refine tree_pure (i := 7) (v := ?_) rfl rfl (by kernel_rfl) (by kernel_rfl) (by kernel_rfl) rfl (fun W hS => ?_) ⟨OA, OR⟩ ?_
              rotate_left
              · conv => lhs; simp [go_sem]
                first | done | exact rfl
              simp only [Act.put, List.setIfInBounds_toArray, List.set_cons_zero, List.set_cons_succ]
              refine tree_pure (i := 8) (v := ?_) rfl rfl (by kernel_rfl) (by kernel_rfl) (by kernel_rfl) rfl (fun W hS => ?_) ⟨OA, OR⟩ ?_
              rotate_left
              · conv => lhs; simp [go_sem]
                first | done | exact rfl
              simp only [Act.put, List.setIfInBounds_toArray, List.set_cons_zero, List.set_cons_succ]
              refine tree_pure (i := 9) (v := ?_) rfl rfl (by kernel_rfl) (by kernel_rfl) (by kernel_rfl) rfl (fun W hS => ?_) ⟨OA, OR⟩ ?_
              rotate_left
              · conv => lhs; simp [go_sem]
                first | done | exact rfl
              simp only [Act.put, List.setIfInBounds_toArray, List.set_cons_zero, List.set_cons_succ]
              refine tree_one (i := 12) (by kernel_rfl) rfl ?_
              · refine ⟨_, rfl, fun K hK => ?_⟩
                have hfr := O8.at_
                obtain ⟨P1, P2, P3⟩ := hfr
                go_wp2
                clear P1 P2 P3
                refine hK _ _ ⟨(OA.apart (by omega) _ _).apart (by omega) _ _, (OR.apart (by omega) _ _).apart (by omega) _ _⟩ ?_
                clear hK K
                obtain ⟨W_12, hW⟩ : ∃ X, (W_8.setCell ⟨W_s.heap.size, 0, none⟩ (.bool s_q)).setCell ⟨W_s.heap.size, 1, none⟩ (.slice a_q l_q c_q) = X := ⟨_, rfl⟩
                have OA_ : Own W_12 w.heap.size 34 #[.int .u64 (L0 n), .int .u64 (L1 n), .int .u64 (L2 n), .int .u64 (L3 n), .int .u64 (L0 d), .int .u64 (L1 d), .int .u64 (L2 d), .int .u64 (L3 d)] := hW ▸ ((OA.apart (by omega) _ _).apart (by omega) _ _)
                have OR_ : Own W_12 (w.heap.size + 1) 23 #[.int .u64 0, .int .u64 0, .int .u64 0, .int .u64 0] := hW ▸ ((OR.apart (by omega) _ _).apart (by omega) _ _)
                have O8_ : Own W_12 W_s.heap.size 59 #[.bool s_q, .slice a_q l_q c_q] := hW ▸ (((O8.put 0 _).put 1 _).as rfl)
                have O9_ : Own W_12 W_6.heap.size 59 #[.bool false, .slice none 0 0] := hW ▸ ((O9.apart (by omega) _ _).apart (by omega) _ _)
                have NQ_ := hW ▸ (NQ.put (p := W_s.heap.size) (i := 0) (by omega) (.bool s_q)).put (p := W_s.heap.size) (i := 1) (by omega) (.slice a_q l_q c_q)
                have NR_ := hW ▸ (NR.put (p := W_s.heap.size) (i := 0) (by omega) (.bool s_q)).put (p := W_s.heap.size) (i := 1) (by omega) (.slice a_q l_q c_q)
                have hB_ : Below w.heap.size w W_12 := hW ▸ ((hB.setCell (by show w.heap.size ≤ W_s.heap.size; omega) _).setCell (by show w.heap.size ≤ W_s.heap.size; omega) _)
                rw [hW]
                clear hW
                clear OA OR O8 O9 NQ NR hB
                have OA := OA_
                have OR := OR_
                have O8 := O8_
                have O9 := O9_
                have NQ := NQ_
                have NR := NR_
                have hB := hB_
                clear OA_ OR_ O8_ O9_ NQ_ NR_ hB_
                refine tree_one (i := 13) (by kernel_rfl) rfl ?_
                · refine ⟨_, rfl, fun K hK => ?_⟩
                  have hfr := O9.at_
                  obtain ⟨P1, P2, P3⟩ := hfr
                  go_wp2
                  clear P1 P2 P3
                  refine hK _ _ ⟨(OA.apart (by omega) _ _).apart (by omega) _ _, (OR.apart (by omega) _ _).apart (by omega) _ _⟩ ?_
                  clear hK K
                  obtain ⟨W_13, hW⟩ : ∃ X, (W_12.setCell ⟨W_6.heap.size, 0, none⟩ (.bool s_r)).setCell ⟨W_6.heap.size, 1, none⟩ (.slice a_r l_r c_r) = X := ⟨_, rfl⟩
                  have OA_ : Own W_13 w.heap.size 34 #[.int .u64 (L0 n), .int .u64 (L1 n), .int .u64 (L2 n), .int .u64 (L3 n), .int .u64 (L0 d), .int .u64 (L1 d), .int .u64 (L2 d), .int .u64 (L3 d)] := hW ▸ ((OA.apart (by omega) _ _).apart (by omega) _ _)
                  have OR_ : Own W_13 (w.heap.size + 1) 23 #[.int .u64 0, .int .u64 0, .int .u64 0, .int .u64 0] := hW ▸ ((OR.apart (by omega) _ _).apart (by omega) _ _)
                  have O8_ : Own W_13 W_s.heap.size 59 #[.bool s_q, .slice a_q l_q c_q] := hW ▸ ((O8.apart (by omega) _ _).apart (by omega) _ _)
                  have O9_ : Own W_13 W_6.heap.size 59 #[.bool s_r, .slice a_r l_r c_r] := hW ▸ (((O9.put 0 _).put 1 _).as rfl)
                  have NQ_ := hW ▸ (NQ.put (p := W_6.heap.size) (i := 0) (by omega) (.bool s_r)).put (p := W_6.heap.size) (i := 1) (by omega) (.slice a_r l_r c_r)
                  have NR_ := hW ▸ (NR.put (p := W_6.heap.size) (i := 0) (by omega) (.bool s_r)).put (p := W_6.heap.size) (i := 1) (by omega) (.slice a_r l_r c_r)
                  have hB_ : Below w.heap.size w W_13 := hW ▸ ((hB.setCell (by show w.heap.size ≤ W_6.heap.size; omega) _).setCell (by show w.heap.size ≤ W_6.heap.size; omega) _)
                  rw [hW]
                  clear hW
                  clear OA OR O8 O9 NQ NR hB
                  have OA := OA_
                  have OR := OR_
                  have O8 := O8_
                  have O9 := O9_
                  have NQ := NQ_
                  have NR := NR_
                  have hB := hB_
                  clear OA_ OR_ O8_ O9_ NQ_ NR_ hB_
                  refine tree_end (by kernel_rfl) ?_
                  go_wp2_with fail
                  go_meet
                  exact ⟨W_s.heap.size, W_6.heap.size, s_q, a_q, l_q, c_q, s_r, a_r, l_r, c_r, rfl, rfl, by omega, O8, O9, NQ.mono (fun _ _ _ => trivial), NR.mono (fun _ _ _ => trivial), OR, hB⟩
        · refine ⟨_, rfl, fun K hK => ?_⟩
          go_wp2
          refine hK _ _ ⟨OA.more _, OR.more _⟩ ?_
          clear hK K
          obtain ⟨W_6, hW⟩ : ∃ X, W_5.alloc (.cells #[.bool false, .slice none 0 0] 59) = X := ⟨_, rfl⟩
          have hb_6 : Below W_5.heap.size W_5 W_6 := hW ▸ (Below.refl _ _).alloc (Nat.le_refl _) _
          have O9_ : Own W_6 W_5.heap.size 59 #[.bool false, .slice none 0 0] := hW ▸ Own.made _ _ _
          have sz_6 := O9_.in_
          rw [hW]
          clear hW
          replace OA := OA.keep hb_6
          replace OR := OR.keep hb_6
          replace O8 := O8.keep hb_6
          replace NX := NX.keep hb_6
          replace hB := then_ hB hb_6 hB.size
          clear hb_6
          have O9 := O9_
          clear O9_
          refine tree_one (i := 5) (by kernel_rfl) rfl ?_
          · refine ⟨_, rfl, fun K hK => ?_⟩
            go_wp2_with (go_at_call 35; refine (FD.out W_6).mono ?_; rintro e W_7 ⟨v_, rfl, hn, hb_7⟩)
            have sz_7 := hb_7.size
            obtain ⟨s_y, a_y, l_y, c_y, rfl⟩ := hn.shape
            have NY := hn.mono (S' := fun b => W_6.heap.size ≤ b ∧ b < W_7.heap.size) (fun b h1 h2 => ⟨h2, h1⟩)
            clear hn
            replace OA := OA.keep hb_7
            replace OR := OR.keep hb_7
            replace O8 := O8.keep hb_7
            replace O9 := O9.keep hb_7
            replace NX := NX.keep hb_7
            replace hB := then_ hB hb_7 hB.size
            refine hK _ _ ⟨OA, OR⟩ ?_
            clear hK K hb_7
            refine tree_one (i := 6) (by kernel_rfl) rfl ?_
            · refine ⟨_, rfl, fun K hK => ?_⟩
              go_wp2_with (go_at_call 46; refine (div_num _ 0 0 _ _ n d W_7 NX (NY.num (T := 0) (C := 0) (fun b _ _ => .inr (Nat.zero_le _))) HZ.out LN.out LD.out).mono ?_; rintro e W_8 ⟨v_, v__, rfl, hq, hr, hb_8⟩)
              have sz_8 := hb_8.size
              obtain ⟨s_q, a_q, l_q, c_q, rfl⟩ := hq.shape
              obtain ⟨s_r, a_r, l_r, c_r, rfl⟩ := hr.shape
              have NQ := hq.mono (S' := fun b => W_7.heap.size ≤ b ∧ b < W_8.heap.size) (fun b h1 h2 => ⟨h2, h1⟩)
              have NR := hr.mono (S' := fun b => (((W_4.heap.size ≤ b ∧ b < W_5.heap.size) ∧ b < W_7.heap.size) ∨ W_7.heap.size ≤ b) ∧ b < W_8.heap.size) (fun b h1 h2 => ⟨h2, h1⟩)
              clear hq hr NX NY
              replace OA := OA.keep hb_8
              replace OR := OR.keep hb_8
              replace O8 := O8.keep hb_8
              replace O9 := O9.keep hb_8
              replace hB := then_ hB hb_8 hB.size
              refine hK _ _ ⟨OA, OR⟩ ?_
              clear hK K hb_8
              refine tree_pure (i := 7) (v := ?_) rfl rfl (by kernel_rfl) (by kernel_rfl) (by kernel_rfl) rfl (fun W hS => ?_) ⟨OA, OR⟩ ?_
              rotate_left
              · conv => lhs; simp [go_sem]
                first | done | exact rfl
              simp only [Act.put, List.setIfInBounds_toArray, List.set_cons_zero, List.set_cons_succ]
              refine tree_pure (i := 8) (v := ?_) rfl rfl (by kernel_rfl) (by kernel_rfl) (by kernel_rfl) rfl (fun W hS => ?_) ⟨OA, OR⟩ ?_
              rotate_left
              · conv => lhs; simp [go_sem]
                first | done | exact rfl
              simp only [Act.put, List.setIfInBounds_toArray, List.set_cons_zero, List.set_cons_succ]
              refine tree_pure (i := 9) (v := ?_) rfl rfl (by kernel_rfl) (by kernel_rfl) (by kernel_rfl) rfl (fun W hS => ?_) ⟨OA, OR⟩ ?_
              rotate_left
              · conv => lhs; simp [go_sem]
                first | done | exact rfl
              simp only [Act.put, List.setIfInBounds_toArray, List.set_cons_zero, List.set_cons_succ]
              refine tree_one (i := 12) (by kernel_rfl) rfl ?_
              · refine ⟨_, rfl, fun K hK => ?_⟩
                have hfr := O8.at_
                obtain ⟨P1, P2, P3⟩ := hfr
                go_wp2
                clear P1 P2 P3
                refine hK _ _ ⟨(OA.apart (by omega) _ _).apart (by omega) _ _, (OR.apart (by omega) _ _).apart (by omega) _ _⟩ ?_
                clear hK K
                obtain ⟨W_12, hW⟩ : ∃ X, (W_8.setCell ⟨W_s.heap.size, 0, none⟩ (.bool s_q)).setCell ⟨W_s.heap.size, 1, none⟩ (.slice a_q l_q c_q) = X := ⟨_, rfl⟩
                have OA_ : Own W_12 w.heap.size 34 #[.int .u64 (L0 n), .int .u64 (L1 n), .int .u64 (L2 n), .int .u64 (L3 n), .int .u64 (L0 d), .int .u64 (L1 d), .int .u64 (L2 d), .int .u64 (L3 d)] := hW ▸ ((OA.apart (by omega) _ _).apart (by omega) _ _)
                have OR_ : Own W_12 (w.heap.size + 1) 23 #[.int .u64 0, .int .u64 0, .int .u64 0, .int .u64 0] := hW ▸ ((OR.apart (by omega) _ _).apart (by omega) _ _)
                have O8_ : Own W_12 W_s.heap.size 59 #[.bool s_q, .slice a_q l_q c_q] := hW ▸ (((O8.put 0 _).put 1 _).as rfl)
                have O9_ : Own W_12 W_5.heap.size 59 #[.bool false, .slice none 0 0] := hW ▸ ((O9.apart (by omega) _ _).apart (by omega) _ _)
                have NQ_ := hW ▸ (NQ.put (p := W_s.heap.size) (i := 0) (by omega) (.bool s_q)).put (p := W_s.heap.size) (i := 1) (by omega) (.slice a_q l_q c_q)
                have NR_ := hW ▸ (NR.put (p := W_s.heap.size) (i := 0) (by omega) (.bool s_q)).put (p := W_s.heap.size) (i := 1) (by omega) (.slice a_q l_q c_q)
                have hB_ : Below w.heap.size w W_12 := hW ▸ ((hB.setCell (by show w.heap.size ≤ W_s.heap.size; omega) _).setCell (by show w.heap.size ≤ W_s.heap.size; omega) _)
                rw [hW]
                clear hW
                clear OA OR O8 O9 NQ NR hB
                have OA := OA_
                have OR := OR_
                have O8 := O8_
                have O9 := O9_
                have NQ := NQ_
                have NR := NR_
                have hB := hB_
                clear OA_ OR_ O8_ O9_ NQ_ NR_ hB_
                refine tree_one (i := 13) (by kernel_rfl) rfl ?_
                · refine ⟨_, rfl, fun K hK => ?_⟩
                  have hfr := O9.at_
                  obtain ⟨P1, P2, P3⟩ := hfr
                  go_wp2
                  clear P1 P2 P3
                  refine hK _ _ ⟨(OA.apart (by omega) _ _).apart (by omega) _ _, (OR.apart (by omega) _ _).apart (by omega) _ _⟩ ?_
                  clear hK K
                  obtain ⟨W_13, hW⟩ : ∃ X, (W_12.setCell ⟨W_5.heap.size, 0, none⟩ (.bool s_r)).setCell ⟨W_5.heap.size, 1, none⟩ (.slice a_r l_r c_r) = X := ⟨_, rfl⟩
                  have OA_ : Own W_13 w.heap.size 34 #[.int .u64 (L0 n), .int .u64 (L1 n), .int .u64 (L2 n), .int .u64 (L3 n), .int .u64 (L0 d), .int .u64 (L1 d), .int .u64 (L2 d), .int .u64 (L3 d)] := hW ▸ ((OA.apart (by omega) _ _).apart (by omega) _ _)
                  have OR_ : Own W_13 (w.heap.size + 1) 23 #[.int .u64 0, .int .u64 0, .int .u64 0, .int .u64 0] := hW ▸ ((OR.apart (by omega) _ _).apart (by omega) _ _)
                  have O8_ : Own W_13 W_s.heap.size 59 #[.bool s_q, .slice a_q l_q c_q] := hW ▸ ((O8.apart (by omega) _ _).apart (by omega) _ _)
                  have O9_ : Own W_13 W_5.heap.size 59 #[.bool s_r, .slice a_r l_r c_r] := hW ▸ (((O9.put 0 _).put 1 _).as rfl)
                  have NQ_ := hW ▸ (NQ.put (p := W_5.heap.size) (i := 0) (by omega) (.bool s_r)).put (p := W_5.heap.size) (i := 1) (by omega) (.slice a_r l_r c_r)
                  have NR_ := hW ▸ (NR.put (p := W_5.heap.size) (i := 0) (by omega) (.bool s_r)).put (p := W_5.heap.size) (i := 1) (by omega) (.slice a_r l_r c_r)
                  have hB_ : Below w.heap.size w W_13 := hW ▸ ((hB.setCell (by show w.heap.size ≤ W_5.heap.size; omega) _).setCell (by show w.heap.size ≤ W_5.heap.size; omega) _)
                  rw [hW]
                  clear hW
                  clear OA OR O8 O9 NQ NR hB
                  have OA := OA_
                  have OR := OR_
                  have O8 := O8_
                  have O9 := O9_
                  have NQ := NQ_
                  have NR := NR_
                  have hB := hB_
                  clear OA_ OR_ O8_ O9_ NQ_ NR_ hB_
                  refine tree_end (by kernel_rfl) ?_
                  go_wp2_with fail
                  go_meet
                  exact ⟨W_s.heap.size, W_5.heap.size, s_q, a_q, l_q, c_q, s_r, a_r, l_r, c_r, rfl, rfl, by omega, O8, O9, NQ.mono (fun _ _ _ => trivial), NR.mono (fun _ _ _ => trivial), OR, hB⟩
      · refine ⟨_, rfl, fun K hK => ?_⟩
        go_wp2
        refine hK _ _ ⟨OA.more _, OR.more _⟩ ?_
        clear hK K
        obtain ⟨W_5, hW⟩ : ∃ X, W_4.alloc (.cells #[.bool false, .slice none 0 0] 59) = X := ⟨_, rfl⟩
        have hb_5 : Below W_4.heap.size W_4 W_5 := hW ▸ (Below.refl _ _).alloc (Nat.le_refl _) _
        have O9_ : Own W_5 W_4.heap.size 59 #[.bool false, .slice none 0 0] := hW ▸ Own.made _ _ _
        have sz_5 := O9_.in_
        rw [hW]
        clear hW
        replace OA := OA.keep hb_5
        replace OR := OR.keep hb_5
        replace O8 := O8.keep hb_5
        replace hB := then_ hB hb_5 hB.size
        clear hb_5
        have O9 := O9_
        clear O9_
        refine tree_one (i := 2) (by kernel_rfl) rfl ?_
        · refine ⟨_, rfl, fun K hK => ?_⟩
          go_wp2_with (go_at_call 35; refine (FN.out W_5).mono ?_; rintro e W_6 ⟨v_, rfl, hn, hb_6⟩)
          have sz_6 := hb_6.size
          obtain ⟨s_x, a_x, l_x, c_x, rfl⟩ := hn.shape
          have NX := hn.mono (S' := fun b => W_5.heap.size ≤ b ∧ b < W_6.heap.size) (fun b h1 h2 => ⟨h2, h1⟩)
          clear hn
          replace OA := OA.keep hb_6
          replace OR := OR.keep hb_6
          replace O8 := O8.keep hb_6
          replace O9 := O9.keep hb_6
          replace hB := then_ hB hb_6 hB.size
          refine hK _ _ ⟨OA, OR⟩ ?_
          clear hK K hb_6
          refine tree_one (i := 5) (by kernel_rfl) rfl ?_
          · refine ⟨_, rfl, fun K hK => ?_⟩
            go_wp2_with (go_at_call 35; refine (FD.out W_6).mono ?_; rintro e W_7 ⟨v_, rfl, hn, hb_7⟩)
            have sz_7 := hb_7.size
            obtain ⟨s_y, a_y, l_y, c_y, rfl⟩ := hn.shape
            have NY := hn.mono (S' := fun b => W_6.heap.size ≤ b ∧ b < W_7.heap.size) (fun b h1 h2 => ⟨h2, h1⟩)
            clear hn
            replace OA := OA.keep hb_7
            replace OR := OR.keep hb_7
            replace O8 := O8.keep hb_7
            replace O9 := O9.keep hb_7
            replace NX := NX.keep hb_7
            replace hB := then_ hB hb_7 hB.size
            refine hK _ _ ⟨OA, OR⟩ ?_
            clear hK K hb_7
            refine tree_one (i := 6) (by kernel_rfl) rfl ?_
            · refine ⟨_, rfl, fun K hK => ?_⟩
              go_wp2_with (go_at_call 46; refine (div_num _ 0 0 _ _ n d W_7 NX (NY.num (T := 0) (C := 0) (fun b _ _ => .inr (Nat.zero_le _))) HZ.out LN.out LD.out).mono ?_; rintro e W_8 ⟨v_, v__, rfl, hq, hr, hb_8⟩)
              have sz_8 := hb_8.size
              obtain ⟨s_q, a_q, l_q, c_q, rfl⟩ := hq.shape
              obtain ⟨s_r, a_r, l_r, c_r, rfl⟩ := hr.shape
              have NQ := hq.mono (S' := fun b => W_7.heap.size ≤ b ∧ b < W_8.heap.size) (fun b h1 h2 => ⟨h2, h1⟩)
              have NR := hr.mono (S' := fun b => (((W_5.heap.size ≤ b ∧ b < W_6.heap.size) ∧ b < W_7.heap.size) ∨ W_7.heap.size ≤ b) ∧ b < W_8.heap.size) (fun b h1 h2 => ⟨h2, h1⟩)
              clear hq hr NX NY
              replace OA := OA.keep hb_8
              replace OR := OR.keep hb_8
              replace O8 := O8.keep hb_8
              replace O9 := O9.keep hb_8
              replace hB := then_ hB hb_8 hB.size
              refine hK _ _ ⟨OA, OR⟩ ?_
              clear hK K hb_8
              refine tree_pure (i := 7) (v := ?_) rfl rfl (by kernel_rfl) (by kernel_rfl) (by kernel_rfl) rfl (fun W hS => ?_) ⟨OA, OR⟩ ?_
              rotate_left
              · conv => lhs; simp [go_sem]
                first | done | exact rfl
              simp only [Act.put, List.setIfInBounds_toArray, List.set_cons_zero, List.set_cons_succ]
              refine tree_pure (i := 8) (v := ?_) rfl rfl (by kernel_rfl) (by kernel_rfl) (by kernel_rfl) rfl (fun W hS => ?_) ⟨OA, OR⟩ ?_
              rotate_left
              · conv => lhs; simp [go_sem]
                first | done | exact rfl
              simp only [Act.put, List.setIfInBounds_toArray, List.set_cons_zero, List.set_cons_succ]
              refine tree_pure (i := 9) (v := ?_) rfl rfl (by kernel_rfl) (by kernel_rfl) (by kernel_rfl) rfl (fun W hS => ?_) ⟨OA, OR⟩ ?_
              rotate_left
              · conv => lhs; simp [go_sem]
                first | done | exact rfl
              simp only [Act.put, List.setIfInBounds_toArray, List.set_cons_zero, List.set_cons_succ]
              refine tree_one (i := 12) (by kernel_rfl) rfl ?_
              · refine ⟨_, rfl, fun K hK => ?_⟩
                have hfr := O8.at_
                obtain ⟨P1, P2, P3⟩ := hfr
                go_wp2
                clear P1 P2 P3
                refine hK _ _ ⟨(OA.apart (by omega) _ _).apart (by omega) _ _, (OR.apart (by omega) _ _).apart (by omega) _ _⟩ ?_
                clear hK K
                obtain ⟨W_12, hW⟩ : ∃ X, (W_8.setCell ⟨W_s.heap.size, 0, none⟩ (.bool s_q)).setCell ⟨W_s.heap.size, 1, none⟩ (.slice a_q l_q c_q) = X := ⟨_, rfl⟩
                have OA_ : Own W_12 w.heap.size 34 #[.int .u64 (L0 n), .int .u64 (L1 n), .int .u64 (L2 n), .int .u64 (L3 n), .int .u64 (L0 d), .int .u64 (L1 d), .int .u64 (L2 d), .int .u64 (L3 d)] := hW ▸ ((OA.apart (by omega) _ _).apart (by omega) _ _)
                have OR_ : Own W_12 (w.heap.size + 1) 23 #[.int .u64 0, .int .u64 0, .int .u64 0, .int .u64 0] := hW ▸ ((OR.apart (by omega) _ _).apart (by omega) _ _)
                have O8_ : Own W_12 W_s.heap.size 59 #[.bool s_q, .slice a_q l_q c_q] := hW ▸ (((O8.put 0 _).put 1 _).as rfl)
                have O9_ : Own W_12 W_4.heap.size 59 #[.bool false, .slice none 0 0] := hW ▸ ((O9.apart (by omega) _ _).apart (by omega) _ _)
                have NQ_ := hW ▸ (NQ.put (p := W_s.heap.size) (i := 0) (by omega) (.bool s_q)).put (p := W_s.heap.size) (i := 1) (by omega) (.slice a_q l_q c_q)
                have NR_ := hW ▸ (NR.put (p := W_s.heap.size) (i := 0) (by omega) (.bool s_q)).put (p := W_s.heap.size) (i := 1) (by omega) (.slice a_q l_q c_q)
                have hB_ : Below w.heap.size w W_12 := hW ▸ ((hB.setCell (by show w.heap.size ≤ W_s.heap.size; omega) _).setCell (by show w.heap.size ≤ W_s.heap.size; omega) _)
                rw [hW]
                clear hW
                clear OA OR O8 O9 NQ NR hB
                have OA := OA_
                have OR := OR_
                have O8 := O8_
                have O9 := O9_
                have NQ := NQ_
                have NR := NR_
                have hB := hB_
                clear OA_ OR_ O8_ O9_ NQ_ NR_ hB_
                refine tree_one (i := 13) (by kernel_rfl) rfl ?_
                · refine ⟨_, rfl, fun K hK => ?_⟩
                  have hfr := O9.at_
                  obtain ⟨P1, P2, P3⟩ := hfr
                  go_wp2
                  clear P1 P2 P3
                  refine hK _ _ ⟨(OA.apart (by omega) _ _).apart (by omega) _ _, (OR.apart (by omega) _ _).apart (by omega) _ _⟩ ?_
                  clear hK K
                  obtain ⟨W_13, hW⟩ : ∃ X, (W_12.setCell ⟨W_4.heap.size, 0, none⟩ (.bool s_r)).setCell ⟨W_4.heap.size, 1, none⟩ (.slice a_r l_r c_r) = X := ⟨_, rfl⟩
                  have OA_ : Own W_13 w.heap.size 34 #[.int .u64 (L0 n), .int .u64 (L1 n), .int .u64 (L2 n), .int .u64 (L3 n), .int .u64 (L0 d), .int .u64 (L1 d), .int .u64 (L2 d), .int .u64 (L3 d)] := hW ▸ ((OA.apart (by omega) _ _).apart (by omega) _ _)
                  have OR_ : Own W_13 (w.heap.size + 1) 23 #[.int .u64 0, .int .u64 0, .int .u64 0, .int .u64 0] := hW ▸ ((OR.apart (by omega) _ _).apart (by omega) _ _)
                  have O8_ : Own W_13 W_s.heap.size 59 #[.bool s_q, .slice a_q l_q c_q] := hW ▸ ((O8.apart (by omega) _ _).apart (by omega) _ _)
                  have O9_ : Own W_13 W_4.heap.size 59 #[.bool s_r, .slice a_r l_r c_r] := hW ▸ (((O9.put 0 _).put 1 _).as rfl)
                  have NQ_ := hW ▸ (NQ.put (p := W_4.heap.size) (i := 0) (by omega) (.bool s_r)).put (p := W_4.heap.size) (i := 1) (by omega) (.slice a_r l_r c_r)
                  have NR_ := hW ▸ (NR.put (p := W_4.heap.size) (i := 0) (by omega) (.bool s_r)).put (p := W_4.heap.size) (i := 1) (by omega) (.slice a_r l_r c_r)
                  have hB_ : Below w.heap.size w W_13 := hW ▸ ((hB.setCell (by show w.heap.size ≤ W_4.heap.size; omega) _).setCell (by show w.heap.size ≤ W_4.heap.size; omega) _)
                  rw [hW]
                  clear hW
                  clear OA OR O8 O9 NQ NR hB
                  have OA := OA_
                  have OR := OR_
                  have O8 := O8_
                  have O9 := O9_
                  have NQ := NQ_
                  have NR := NR_
                  have hB := hB_
                  clear OA_ OR_ O8_ O9_ NQ_ NR_ hB_
                  refine tree_end (by kernel_rfl) ?_
                  go_wp2_with fail
                  go_meet
                  exact ⟨W_s.heap.size, W_4.heap.size, s_q, a_q, l_q, c_q, s_r, a_r, l_r, c_r, rfl, rfl, by omega, O8, O9, NQ.mono (fun _ _ _ => trivial), NR.mono (fun _ _ _ => trivial), OR, hB⟩
    · refine ⟨_, rfl, fun K hK => ?_⟩
      go_wp2
      refine hK _ _ ⟨OA.more _, OR.more _⟩ ?_
      clear hK K
      obtain ⟨W_4, hW⟩ : ∃ X, W_s.alloc (.cells #[.bool false, .slice none 0 0] 59) = X := ⟨_, rfl⟩
      have hb_4 : Below W_s.heap.size W_s W_4 := hW ▸ (Below.refl _ _).alloc (Nat.le_refl _) _
      have O9_ : Own W_4 W_s.heap.size 59 #[.bool false, .slice none 0 0] := hW ▸ Own.made _ _ _
      have sz_4 := O9_.in_
      rw [hW]
      clear hW
      replace OA := OA.keep hb_4
      replace OR := OR.keep hb_4
      replace hB := then_ hB hb_4 hB.size
      clear hb_4
      have O9 := O9_
      clear O9_
      refine tree_two (i := 2) (k := 10) (by kernel_rfl) rfl rfl ?_ ?_
      · refine ⟨_, rfl, fun K hK => ?_⟩
        go_wp2_with (go_at_call 35; refine (FN.out W_4).mono ?_; rintro e W_5 ⟨v_, rfl, hn, hb_5⟩)
        have sz_5 := hb_5.size
        obtain ⟨s_x, a_x, l_x, c_x, rfl⟩ := hn.shape
        have NX := hn.mono (S' := fun b => W_4.heap.size ≤ b ∧ b < W_5.heap.size) (fun b h1 h2 => ⟨h2, h1⟩)
        clear hn
        replace OA := OA.keep hb_5
        replace OR := OR.keep hb_5
        replace O9 := O9.keep hb_5
        replace hB := then_ hB hb_5 hB.size
        refine hK _ _ ⟨OA, OR⟩ ?_
        clear hK K hb_5
        refine tree_two (i := 5) (k := 10) (by kernel_rfl) rfl rfl ?_ ?_
        · refine ⟨_, rfl, fun K hK => ?_⟩
          go_wp2_with (go_at_call 35; refine (FD.out W_5).mono ?_; rintro e W_6 ⟨v_, rfl, hn, hb_6⟩)
          have sz_6 := hb_6.size
          obtain ⟨s_y, a_y, l_y, c_y, rfl⟩ := hn.shape
          have NY := hn.mono (S' := fun b => W_5.heap.size ≤ b ∧ b < W_6.heap.size) (fun b h1 h2 => ⟨h2, h1⟩)
          clear hn
          replace OA := OA.keep hb_6
          replace OR := OR.keep hb_6
          replace O9 := O9.keep hb_6
          replace NX := NX.keep hb_6
          replace hB := then_ hB hb_6 hB.size
          refine hK _ _ ⟨OA, OR⟩ ?_
          clear hK K hb_6
          refine tree_two (i := 6) (k := 10) (by kernel_rfl) rfl rfl ?_ ?_
          · refine ⟨_, rfl, fun K hK => ?_⟩
            go_wp2_with (go_at_call 46; refine (div_num _ 0 0 _ _ n d W_6 NX (NY.num (T := 0) (C := 0) (fun b _ _ => .inr (Nat.zero_le _))) HZ.out LN.out LD.out).mono ?_; rintro e W_7 ⟨v_, v__, rfl, hq, hr, hb_7⟩)
            have sz_7 := hb_7.size
            obtain ⟨s_q, a_q, l_q, c_q, rfl⟩ := hq.shape
            obtain ⟨s_r, a_r, l_r, c_r, rfl⟩ := hr.shape
            have NQ := hq.mono (S' := fun b => W_6.heap.size ≤ b ∧ b < W_7.heap.size) (fun b h1 h2 => ⟨h2, h1⟩)
            have NR := hr.mono (S' := fun b => (((W_4.heap.size ≤ b ∧ b < W_5.heap.size) ∧ b < W_6.heap.size) ∨ W_6.heap.size ≤ b) ∧ b < W_7.heap.size) (fun b h1 h2 => ⟨h2, h1⟩)
            clear hq hr NX NY
            replace OA := OA.keep hb_7
            replace OR := OR.keep hb_7
            replace O9 := O9.keep hb_7
            replace hB := then_ hB hb_7 hB.size
            refine hK _ _ ⟨OA, OR⟩ ?_
            clear hK K hb_7
            refine tree_pure (i := 7) (v := ?_) rfl rfl (by kernel_rfl) (by kernel_rfl) (by kernel_rfl) rfl (fun W hS => ?_) ⟨OA, OR⟩ ?_
            rotate_left
            · conv => lhs; simp [go_sem]
              first | done | exact rfl
            simp only [Act.put, List.setIfInBounds_toArray, List.set_cons_zero, List.set_cons_succ]
            refine tree_pure (i := 8) (v := ?_) rfl rfl (by kernel_rfl) (by kernel_rfl) (by kernel_rfl) rfl (fun W hS => ?_) ⟨OA, OR⟩ ?_
            rotate_left
            · conv => lhs; simp [go_sem]
              first | done | exact rfl
            simp only [Act.put, List.setIfInBounds_toArray, List.set_cons_zero, List.set_cons_succ]
            refine tree_pure (i := 9) (v := ?_) rfl rfl (by kernel_rfl) (by kernel_rfl) (by kernel_rfl) rfl (fun W hS => ?_) ⟨OA, OR⟩ ?_
            rotate_left
            · conv => lhs; simp [go_sem]
              first | done | exact rfl
            simp only [Act.put, List.setIfInBounds_toArray, List.set_cons_zero, List.set_cons_succ]
            refine tree_one (i := 10) (by kernel_rfl) rfl ?_
            · refine ⟨_, rfl, fun K hK => ?_⟩
              go_wp2
              refine hK _ _ ⟨OA.more _, OR.more _⟩ ?_
              clear hK K
              obtain ⟨W_11, hW⟩ : ∃ X, W_7.alloc (.cells #[.bool false, .slice none 0 0] 59) = X := ⟨_, rfl⟩
              have hb_11 : Below W_7.heap.size W_7 W_11 := hW ▸ (Below.refl _ _).alloc (Nat.le_refl _) _
              have O8_ : Own W_11 W_7.heap.size 59 #[.bool false, .slice none 0 0] := hW ▸ Own.made _ _ _
              have sz_11 := O8_.in_
              rw [hW]
              clear hW
              replace OA := OA.keep hb_11
              replace OR := OR.keep hb_11
              replace O9 := O9.keep hb_11
              replace NQ := NQ.keep hb_11
              replace NR := NR.keep hb_11
              replace hB := then_ hB hb_11 hB.size
              clear hb_11
              have O8 := O8_
              clear O8_
              refine tree_one (i := 12) (by kernel_rfl) rfl ?_
              · refine ⟨_, rfl, fun K hK => ?_⟩
                have hfr := O8.at_
                obtain ⟨P1, P2, P3⟩ := hfr
                go_wp2
                clear P1 P2 P3
                refine hK _ _ ⟨(OA.apart (by omega) _ _).apart (by omega) _ _, (OR.apart (by omega) _ _).apart (by omega) _ _⟩ ?_
                clear hK K
                obtain ⟨W_12, hW⟩ : ∃ X, (W_11.setCell ⟨W_7.heap.size, 0, none⟩ (.bool s_q)).setCell ⟨W_7.heap.size, 1, none⟩ (.slice a_q l_q c_q) = X := ⟨_, rfl⟩
                have OA_ : Own W_12 w.heap.size 34 #[.int .u64 (L0 n), .int .u64 (L1 n), .int .u64 (L2 n), .int .u64 (L3 n), .int .u64 (L0 d), .int .u64 (L1 d), .int .u64 (L2 d), .int .u64 (L3 d)] := hW ▸ ((OA.apart (by omega) _ _).apart (by omega) _ _)
                have OR_ : Own W_12 (w.heap.size + 1) 23 #[.int .u64 0, .int .u64 0, .int .u64 0, .int .u64 0] := hW ▸ ((OR.apart (by omega) _ _).apart (by omega) _ _)
                have O9_ : Own W_12 W_s.heap.size 59 #[.bool false, .slice none 0 0] := hW ▸ ((O9.apart (by omega) _ _).apart (by omega) _ _)
                have O8_ : Own W_12 W_7.heap.size 59 #[.bool s_q, .slice a_q l_q c_q] := hW ▸ (((O8.put 0 _).put 1 _).as rfl)
                have NQ_ := hW ▸ (NQ.put (p := W_7.heap.size) (i := 0) (by omega) (.bool s_q)).put (p := W_7.heap.size) (i := 1) (by omega) (.slice a_q l_q c_q)
                have NR_ := hW ▸ (NR.put (p := W_7.heap.size) (i := 0) (by omega) (.bool s_q)).put (p := W_7.heap.size) (i := 1) (by omega) (.slice a_q l_q c_q)
                have hB_ : Below w.heap.size w W_12 := hW ▸ ((hB.setCell (by show w.heap.size ≤ W_7.heap.size; omega) _).setCell (by show w.heap.size ≤ W_7.heap.size; omega) _)
                rw [hW]
                clear hW
                clear OA OR O9 O8 NQ NR hB
                have OA := OA_
                have OR := OR_
                have O9 := O9_
                have O8 := O8_
                have NQ := NQ_
                have NR := NR_
                have hB := hB_
                clear OA_ OR_ O9_ O8_ NQ_ NR_ hB_
                refine tree_one (i := 13) (by kernel_rfl) rfl ?_
                · refine ⟨_, rfl, fun K hK => ?_⟩
                  have hfr := O9.at_
                  obtain ⟨P1, P2, P3⟩ := hfr
                  go_wp2
                  clear P1 P2 P3
                  refine hK _ _ ⟨(OA.apart (by omega) _ _).apart (by omega) _ _, (OR.apart (by omega) _ _).apart (by omega) _ _⟩ ?_
                  clear hK K
                  obtain ⟨W_13, hW⟩ : ∃ X, (W_12.setCell ⟨W_s.heap.size, 0, none⟩ (.bool s_r)).setCell ⟨W_s.heap.size, 1, none⟩ (.slice a_r l_r c_r) = X := ⟨_, rfl⟩
                  have OA_ : Own W_13 w.heap.size 34 #[.int .u64 (L0 n), .int .u64 (L1 n), .int .u64 (L2 n), .int .u64 (L3 n), .int .u64 (L0 d), .int .u64 (L1 d), .int .u64 (L2 d), .int .u64 (L3 d)] := hW ▸ ((OA.apart (by omega) _ _).apart (by omega) _ _)
                  have OR_ : Own W_13 (w.heap.size + 1) 23 #[.int .u64 0, .int .u64 0, .int .u64 0, .int .u64 0] := hW ▸ ((OR.apart (by omega) _ _).apart (by omega) _ _)
                  have O9_ : Own W_13 W_s.heap.size 59 #[.bool s_r, .slice a_r l_r c_r] := hW ▸ (((O9.put 0 _).put 1 _).as rfl)
                  have O8_ : Own W_13 W_7.heap.size 59 #[.bool s_q, .slice a_q l_q c_q] := hW ▸ ((O8.apart (by omega) _ _).apart (by omega) _ _)
                  have NQ_ := hW ▸ (NQ.put (p := W_s.heap.size) (i := 0) (by omega) (.bool s_r)).put (p := W_s.heap.size) (i := 1) (by omega) (.slice a_r l_r c_r)
                  have NR_ := hW ▸ (NR.put (p := W_s.heap.size) (i := 0) (by omega) (.bool s_r)).put (p := W_s.heap.size) (i := 1) (by omega) (.slice a_r l_r c_r)
                  have hB_ : Below w.heap.size w W_13 := hW ▸ ((hB.setCell (by show w.heap.size ≤ W_s.heap.size; omega) _).setCell (by show w.heap.size ≤ W_s.heap.size; omega) _)
                  rw [hW]
                  clear hW
                  clear OA OR O9 O8 NQ NR hB
                  have OA := OA_
                  have OR := OR_
                  have O9 := O9_
                  have O8 := O8_
                  have NQ := NQ_
                  have NR := NR_
                  have hB := hB_
                  clear OA_ OR_ O9_ O8_ NQ_ NR_ hB_
                  refine tree_end (by kernel_rfl) ?_
                  go_wp2_with fail
                  go_meet
                  exact ⟨W_7.heap.size, W_s.heap.size, s_q, a_q, l_q, c_q, s_r, a_r, l_r, c_r, rfl, rfl, by omega, O8, O9, NQ.mono (fun _ _ _ => trivial), NR.mono (fun _ _ _ => trivial), OR, hB⟩
          · refine ⟨_, rfl, fun K hK => ?_⟩
            go_wp2
            refine hK _ _ ⟨OA.more _, OR.more _⟩ ?_
            clear hK K
            obtain ⟨W_7, hW⟩ : ∃ X, W_6.alloc (.cells #[.bool false, .slice none 0 0] 59) = X := ⟨_, rfl⟩
            have hb_7 : Below W_6.heap.size W_6 W_7 := hW ▸ (Below.refl _ _).alloc (Nat.le_refl _) _
            have O8_ : Own W_7 W_6.heap.size 59 #[.bool false, .slice none 0 0] := hW ▸ Own.made _ _ _
            have sz_7 := O8_.in_
            rw [hW]
            clear hW
            replace OA := OA.keep hb_7
            replace OR := OR.keep hb_7
            replace O9 := O9.keep hb_7
            replace NX := NX.keep hb_7
            replace NY := NY.keep hb_7
            replace hB := then_ hB hb_7 hB.size
            clear hb_7
            have O8 := O8_
            clear O8_
            refine tree_one (i := 6) (by kernel_rfl) rfl ?_
            · refine ⟨_, rfl, fun K hK => ?_⟩
              go_wp2_with (go_at_call 46; refine (div_num _ 0 0 _ _ n d W_7 NX (NY.num (T := 0) (C := 0) (fun b _ _ => .inr (Nat.zero_le _))) HZ.out LN.out LD.out).mono ?_; rintro e W_8 ⟨v_, v__, rfl, hq, hr, hb_8⟩)
              have sz_8 := hb_8.size
              obtain ⟨s_q, a_q, l_q, c_q, rfl⟩ := hq.shape
              obtain ⟨s_r, a_r, l_r, c_r, rfl⟩ := hr.shape
              have NQ := hq.mono (S' := fun b => W_7.heap.size ≤ b ∧ b < W_8.heap.size) (fun b h1 h2 => ⟨h2, h1⟩)
              have NR := hr.mono (S' := fun b => (((W_4.heap.size ≤ b ∧ b < W_5.heap.size) ∧ b < W_7.heap.size) ∨ W_7.heap.size ≤ b) ∧ b < W_8.heap.size) (fun b h1 h2 => ⟨h2, h1⟩)
              clear hq hr NX NY
              replace OA := OA.keep hb_8
              replace OR := OR.keep hb_8
              replace O9 := O9.keep hb_8
              replace O8 := O8.keep hb_8
              replace hB := then_ hB hb_8 hB.size
              refine hK _ _ ⟨OA, OR⟩ ?_
              clear hK K hb_8
              refine tree_pure (i := 7) (v := ?_) rfl rfl (by kernel_rfl) (by kernel_rfl) (by kernel_rfl) rfl (fun W hS => ?_) ⟨OA, OR⟩ ?_
              rotate_left
              · conv => lhs; simp [go_sem]
                first | done | exact rfl
              simp only [Act.put, List.setIfInBounds_toArray, List.set_cons_zero, List.set_cons_succ]
              refine tree_pure (i := 8) (v := ?_) rfl rfl (by kernel_rfl) (by kernel_rfl) (by kernel_rfl) rfl (fun W hS => ?_) ⟨OA, OR⟩ ?_
              rotate_left
              · conv => lhs; simp [go_sem]
                first | done | exact rfl
              simp only [Act.put, List.setIfInBounds_toArray, List.set_cons_zero, List.set_cons_succ]
              refine tree_pure (i := 9) (v := ?_) rfl rfl (by kernel_rfl) (by kernel_rfl) (by kernel_rfl) rfl (fun W hS => ?_) ⟨OA, OR⟩ ?_
              rotate_left
              · conv => lhs; simp [go_sem]
                first | done | exact rfl
              simp only [Act.put, List.setIfInBounds_toArray, List.set_cons_zero, List.set_cons_succ]
              refine tree_one (i := 12) (by kernel_rfl) rfl ?_
              · refine ⟨_, rfl, fun K hK => ?_⟩
                have hfr := O8.at_
                obtain ⟨P1, P2, P3⟩ := hfr
                go_wp2
                clear P1 P2 P3
                refine hK _ _ ⟨(OA.apart (by omega) _ _).apart (by omega) _ _, (OR.apart (by omega) _ _).apart (by omega) _ _⟩ ?_
                clear hK K
                obtain ⟨W_12, hW⟩ : ∃ X, (W_8.setCell ⟨W_6.heap.size, 0, none⟩ (.bool s_q)).setCell ⟨W_6.heap.size, 1, none⟩ (.slice a_q l_q c_q) = X := ⟨_, rfl⟩
                have OA_ : Own W_12 w.heap.size 34 #[.int .u64 (L0 n), .int .u64 (L1 n), .int .u64 (L2 n), .int .u64 (L3 n), .int .u64 (L0 d), .int .u64 (L1 d), .int .u64 (L2 d), .int .u64 (L3 d)] := hW ▸ ((OA.apart (by omega) _ _).apart (by omega) _ _)
                have OR_ : Own W_12 (w.heap.size + 1) 23 #[.int .u64 0, .int .u64 0, .int .u64 0, .int .u64 0] := hW ▸ ((OR.apart (by omega) _ _).apart (by omega) _ _)
                have O9_ : Own W_12 W_s.heap.size 59 #[.bool false, .slice none 0 0] := hW ▸ ((O9.apart (by omega) _ _).apart (by omega) _ _)
                have O8_ : Own W_12 W_6.heap.size 59 #[.bool s_q, .slice a_q l_q c_q] := hW ▸ (((O8.put 0 _).put 1 _).as rfl)
                have NQ_ := hW ▸ (NQ.put (p := W_6.heap.size) (i := 0) (by omega) (.bool s_q)).put (p := W_6.heap.size) (i := 1) (by omega) (.slice a_q l_q c_q)
                have NR_ := hW ▸ (NR.put (p := W_6.heap.size) (i := 0) (by omega) (.bool s_q)).put (p := W_6.heap.size) (i := 1) (by omega) (.slice a_q l_q c_q)
                have hB_ : Below w.heap.size w W_12 := hW ▸ ((hB.setCell (by show w.heap.size ≤ W_6.heap.size; omega) _).setCell (by show w.heap.size ≤ W_6.heap.size; omega) _)
                rw [hW]
                clear hW
                clear OA OR O9 O8 NQ NR hB
                have OA := OA_
                have OR := OR_
                have O9 := O9_
                have O8 := O8_
                have NQ := NQ_
                have NR := NR_
                have hB := hB_
                clear OA_ OR_ O9_ O8_ NQ_ NR_ hB_
                refine tree_one (i := 13) (by kernel_rfl) rfl ?_
                · refine ⟨_, rfl, fun K hK => ?_⟩
                  have hfr := O9.at_
                  obtain ⟨P1, P2, P3⟩ := hfr
                  go_wp2
                  clear P1 P2 P3
                  refine hK _ _ ⟨(OA.apart (by omega) _ _).apart (by omega) _ _, (OR.apart (by omega) _ _).apart (by omega) _ _⟩ ?_
                  clear hK K
                  obtain ⟨W_13, hW⟩ : ∃ X, (W_12.setCell ⟨W_s.heap.size, 0, none⟩ (.bool s_r)).setCell ⟨W_s.heap.size, 1, none⟩ (.slice a_r l_r c_r) = X := ⟨_, rfl⟩
                  have OA_ : Own W_13 w.heap.size 34 #[.int .u64 (L0 n), .int .u64 (L1 n), .int .u64 (L2 n), .int .u64 (L3 n), .int .u64 (L0 d), .int .u64 (L1 d), .int .u64 (L2 d), .int .u64 (L3 d)] := hW ▸ ((OA.apart (by omega) _ _).apart (by omega) _ _)
                  have OR_ : Own W_13 (w.heap.size + 1) 23 #[.int .u64 0, .int .u64 0, .int .u64 0, .int .u64 0] := hW ▸ ((OR.apart (by omega) _ _).apart (by omega) _ _)
                  have O9_ : Own W_13 W_s.heap.size 59 #[.bool s_r, .slice a_r l_r c_r] := hW ▸ (((O9.put 0 _).put 1 _).as rfl)
                  have O8_ : Own W_13 W_6.heap.size 59 #[.bool s_q, .slice a_q l_q c_q] := hW ▸ ((O8.apart (by omega) _ _).apart (by omega) _ _)
                  have NQ_ := hW ▸ (NQ.put (p := W_s.heap.size) (i := 0) (by omega) (.bool s_r)).put (p := W_s.heap.size) (i := 1) (by omega) (.slice a_r l_r c_r)
                  have NR_ := hW ▸ (NR.put (p := W_s.heap.size) (i := 0) (by omega) (.bool s_r)).put (p := W_s.heap.size) (i := 1) (by omega) (.slice a_r l_r c_r)
                  have hB_ : Below w.heap.size w W_13 := hW ▸ ((hB.setCell (by show w.heap.size ≤ W_s.heap.size; omega) _).setCell (by show w.heap.size ≤ W_s.heap.size; omega) _)
                  rw [hW]
                  clear hW
                  clear OA OR O9 O8 NQ NR hB
                  have OA := OA_
                  have OR := OR_
                  have O9 := O9_
                  have O8 := O8_
                  have NQ := NQ_
                  have NR := NR_
                  have hB := hB_
                  clear OA_ OR_ O9_ O8_ NQ_ NR_ hB_
                  refine tree_end (by kernel_rfl) ?_
                  go_wp2_with fail
                  go_meet
                  exact ⟨W_6.heap.size, W_s.heap.size, s_q, a_q, l_q, c_q, s_r, a_r, l_r, c_r, rfl, rfl, by omega, O8, O9, NQ.mono (fun _ _ _ => trivial), NR.mono (fun _ _ _ => trivial), OR, hB⟩
        · refine ⟨_, rfl, fun K hK => ?_⟩
          go_wp2
          refine hK _ _ ⟨OA.more _, OR.more _⟩ ?_
          clear hK K
          obtain ⟨W_6, hW⟩ : ∃ X, W_5.alloc (.cells #[.bool false, .slice none 0 0] 59) = X := ⟨_, rfl⟩
          have hb_6 : Below W_5.heap.size W_5 W_6 := hW ▸ (Below.refl _ _).alloc (Nat.le_refl _) _
          have O8_ : Own W_6 W_5.heap.size 59 #[.bool false, .slice none 0 0] := hW ▸ Own.made _ _ _
          have sz_6 := O8_.in_
          rw [hW]
          clear hW
          replace OA := OA.keep hb_6
          replace OR := OR.keep hb_6
          replace O9 := O9.keep hb_6
          replace NX := NX.keep hb_6
          replace hB := then_ hB hb_6 hB.size
          clear hb_6
          have O8 := O8_
          clear O8_
          refine tree_one (i := 5) (by kernel_rfl) rfl ?_
          · refine ⟨_, rfl, fun K hK => ?_⟩
            go_wp2_with (go_at_call 35; refine (FD.out W_6).mono ?_; rintro e W_7 ⟨v_, rfl, hn, hb_7⟩)
            have sz_7 := hb_7.size
            obtain ⟨s_y, a_y, l_y, c_y, rfl⟩ := hn.shape
            have NY := hn.mono (S' := fun b => W_6.heap.size ≤ b ∧ b < W_7.heap.size) (fun b h1 h2 => ⟨h2, h1⟩)
            clear hn
            replace OA := OA.keep hb_7
            replace OR := OR.keep hb_7
            replace O9 := O9.keep hb_7
            replace O8 := O8.keep hb_7
            replace NX := NX.keep hb_7
            replace hB := then_ hB hb_7 hB.size
            refine hK _ _ ⟨OA, OR⟩ ?_
            clear hK K hb_7
            refine tree_one (i := 6) (by kernel_rfl) rfl ?_
            · refine ⟨_, rfl, fun K hK => ?_⟩
              go_wp2_with (go_at_call 46; refine (div_num _ 0 0 _ _ n d W_7 NX (NY.num (T := 0) (C := 0) (fun b _ _ => .inr (Nat.zero_le _))) HZ.out LN.out LD.out).mono ?_; rintro e W_8 ⟨v_, v__, rfl, hq, hr, hb_8⟩)
              have sz_8 := hb_8.size
              obtain ⟨s_q, a_q, l_q, c_q, rfl⟩ := hq.shape
              obtain ⟨s_r, a_r, l_r, c_r, rfl⟩ := hr.shape
              have NQ := hq.mono (S' := fun b => W_7.heap.size ≤ b ∧ b < W_8.heap.size) (fun b h1 h2 => ⟨h2, h1⟩)
              have NR := hr.mono (S' := fun b => (((W_4.heap.size ≤ b ∧ b < W_5.heap.size) ∧ b < W_7.heap.size) ∨ W_7.heap.size ≤ b) ∧ b < W_8.heap.size) (fun b h1 h2 => ⟨h2, h1⟩)
              clear hq hr NX NY
              replace OA := OA.keep hb_8
              replace OR := OR.keep hb_8
              replace O9 := O9.keep hb_8
              replace O8 := O8.keep hb_8
              replace hB := then_ hB hb_8 hB.size
              refine hK _ _ ⟨OA, OR⟩ ?_
              clear hK K hb_8
              refine tree_pure (i := 7) (v := ?_) rfl rfl (by kernel_rfl) (by kernel_rfl) (by kernel_rfl) rfl (fun W hS => ?_) ⟨OA, OR⟩ ?_
              rotate_left
              · conv => lhs; simp [go_sem]
                first | done | exact rfl
              simp only [Act.put, List.setIfInBounds_toArray, List.set_cons_zero, List.set_cons_succ]
              refine tree_pure (i := 8) (v := ?_) rfl rfl (by kernel_rfl) (by kernel_rfl) (by kernel_rfl) rfl (fun W hS => ?_) ⟨OA, OR⟩ ?_
              rotate_left
              · conv => lhs; simp [go_sem]
                first | done | exact rfl
              simp only [Act.put, List.setIfInBounds_toArray, List.set_cons_zero, List.set_cons_succ]
              refine tree_pure (i := 9) (v := ?_) rfl rfl (by kernel_rfl) (by kernel_rfl) (by kernel_rfl) rfl (fun W hS => ?_) ⟨OA, OR⟩ ?_
              rotate_left
              · conv => lhs; simp [go_sem]
                first | done | exact rfl
              simp only [Act.put, List.setIfInBounds_toArray, List.set_cons_zero, List.set_cons_succ]
              refine tree_one (i := 12) (by kernel_rfl) rfl ?_
              · refine ⟨_, rfl, fun K hK => ?_⟩
                have hfr := O8.at_
                obtain ⟨P1, P2, P3⟩ := hfr
                go_wp2
                clear P1 P2 P3
                refine hK _ _ ⟨(OA.apart (by omega) _ _).apart (by omega) _ _, (OR.apart (by omega) _ _).apart (by omega) _ _⟩ ?_
                clear hK K
                obtain ⟨W_12, hW⟩ : ∃ X, (W_8.setCell ⟨W_5.heap.size, 0, none⟩ (.bool s_q)).setCell ⟨W_5.heap.size, 1, none⟩ (.slice a_q l_q c_q) = X := ⟨_, rfl⟩
                have OA_ : Own W_12 w.heap.size 34 #[.int .u64 (L0 n), .int .u64 (L1 n), .int .u64 (L2 n), .int .u64 (L3 n), .int .u64 (L0 d), .int .u64 (L1 d), .int .u64 (L2 d), .int .u64 (L3 d)] := hW ▸ ((OA.apart (by omega) _ _).apart (by omega) _ _)
                have OR_ : Own W_12 (w.heap.size + 1) 23 #[.int .u64 0, .int .u64 0, .int .u64 0, .int .u64 0] := hW ▸ ((OR.apart (by omega) _ _).apart (by omega) _ _)
                have O9_ : Own W_12 W_s.heap.size 59 #[.bool false, .slice none 0 0] := hW ▸ ((O9.apart (by omega) _ _).apart (by omega) _ _)
                have O8_ : Own W_12 W_5.heap.size 59 #[.bool s_q, .slice a_q l_q c_q] := hW ▸ (((O8.put 0 _).put 1 _).as rfl)
                have NQ_ := hW ▸ (NQ.put (p := W_5.heap.size) (i := 0) (by omega) (.bool s_q)).put (p := W_5.heap.size) (i := 1) (by omega) (.slice a_q l_q c_q)
                have NR_ := hW ▸ (NR.put (p := W_5.heap.size) (i := 0) (by omega) (.bool s_q)).put (p := W_5.heap.size) (i := 1) (by omega) (.slice a_q l_q c_q)
                have hB_ : Below w.heap.size w W_12 := hW ▸ ((hB.setCell (by show w.heap.size ≤ W_5.heap.size; omega) _).setCell (by show w.heap.size ≤ W_5.heap.size; omega) _)
                rw [hW]
                clear hW
                clear OA OR O9 O8 NQ NR hB
                have OA := OA_
                have OR := OR_
                have O9 := O9_
                have O8 := O8_
                have NQ := NQ_
                have NR := NR_
                have hB := hB_
                clear OA_ OR_ O9_ O8_ NQ_ NR_ hB_
                refine tree_one (i := 13) (by kernel_rfl) rfl ?_
                · refine ⟨_, rfl, fun K hK => ?_⟩
                  have hfr := O9.at_
                  obtain ⟨P1, P2, P3⟩ := hfr
                  go_wp2
                  clear P1 P2 P3
                  refine hK _ _ ⟨(OA.apart (by omega) _ _).apart (by omega) _ _, (OR.apart (by omega) _ _).apart (by omega) _ _⟩ ?_
                  clear hK K
                  obtain ⟨W_13, hW⟩ : ∃ X, (W_12.setCell ⟨W_s.heap.size, 0, none⟩ (.bool s_r)).setCell ⟨W_s.heap.size, 1, none⟩ (.slice a_r l_r c_r) = X := ⟨_, rfl⟩
                  have OA_ : Own W_13 w.heap.size 34 #[.int .u64 (L0 n), .int .u64 (L1 n), .int .u64 (L2 n), .int .u64 (L3 n), .int .u64 (L0 d), .int .u64 (L1 d), .int .u64 (L2 d), .int .u64 (L3 d)] := hW ▸ ((OA.apart (by omega) _ _).apart (by omega) _ _)
                  have OR_ : Own W_13 (w.heap.size + 1) 23 #[.int .u64 0, .int .u64 0, .int .u64 0, .int .u64 0] := hW ▸ ((OR.apart (by omega) _ _).apart (by omega) _ _)
                  have O9_ : Own W_13 W_s.heap.size 59 #[.bool s_r, .slice a_r l_r c_r] := hW ▸ (((O9.put 0 _).put 1 _).as rfl)
                  have O8_ : Own W_13 W_5.heap.size 59 #[.bool s_q, .slice a_q l_q c_q] := hW ▸ ((O8.apart (by omega) _ _).apart (by omega) _ _)
                  have NQ_ := hW ▸ (NQ.put (p := W_s.heap.size) (i := 0) (by omega) (.bool s_r)).put (p := W_s.heap.size) (i := 1) (by omega) (.slice a_r l_r c_r)
                  have NR_ := hW ▸ (NR.put (p := W_s.heap.size) (i := 0) (by omega) (.bool s_r)).put (p := W_s.heap.size) (i := 1) (by omega) (.slice a_r l_r c_r)
                  have hB_ : Below w.heap.size w W_13 := hW ▸ ((hB.setCell (by show w.heap.size ≤ W_s.heap.size; omega) _).setCell (by show w.heap.size ≤ W_s.heap.size; omega) _)
                  rw [hW]
                  clear hW
                  clear OA OR O9 O8 NQ NR hB
                  have OA := OA_
                  have OR := OR_
                  have O9 := O9_
                  have O8 := O8_
                  have NQ := NQ_
                  have NR := NR_
                  have hB := hB_
                  clear OA_ OR_ O9_ O8_ NQ_ NR_ hB_
                  refine tree_end (by kernel_rfl) ?_
                  go_wp2_with fail
                  go_meet
                  exact ⟨W_5.heap.size, W_s.heap.size, s_q, a_q, l_q, c_q, s_r, a_r, l_r, c_r, rfl, rfl, by omega, O8, O9, NQ.mono (fun _ _ _ => trivial), NR.mono (fun _ _ _ => trivial), OR, hB⟩
      · refine ⟨_, rfl, fun K hK => ?_⟩
        go_wp2
        refine hK _ _ ⟨OA.more _, OR.more _⟩ ?_
        clear hK K
        obtain ⟨W_5, hW⟩ : ∃ X, W_4.alloc (.cells #[.bool false, .slice none 0 0] 59) = X := ⟨_, rfl⟩
        have hb_5 : Below W_4.heap.size W_4 W_5 := hW ▸ (Below.refl _ _).alloc (Nat.le_refl _) _
        have O8_ : Own W_5 W_4.heap.size 59 #[.bool false, .slice none 0 0] := hW ▸ Own.made _ _ _
        have sz_5 := O8_.in_
        rw [hW]
        clear hW
        replace OA := OA.keep hb_5
        replace OR := OR.keep hb_5
        replace O9 := O9.keep hb_5
        replace hB := then_ hB hb_5 hB.size
        clear hb_5
        have O8 := O8_
        clear O8_
        refine tree_one (i := 2) (by kernel_rfl) rfl ?_
        · refine ⟨_, rfl, fun K hK => ?_⟩
          go_wp2_with (go_at_call 35; refine (FN.out W_5).mono ?_; rintro e W_6 ⟨v_, rfl, hn, hb_6⟩)
          have sz_6 := hb_6.size
          obtain ⟨s_x, a_x, l_x, c_x, rfl⟩ := hn.shape
          have NX := hn.mono (S' := fun b => W_5.heap.size ≤ b ∧ b < W_6.heap.size) (fun b h1 h2 => ⟨h2, h1⟩)
          clear hn
          replace OA := OA.keep hb_6
          replace OR := OR.keep hb_6
          replace O9 := O9.keep hb_6
          replace O8 := O8.keep hb_6
          replace hB := then_ hB hb_6 hB.size
          refine hK _ _ ⟨OA, OR⟩ ?_
          clear hK K hb_6
          refine tree_one (i := 5) (by kernel_rfl) rfl ?_
          · refine ⟨_, rfl, fun K hK => ?_⟩
            go_wp2_with (go_at_call 35; refine (FD.out W_6).mono ?_; rintro e W_7 ⟨v_, rfl, hn, hb_7⟩)
            have sz_7 := hb_7.size
            obtain ⟨s_y, a_y, l_y, c_y, rfl⟩ := hn.shape
            have NY := hn.mono (S' := fun b => W_6.heap.size ≤ b ∧ b < W_7.heap.size) (fun b h1 h2 => ⟨h2, h1⟩)
            clear hn
            replace OA := OA.keep hb_7
            replace OR := OR.keep hb_7
            replace O9 := O9.keep hb_7
            replace O8 := O8.keep hb_7
            replace NX := NX.keep hb_7
            replace hB := then_ hB hb_7 hB.size
            refine hK _ _ ⟨OA, OR⟩ ?_
            clear hK K hb_7
            refine tree_one (i := 6) (by kernel_rfl) rfl ?_
            · refine ⟨_, rfl, fun K hK => ?_⟩
              go_wp2_with (go_at_call 46; refine (div_num _ 0 0 _ _ n d W_7 NX (NY.num (T := 0) (C := 0) (fun b _ _ => .inr (Nat.zero_le _))) HZ.out LN.out LD.out).mono ?_; rintro e W_8 ⟨v_, v__, rfl, hq, hr, hb_8⟩)
              have sz_8 := hb_8.size
              obtain ⟨s_q, a_q, l_q, c_q, rfl⟩ := hq.shape
              obtain ⟨s_r, a_r, l_r, c_r, rfl⟩ := hr.shape
              have NQ := hq.mono (S' := fun b => W_7.heap.size ≤ b ∧ b < W_8.heap.size) (fun b h1 h2 => ⟨h2, h1⟩)
              have NR := hr.mono (S' := fun b => (((W_5.heap.size ≤ b ∧ b < W_6.heap.size) ∧ b < W_7.heap.size) ∨ W_7.heap.size ≤ b) ∧ b < W_8.heap.size) (fun b h1 h2 => ⟨h2, h1⟩)
              clear hq hr NX NY
              replace OA := OA.keep hb_8
              replace OR := OR.keep hb_8
              replace O9 := O9.keep hb_8
              replace O8 := O8.keep hb_8
              replace hB := then_ hB hb_8 hB.size
              refine hK _ _ ⟨OA, OR⟩ ?_
              clear hK K hb_8
              refine tree_pure (i := 7) (v := ?_) rfl rfl (by kernel_rfl) (by kernel_rfl) (by kernel_rfl) rfl (fun W hS => ?_) ⟨OA, OR⟩ ?_
              rotate_left
              · conv => lhs; simp [go_sem]
                first | done | exact rfl
              simp only [Act.put, List.setIfInBounds_toArray, List.set_cons_zero, List.set_cons_succ]
              refine tree_pure (i := 8) (v := ?_) rfl rfl (by kernel_rfl) (by kernel_rfl) (by kernel_rfl) rfl (fun W hS => ?_) ⟨OA, OR⟩ ?_
              rotate_left
              · conv => lhs; simp [go_sem]
                first | done | exact rfl
              simp only [Act.put, List.setIfInBounds_toArray, List.set_cons_zero, List.set_cons_succ]
              refine tree_pure (i := 9) (v := ?_) rfl rfl (by kernel_rfl) (by kernel_rfl) (by kernel_rfl) rfl (fun W hS => ?_) ⟨OA, OR⟩ ?_
              rotate_left
              · conv => lhs; simp [go_sem]
                first | done | exact rfl
              simp only [Act.put, List.setIfInBounds_toArray, List.set_cons_zero, List.set_cons_succ]
              refine tree_one (i := 12) (by kernel_rfl) rfl ?_
              · refine ⟨_, rfl, fun K hK => ?_⟩
                have hfr := O8.at_
                obtain ⟨P1, P2, P3⟩ := hfr
                go_wp2
                clear P1 P2 P3
                refine hK _ _ ⟨(OA.apart (by omega) _ _).apart (by omega) _ _, (OR.apart (by omega) _ _).apart (by omega) _ _⟩ ?_
                clear hK K
                obtain ⟨W_12, hW⟩ : ∃ X, (W_8.setCell ⟨W_4.heap.size, 0, none⟩ (.bool s_q)).setCell ⟨W_4.heap.size, 1, none⟩ (.slice a_q l_q c_q) = X := ⟨_, rfl⟩
                have OA_ : Own W_12 w.heap.size 34 #[.int .u64 (L0 n), .int .u64 (L1 n), .int .u64 (L2 n), .int .u64 (L3 n), .int .u64 (L0 d), .int .u64 (L1 d), .int .u64 (L2 d), .int .u64 (L3 d)] := hW ▸ ((OA.apart (by omega) _ _).apart (by omega) _ _)
                have OR_ : Own W_12 (w.heap.size + 1) 23 #[.int .u64 0, .int .u64 0, .int .u64 0, .int .u64 0] := hW ▸ ((OR.apart (by omega) _ _).apart (by omega) _ _)
                have O9_ : Own W_12 W_s.heap.size 59 #[.bool false, .slice none 0 0] := hW ▸ ((O9.apart (by omega) _ _).apart (by omega) _ _)
                have O8_ : Own W_12 W_4.heap.size 59 #[.bool s_q, .slice a_q l_q c_q] := hW ▸ (((O8.put 0 _).put 1 _).as rfl)
                have NQ_ := hW ▸ (NQ.put (p := W_4.heap.size) (i := 0) (by omega) (.bool s_q)).put (p := W_4.heap.size) (i := 1) (by omega) (.slice a_q l_q c_q)
                have NR_ := hW ▸ (NR.put (p := W_4.heap.size) (i := 0) (by omega) (.bool s_q)).put (p := W_4.heap.size) (i := 1) (by omega) (.slice a_q l_q c_q)
                have hB_ : Below w.heap.size w W_12 := hW ▸ ((hB.setCell (by show w.heap.size ≤ W_4.heap.size; omega) _).setCell (by show w.heap.size ≤ W_4.heap.size; omega) _)
                rw [hW]
                clear hW
                clear OA OR O9 O8 NQ NR hB
                have OA := OA_
                have OR := OR_
                have O9 := O9_
                have O8 := O8_
                have NQ := NQ_
                have NR := NR_
                have hB := hB_
                clear OA_ OR_ O9_ O8_ NQ_ NR_ hB_
                refine tree_one (i := 13) (by kernel_rfl) rfl ?_
                · refine ⟨_, rfl, fun K hK => ?_⟩
                  have hfr := O9.at_
                  obtain ⟨P1, P2, P3⟩ := hfr
                  go_wp2
                  clear P1 P2 P3
                  refine hK _ _ ⟨(OA.apart (by omega) _ _).apart (by omega) _ _, (OR.apart (by omega) _ _).apart (by omega) _ _⟩ ?_
                  clear hK K
                  obtain ⟨W_13, hW⟩ : ∃ X, (W_12.setCell ⟨W_s.heap.size, 0, none⟩ (.bool s_r)).setCell ⟨W_s.heap.size, 1, none⟩ (.slice a_r l_r c_r) = X := ⟨_, rfl⟩
                  have OA_ : Own W_13 w.heap.size 34 #[.int .u64 (L0 n), .int .u64 (L1 n), .int .u64 (L2 n), .int .u64 (L3 n), .int .u64 (L0 d), .int .u64 (L1 d), .int .u64 (L2 d), .int .u64 (L3 d)] := hW ▸ ((OA.apart (by omega) _ _).apart (by omega) _ _)
                  have OR_ : Own W_13 (w.heap.size + 1) 23 #[.int .u64 0, .int .u64 0, .int .u64 0, .int .u64 0] := hW ▸ ((OR.apart (by omega) _ _).apart (by omega) _ _)
                  have O9_ : Own W_13 W_s.heap.size 59 #[.bool s_r, .slice a_r l_r c_r] := hW ▸ (((O9.put 0 _).put 1 _).as rfl)
                  have O8_ : Own W_13 W_4.heap.size 59 #[.bool s_q, .slice a_q l_q c_q] := hW ▸ ((O8.apart (by omega) _ _).apart (by omega) _ _)
                  have NQ_ := hW ▸ (NQ.put (p := W_s.heap.size) (i := 0) (by omega) (.bool s_r)).put (p := W_s.heap.size) (i := 1) (by omega) (.slice a_r l_r c_r)
                  have NR_ := hW ▸ (NR.put (p := W_s.heap.size) (i := 0) (by omega) (.bool s_r)).put (p := W_s.heap.size) (i := 1) (by omega) (.slice a_r l_r c_r)
                  have hB_ : Below w.heap.size w W_13 := hW ▸ ((hB.setCell (by show w.heap.size ≤ W_s.heap.size; omega) _).setCell (by show w.heap.size ≤ W_s.heap.size; omega) _)
                  rw [hW]
                  clear hW
                  clear OA OR O9 O8 NQ NR hB
                  have OA := OA_
                  have OR := OR_
                  have O9 := O9_
                  have O8 := O8_
                  have NQ := NQ_
                  have NR := NR_
                  have hB := hB_
                  clear OA_ OR_ O9_ O8_ NQ_ NR_ hB_
                  refine tree_end (by kernel_rfl) ?_
                  go_wp2_with fail
                  go_meet
                  exact ⟨W_4.heap.size, W_s.heap.size, s_q, a_q, l_q, c_q, s_r, a_r, l_r, c_r, rfl, rfl, by omega, O8, O9, NQ.mono (fun _ _ _ => trivial), NR.mono (fun _ _ _ => trivial), OR, hB⟩
  case rest =>
    obtain ⟨b5, b6, s5, a5, l5, c5, s6, a6, l6, c6, rfl, rfl, hb56, O8, O9, NQ, NR, OR, hB⟩ := hcut
    have hs6 : s6 = decide (n.tmod d < 0) := by
      obtain ⟨_, _, _, e, _⟩ := NR
      have := congrArg (fun v => match v with | Value.agg c => c[0]? | _ => none) e
      simpa using this
    have LQ := Lib.hid (dlen HQ.out)
    have HNQ := Lib.hid NQ
    clear NQ NR FN FD LN LD HZ HQ OA
    obtain ⟨P1, P2, P3⟩ := O9.at_
    by_cases hr : n.tmod d < 0
    · have e1 : s6 = true := by rw [hs6]; exact decide_eq_true hr
      have e2 : fl n d = n.tdiv d + -1 := by unfold fl; rw [if_pos hr]; omega
      rw [e2] at HF
      rw [e1] at P1
      have E2 := Lib.hid e2
      clear e1 e2 hr hs6
      go_upto_region 3 with fail
      clear P1 P2 P3
      have AD1 : ∀ w', Below wc.heap.size wc w' → Own w' wc.heap.size 3 #[.int .i64 1] → Calls Tryd.prog 39 #[.agg #[.bool s5, .slice a5 l5 c5], .agg #[.bool true, .slice (some ⟨wc.heap.size, 0, none⟩) 1 1]] w' fun e w'' => ∃ v2, e = .returned v2 ∧ NumP w'' (fun b => w'.heap.size ≤ b) v2 (n.tdiv d + -1) ∧ Below w'.heap.size w' w'' := fun w' hb ho => by
        have hl3 : (digs (-1 : Int).natAbs).length ≤ 100000000 := by
          rw [show (-1 : Int).natAbs = 1 from rfl, digs_pos (by decide)]
          simp [digs_zero]
        refine (add_num 0 _ _ _ _ _ _ _ _ w' (Nat.zero_le _) ((HNQ.out.keep hb).old 0) ((mone_num ho (S := fun _ => True) trivial).old 0) LQ.out hl3).mono ?_
        rintro e w2 ⟨v2, he, hn, hb2⟩
        exact ⟨v2, he, NumP.of hn (fun b _ h => by omega), hb2⟩
      have AD := Lib.hid AD1
      clear AD1 LQ
      obtain ⟨z, hz⟩ : ∃ z, n.tdiv d + -1 = z := ⟨_, rfl⟩
      rw [hz] at AD HF E2
      obtain ⟨P1, P2, P3⟩ := O8.at_
      go_upto_region 4 with (go_at_call 39; refine (AD.out _ (by repeat' (first | (with_reducible exact Below.refl _ _) | (with_reducible assumption) | (with_reducible refine below_drewN ?_ _) | (with_reducible refine Below.drew ?_) | (with_reducible refine Below.alloc ?_ ?_ _) | (with_reducible refine Below.setCell ?_ ?_ _) | (with_reducible refine then_ ?_ (by with_reducible assumption) ?_) | (with_reducible exact Nat.le_refl _) | (with_reducible exact Nat.le_succ _) | (with_reducible exact Nat.le_succ_of_le (by with_reducible assumption)) | omega | (simp; done) | (simp; omega) | (exact Nat.le_succ _) | (exact Nat.le_succ_of_le (by with_reducible assumption)))) (by repeat' (first | (with_reducible assumption) | (with_reducible refine Own.drawnN ?_ _) | (with_reducible refine Own.drawn ?_) | (with_reducible refine Own.made_at ?_; first | rfl | (simp; done) | omega | (simp; omega)) | (with_reducible refine Own.more ?_ _) | (with_reducible refine Own.apart ?_ ?_ _ _; rotate_left; first | omega | (simp; done) | (simp; omega)) | (refine Own.put ?_ _ _)))).mono ?_; rintro e w3 ⟨v2, rfl, hn3, hb3⟩; obtain ⟨s3, a3, l3, c3, rfl⟩ := hn3.shape; replace hn3 := Lib.hid hn3; have hb3' : Below wc.heap.size wc w3 := then_ (by repeat' (first | (with_reducible exact Below.refl _ _) | (with_reducible assumption) | (with_reducible refine below_drewN ?_ _) | (with_reducible refine Below.drew ?_) | (with_reducible refine Below.alloc ?_ ?_ _) | (with_reducible refine Below.setCell ?_ ?_ _) | (with_reducible refine then_ ?_ (by with_reducible assumption) ?_) | (with_reducible exact Nat.le_refl _) | (with_reducible exact Nat.le_succ _) | (with_reducible exact Nat.le_succ_of_le (by with_reducible assumption)) | omega | (simp; done) | (simp; omega) | (exact Nat.le_succ _) | (exact Nat.le_succ_of_le (by with_reducible assumption)))) hb3 (by simp); have O83 := O8.keep hb3'; obtain ⟨P1, P2, P3⟩ := O83.at_)
      go_name_world W4 hW4
      have z8 := O8.in_
      have z3 := hb3'.size
      have zR := OR.in_
      have hn4 := hn3.out.mono (S' := fun b => wc.heap.size ≤ b) (fun b _ h => by have h' : wc.heap.size ≤ _ := Nat.le_trans (by simp) h; exact h')
      have ON4 : Own W4 b5 59 #[.bool s3, .slice a3 l3 c3] := hW4 ▸ ((O83.put 0 _).put 1 _).as rfl
      have OR4 : Own W4 (w.heap.size + 1) 23 #[.int .u64 0, .int .u64 0, .int .u64 0, .int .u64 0] := hW4 ▸ (((OR.keep hb3').apart (by omega) _ _).apart (by omega) _ _)
      have HN4 : NumP W4 (fun b => wc.heap.size ≤ b) (.agg #[.bool s3, .slice a3 l3 c3]) z := hW4 ▸ (hn4.put (p := b5) (i := 0) (by omega) _).put (p := b5) (i := 1) (by omega) _
      have hB4 : Below w.heap.size w W4 := hW4 ▸ (((then_ hB hb3' hB.size).setCell (by show w.heap.size ≤ b5; omega) _).setCell (by show w.heap.size ≤ b5; omega) _)
      have WO := Lib.hid (words_fit HF.out _ _ _ HN4)
      clear hW4 hn3 hb3 hb3' hn4 O83 O8 O9 OR hB AD HN4 P1 P2 P3 HNQ HF hz
      have OB5 : Own W4 b5 59 #[.bool s3, .slice a3 l3 c3] := ON4
      obtain ⟨P1, P2, P3⟩ := OB5.at_
      go_upto_region 5 with (go_at_call 47; refine (WO.out).mono ?_; rintro e w5 ⟨rfl, hb5⟩; clear P1 P2 P3)
      go_name_world W5 hW5
      have O5 : Own W5 w5.heap.size 23 #[.int .u64 (L0 z), .int .u64 (L1 z), .int .u64 (L2 z), .int .u64 (L3 z)] := hW5 ▸ (by repeat' (first | (with_reducible assumption) | (with_reducible refine Own.drawnN ?_ _) | (with_reducible refine Own.drawn ?_) | (with_reducible refine Own.made_at ?_; first | rfl | (simp; done) | omega | (simp; omega)) | (with_reducible refine Own.more ?_ _) | (with_reducible refine Own.apart ?_ ?_ _ _; rotate_left; first | omega | (simp; done) | (simp; omega)) | (refine Own.put ?_ _ _)))
      have hb6 : Below w5.heap.size w5 W5 := hW5 ▸ (by repeat' (first | (with_reducible exact Below.refl _ _) | (with_reducible assumption) | (with_reducible refine below_drewN ?_ _) | (with_reducible refine Below.drew ?_) | (with_reducible refine Below.alloc ?_ ?_ _) | (with_reducible refine Below.setCell ?_ ?_ _) | (with_reducible refine then_ ?_ (by with_reducible assumption) ?_) | (with_reducible exact Nat.le_refl _) | (with_reducible exact Nat.le_succ _) | (with_reducible exact Nat.le_succ_of_le (by with_reducible assumption)) | omega | (simp; done) | (simp; omega) | (exact Nat.le_succ _) | (exact Nat.le_succ_of_le (by with_reducible assumption))))
      have hb7 : Below W4.heap.size W4 W5 := then_ hb5 hb6 hb5.size
      have OR5 := OR4.keep hb7
      have hB5 := then_ hB4 hb7 hB4.size
      clear hW5 WO hb5 hb6 hb7 OB5 ON4 OR4 hB4
      obtain ⟨P1, P2, P3⟩ := O5.at_
      obtain ⟨Q1, Q2, Q3⟩ := OR5.at_
      go_wp2
      refine bodyPost_ret (by first | (simp [results, Tryd.results21, go_sem, Q1]; done) | (simp [results, Tryd.results21, go_sem, Q1]; rfl)) rfl ⟨by rw [E2.out] <;> rfl, ?_⟩
      repeat' (first | (with_reducible exact Below.refl _ _) | (with_reducible assumption) | (with_reducible refine below_drewN ?_ _) | (with_reducible refine Below.drew ?_) | (with_reducible refine Below.alloc ?_ ?_ _) | (with_reducible refine Below.setCell ?_ ?_ _) | (with_reducible refine then_ ?_ (by with_reducible assumption) ?_) | (with_reducible exact Nat.le_refl _) | (with_reducible exact Nat.le_succ _) | (with_reducible exact Nat.le_succ_of_le (by with_reducible assumption)) | omega | (simp; done) | (simp; omega) | (exact Nat.le_succ _) | (exact Nat.le_succ_of_le (by with_reducible assumption)))
    · have e1 : s6 = false := by rw [hs6]; exact decide_eq_false hr
      have e2 : fl n d = n.tdiv d := by unfold fl; rw [if_neg hr]
      rw [e2] at HF
      rw [e1] at P1
      have E2 := Lib.hid e2
      clear e1 e2 hr hs6
      go_upto_region 4 with fail
      clear P1 P2 P3
      obtain ⟨z, hz⟩ : ∃ z, n.tdiv d = z := ⟨_, rfl⟩
      rw [hz] at HF HNQ E2
      obtain ⟨W4, hW4⟩ : ∃ X, wc = X := ⟨_, rfl⟩
      rw [hW4] at HNQ O8 OR hB ⊢
      have ON4 := O8
      have OR4 := OR
      have hB4 := hB
      obtain ⟨s3, hs3⟩ : ∃ s3, s5 = s3 := ⟨_, rfl⟩
      obtain ⟨a3, ha3⟩ : ∃ a3, a5 = a3 := ⟨_, rfl⟩
      obtain ⟨l3, hl3⟩ : ∃ l3, l5 = l3 := ⟨_, rfl⟩
      obtain ⟨c3, hc3⟩ : ∃ c3, c5 = c3 := ⟨_, rfl⟩
      rw [hs3, ha3, hl3, hc3] at ON4 HNQ
      have WO := Lib.hid (words_fit HF.out _ _ _ HNQ.out)
      clear hW4 O8 O9 OR hB HNQ HF hz LQ hs3 ha3 hl3 hc3
      have OB5 : Own W4 b5 59 #[.bool s3, .slice a3 l3 c3] := ON4
      obtain ⟨P1, P2, P3⟩ := OB5.at_
      go_upto_region 5 with (go_at_call 47; refine (WO.out).mono ?_; rintro e w5 ⟨rfl, hb5⟩; clear P1 P2 P3)
      go_name_world W5 hW5
      have O5 : Own W5 w5.heap.size 23 #[.int .u64 (L0 z), .int .u64 (L1 z), .int .u64 (L2 z), .int .u64 (L3 z)] := hW5 ▸ (by repeat' (first | (with_reducible assumption) | (with_reducible refine Own.drawnN ?_ _) | (with_reducible refine Own.drawn ?_) | (with_reducible refine Own.made_at ?_; first | rfl | (simp; done) | omega | (simp; omega)) | (with_reducible refine Own.more ?_ _) | (with_reducible refine Own.apart ?_ ?_ _ _; rotate_left; first | omega | (simp; done) | (simp; omega)) | (refine Own.put ?_ _ _)))
      have hb6 : Below w5.heap.size w5 W5 := hW5 ▸ (by repeat' (first | (with_reducible exact Below.refl _ _) | (with_reducible assumption) | (with_reducible refine below_drewN ?_ _) | (with_reducible refine Below.drew ?_) | (with_reducible refine Below.alloc ?_ ?_ _) | (with_reducible refine Below.setCell ?_ ?_ _) | (with_reducible refine then_ ?_ (by with_reducible assumption) ?_) | (with_reducible exact Nat.le_refl _) | (with_reducible exact Nat.le_succ _) | (with_reducible exact Nat.le_succ_of_le (by with_reducible assumption)) | omega | (simp; done) | (simp; omega) | (exact Nat.le_succ _) | (exact Nat.le_succ_of_le (by with_reducible assumption))))
      have hb7 : Below W4.heap.size W4 W5 := then_ hb5 hb6 hb5.size
      have OR5 := OR4.keep hb7
      have hB5 := then_ hB4 hb7 hB4.size
      clear hW5 WO hb5 hb6 hb7 OB5 ON4 OR4 hB4
      obtain ⟨P1, P2, P3⟩ := O5.at_
      obtain ⟨Q1, Q2, Q3⟩ := OR5.at_
      go_wp2
      refine bodyPost_ret (by first | (simp [results, Tryd.results21, go_sem, Q1]; done) | (simp [results, Tryd.results21, go_sem, Q1]; rfl)) rfl ⟨by rw [E2.out] <;> rfl, ?_⟩
      repeat' (first | (with_reducible exact Below.refl _ _) | (with_reducible assumption) | (with_reducible refine below_drewN ?_ _) | (with_reducible refine Below.drew ?_) | (with_reducible refine Below.alloc ?_ ?_ _) | (with_reducible refine Below.setCell ?_ ?_ _) | (with_reducible refine then_ ?_ (by with_reducible assumption) ?_) | (with_reducible exact Nat.le_refl _) | (with_reducible exact Nat.le_succ _) | (with_reducible exact Nat.le_succ_of_le (by with_reducible assumption)) | omega | (simp; done) | (simp; omega) | (exact Nat.le_succ _) | (exact Nat.le_succ_of_le (by with_reducible assumption)))
end Go.Proofs.YtigcbgehnlilaaaDoor
