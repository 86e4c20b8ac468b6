/- WideQuotients: quotients and rests of any numbers are the document's, or don't fit; the tables start as the program's text lays them. -/
import Derived.Test.YtdnjkminicmffaaDoorRows
import Derived.Test.YtdnjkminicmffaaDoorBase
import Derived.Test.YtdnjkminicmffaaDoorRefW
import Derived.Test.YtdnjkminicmffaaDoorGcdA
import Derived.Test.YtdnjkminicmffaaDoorTree
import Derived.Test.YtdnjkminicmffaaDoorSeq
import Derived.Test.YtdnjkminicmffaaDoorAw3
import Derived.Test.YtdnjkminicmffaaDoorMemoZ
import Derived.WalkKit
import Derived.ProofKit
import Derived.OpenShut
import Derived.ShutString
import Derived.ChangeOld
import Derived.Below
import Derived.SliceStrings
import Derived.Test.YtdnjkminicmffaaDoorLaid
import Derived.Test.YtdnjkminicmffaaDoorCards
import Derived.Test.YtdnjkminicmffaaDoorTie
import Derived.LaidMore
import Derived.Stop.Joined
import Derived.SevenTiedAt
namespace Go.Proofs.YtdnjkminicmffaaDoor.wideQuotients
open Go.ChangeShapes Go.WideShapes Go.ChangeAt Go.RowKit
open Go.ChangeMaps (open_string shut_string)
set_option linter.unusedVariables false

set_option linter.unusedSimpArgs false
theorem fit_20 {z : Int} (h : Fit z) : z.natAbs < 65536 ^ 20 := by
  obtain ⟨h1, h2⟩ := h
  have : (115792089237316195423570985008687907853269984665640564039457584007913129639936 : Nat) ≤ 65536 ^ 20 := by decide
  generalize 65536 ^ 20 = Z at *
  omega
theorem fit_rest {a b : Int} (h : Fit a) (hb : b ≠ 0) : Fit (a.tmod b) := by
  obtain ⟨h1, h2⟩ := h
  obtain ⟨r1, r2, _⟩ := rest_facts (a := a) hb
  rcases Int.le_total 0 a with h3 | h3
  · have := r1 h3; exact ⟨by omega, by omega⟩
  · have := r2 h3; exact ⟨by omega, by omega⟩

theorem own : ownKnob Tryd.prog.godebug = none := by kernel_rfl
theorem laidOut : laidOutB Tryd.prog = true := by kernel_rfl

set_option maxHeartbeats 64000000 in
set_option maxRecDepth 20000 in
theorem walk (z0 : Int) (z1 : Int) (w : World) (f0 : Fit z0) (f1 : Fit z1) (hp : Pow10 w) :
    Calls Tryd.prog 5 #[.agg #[.int .u64 (L0 z0), .int .u64 (L1 z0), .int .u64 (L2 z0), .int .u64 (L3 z0)], .agg #[.int .u64 (L0 z1), .int .u64 (L1 z1), .int .u64 (L2 z1), .int .u64 (L3 z1)]] w fun e w' => e = .returned (.bool true) ∧ Below w.heap.size w w' := by
  have F0 := Lib.hid (fun T w h => from_num T z0 f0 w h)
  have F1 := Lib.hid (fun T w h => from_num T z1 f1 w h)
  have L0_ := Lib.hid (fit_20 f0)
  have L1_ := Lib.hid (fit_20 f1)
  obtain ⟨q, r, er, DV1⟩ := div_all z0 z1 f0 f1
  have HC := Lib.hid DV1.2
  have DV := Lib.hid DV1.1
  have FR := Lib.hid (fun h => fit_rest (b := z1) f0 h)
  replace hp := Lib.hid hp
  have EQ0 : ∀ w, (Op.equalIn 10000 24 (.agg #[.int .u64 (L0 z1), .int .u64 (L1 z1), .int .u64 (L2 z1), .int .u64 (L3 z1)]) (.agg #[.int .u64 0, .int .u64 0, .int .u64 0, .int .u64 0])).run Tryd.prog w = .ok (decide (z1 = 0)) w := fun w => eq_fit f1 fit0 w
  clear DV1 f0 f1
  by_cases hz : z1 = 0
  · obtain ⟨hq, hr, he⟩ : q = 0 ∧ r = 0 ∧ er = 4 := by
      rcases HC.out with h | h | h
      · exact h.2
      · exact absurd hz h.1
      · exact absurd hz h.1
    subst hq hr he
    rw [decide_eq_true hz] at EQ0
    clear HC hz FR L0_ L1_ F0 F1
    go_enter Tryd.func5, Tryd.ntmps5
    go_upto_region 1 with fail
    go_name_world W0 hW0e
    have OA : Own W0 w.heap.size 24 #[.int .u64 (L0 z0), .int .u64 (L1 z0), .int .u64 (L2 z0), .int .u64 (L3 z0)] := hW0e ▸ (by repeat' (first | (with_reducible assumption) | (with_reducible refine Own.drawnN ?_ _) | (with_reducible refine Own.drawn ?_) | (with_reducible refine Own.made_at ?_; first | rfl | (simp; done) | omega | (simp; omega)) | (with_reducible refine Own.more ?_ _) | (with_reducible refine Own.apart ?_ ?_ _ _; rotate_left; first | omega | (simp; done) | (simp; omega)) | (refine Own.put ?_ _ _)))
    have OB : Own W0 (w.heap.size + 1) 24 #[.int .u64 (L0 z1), .int .u64 (L1 z1), .int .u64 (L2 z1), .int .u64 (L3 z1)] := hW0e ▸ (by repeat' (first | (with_reducible assumption) | (with_reducible refine Own.drawnN ?_ _) | (with_reducible refine Own.drawn ?_) | (with_reducible refine Own.made_at ?_; first | rfl | (simp; done) | omega | (simp; omega)) | (with_reducible refine Own.more ?_ _) | (with_reducible refine Own.apart ?_ ?_ _ _; rotate_left; first | omega | (simp; done) | (simp; omega)) | (refine Own.put ?_ _ _)))
    have hB : Below w.heap.size w W0 := hW0e ▸ (by repeat' (first | (with_reducible exact Below.refl _ _) | (with_reducible assumption) | (with_reducible refine below_drewN ?_ _) | (with_reducible refine Below.drew ?_) | (with_reducible refine Below.alloc ?_ ?_ _) | (with_reducible refine Below.setCell ?_ ?_ _) | (with_reducible refine then_ ?_ (by with_reducible assumption) ?_) | (with_reducible exact Nat.le_refl _) | (with_reducible exact Nat.le_succ _) | (with_reducible exact Nat.le_succ_of_le (by with_reducible assumption)) | omega | (simp; done) | (simp; omega) | (exact Nat.le_succ _) | (exact Nat.le_succ_of_le (by with_reducible assumption))))
    clear hW0e
    obtain ⟨P1, P2, P3⟩ := OA.at_
    obtain ⟨Q1, Q2, Q3⟩ := OB.at_
    go_upto_region 2 with (go_at_call 20; refine (DV.out _).mono ?_; rintro e w1 ⟨rfl, hb1⟩)
    go_name_world W1 hW1e
    have U5 : Own W1 w1.heap.size 24 #[.int .u64 (L0 0), .int .u64 (L1 0), .int .u64 (L2 0), .int .u64 (L3 0)] := hW1e ▸ (by repeat' (first | (with_reducible assumption) | (with_reducible refine Own.drawnN ?_ _) | (with_reducible refine Own.drawn ?_) | (with_reducible refine Own.made_at ?_; first | rfl | (simp; done) | omega | (simp; omega)) | (with_reducible refine Own.more ?_ _) | (with_reducible refine Own.apart ?_ ?_ _ _; rotate_left; first | omega | (simp; done) | (simp; omega)) | (refine Own.put ?_ _ _)))
    have U6 : Own W1 (w1.heap.size + 1) 24 #[.int .u64 (L0 0), .int .u64 (L1 0), .int .u64 (L2 0), .int .u64 (L3 0)] := hW1e ▸ (by repeat' (first | (with_reducible assumption) | (with_reducible refine Own.drawnN ?_ _) | (with_reducible refine Own.drawn ?_) | (with_reducible refine Own.made_at ?_; first | rfl | (simp; done) | omega | (simp; omega)) | (with_reducible refine Own.more ?_ _) | (with_reducible refine Own.apart ?_ ?_ _ _; rotate_left; first | omega | (simp; done) | (simp; omega)) | (refine Own.put ?_ _ _)))
    have hb2 : Below w1.heap.size w1 W1 := hW1e ▸ (by repeat' (first | (with_reducible exact Below.refl _ _) | (with_reducible assumption) | (with_reducible refine below_drewN ?_ _) | (with_reducible refine Below.drew ?_) | (with_reducible refine Below.alloc ?_ ?_ _) | (with_reducible refine Below.setCell ?_ ?_ _) | (with_reducible refine then_ ?_ (by with_reducible assumption) ?_) | (with_reducible exact Nat.le_refl _) | (with_reducible exact Nat.le_succ _) | (with_reducible exact Nat.le_succ_of_le (by with_reducible assumption)) | omega | (simp; done) | (simp; omega) | (exact Nat.le_succ _) | (exact Nat.le_succ_of_le (by with_reducible assumption))))
    have hb12 : Below W0.heap.size W0 W1 := then_ hb1 hb2 hb1.size
    replace OA := OA.keep hb12
    replace OB := OB.keep hb12
    have sz0 := (OB.in_)
    have sz1 := U6.in_
    have sz2 : w.heap.size + 1 < w1.heap.size := by have := hb1.size; omega
    replace hB := then_ hB hb12 hB.size
    clear hW1e hb1 hb2 hb12 P1 P2 P3 Q1 Q2 Q3 DV
    obtain ⟨Q1, Q2, Q3⟩ := OB.at_
    have HP0 := Lib.hid (show Pow10 W1 from hp.out.keep hB)
    go_wp2_with (go_at_call 14; refine (awake_any _ HP0.out).mono ?_; rintro e w2 ⟨rfl, hb2⟩)
    go_ret
    exact ⟨rfl, then_ hB hb2 hB.size⟩
  · rw [decide_eq_false hz] at EQ0
    have HZ := Lib.hid hz
    have HCC := Lib.hid (show (Ans (z0.tdiv z1) q er ∧ er = 3) ∨ (Ans (z0.tdiv z1) q er ∧ Ans (z0.tmod z1) r er ∧ er = 0) by
      rcases HC.out with h | h | h
      · exact absurd h.1 hz
      · exact .inl ⟨.inr ⟨h.2.1, h.2.2.1, h.2.2.2.2⟩, h.2.2.2.2⟩
      · exact .inr ⟨.inl ⟨h.2.1, h.2.2.1, h.2.2.2.2⟩, .inl ⟨FR.out hz, h.2.2.2.1, h.2.2.2.2⟩, h.2.2.2.2⟩)
    clear HC hz FR
    go_enter Tryd.func5, Tryd.ntmps5
    go_upto_region 1 with fail
    go_name_world W0 hW0e
    have OA : Own W0 w.heap.size 24 #[.int .u64 (L0 z0), .int .u64 (L1 z0), .int .u64 (L2 z0), .int .u64 (L3 z0)] := hW0e ▸ (by repeat' (first | (with_reducible assumption) | (with_reducible refine Own.drawnN ?_ _) | (with_reducible refine Own.drawn ?_) | (with_reducible refine Own.made_at ?_; first | rfl | (simp; done) | omega | (simp; omega)) | (with_reducible refine Own.more ?_ _) | (with_reducible refine Own.apart ?_ ?_ _ _; rotate_left; first | omega | (simp; done) | (simp; omega)) | (refine Own.put ?_ _ _)))
    have OB : Own W0 (w.heap.size + 1) 24 #[.int .u64 (L0 z1), .int .u64 (L1 z1), .int .u64 (L2 z1), .int .u64 (L3 z1)] := hW0e ▸ (by repeat' (first | (with_reducible assumption) | (with_reducible refine Own.drawnN ?_ _) | (with_reducible refine Own.drawn ?_) | (with_reducible refine Own.made_at ?_; first | rfl | (simp; done) | omega | (simp; omega)) | (with_reducible refine Own.more ?_ _) | (with_reducible refine Own.apart ?_ ?_ _ _; rotate_left; first | omega | (simp; done) | (simp; omega)) | (refine Own.put ?_ _ _)))
    have hB : Below w.heap.size w W0 := hW0e ▸ (by repeat' (first | (with_reducible exact Below.refl _ _) | (with_reducible assumption) | (with_reducible refine below_drewN ?_ _) | (with_reducible refine Below.drew ?_) | (with_reducible refine Below.alloc ?_ ?_ _) | (with_reducible refine Below.setCell ?_ ?_ _) | (with_reducible refine then_ ?_ (by with_reducible assumption) ?_) | (with_reducible exact Nat.le_refl _) | (with_reducible exact Nat.le_succ _) | (with_reducible exact Nat.le_succ_of_le (by with_reducible assumption)) | omega | (simp; done) | (simp; omega) | (exact Nat.le_succ _) | (exact Nat.le_succ_of_le (by with_reducible assumption))))
    clear hW0e
    obtain ⟨P1, P2, P3⟩ := OA.at_
    obtain ⟨Q1, Q2, Q3⟩ := OB.at_
    go_upto_region 2 with (go_at_call 20; refine (DV.out _).mono ?_; rintro e w1 ⟨rfl, hb1⟩)
    go_name_world W1 hW1e
    have U5 : Own W1 w1.heap.size 24 #[.int .u64 (L0 q), .int .u64 (L1 q), .int .u64 (L2 q), .int .u64 (L3 q)] := hW1e ▸ (by repeat' (first | (with_reducible assumption) | (with_reducible refine Own.drawnN ?_ _) | (with_reducible refine Own.drawn ?_) | (with_reducible refine Own.made_at ?_; first | rfl | (simp; done) | omega | (simp; omega)) | (with_reducible refine Own.more ?_ _) | (with_reducible refine Own.apart ?_ ?_ _ _; rotate_left; first | omega | (simp; done) | (simp; omega)) | (refine Own.put ?_ _ _)))
    have U6 : Own W1 (w1.heap.size + 1) 24 #[.int .u64 (L0 r), .int .u64 (L1 r), .int .u64 (L2 r), .int .u64 (L3 r)] := hW1e ▸ (by repeat' (first | (with_reducible assumption) | (with_reducible refine Own.drawnN ?_ _) | (with_reducible refine Own.drawn ?_) | (with_reducible refine Own.made_at ?_; first | rfl | (simp; done) | omega | (simp; omega)) | (with_reducible refine Own.more ?_ _) | (with_reducible refine Own.apart ?_ ?_ _ _; rotate_left; first | omega | (simp; done) | (simp; omega)) | (refine Own.put ?_ _ _)))
    have hb2 : Below w1.heap.size w1 W1 := hW1e ▸ (by repeat' (first | (with_reducible exact Below.refl _ _) | (with_reducible assumption) | (with_reducible refine below_drewN ?_ _) | (with_reducible refine Below.drew ?_) | (with_reducible refine Below.alloc ?_ ?_ _) | (with_reducible refine Below.setCell ?_ ?_ _) | (with_reducible refine then_ ?_ (by with_reducible assumption) ?_) | (with_reducible exact Nat.le_refl _) | (with_reducible exact Nat.le_succ _) | (with_reducible exact Nat.le_succ_of_le (by with_reducible assumption)) | omega | (simp; done) | (simp; omega) | (exact Nat.le_succ _) | (exact Nat.le_succ_of_le (by with_reducible assumption))))
    have hb12 : Below W0.heap.size W0 W1 := then_ hb1 hb2 hb1.size
    replace OA := OA.keep hb12
    replace OB := OB.keep hb12
    have sz0 := (OB.in_)
    have sz1 := U6.in_
    have sz2 : w.heap.size + 1 < w1.heap.size := by have := hb1.size; omega
    replace hB := then_ hB hb12 hB.size
    clear hW1e hb1 hb2 hb12 P1 P2 P3 Q1 Q2 Q3 DV
    obtain ⟨Q1, Q2, Q3⟩ := OB.at_
    go_upto_region 4 with fail
    clear Q1 Q2 Q3 EQ0
    go_cut [8, 9] (fun u v wx => ∃ (b5 b6 : Nat) (s5 : Bool) (a5 : Option Addr) (l5 c5 : Nat) (s6 : Bool) (a6 : Option Addr) (l6 c6 : Nat), u = .pointer (some ⟨b5, 0, none⟩) ∧ v = .pointer (some ⟨b6, 0, none⟩) ∧ Own wx b5 27 #[.bool s5, .slice a5 l5 c5] ∧ Own wx b6 27 #[.bool s6, .slice a6 l6 c6] ∧ NumP wx (fun _ => True) (.agg #[.bool s5, .slice a5 l5 c5]) (z0.tdiv z1) ∧ NumP wx (fun _ => True) (.agg #[.bool s6, .slice a6 l6 c6]) (z0.tmod z1) ∧ Own wx w1.heap.size 24 #[.int .u64 (L0 q), .int .u64 (L1 q), .int .u64 (L2 q), .int .u64 (L3 q)] ∧ Own wx (w1.heap.size + 1) 24 #[.int .u64 (L0 r), .int .u64 (L1 r), .int .u64 (L2 r), .int .u64 (L3 r)] ∧ Below w.heap.size w wx)
    case first =>
      refine wp_region_tree (fun W => Own W w.heap.size 24 #[.int .u64 (L0 z0), .int .u64 (L1 z0), .int .u64 (L2 z0), .int .u64 (L3 z0)] ∧ Own W (w.heap.size + 1) 24 #[.int .u64 (L0 z1), .int .u64 (L1 z1), .int .u64 (L2 z1), .int .u64 (L3 z1)] ∧ Own W w1.heap.size 24 #[.int .u64 (L0 q), .int .u64 (L1 q), .int .u64 (L2 q), .int .u64 (L3 q)] ∧ Own W (w1.heap.size + 1) 24 #[.int .u64 (L0 r), .int .u64 (L1 r), .int .u64 (L2 r), .int .u64 (L3 r)]) [0, 2, 5, 6, 7] [0, 2] 12 (by kernel_rfl) rfl ?_
      replace OA := OA.drawn
      replace OB := OB.drawn
      replace U5 := U5.drawn
      replace U6 := U6.drawn
      replace hB := hB.drew
      obtain ⟨W_s, hWs⟩ : ∃ X, W1.drew = X := ⟨_, rfl⟩
      rw [hWs] at OA OB U5 U6 hB ⊢
      replace sz1 := U6.in_
      clear hWs sz0
      refine tree_pure (i := 0) (v := ?_) rfl rfl (by kernel_rfl) (by kernel_rfl) (by kernel_rfl) rfl (fun W hS => ?_) ⟨OA, OB, U5, U6⟩ ?_
      rotate_left
      · have hS := hS rfl
        obtain ⟨q0, q1, q2, q3⟩ := hS
        obtain ⟨q01, q02, q03⟩ := q0.at_
        obtain ⟨q11, q12, q13⟩ := q1.at_
        obtain ⟨q21, q22, q23⟩ := q2.at_
        obtain ⟨q31, q32, q33⟩ := q3.at_
        conv => lhs; simp [go_sem, *]
        first | done | exact rfl
      simp only [Act.put, List.setIfInBounds_toArray, List.set_cons_zero, List.set_cons_succ]
      refine tree_pure (i := 2) (v := ?_) rfl rfl (by kernel_rfl) (by kernel_rfl) (by kernel_rfl) rfl (fun W hS => ?_) ⟨OA, OB, U5, U6⟩ ?_
      rotate_left
      · have hS := hS rfl
        obtain ⟨q0, q1, q2, q3⟩ := hS
        obtain ⟨q01, q02, q03⟩ := q0.at_
        obtain ⟨q11, q12, q13⟩ := q1.at_
        obtain ⟨q21, q22, q23⟩ := q2.at_
        obtain ⟨q31, q32, q33⟩ := q3.at_
        conv => lhs; simp [go_sem, *]
        first | done | exact rfl
      simp only [Act.put, List.setIfInBounds_toArray, List.set_cons_zero, List.set_cons_succ]
      refine tree_three (i := 1) (k := 8) (m := 9) (by kernel_rfl) rfl rfl rfl ?_ ?_ ?_
      · refine ⟨_, rfl, fun K hK => ?_⟩
        go_wp2_with (go_at_call 10; refine (F0.out 0 W_s (Nat.zero_le _)).mono ?_; rintro e W_2 ⟨v_, rfl, hn, hb_2⟩)
        have sz_2 := hb_2.size
        obtain ⟨s_x, a_x, l_x, c_x, rfl⟩ := hn.shape
        have NX := NumP.of hn (S := fun b => W_s.heap.size ≤ b ∧ b < W_2.heap.size) (fun b h1 h2 => ⟨by omega, h1⟩)
        clear hn
        replace OA := OA.keep hb_2
        replace OB := OB.keep hb_2
        replace U5 := U5.keep hb_2
        replace U6 := U6.keep hb_2
        replace hB := then_ hB hb_2 hB.size
        refine hK _ _ ⟨OA, OB, U5, U6⟩ ?_
        clear hK K hb_2
        refine tree_three (i := 3) (k := 8) (m := 9) (by kernel_rfl) rfl rfl rfl ?_ ?_ ?_
        · refine ⟨_, rfl, fun K hK => ?_⟩
          go_wp2_with (go_at_call 10; refine (F1.out 0 W_2 (Nat.zero_le _)).mono ?_; rintro e W_3 ⟨v_, rfl, hn, hb_3⟩)
          have sz_3 := hb_3.size
          obtain ⟨s_y, a_y, l_y, c_y, rfl⟩ := hn.shape
          have NY := NumP.of hn (S := fun b => W_2.heap.size ≤ b ∧ b < W_3.heap.size) (fun b h1 h2 => ⟨by omega, h1⟩)
          clear hn
          replace OA := OA.keep hb_3
          replace OB := OB.keep hb_3
          replace U5 := U5.keep hb_3
          replace U6 := U6.keep hb_3
          replace NX := NX.keep hb_3
          replace hB := then_ hB hb_3 hB.size
          refine hK _ _ ⟨OA, OB, U5, U6⟩ ?_
          clear hK K hb_3
          refine tree_three (i := 4) (k := 8) (m := 9) (by kernel_rfl) rfl rfl rfl ?_ ?_ ?_
          · refine ⟨_, rfl, fun K hK => ?_⟩
            go_wp2_with (go_at_call 21; refine (div_num _ 0 0 _ _ z0 z1 W_3 NX (NY.num (T := 0) (C := 0) (fun b _ _ => .inr (Nat.zero_le _))) HZ.out L0_.out L1_.out).mono ?_; rintro e W_4 ⟨v_, v__, rfl, hq, hr, hb_4⟩)
            have sz_4 := hb_4.size
            obtain ⟨s_q, a_q, l_q, c_q, rfl⟩ := hq.shape
            obtain ⟨s_r, a_r, l_r, c_r, rfl⟩ := hr.shape
            have NQ := hq.mono (S' := fun b => W_3.heap.size ≤ b ∧ b < W_4.heap.size) (fun b h1 h2 => ⟨h2, h1⟩)
            have NR := hr.mono (S' := fun b => (((W_s.heap.size ≤ b ∧ b < W_2.heap.size) ∧ b < W_3.heap.size) ∨ W_3.heap.size ≤ b) ∧ b < W_4.heap.size) (fun b h1 h2 => ⟨h2, h1⟩)
            clear hq hr NX NY
            replace OA := OA.keep hb_4
            replace OB := OB.keep hb_4
            replace U5 := U5.keep hb_4
            replace U6 := U6.keep hb_4
            replace hB := then_ hB hb_4 hB.size
            refine hK _ _ ⟨OA, OB, U5, U6⟩ ?_
            clear hK K hb_4
            refine tree_pure (i := 5) (v := ?_) rfl rfl (by kernel_rfl) (by kernel_rfl) (by kernel_rfl) rfl (fun W hS => ?_) ⟨OA, OB, U5, U6⟩ ?_
            rotate_left
            · conv => lhs; simp [go_sem]
              first | done | exact rfl
            simp only [Act.put, List.setIfInBounds_toArray, List.set_cons_zero, List.set_cons_succ]
            refine tree_pure (i := 6) (v := ?_) rfl rfl (by kernel_rfl) (by kernel_rfl) (by kernel_rfl) rfl (fun W hS => ?_) ⟨OA, OB, U5, U6⟩ ?_
            rotate_left
            · conv => lhs; simp [go_sem]
              first | done | exact rfl
            simp only [Act.put, List.setIfInBounds_toArray, List.set_cons_zero, List.set_cons_succ]
            refine tree_pure (i := 7) (v := ?_) rfl rfl (by kernel_rfl) (by kernel_rfl) (by kernel_rfl) rfl (fun W hS => ?_) ⟨OA, OB, U5, U6⟩ ?_
            rotate_left
            · conv => lhs; simp [go_sem]
              first | done | exact rfl
            simp only [Act.put, List.setIfInBounds_toArray, List.set_cons_zero, List.set_cons_succ]
            refine tree_two (i := 8) (k := 9) (by kernel_rfl) rfl rfl ?_ ?_
            · refine ⟨_, rfl, fun K hK => ?_⟩
              go_wp2
              refine hK _ _ ⟨OA.more _, OB.more _, U5.more _, U6.more _⟩ ?_
              clear hK K
              obtain ⟨W_8, hW⟩ : ∃ X, W_4.alloc (.cells #[.bool false, .slice none 0 0] 27) = X := ⟨_, rfl⟩
              have hb_8 : Below W_4.heap.size W_4 W_8 := hW ▸ (Below.refl _ _).alloc (Nat.le_refl _) _
              have O8_ : Own W_8 W_4.heap.size 27 #[.bool false, .slice none 0 0] := hW ▸ Own.made _ _ _
              have sz_8 := O8_.in_
              rw [hW]
              clear hW
              replace OA := OA.keep hb_8
              replace OB := OB.keep hb_8
              replace U5 := U5.keep hb_8
              replace U6 := U6.keep hb_8
              replace NQ := NQ.keep hb_8
              replace NR := NR.keep hb_8
              replace hB := then_ hB hb_8 hB.size
              clear hb_8
              have O8 := O8_
              clear O8_
              refine tree_one (i := 9) (by kernel_rfl) rfl ?_
              · refine ⟨_, rfl, fun K hK => ?_⟩
                go_wp2
                refine hK _ _ ⟨OA.more _, OB.more _, U5.more _, U6.more _⟩ ?_
                clear hK K
                obtain ⟨W_9, hW⟩ : ∃ X, W_8.alloc (.cells #[.bool false, .slice none 0 0] 27) = X := ⟨_, rfl⟩
                have hb_9 : Below W_8.heap.size W_8 W_9 := hW ▸ (Below.refl _ _).alloc (Nat.le_refl _) _
                have O9_ : Own W_9 W_8.heap.size 27 #[.bool false, .slice none 0 0] := hW ▸ Own.made _ _ _
                have sz_9 := O9_.in_
                rw [hW]
                clear hW
                replace OA := OA.keep hb_9
                replace OB := OB.keep hb_9
                replace U5 := U5.keep hb_9
                replace U6 := U6.keep hb_9
                replace O8 := O8.keep hb_9
                replace NQ := NQ.keep hb_9
                replace NR := NR.keep hb_9
                replace hB := then_ hB hb_9 hB.size
                clear hb_9
                have O9 := O9_
                clear O9_
                refine tree_one (i := 10) (by kernel_rfl) rfl ?_
                · refine ⟨_, rfl, fun K hK => ?_⟩
                  have hfr := O8.at_
                  obtain ⟨P1, P2, P3⟩ := hfr
                  go_wp2
                  clear P1 P2 P3
                  refine hK _ _ ⟨(OA.apart (by omega) _ _).apart (by omega) _ _, (OB.apart (by omega) _ _).apart (by omega) _ _, (U5.apart (by omega) _ _).apart (by omega) _ _, (U6.apart (by omega) _ _).apart (by omega) _ _⟩ ?_
                  clear hK K
                  obtain ⟨W_10, hW⟩ : ∃ X, (W_9.setCell ⟨W_4.heap.size, 0, none⟩ (.bool s_q)).setCell ⟨W_4.heap.size, 1, none⟩ (.slice a_q l_q c_q) = X := ⟨_, rfl⟩
                  have OA_ : Own W_10 w.heap.size 24 #[.int .u64 (L0 z0), .int .u64 (L1 z0), .int .u64 (L2 z0), .int .u64 (L3 z0)] := hW ▸ ((OA.apart (by omega) _ _).apart (by omega) _ _)
                  have OB_ : Own W_10 (w.heap.size + 1) 24 #[.int .u64 (L0 z1), .int .u64 (L1 z1), .int .u64 (L2 z1), .int .u64 (L3 z1)] := hW ▸ ((OB.apart (by omega) _ _).apart (by omega) _ _)
                  have U5_ : Own W_10 w1.heap.size 24 #[.int .u64 (L0 q), .int .u64 (L1 q), .int .u64 (L2 q), .int .u64 (L3 q)] := hW ▸ ((U5.apart (by omega) _ _).apart (by omega) _ _)
                  have U6_ : Own W_10 (w1.heap.size + 1) 24 #[.int .u64 (L0 r), .int .u64 (L1 r), .int .u64 (L2 r), .int .u64 (L3 r)] := hW ▸ ((U6.apart (by omega) _ _).apart (by omega) _ _)
                  have O8_ : Own W_10 W_4.heap.size 27 #[.bool s_q, .slice a_q l_q c_q] := hW ▸ (((O8.put 0 _).put 1 _).as rfl)
                  have O9_ : Own W_10 W_8.heap.size 27 #[.bool false, .slice none 0 0] := hW ▸ ((O9.apart (by omega) _ _).apart (by omega) _ _)
                  have NQ_ := hW ▸ (NQ.put (p := W_4.heap.size) (i := 0) (by omega) (.bool s_q)).put (p := W_4.heap.size) (i := 1) (by omega) (.slice a_q l_q c_q)
                  have NR_ := hW ▸ (NR.put (p := W_4.heap.size) (i := 0) (by omega) (.bool s_q)).put (p := W_4.heap.size) (i := 1) (by omega) (.slice a_q l_q c_q)
                  have hB_ : Below w.heap.size w W_10 := hW ▸ ((hB.setCell (by show w.heap.size ≤ W_4.heap.size; omega) _).setCell (by show w.heap.size ≤ W_4.heap.size; omega) _)
                  rw [hW]
                  clear hW
                  clear OA OB U5 U6 O8 O9 NQ NR hB
                  have OA := OA_
                  have OB := OB_
                  have U5 := U5_
                  have U6 := U6_
                  have O8 := O8_
                  have O9 := O9_
                  have NQ := NQ_
                  have NR := NR_
                  have hB := hB_
                  clear OA_ OB_ U5_ U6_ O8_ O9_ NQ_ NR_ hB_
                  refine tree_one (i := 11) (by kernel_rfl) rfl ?_
                  · refine ⟨_, rfl, fun K hK => ?_⟩
                    have hfr := O9.at_
                    obtain ⟨P1, P2, P3⟩ := hfr
                    go_wp2
                    clear P1 P2 P3
                    refine hK _ _ ⟨(OA.apart (by omega) _ _).apart (by omega) _ _, (OB.apart (by omega) _ _).apart (by omega) _ _, (U5.apart (by omega) _ _).apart (by omega) _ _, (U6.apart (by omega) _ _).apart (by omega) _ _⟩ ?_
                    clear hK K
                    obtain ⟨W_11, hW⟩ : ∃ X, (W_10.setCell ⟨W_8.heap.size, 0, none⟩ (.bool s_r)).setCell ⟨W_8.heap.size, 1, none⟩ (.slice a_r l_r c_r) = X := ⟨_, rfl⟩
                    have OA_ : Own W_11 w.heap.size 24 #[.int .u64 (L0 z0), .int .u64 (L1 z0), .int .u64 (L2 z0), .int .u64 (L3 z0)] := hW ▸ ((OA.apart (by omega) _ _).apart (by omega) _ _)
                    have OB_ : Own W_11 (w.heap.size + 1) 24 #[.int .u64 (L0 z1), .int .u64 (L1 z1), .int .u64 (L2 z1), .int .u64 (L3 z1)] := hW ▸ ((OB.apart (by omega) _ _).apart (by omega) _ _)
                    have U5_ : Own W_11 w1.heap.size 24 #[.int .u64 (L0 q), .int .u64 (L1 q), .int .u64 (L2 q), .int .u64 (L3 q)] := hW ▸ ((U5.apart (by omega) _ _).apart (by omega) _ _)
                    have U6_ : Own W_11 (w1.heap.size + 1) 24 #[.int .u64 (L0 r), .int .u64 (L1 r), .int .u64 (L2 r), .int .u64 (L3 r)] := hW ▸ ((U6.apart (by omega) _ _).apart (by omega) _ _)
                    have O8_ : Own W_11 W_4.heap.size 27 #[.bool s_q, .slice a_q l_q c_q] := hW ▸ ((O8.apart (by omega) _ _).apart (by omega) _ _)
                    have O9_ : Own W_11 W_8.heap.size 27 #[.bool s_r, .slice a_r l_r c_r] := hW ▸ (((O9.put 0 _).put 1 _).as rfl)
                    have NQ_ := hW ▸ (NQ.put (p := W_8.heap.size) (i := 0) (by omega) (.bool s_r)).put (p := W_8.heap.size) (i := 1) (by omega) (.slice a_r l_r c_r)
                    have NR_ := hW ▸ (NR.put (p := W_8.heap.size) (i := 0) (by omega) (.bool s_r)).put (p := W_8.heap.size) (i := 1) (by omega) (.slice a_r l_r c_r)
                    have hB_ : Below w.heap.size w W_11 := hW ▸ ((hB.setCell (by show w.heap.size ≤ W_8.heap.size; omega) _).setCell (by show w.heap.size ≤ W_8.heap.size; omega) _)
                    rw [hW]
                    clear hW
                    clear OA OB U5 U6 O8 O9 NQ NR hB
                    have OA := OA_
                    have OB := OB_
                    have U5 := U5_
                    have U6 := U6_
                    have O8 := O8_
                    have O9 := O9_
                    have NQ := NQ_
                    have NR := NR_
                    have hB := hB_
                    clear OA_ OB_ U5_ U6_ O8_ O9_ NQ_ NR_ hB_
                    refine tree_end (by kernel_rfl) ?_
                    go_wp2_with fail
                    go_meet
                    exact ⟨W_4.heap.size, W_8.heap.size, s_q, a_q, l_q, c_q, s_r, a_r, l_r, c_r, rfl, rfl, O8, O9, NQ.mono (fun _ _ _ => trivial), NR.mono (fun _ _ _ => trivial), U5, U6, hB⟩
            · refine ⟨_, rfl, fun K hK => ?_⟩
              go_wp2
              refine hK _ _ ⟨OA.more _, OB.more _, U5.more _, U6.more _⟩ ?_
              clear hK K
              obtain ⟨W_8, hW⟩ : ∃ X, W_4.alloc (.cells #[.bool false, .slice none 0 0] 27) = X := ⟨_, rfl⟩
              have hb_8 : Below W_4.heap.size W_4 W_8 := hW ▸ (Below.refl _ _).alloc (Nat.le_refl _) _
              have O9_ : Own W_8 W_4.heap.size 27 #[.bool false, .slice none 0 0] := hW ▸ Own.made _ _ _
              have sz_8 := O9_.in_
              rw [hW]
              clear hW
              replace OA := OA.keep hb_8
              replace OB := OB.keep hb_8
              replace U5 := U5.keep hb_8
              replace U6 := U6.keep hb_8
              replace NQ := NQ.keep hb_8
              replace NR := NR.keep hb_8
              replace hB := then_ hB hb_8 hB.size
              clear hb_8
              have O9 := O9_
              clear O9_
              refine tree_one (i := 8) (by kernel_rfl) rfl ?_
              · refine ⟨_, rfl, fun K hK => ?_⟩
                go_wp2
                refine hK _ _ ⟨OA.more _, OB.more _, U5.more _, U6.more _⟩ ?_
                clear hK K
                obtain ⟨W_9, hW⟩ : ∃ X, W_8.alloc (.cells #[.bool false, .slice none 0 0] 27) = X := ⟨_, rfl⟩
                have hb_9 : Below W_8.heap.size W_8 W_9 := hW ▸ (Below.refl _ _).alloc (Nat.le_refl _) _
                have O8_ : Own W_9 W_8.heap.size 27 #[.bool false, .slice none 0 0] := hW ▸ Own.made _ _ _
                have sz_9 := O8_.in_
                rw [hW]
                clear hW
                replace OA := OA.keep hb_9
                replace OB := OB.keep hb_9
                replace U5 := U5.keep hb_9
                replace U6 := U6.keep hb_9
                replace O9 := O9.keep hb_9
                replace NQ := NQ.keep hb_9
                replace NR := NR.keep hb_9
                replace hB := then_ hB hb_9 hB.size
                clear hb_9
                have O8 := O8_
                clear O8_
                refine tree_one (i := 10) (by kernel_rfl) rfl ?_
                · refine ⟨_, rfl, fun K hK => ?_⟩
                  have hfr := O8.at_
                  obtain ⟨P1, P2, P3⟩ := hfr
                  go_wp2
                  clear P1 P2 P3
                  refine hK _ _ ⟨(OA.apart (by omega) _ _).apart (by omega) _ _, (OB.apart (by omega) _ _).apart (by omega) _ _, (U5.apart (by omega) _ _).apart (by omega) _ _, (U6.apart (by omega) _ _).apart (by omega) _ _⟩ ?_
                  clear hK K
                  obtain ⟨W_10, hW⟩ : ∃ X, (W_9.setCell ⟨W_8.heap.size, 0, none⟩ (.bool s_q)).setCell ⟨W_8.heap.size, 1, none⟩ (.slice a_q l_q c_q) = X := ⟨_, rfl⟩
                  have OA_ : Own W_10 w.heap.size 24 #[.int .u64 (L0 z0), .int .u64 (L1 z0), .int .u64 (L2 z0), .int .u64 (L3 z0)] := hW ▸ ((OA.apart (by omega) _ _).apart (by omega) _ _)
                  have OB_ : Own W_10 (w.heap.size + 1) 24 #[.int .u64 (L0 z1), .int .u64 (L1 z1), .int .u64 (L2 z1), .int .u64 (L3 z1)] := hW ▸ ((OB.apart (by omega) _ _).apart (by omega) _ _)
                  have U5_ : Own W_10 w1.heap.size 24 #[.int .u64 (L0 q), .int .u64 (L1 q), .int .u64 (L2 q), .int .u64 (L3 q)] := hW ▸ ((U5.apart (by omega) _ _).apart (by omega) _ _)
                  have U6_ : Own W_10 (w1.heap.size + 1) 24 #[.int .u64 (L0 r), .int .u64 (L1 r), .int .u64 (L2 r), .int .u64 (L3 r)] := hW ▸ ((U6.apart (by omega) _ _).apart (by omega) _ _)
                  have O9_ : Own W_10 W_4.heap.size 27 #[.bool false, .slice none 0 0] := hW ▸ ((O9.apart (by omega) _ _).apart (by omega) _ _)
                  have O8_ : Own W_10 W_8.heap.size 27 #[.bool s_q, .slice a_q l_q c_q] := hW ▸ (((O8.put 0 _).put 1 _).as rfl)
                  have NQ_ := hW ▸ (NQ.put (p := W_8.heap.size) (i := 0) (by omega) (.bool s_q)).put (p := W_8.heap.size) (i := 1) (by omega) (.slice a_q l_q c_q)
                  have NR_ := hW ▸ (NR.put (p := W_8.heap.size) (i := 0) (by omega) (.bool s_q)).put (p := W_8.heap.size) (i := 1) (by omega) (.slice a_q l_q c_q)
                  have hB_ : Below w.heap.size w W_10 := hW ▸ ((hB.setCell (by show w.heap.size ≤ W_8.heap.size; omega) _).setCell (by show w.heap.size ≤ W_8.heap.size; omega) _)
                  rw [hW]
                  clear hW
                  clear OA OB U5 U6 O9 O8 NQ NR hB
                  have OA := OA_
                  have OB := OB_
                  have U5 := U5_
                  have U6 := U6_
                  have O9 := O9_
                  have O8 := O8_
                  have NQ := NQ_
                  have NR := NR_
                  have hB := hB_
                  clear OA_ OB_ U5_ U6_ O9_ O8_ NQ_ NR_ hB_
                  refine tree_one (i := 11) (by kernel_rfl) rfl ?_
                  · refine ⟨_, rfl, fun K hK => ?_⟩
                    have hfr := O9.at_
                    obtain ⟨P1, P2, P3⟩ := hfr
                    go_wp2
                    clear P1 P2 P3
                    refine hK _ _ ⟨(OA.apart (by omega) _ _).apart (by omega) _ _, (OB.apart (by omega) _ _).apart (by omega) _ _, (U5.apart (by omega) _ _).apart (by omega) _ _, (U6.apart (by omega) _ _).apart (by omega) _ _⟩ ?_
                    clear hK K
                    obtain ⟨W_11, hW⟩ : ∃ X, (W_10.setCell ⟨W_4.heap.size, 0, none⟩ (.bool s_r)).setCell ⟨W_4.heap.size, 1, none⟩ (.slice a_r l_r c_r) = X := ⟨_, rfl⟩
                    have OA_ : Own W_11 w.heap.size 24 #[.int .u64 (L0 z0), .int .u64 (L1 z0), .int .u64 (L2 z0), .int .u64 (L3 z0)] := hW ▸ ((OA.apart (by omega) _ _).apart (by omega) _ _)
                    have OB_ : Own W_11 (w.heap.size + 1) 24 #[.int .u64 (L0 z1), .int .u64 (L1 z1), .int .u64 (L2 z1), .int .u64 (L3 z1)] := hW ▸ ((OB.apart (by omega) _ _).apart (by omega) _ _)
                    have U5_ : Own W_11 w1.heap.size 24 #[.int .u64 (L0 q), .int .u64 (L1 q), .int .u64 (L2 q), .int .u64 (L3 q)] := hW ▸ ((U5.apart (by omega) _ _).apart (by omega) _ _)
                    have U6_ : Own W_11 (w1.heap.size + 1) 24 #[.int .u64 (L0 r), .int .u64 (L1 r), .int .u64 (L2 r), .int .u64 (L3 r)] := hW ▸ ((U6.apart (by omega) _ _).apart (by omega) _ _)
                    have O9_ : Own W_11 W_4.heap.size 27 #[.bool s_r, .slice a_r l_r c_r] := hW ▸ (((O9.put 0 _).put 1 _).as rfl)
                    have O8_ : Own W_11 W_8.heap.size 27 #[.bool s_q, .slice a_q l_q c_q] := hW ▸ ((O8.apart (by omega) _ _).apart (by omega) _ _)
                    have NQ_ := hW ▸ (NQ.put (p := W_4.heap.size) (i := 0) (by omega) (.bool s_r)).put (p := W_4.heap.size) (i := 1) (by omega) (.slice a_r l_r c_r)
                    have NR_ := hW ▸ (NR.put (p := W_4.heap.size) (i := 0) (by omega) (.bool s_r)).put (p := W_4.heap.size) (i := 1) (by omega) (.slice a_r l_r c_r)
                    have hB_ : Below w.heap.size w W_11 := hW ▸ ((hB.setCell (by show w.heap.size ≤ W_4.heap.size; omega) _).setCell (by show w.heap.size ≤ W_4.heap.size; omega) _)
                    rw [hW]
                    clear hW
                    clear OA OB U5 U6 O9 O8 NQ NR hB
                    have OA := OA_
                    have OB := OB_
                    have U5 := U5_
                    have U6 := U6_
                    have O9 := O9_
                    have O8 := O8_
                    have NQ := NQ_
                    have NR := NR_
                    have hB := hB_
                    clear OA_ OB_ U5_ U6_ O9_ O8_ NQ_ NR_ hB_
                    refine tree_end (by kernel_rfl) ?_
                    go_wp2_with fail
                    go_meet
                    exact ⟨W_8.heap.size, W_4.heap.size, s_q, a_q, l_q, c_q, s_r, a_r, l_r, c_r, rfl, rfl, O8, O9, NQ.mono (fun _ _ _ => trivial), NR.mono (fun _ _ _ => trivial), U5, U6, hB⟩
          · refine ⟨_, rfl, fun K hK => ?_⟩
            go_wp2
            refine hK _ _ ⟨OA.more _, OB.more _, U5.more _, U6.more _⟩ ?_
            clear hK K
            obtain ⟨W_4, hW⟩ : ∃ X, W_3.alloc (.cells #[.bool false, .slice none 0 0] 27) = X := ⟨_, rfl⟩
            have hb_4 : Below W_3.heap.size W_3 W_4 := hW ▸ (Below.refl _ _).alloc (Nat.le_refl _) _
            have O8_ : Own W_4 W_3.heap.size 27 #[.bool false, .slice none 0 0] := hW ▸ Own.made _ _ _
            have sz_4 := O8_.in_
            rw [hW]
            clear hW
            replace OA := OA.keep hb_4
            replace OB := OB.keep hb_4
            replace U5 := U5.keep hb_4
            replace U6 := U6.keep hb_4
            replace NX := NX.keep hb_4
            replace NY := NY.keep hb_4
            replace hB := then_ hB hb_4 hB.size
            clear hb_4
            have O8 := O8_
            clear O8_
            refine tree_two (i := 4) (k := 9) (by kernel_rfl) rfl rfl ?_ ?_
            · refine ⟨_, rfl, fun K hK => ?_⟩
              go_wp2_with (go_at_call 21; refine (div_num _ 0 0 _ _ z0 z1 W_4 NX (NY.num (T := 0) (C := 0) (fun b _ _ => .inr (Nat.zero_le _))) HZ.out L0_.out L1_.out).mono ?_; rintro e W_5 ⟨v_, v__, rfl, hq, hr, hb_5⟩)
              have sz_5 := hb_5.size
              obtain ⟨s_q, a_q, l_q, c_q, rfl⟩ := hq.shape
              obtain ⟨s_r, a_r, l_r, c_r, rfl⟩ := hr.shape
              have NQ := hq.mono (S' := fun b => W_4.heap.size ≤ b ∧ b < W_5.heap.size) (fun b h1 h2 => ⟨h2, h1⟩)
              have NR := hr.mono (S' := fun b => (((W_s.heap.size ≤ b ∧ b < W_2.heap.size) ∧ b < W_4.heap.size) ∨ W_4.heap.size ≤ b) ∧ b < W_5.heap.size) (fun b h1 h2 => ⟨h2, h1⟩)
              clear hq hr NX NY
              replace OA := OA.keep hb_5
              replace OB := OB.keep hb_5
              replace U5 := U5.keep hb_5
              replace U6 := U6.keep hb_5
              replace O8 := O8.keep hb_5
              replace hB := then_ hB hb_5 hB.size
              refine hK _ _ ⟨OA, OB, U5, U6⟩ ?_
              clear hK K hb_5
              refine tree_pure (i := 5) (v := ?_) rfl rfl (by kernel_rfl) (by kernel_rfl) (by kernel_rfl) rfl (fun W hS => ?_) ⟨OA, OB, U5, U6⟩ ?_
              rotate_left
              · conv => lhs; simp [go_sem]
                first | done | exact rfl
              simp only [Act.put, List.setIfInBounds_toArray, List.set_cons_zero, List.set_cons_succ]
              refine tree_pure (i := 6) (v := ?_) rfl rfl (by kernel_rfl) (by kernel_rfl) (by kernel_rfl) rfl (fun W hS => ?_) ⟨OA, OB, U5, U6⟩ ?_
              rotate_left
              · conv => lhs; simp [go_sem]
                first | done | exact rfl
              simp only [Act.put, List.setIfInBounds_toArray, List.set_cons_zero, List.set_cons_succ]
              refine tree_pure (i := 7) (v := ?_) rfl rfl (by kernel_rfl) (by kernel_rfl) (by kernel_rfl) rfl (fun W hS => ?_) ⟨OA, OB, U5, U6⟩ ?_
              rotate_left
              · conv => lhs; simp [go_sem]
                first | done | exact rfl
              simp only [Act.put, List.setIfInBounds_toArray, List.set_cons_zero, List.set_cons_succ]
              refine tree_one (i := 9) (by kernel_rfl) rfl ?_
              · refine ⟨_, rfl, fun K hK => ?_⟩
                go_wp2
                refine hK _ _ ⟨OA.more _, OB.more _, U5.more _, U6.more _⟩ ?_
                clear hK K
                obtain ⟨W_9, hW⟩ : ∃ X, W_5.alloc (.cells #[.bool false, .slice none 0 0] 27) = X := ⟨_, rfl⟩
                have hb_9 : Below W_5.heap.size W_5 W_9 := hW ▸ (Below.refl _ _).alloc (Nat.le_refl _) _
                have O9_ : Own W_9 W_5.heap.size 27 #[.bool false, .slice none 0 0] := hW ▸ Own.made _ _ _
                have sz_9 := O9_.in_
                rw [hW]
                clear hW
                replace OA := OA.keep hb_9
                replace OB := OB.keep hb_9
                replace U5 := U5.keep hb_9
                replace U6 := U6.keep hb_9
                replace O8 := O8.keep hb_9
                replace NQ := NQ.keep hb_9
                replace NR := NR.keep hb_9
                replace hB := then_ hB hb_9 hB.size
                clear hb_9
                have O9 := O9_
                clear O9_
                refine tree_one (i := 10) (by kernel_rfl) rfl ?_
                · refine ⟨_, rfl, fun K hK => ?_⟩
                  have hfr := O8.at_
                  obtain ⟨P1, P2, P3⟩ := hfr
                  go_wp2
                  clear P1 P2 P3
                  refine hK _ _ ⟨(OA.apart (by omega) _ _).apart (by omega) _ _, (OB.apart (by omega) _ _).apart (by omega) _ _, (U5.apart (by omega) _ _).apart (by omega) _ _, (U6.apart (by omega) _ _).apart (by omega) _ _⟩ ?_
                  clear hK K
                  obtain ⟨W_10, hW⟩ : ∃ X, (W_9.setCell ⟨W_3.heap.size, 0, none⟩ (.bool s_q)).setCell ⟨W_3.heap.size, 1, none⟩ (.slice a_q l_q c_q) = X := ⟨_, rfl⟩
                  have OA_ : Own W_10 w.heap.size 24 #[.int .u64 (L0 z0), .int .u64 (L1 z0), .int .u64 (L2 z0), .int .u64 (L3 z0)] := hW ▸ ((OA.apart (by omega) _ _).apart (by omega) _ _)
                  have OB_ : Own W_10 (w.heap.size + 1) 24 #[.int .u64 (L0 z1), .int .u64 (L1 z1), .int .u64 (L2 z1), .int .u64 (L3 z1)] := hW ▸ ((OB.apart (by omega) _ _).apart (by omega) _ _)
                  have U5_ : Own W_10 w1.heap.size 24 #[.int .u64 (L0 q), .int .u64 (L1 q), .int .u64 (L2 q), .int .u64 (L3 q)] := hW ▸ ((U5.apart (by omega) _ _).apart (by omega) _ _)
                  have U6_ : Own W_10 (w1.heap.size + 1) 24 #[.int .u64 (L0 r), .int .u64 (L1 r), .int .u64 (L2 r), .int .u64 (L3 r)] := hW ▸ ((U6.apart (by omega) _ _).apart (by omega) _ _)
                  have O8_ : Own W_10 W_3.heap.size 27 #[.bool s_q, .slice a_q l_q c_q] := hW ▸ (((O8.put 0 _).put 1 _).as rfl)
                  have O9_ : Own W_10 W_5.heap.size 27 #[.bool false, .slice none 0 0] := hW ▸ ((O9.apart (by omega) _ _).apart (by omega) _ _)
                  have NQ_ := hW ▸ (NQ.put (p := W_3.heap.size) (i := 0) (by omega) (.bool s_q)).put (p := W_3.heap.size) (i := 1) (by omega) (.slice a_q l_q c_q)
                  have NR_ := hW ▸ (NR.put (p := W_3.heap.size) (i := 0) (by omega) (.bool s_q)).put (p := W_3.heap.size) (i := 1) (by omega) (.slice a_q l_q c_q)
                  have hB_ : Below w.heap.size w W_10 := hW ▸ ((hB.setCell (by show w.heap.size ≤ W_3.heap.size; omega) _).setCell (by show w.heap.size ≤ W_3.heap.size; omega) _)
                  rw [hW]
                  clear hW
                  clear OA OB U5 U6 O8 O9 NQ NR hB
                  have OA := OA_
                  have OB := OB_
                  have U5 := U5_
                  have U6 := U6_
                  have O8 := O8_
                  have O9 := O9_
                  have NQ := NQ_
                  have NR := NR_
                  have hB := hB_
                  clear OA_ OB_ U5_ U6_ O8_ O9_ NQ_ NR_ hB_
                  refine tree_one (i := 11) (by kernel_rfl) rfl ?_
                  · refine ⟨_, rfl, fun K hK => ?_⟩
                    have hfr := O9.at_
                    obtain ⟨P1, P2, P3⟩ := hfr
                    go_wp2
                    clear P1 P2 P3
                    refine hK _ _ ⟨(OA.apart (by omega) _ _).apart (by omega) _ _, (OB.apart (by omega) _ _).apart (by omega) _ _, (U5.apart (by omega) _ _).apart (by omega) _ _, (U6.apart (by omega) _ _).apart (by omega) _ _⟩ ?_
                    clear hK K
                    obtain ⟨W_11, hW⟩ : ∃ X, (W_10.setCell ⟨W_5.heap.size, 0, none⟩ (.bool s_r)).setCell ⟨W_5.heap.size, 1, none⟩ (.slice a_r l_r c_r) = X := ⟨_, rfl⟩
                    have OA_ : Own W_11 w.heap.size 24 #[.int .u64 (L0 z0), .int .u64 (L1 z0), .int .u64 (L2 z0), .int .u64 (L3 z0)] := hW ▸ ((OA.apart (by omega) _ _).apart (by omega) _ _)
                    have OB_ : Own W_11 (w.heap.size + 1) 24 #[.int .u64 (L0 z1), .int .u64 (L1 z1), .int .u64 (L2 z1), .int .u64 (L3 z1)] := hW ▸ ((OB.apart (by omega) _ _).apart (by omega) _ _)
                    have U5_ : Own W_11 w1.heap.size 24 #[.int .u64 (L0 q), .int .u64 (L1 q), .int .u64 (L2 q), .int .u64 (L3 q)] := hW ▸ ((U5.apart (by omega) _ _).apart (by omega) _ _)
                    have U6_ : Own W_11 (w1.heap.size + 1) 24 #[.int .u64 (L0 r), .int .u64 (L1 r), .int .u64 (L2 r), .int .u64 (L3 r)] := hW ▸ ((U6.apart (by omega) _ _).apart (by omega) _ _)
                    have O8_ : Own W_11 W_3.heap.size 27 #[.bool s_q, .slice a_q l_q c_q] := hW ▸ ((O8.apart (by omega) _ _).apart (by omega) _ _)
                    have O9_ : Own W_11 W_5.heap.size 27 #[.bool s_r, .slice a_r l_r c_r] := hW ▸ (((O9.put 0 _).put 1 _).as rfl)
                    have NQ_ := hW ▸ (NQ.put (p := W_5.heap.size) (i := 0) (by omega) (.bool s_r)).put (p := W_5.heap.size) (i := 1) (by omega) (.slice a_r l_r c_r)
                    have NR_ := hW ▸ (NR.put (p := W_5.heap.size) (i := 0) (by omega) (.bool s_r)).put (p := W_5.heap.size) (i := 1) (by omega) (.slice a_r l_r c_r)
                    have hB_ : Below w.heap.size w W_11 := hW ▸ ((hB.setCell (by show w.heap.size ≤ W_5.heap.size; omega) _).setCell (by show w.heap.size ≤ W_5.heap.size; omega) _)
                    rw [hW]
                    clear hW
                    clear OA OB U5 U6 O8 O9 NQ NR hB
                    have OA := OA_
                    have OB := OB_
                    have U5 := U5_
                    have U6 := U6_
                    have O8 := O8_
                    have O9 := O9_
                    have NQ := NQ_
                    have NR := NR_
                    have hB := hB_
                    clear OA_ OB_ U5_ U6_ O8_ O9_ NQ_ NR_ hB_
                    refine tree_end (by kernel_rfl) ?_
                    go_wp2_with fail
                    go_meet
                    exact ⟨W_3.heap.size, W_5.heap.size, s_q, a_q, l_q, c_q, s_r, a_r, l_r, c_r, rfl, rfl, O8, O9, NQ.mono (fun _ _ _ => trivial), NR.mono (fun _ _ _ => trivial), U5, U6, hB⟩
            · refine ⟨_, rfl, fun K hK => ?_⟩
              go_wp2
              refine hK _ _ ⟨OA.more _, OB.more _, U5.more _, U6.more _⟩ ?_
              clear hK K
              obtain ⟨W_5, hW⟩ : ∃ X, W_4.alloc (.cells #[.bool false, .slice none 0 0] 27) = X := ⟨_, rfl⟩
              have hb_5 : Below W_4.heap.size W_4 W_5 := hW ▸ (Below.refl _ _).alloc (Nat.le_refl _) _
              have O9_ : Own W_5 W_4.heap.size 27 #[.bool false, .slice none 0 0] := hW ▸ Own.made _ _ _
              have sz_5 := O9_.in_
              rw [hW]
              clear hW
              replace OA := OA.keep hb_5
              replace OB := OB.keep hb_5
              replace U5 := U5.keep hb_5
              replace U6 := U6.keep hb_5
              replace O8 := O8.keep hb_5
              replace NX := NX.keep hb_5
              replace NY := NY.keep hb_5
              replace hB := then_ hB hb_5 hB.size
              clear hb_5
              have O9 := O9_
              clear O9_
              refine tree_one (i := 4) (by kernel_rfl) rfl ?_
              · refine ⟨_, rfl, fun K hK => ?_⟩
                go_wp2_with (go_at_call 21; refine (div_num _ 0 0 _ _ z0 z1 W_5 NX (NY.num (T := 0) (C := 0) (fun b _ _ => .inr (Nat.zero_le _))) HZ.out L0_.out L1_.out).mono ?_; rintro e W_6 ⟨v_, v__, rfl, hq, hr, hb_6⟩)
                have sz_6 := hb_6.size
                obtain ⟨s_q, a_q, l_q, c_q, rfl⟩ := hq.shape
                obtain ⟨s_r, a_r, l_r, c_r, rfl⟩ := hr.shape
                have NQ := hq.mono (S' := fun b => W_5.heap.size ≤ b ∧ b < W_6.heap.size) (fun b h1 h2 => ⟨h2, h1⟩)
                have NR := hr.mono (S' := fun b => (((W_s.heap.size ≤ b ∧ b < W_2.heap.size) ∧ b < W_5.heap.size) ∨ W_5.heap.size ≤ b) ∧ b < W_6.heap.size) (fun b h1 h2 => ⟨h2, h1⟩)
                clear hq hr NX NY
                replace OA := OA.keep hb_6
                replace OB := OB.keep hb_6
                replace U5 := U5.keep hb_6
                replace U6 := U6.keep hb_6
                replace O8 := O8.keep hb_6
                replace O9 := O9.keep hb_6
                replace hB := then_ hB hb_6 hB.size
                refine hK _ _ ⟨OA, OB, U5, U6⟩ ?_
                clear hK K hb_6
                refine tree_pure (i := 5) (v := ?_) rfl rfl (by kernel_rfl) (by kernel_rfl) (by kernel_rfl) rfl (fun W hS => ?_) ⟨OA, OB, U5, U6⟩ ?_
                rotate_left
                · conv => lhs; simp [go_sem]
                  first | done | exact rfl
                simp only [Act.put, List.setIfInBounds_toArray, List.set_cons_zero, List.set_cons_succ]
                refine tree_pure (i := 6) (v := ?_) rfl rfl (by kernel_rfl) (by kernel_rfl) (by kernel_rfl) rfl (fun W hS => ?_) ⟨OA, OB, U5, U6⟩ ?_
                rotate_left
                · conv => lhs; simp [go_sem]
                  first | done | exact rfl
                simp only [Act.put, List.setIfInBounds_toArray, List.set_cons_zero, List.set_cons_succ]
                refine tree_pure (i := 7) (v := ?_) rfl rfl (by kernel_rfl) (by kernel_rfl) (by kernel_rfl) rfl (fun W hS => ?_) ⟨OA, OB, U5, U6⟩ ?_
                rotate_left
                · conv => lhs; simp [go_sem]
                  first | done | exact rfl
                simp only [Act.put, List.setIfInBounds_toArray, List.set_cons_zero, List.set_cons_succ]
                refine tree_one (i := 10) (by kernel_rfl) rfl ?_
                · refine ⟨_, rfl, fun K hK => ?_⟩
                  have hfr := O8.at_
                  obtain ⟨P1, P2, P3⟩ := hfr
                  go_wp2
                  clear P1 P2 P3
                  refine hK _ _ ⟨(OA.apart (by omega) _ _).apart (by omega) _ _, (OB.apart (by omega) _ _).apart (by omega) _ _, (U5.apart (by omega) _ _).apart (by omega) _ _, (U6.apart (by omega) _ _).apart (by omega) _ _⟩ ?_
                  clear hK K
                  obtain ⟨W_10, hW⟩ : ∃ X, (W_6.setCell ⟨W_3.heap.size, 0, none⟩ (.bool s_q)).setCell ⟨W_3.heap.size, 1, none⟩ (.slice a_q l_q c_q) = X := ⟨_, rfl⟩
                  have OA_ : Own W_10 w.heap.size 24 #[.int .u64 (L0 z0), .int .u64 (L1 z0), .int .u64 (L2 z0), .int .u64 (L3 z0)] := hW ▸ ((OA.apart (by omega) _ _).apart (by omega) _ _)
                  have OB_ : Own W_10 (w.heap.size + 1) 24 #[.int .u64 (L0 z1), .int .u64 (L1 z1), .int .u64 (L2 z1), .int .u64 (L3 z1)] := hW ▸ ((OB.apart (by omega) _ _).apart (by omega) _ _)
                  have U5_ : Own W_10 w1.heap.size 24 #[.int .u64 (L0 q), .int .u64 (L1 q), .int .u64 (L2 q), .int .u64 (L3 q)] := hW ▸ ((U5.apart (by omega) _ _).apart (by omega) _ _)
                  have U6_ : Own W_10 (w1.heap.size + 1) 24 #[.int .u64 (L0 r), .int .u64 (L1 r), .int .u64 (L2 r), .int .u64 (L3 r)] := hW ▸ ((U6.apart (by omega) _ _).apart (by omega) _ _)
                  have O8_ : Own W_10 W_3.heap.size 27 #[.bool s_q, .slice a_q l_q c_q] := hW ▸ (((O8.put 0 _).put 1 _).as rfl)
                  have O9_ : Own W_10 W_4.heap.size 27 #[.bool false, .slice none 0 0] := hW ▸ ((O9.apart (by omega) _ _).apart (by omega) _ _)
                  have NQ_ := hW ▸ (NQ.put (p := W_3.heap.size) (i := 0) (by omega) (.bool s_q)).put (p := W_3.heap.size) (i := 1) (by omega) (.slice a_q l_q c_q)
                  have NR_ := hW ▸ (NR.put (p := W_3.heap.size) (i := 0) (by omega) (.bool s_q)).put (p := W_3.heap.size) (i := 1) (by omega) (.slice a_q l_q c_q)
                  have hB_ : Below w.heap.size w W_10 := hW ▸ ((hB.setCell (by show w.heap.size ≤ W_3.heap.size; omega) _).setCell (by show w.heap.size ≤ W_3.heap.size; omega) _)
                  rw [hW]
                  clear hW
                  clear OA OB U5 U6 O8 O9 NQ NR hB
                  have OA := OA_
                  have OB := OB_
                  have U5 := U5_
                  have U6 := U6_
                  have O8 := O8_
                  have O9 := O9_
                  have NQ := NQ_
                  have NR := NR_
                  have hB := hB_
                  clear OA_ OB_ U5_ U6_ O8_ O9_ NQ_ NR_ hB_
                  refine tree_one (i := 11) (by kernel_rfl) rfl ?_
                  · refine ⟨_, rfl, fun K hK => ?_⟩
                    have hfr := O9.at_
                    obtain ⟨P1, P2, P3⟩ := hfr
                    go_wp2
                    clear P1 P2 P3
                    refine hK _ _ ⟨(OA.apart (by omega) _ _).apart (by omega) _ _, (OB.apart (by omega) _ _).apart (by omega) _ _, (U5.apart (by omega) _ _).apart (by omega) _ _, (U6.apart (by omega) _ _).apart (by omega) _ _⟩ ?_
                    clear hK K
                    obtain ⟨W_11, hW⟩ : ∃ X, (W_10.setCell ⟨W_4.heap.size, 0, none⟩ (.bool s_r)).setCell ⟨W_4.heap.size, 1, none⟩ (.slice a_r l_r c_r) = X := ⟨_, rfl⟩
                    have OA_ : Own W_11 w.heap.size 24 #[.int .u64 (L0 z0), .int .u64 (L1 z0), .int .u64 (L2 z0), .int .u64 (L3 z0)] := hW ▸ ((OA.apart (by omega) _ _).apart (by omega) _ _)
                    have OB_ : Own W_11 (w.heap.size + 1) 24 #[.int .u64 (L0 z1), .int .u64 (L1 z1), .int .u64 (L2 z1), .int .u64 (L3 z1)] := hW ▸ ((OB.apart (by omega) _ _).apart (by omega) _ _)
                    have U5_ : Own W_11 w1.heap.size 24 #[.int .u64 (L0 q), .int .u64 (L1 q), .int .u64 (L2 q), .int .u64 (L3 q)] := hW ▸ ((U5.apart (by omega) _ _).apart (by omega) _ _)
                    have U6_ : Own W_11 (w1.heap.size + 1) 24 #[.int .u64 (L0 r), .int .u64 (L1 r), .int .u64 (L2 r), .int .u64 (L3 r)] := hW ▸ ((U6.apart (by omega) _ _).apart (by omega) _ _)
                    have O8_ : Own W_11 W_3.heap.size 27 #[.bool s_q, .slice a_q l_q c_q] := hW ▸ ((O8.apart (by omega) _ _).apart (by omega) _ _)
                    have O9_ : Own W_11 W_4.heap.size 27 #[.bool s_r, .slice a_r l_r c_r] := hW ▸ (((O9.put 0 _).put 1 _).as rfl)
                    have NQ_ := hW ▸ (NQ.put (p := W_4.heap.size) (i := 0) (by omega) (.bool s_r)).put (p := W_4.heap.size) (i := 1) (by omega) (.slice a_r l_r c_r)
                    have NR_ := hW ▸ (NR.put (p := W_4.heap.size) (i := 0) (by omega) (.bool s_r)).put (p := W_4.heap.size) (i := 1) (by omega) (.slice a_r l_r c_r)
                    have hB_ : Below w.heap.size w W_11 := hW ▸ ((hB.setCell (by show w.heap.size ≤ W_4.heap.size; omega) _).setCell (by show w.heap.size ≤ W_4.heap.size; omega) _)
                    rw [hW]
                    clear hW
                    clear OA OB U5 U6 O8 O9 NQ NR hB
                    have OA := OA_
                    have OB := OB_
                    have U5 := U5_
                    have U6 := U6_
                    have O8 := O8_
                    have O9 := O9_
                    have NQ := NQ_
                    have NR := NR_
                    have hB := hB_
                    clear OA_ OB_ U5_ U6_ O8_ O9_ NQ_ NR_ hB_
                    refine tree_end (by kernel_rfl) ?_
                    go_wp2_with fail
                    go_meet
                    exact ⟨W_3.heap.size, W_4.heap.size, s_q, a_q, l_q, c_q, s_r, a_r, l_r, c_r, rfl, rfl, O8, O9, NQ.mono (fun _ _ _ => trivial), NR.mono (fun _ _ _ => trivial), U5, U6, hB⟩
          · refine ⟨_, rfl, fun K hK => ?_⟩
            go_wp2
            refine hK _ _ ⟨OA.more _, OB.more _, U5.more _, U6.more _⟩ ?_
            clear hK K
            obtain ⟨W_4, hW⟩ : ∃ X, W_3.alloc (.cells #[.bool false, .slice none 0 0] 27) = X := ⟨_, rfl⟩
            have hb_4 : Below W_3.heap.size W_3 W_4 := hW ▸ (Below.refl _ _).alloc (Nat.le_refl _) _
            have O9_ : Own W_4 W_3.heap.size 27 #[.bool false, .slice none 0 0] := hW ▸ Own.made _ _ _
            have sz_4 := O9_.in_
            rw [hW]
            clear hW
            replace OA := OA.keep hb_4
            replace OB := OB.keep hb_4
            replace U5 := U5.keep hb_4
            replace U6 := U6.keep hb_4
            replace NX := NX.keep hb_4
            replace NY := NY.keep hb_4
            replace hB := then_ hB hb_4 hB.size
            clear hb_4
            have O9 := O9_
            clear O9_
            refine tree_two (i := 4) (k := 8) (by kernel_rfl) rfl rfl ?_ ?_
            · refine ⟨_, rfl, fun K hK => ?_⟩
              go_wp2_with (go_at_call 21; refine (div_num _ 0 0 _ _ z0 z1 W_4 NX (NY.num (T := 0) (C := 0) (fun b _ _ => .inr (Nat.zero_le _))) HZ.out L0_.out L1_.out).mono ?_; rintro e W_5 ⟨v_, v__, rfl, hq, hr, hb_5⟩)
              have sz_5 := hb_5.size
              obtain ⟨s_q, a_q, l_q, c_q, rfl⟩ := hq.shape
              obtain ⟨s_r, a_r, l_r, c_r, rfl⟩ := hr.shape
              have NQ := hq.mono (S' := fun b => W_4.heap.size ≤ b ∧ b < W_5.heap.size) (fun b h1 h2 => ⟨h2, h1⟩)
              have NR := hr.mono (S' := fun b => (((W_s.heap.size ≤ b ∧ b < W_2.heap.size) ∧ b < W_4.heap.size) ∨ W_4.heap.size ≤ b) ∧ b < W_5.heap.size) (fun b h1 h2 => ⟨h2, h1⟩)
              clear hq hr NX NY
              replace OA := OA.keep hb_5
              replace OB := OB.keep hb_5
              replace U5 := U5.keep hb_5
              replace U6 := U6.keep hb_5
              replace O9 := O9.keep hb_5
              replace hB := then_ hB hb_5 hB.size
              refine hK _ _ ⟨OA, OB, U5, U6⟩ ?_
              clear hK K hb_5
              refine tree_pure (i := 5) (v := ?_) rfl rfl (by kernel_rfl) (by kernel_rfl) (by kernel_rfl) rfl (fun W hS => ?_) ⟨OA, OB, U5, U6⟩ ?_
              rotate_left
              · conv => lhs; simp [go_sem]
                first | done | exact rfl
              simp only [Act.put, List.setIfInBounds_toArray, List.set_cons_zero, List.set_cons_succ]
              refine tree_pure (i := 6) (v := ?_) rfl rfl (by kernel_rfl) (by kernel_rfl) (by kernel_rfl) rfl (fun W hS => ?_) ⟨OA, OB, U5, U6⟩ ?_
              rotate_left
              · conv => lhs; simp [go_sem]
                first | done | exact rfl
              simp only [Act.put, List.setIfInBounds_toArray, List.set_cons_zero, List.set_cons_succ]
              refine tree_pure (i := 7) (v := ?_) rfl rfl (by kernel_rfl) (by kernel_rfl) (by kernel_rfl) rfl (fun W hS => ?_) ⟨OA, OB, U5, U6⟩ ?_
              rotate_left
              · conv => lhs; simp [go_sem]
                first | done | exact rfl
              simp only [Act.put, List.setIfInBounds_toArray, List.set_cons_zero, List.set_cons_succ]
              refine tree_one (i := 8) (by kernel_rfl) rfl ?_
              · refine ⟨_, rfl, fun K hK => ?_⟩
                go_wp2
                refine hK _ _ ⟨OA.more _, OB.more _, U5.more _, U6.more _⟩ ?_
                clear hK K
                obtain ⟨W_9, hW⟩ : ∃ X, W_5.alloc (.cells #[.bool false, .slice none 0 0] 27) = X := ⟨_, rfl⟩
                have hb_9 : Below W_5.heap.size W_5 W_9 := hW ▸ (Below.refl _ _).alloc (Nat.le_refl _) _
                have O8_ : Own W_9 W_5.heap.size 27 #[.bool false, .slice none 0 0] := hW ▸ Own.made _ _ _
                have sz_9 := O8_.in_
                rw [hW]
                clear hW
                replace OA := OA.keep hb_9
                replace OB := OB.keep hb_9
                replace U5 := U5.keep hb_9
                replace U6 := U6.keep hb_9
                replace O9 := O9.keep hb_9
                replace NQ := NQ.keep hb_9
                replace NR := NR.keep hb_9
                replace hB := then_ hB hb_9 hB.size
                clear hb_9
                have O8 := O8_
                clear O8_
                refine tree_one (i := 10) (by kernel_rfl) rfl ?_
                · refine ⟨_, rfl, fun K hK => ?_⟩
                  have hfr := O8.at_
                  obtain ⟨P1, P2, P3⟩ := hfr
                  go_wp2
                  clear P1 P2 P3
                  refine hK _ _ ⟨(OA.apart (by omega) _ _).apart (by omega) _ _, (OB.apart (by omega) _ _).apart (by omega) _ _, (U5.apart (by omega) _ _).apart (by omega) _ _, (U6.apart (by omega) _ _).apart (by omega) _ _⟩ ?_
                  clear hK K
                  obtain ⟨W_10, hW⟩ : ∃ X, (W_9.setCell ⟨W_5.heap.size, 0, none⟩ (.bool s_q)).setCell ⟨W_5.heap.size, 1, none⟩ (.slice a_q l_q c_q) = X := ⟨_, rfl⟩
                  have OA_ : Own W_10 w.heap.size 24 #[.int .u64 (L0 z0), .int .u64 (L1 z0), .int .u64 (L2 z0), .int .u64 (L3 z0)] := hW ▸ ((OA.apart (by omega) _ _).apart (by omega) _ _)
                  have OB_ : Own W_10 (w.heap.size + 1) 24 #[.int .u64 (L0 z1), .int .u64 (L1 z1), .int .u64 (L2 z1), .int .u64 (L3 z1)] := hW ▸ ((OB.apart (by omega) _ _).apart (by omega) _ _)
                  have U5_ : Own W_10 w1.heap.size 24 #[.int .u64 (L0 q), .int .u64 (L1 q), .int .u64 (L2 q), .int .u64 (L3 q)] := hW ▸ ((U5.apart (by omega) _ _).apart (by omega) _ _)
                  have U6_ : Own W_10 (w1.heap.size + 1) 24 #[.int .u64 (L0 r), .int .u64 (L1 r), .int .u64 (L2 r), .int .u64 (L3 r)] := hW ▸ ((U6.apart (by omega) _ _).apart (by omega) _ _)
                  have O9_ : Own W_10 W_3.heap.size 27 #[.bool false, .slice none 0 0] := hW ▸ ((O9.apart (by omega) _ _).apart (by omega) _ _)
                  have O8_ : Own W_10 W_5.heap.size 27 #[.bool s_q, .slice a_q l_q c_q] := hW ▸ (((O8.put 0 _).put 1 _).as rfl)
                  have NQ_ := hW ▸ (NQ.put (p := W_5.heap.size) (i := 0) (by omega) (.bool s_q)).put (p := W_5.heap.size) (i := 1) (by omega) (.slice a_q l_q c_q)
                  have NR_ := hW ▸ (NR.put (p := W_5.heap.size) (i := 0) (by omega) (.bool s_q)).put (p := W_5.heap.size) (i := 1) (by omega) (.slice a_q l_q c_q)
                  have hB_ : Below w.heap.size w W_10 := hW ▸ ((hB.setCell (by show w.heap.size ≤ W_5.heap.size; omega) _).setCell (by show w.heap.size ≤ W_5.heap.size; omega) _)
                  rw [hW]
                  clear hW
                  clear OA OB U5 U6 O9 O8 NQ NR hB
                  have OA := OA_
                  have OB := OB_
                  have U5 := U5_
                  have U6 := U6_
                  have O9 := O9_
                  have O8 := O8_
                  have NQ := NQ_
                  have NR := NR_
                  have hB := hB_
                  clear OA_ OB_ U5_ U6_ O9_ O8_ NQ_ NR_ hB_
                  refine tree_one (i := 11) (by kernel_rfl) rfl ?_
                  · refine ⟨_, rfl, fun K hK => ?_⟩
                    have hfr := O9.at_
                    obtain ⟨P1, P2, P3⟩ := hfr
                    go_wp2
                    clear P1 P2 P3
                    refine hK _ _ ⟨(OA.apart (by omega) _ _).apart (by omega) _ _, (OB.apart (by omega) _ _).apart (by omega) _ _, (U5.apart (by omega) _ _).apart (by omega) _ _, (U6.apart (by omega) _ _).apart (by omega) _ _⟩ ?_
                    clear hK K
                    obtain ⟨W_11, hW⟩ : ∃ X, (W_10.setCell ⟨W_3.heap.size, 0, none⟩ (.bool s_r)).setCell ⟨W_3.heap.size, 1, none⟩ (.slice a_r l_r c_r) = X := ⟨_, rfl⟩
                    have OA_ : Own W_11 w.heap.size 24 #[.int .u64 (L0 z0), .int .u64 (L1 z0), .int .u64 (L2 z0), .int .u64 (L3 z0)] := hW ▸ ((OA.apart (by omega) _ _).apart (by omega) _ _)
                    have OB_ : Own W_11 (w.heap.size + 1) 24 #[.int .u64 (L0 z1), .int .u64 (L1 z1), .int .u64 (L2 z1), .int .u64 (L3 z1)] := hW ▸ ((OB.apart (by omega) _ _).apart (by omega) _ _)
                    have U5_ : Own W_11 w1.heap.size 24 #[.int .u64 (L0 q), .int .u64 (L1 q), .int .u64 (L2 q), .int .u64 (L3 q)] := hW ▸ ((U5.apart (by omega) _ _).apart (by omega) _ _)
                    have U6_ : Own W_11 (w1.heap.size + 1) 24 #[.int .u64 (L0 r), .int .u64 (L1 r), .int .u64 (L2 r), .int .u64 (L3 r)] := hW ▸ ((U6.apart (by omega) _ _).apart (by omega) _ _)
                    have O9_ : Own W_11 W_3.heap.size 27 #[.bool s_r, .slice a_r l_r c_r] := hW ▸ (((O9.put 0 _).put 1 _).as rfl)
                    have O8_ : Own W_11 W_5.heap.size 27 #[.bool s_q, .slice a_q l_q c_q] := hW ▸ ((O8.apart (by omega) _ _).apart (by omega) _ _)
                    have NQ_ := hW ▸ (NQ.put (p := W_3.heap.size) (i := 0) (by omega) (.bool s_r)).put (p := W_3.heap.size) (i := 1) (by omega) (.slice a_r l_r c_r)
                    have NR_ := hW ▸ (NR.put (p := W_3.heap.size) (i := 0) (by omega) (.bool s_r)).put (p := W_3.heap.size) (i := 1) (by omega) (.slice a_r l_r c_r)
                    have hB_ : Below w.heap.size w W_11 := hW ▸ ((hB.setCell (by show w.heap.size ≤ W_3.heap.size; omega) _).setCell (by show w.heap.size ≤ W_3.heap.size; omega) _)
                    rw [hW]
                    clear hW
                    clear OA OB U5 U6 O9 O8 NQ NR hB
                    have OA := OA_
                    have OB := OB_
                    have U5 := U5_
                    have U6 := U6_
                    have O9 := O9_
                    have O8 := O8_
                    have NQ := NQ_
                    have NR := NR_
                    have hB := hB_
                    clear OA_ OB_ U5_ U6_ O9_ O8_ NQ_ NR_ hB_
                    refine tree_end (by kernel_rfl) ?_
                    go_wp2_with fail
                    go_meet
                    exact ⟨W_5.heap.size, W_3.heap.size, s_q, a_q, l_q, c_q, s_r, a_r, l_r, c_r, rfl, rfl, O8, O9, NQ.mono (fun _ _ _ => trivial), NR.mono (fun _ _ _ => trivial), U5, U6, hB⟩
            · refine ⟨_, rfl, fun K hK => ?_⟩
              go_wp2
              refine hK _ _ ⟨OA.more _, OB.more _, U5.more _, U6.more _⟩ ?_
              clear hK K
              obtain ⟨W_5, hW⟩ : ∃ X, W_4.alloc (.cells #[.bool false, .slice none 0 0] 27) = X := ⟨_, rfl⟩
              have hb_5 : Below W_4.heap.size W_4 W_5 := hW ▸ (Below.refl _ _).alloc (Nat.le_refl _) _
              have O8_ : Own W_5 W_4.heap.size 27 #[.bool false, .slice none 0 0] := hW ▸ Own.made _ _ _
              have sz_5 := O8_.in_
              rw [hW]
              clear hW
              replace OA := OA.keep hb_5
              replace OB := OB.keep hb_5
              replace U5 := U5.keep hb_5
              replace U6 := U6.keep hb_5
              replace O9 := O9.keep hb_5
              replace NX := NX.keep hb_5
              replace NY := NY.keep hb_5
              replace hB := then_ hB hb_5 hB.size
              clear hb_5
              have O8 := O8_
              clear O8_
              refine tree_one (i := 4) (by kernel_rfl) rfl ?_
              · refine ⟨_, rfl, fun K hK => ?_⟩
                go_wp2_with (go_at_call 21; refine (div_num _ 0 0 _ _ z0 z1 W_5 NX (NY.num (T := 0) (C := 0) (fun b _ _ => .inr (Nat.zero_le _))) HZ.out L0_.out L1_.out).mono ?_; rintro e W_6 ⟨v_, v__, rfl, hq, hr, hb_6⟩)
                have sz_6 := hb_6.size
                obtain ⟨s_q, a_q, l_q, c_q, rfl⟩ := hq.shape
                obtain ⟨s_r, a_r, l_r, c_r, rfl⟩ := hr.shape
                have NQ := hq.mono (S' := fun b => W_5.heap.size ≤ b ∧ b < W_6.heap.size) (fun b h1 h2 => ⟨h2, h1⟩)
                have NR := hr.mono (S' := fun b => (((W_s.heap.size ≤ b ∧ b < W_2.heap.size) ∧ b < W_5.heap.size) ∨ W_5.heap.size ≤ b) ∧ b < W_6.heap.size) (fun b h1 h2 => ⟨h2, h1⟩)
                clear hq hr NX NY
                replace OA := OA.keep hb_6
                replace OB := OB.keep hb_6
                replace U5 := U5.keep hb_6
                replace U6 := U6.keep hb_6
                replace O9 := O9.keep hb_6
                replace O8 := O8.keep hb_6
                replace hB := then_ hB hb_6 hB.size
                refine hK _ _ ⟨OA, OB, U5, U6⟩ ?_
                clear hK K hb_6
                refine tree_pure (i := 5) (v := ?_) rfl rfl (by kernel_rfl) (by kernel_rfl) (by kernel_rfl) rfl (fun W hS => ?_) ⟨OA, OB, U5, U6⟩ ?_
                rotate_left
                · conv => lhs; simp [go_sem]
                  first | done | exact rfl
                simp only [Act.put, List.setIfInBounds_toArray, List.set_cons_zero, List.set_cons_succ]
                refine tree_pure (i := 6) (v := ?_) rfl rfl (by kernel_rfl) (by kernel_rfl) (by kernel_rfl) rfl (fun W hS => ?_) ⟨OA, OB, U5, U6⟩ ?_
                rotate_left
                · conv => lhs; simp [go_sem]
                  first | done | exact rfl
                simp only [Act.put, List.setIfInBounds_toArray, List.set_cons_zero, List.set_cons_succ]
                refine tree_pure (i := 7) (v := ?_) rfl rfl (by kernel_rfl) (by kernel_rfl) (by kernel_rfl) rfl (fun W hS => ?_) ⟨OA, OB, U5, U6⟩ ?_
                rotate_left
                · conv => lhs; simp [go_sem]
                  first | done | exact rfl
                simp only [Act.put, List.setIfInBounds_toArray, List.set_cons_zero, List.set_cons_succ]
                refine tree_one (i := 10) (by kernel_rfl) rfl ?_
                · refine ⟨_, rfl, fun K hK => ?_⟩
                  have hfr := O8.at_
                  obtain ⟨P1, P2, P3⟩ := hfr
                  go_wp2
                  clear P1 P2 P3
                  refine hK _ _ ⟨(OA.apart (by omega) _ _).apart (by omega) _ _, (OB.apart (by omega) _ _).apart (by omega) _ _, (U5.apart (by omega) _ _).apart (by omega) _ _, (U6.apart (by omega) _ _).apart (by omega) _ _⟩ ?_
                  clear hK K
                  obtain ⟨W_10, hW⟩ : ∃ X, (W_6.setCell ⟨W_4.heap.size, 0, none⟩ (.bool s_q)).setCell ⟨W_4.heap.size, 1, none⟩ (.slice a_q l_q c_q) = X := ⟨_, rfl⟩
                  have OA_ : Own W_10 w.heap.size 24 #[.int .u64 (L0 z0), .int .u64 (L1 z0), .int .u64 (L2 z0), .int .u64 (L3 z0)] := hW ▸ ((OA.apart (by omega) _ _).apart (by omega) _ _)
                  have OB_ : Own W_10 (w.heap.size + 1) 24 #[.int .u64 (L0 z1), .int .u64 (L1 z1), .int .u64 (L2 z1), .int .u64 (L3 z1)] := hW ▸ ((OB.apart (by omega) _ _).apart (by omega) _ _)
                  have U5_ : Own W_10 w1.heap.size 24 #[.int .u64 (L0 q), .int .u64 (L1 q), .int .u64 (L2 q), .int .u64 (L3 q)] := hW ▸ ((U5.apart (by omega) _ _).apart (by omega) _ _)
                  have U6_ : Own W_10 (w1.heap.size + 1) 24 #[.int .u64 (L0 r), .int .u64 (L1 r), .int .u64 (L2 r), .int .u64 (L3 r)] := hW ▸ ((U6.apart (by omega) _ _).apart (by omega) _ _)
                  have O9_ : Own W_10 W_3.heap.size 27 #[.bool false, .slice none 0 0] := hW ▸ ((O9.apart (by omega) _ _).apart (by omega) _ _)
                  have O8_ : Own W_10 W_4.heap.size 27 #[.bool s_q, .slice a_q l_q c_q] := hW ▸ (((O8.put 0 _).put 1 _).as rfl)
                  have NQ_ := hW ▸ (NQ.put (p := W_4.heap.size) (i := 0) (by omega) (.bool s_q)).put (p := W_4.heap.size) (i := 1) (by omega) (.slice a_q l_q c_q)
                  have NR_ := hW ▸ (NR.put (p := W_4.heap.size) (i := 0) (by omega) (.bool s_q)).put (p := W_4.heap.size) (i := 1) (by omega) (.slice a_q l_q c_q)
                  have hB_ : Below w.heap.size w W_10 := hW ▸ ((hB.setCell (by show w.heap.size ≤ W_4.heap.size; omega) _).setCell (by show w.heap.size ≤ W_4.heap.size; omega) _)
                  rw [hW]
                  clear hW
                  clear OA OB U5 U6 O9 O8 NQ NR hB
                  have OA := OA_
                  have OB := OB_
                  have U5 := U5_
                  have U6 := U6_
                  have O9 := O9_
                  have O8 := O8_
                  have NQ := NQ_
                  have NR := NR_
                  have hB := hB_
                  clear OA_ OB_ U5_ U6_ O9_ O8_ NQ_ NR_ hB_
                  refine tree_one (i := 11) (by kernel_rfl) rfl ?_
                  · refine ⟨_, rfl, fun K hK => ?_⟩
                    have hfr := O9.at_
                    obtain ⟨P1, P2, P3⟩ := hfr
                    go_wp2
                    clear P1 P2 P3
                    refine hK _ _ ⟨(OA.apart (by omega) _ _).apart (by omega) _ _, (OB.apart (by omega) _ _).apart (by omega) _ _, (U5.apart (by omega) _ _).apart (by omega) _ _, (U6.apart (by omega) _ _).apart (by omega) _ _⟩ ?_
                    clear hK K
                    obtain ⟨W_11, hW⟩ : ∃ X, (W_10.setCell ⟨W_3.heap.size, 0, none⟩ (.bool s_r)).setCell ⟨W_3.heap.size, 1, none⟩ (.slice a_r l_r c_r) = X := ⟨_, rfl⟩
                    have OA_ : Own W_11 w.heap.size 24 #[.int .u64 (L0 z0), .int .u64 (L1 z0), .int .u64 (L2 z0), .int .u64 (L3 z0)] := hW ▸ ((OA.apart (by omega) _ _).apart (by omega) _ _)
                    have OB_ : Own W_11 (w.heap.size + 1) 24 #[.int .u64 (L0 z1), .int .u64 (L1 z1), .int .u64 (L2 z1), .int .u64 (L3 z1)] := hW ▸ ((OB.apart (by omega) _ _).apart (by omega) _ _)
                    have U5_ : Own W_11 w1.heap.size 24 #[.int .u64 (L0 q), .int .u64 (L1 q), .int .u64 (L2 q), .int .u64 (L3 q)] := hW ▸ ((U5.apart (by omega) _ _).apart (by omega) _ _)
                    have U6_ : Own W_11 (w1.heap.size + 1) 24 #[.int .u64 (L0 r), .int .u64 (L1 r), .int .u64 (L2 r), .int .u64 (L3 r)] := hW ▸ ((U6.apart (by omega) _ _).apart (by omega) _ _)
                    have O9_ : Own W_11 W_3.heap.size 27 #[.bool s_r, .slice a_r l_r c_r] := hW ▸ (((O9.put 0 _).put 1 _).as rfl)
                    have O8_ : Own W_11 W_4.heap.size 27 #[.bool s_q, .slice a_q l_q c_q] := hW ▸ ((O8.apart (by omega) _ _).apart (by omega) _ _)
                    have NQ_ := hW ▸ (NQ.put (p := W_3.heap.size) (i := 0) (by omega) (.bool s_r)).put (p := W_3.heap.size) (i := 1) (by omega) (.slice a_r l_r c_r)
                    have NR_ := hW ▸ (NR.put (p := W_3.heap.size) (i := 0) (by omega) (.bool s_r)).put (p := W_3.heap.size) (i := 1) (by omega) (.slice a_r l_r c_r)
                    have hB_ : Below w.heap.size w W_11 := hW ▸ ((hB.setCell (by show w.heap.size ≤ W_3.heap.size; omega) _).setCell (by show w.heap.size ≤ W_3.heap.size; omega) _)
                    rw [hW]
                    clear hW
                    clear OA OB U5 U6 O9 O8 NQ NR hB
                    have OA := OA_
                    have OB := OB_
                    have U5 := U5_
                    have U6 := U6_
                    have O9 := O9_
                    have O8 := O8_
                    have NQ := NQ_
                    have NR := NR_
                    have hB := hB_
                    clear OA_ OB_ U5_ U6_ O9_ O8_ NQ_ NR_ hB_
                    refine tree_end (by kernel_rfl) ?_
                    go_wp2_with fail
                    go_meet
                    exact ⟨W_4.heap.size, W_3.heap.size, s_q, a_q, l_q, c_q, s_r, a_r, l_r, c_r, rfl, rfl, O8, O9, NQ.mono (fun _ _ _ => trivial), NR.mono (fun _ _ _ => trivial), U5, U6, hB⟩
        · refine ⟨_, rfl, fun K hK => ?_⟩
          go_wp2
          refine hK _ _ ⟨OA.more _, OB.more _, U5.more _, U6.more _⟩ ?_
          clear hK K
          obtain ⟨W_3, hW⟩ : ∃ X, W_2.alloc (.cells #[.bool false, .slice none 0 0] 27) = X := ⟨_, rfl⟩
          have hb_3 : Below W_2.heap.size W_2 W_3 := hW ▸ (Below.refl _ _).alloc (Nat.le_refl _) _
          have O8_ : Own W_3 W_2.heap.size 27 #[.bool false, .slice none 0 0] := hW ▸ Own.made _ _ _
          have sz_3 := O8_.in_
          rw [hW]
          clear hW
          replace OA := OA.keep hb_3
          replace OB := OB.keep hb_3
          replace U5 := U5.keep hb_3
          replace U6 := U6.keep hb_3
          replace NX := NX.keep hb_3
          replace hB := then_ hB hb_3 hB.size
          clear hb_3
          have O8 := O8_
          clear O8_
          refine tree_two (i := 3) (k := 9) (by kernel_rfl) rfl rfl ?_ ?_
          · refine ⟨_, rfl, fun K hK => ?_⟩
            go_wp2_with (go_at_call 10; refine (F1.out 0 W_3 (Nat.zero_le _)).mono ?_; rintro e W_4 ⟨v_, rfl, hn, hb_4⟩)
            have sz_4 := hb_4.size
            obtain ⟨s_y, a_y, l_y, c_y, rfl⟩ := hn.shape
            have NY := NumP.of hn (S := fun b => W_3.heap.size ≤ b ∧ b < W_4.heap.size) (fun b h1 h2 => ⟨by omega, h1⟩)
            clear hn
            replace OA := OA.keep hb_4
            replace OB := OB.keep hb_4
            replace U5 := U5.keep hb_4
            replace U6 := U6.keep hb_4
            replace O8 := O8.keep hb_4
            replace NX := NX.keep hb_4
            replace hB := then_ hB hb_4 hB.size
            refine hK _ _ ⟨OA, OB, U5, U6⟩ ?_
            clear hK K hb_4
            refine tree_two (i := 4) (k := 9) (by kernel_rfl) rfl rfl ?_ ?_
            · refine ⟨_, rfl, fun K hK => ?_⟩
              go_wp2_with (go_at_call 21; refine (div_num _ 0 0 _ _ z0 z1 W_4 NX (NY.num (T := 0) (C := 0) (fun b _ _ => .inr (Nat.zero_le _))) HZ.out L0_.out L1_.out).mono ?_; rintro e W_5 ⟨v_, v__, rfl, hq, hr, hb_5⟩)
              have sz_5 := hb_5.size
              obtain ⟨s_q, a_q, l_q, c_q, rfl⟩ := hq.shape
              obtain ⟨s_r, a_r, l_r, c_r, rfl⟩ := hr.shape
              have NQ := hq.mono (S' := fun b => W_4.heap.size ≤ b ∧ b < W_5.heap.size) (fun b h1 h2 => ⟨h2, h1⟩)
              have NR := hr.mono (S' := fun b => (((W_s.heap.size ≤ b ∧ b < W_2.heap.size) ∧ b < W_4.heap.size) ∨ W_4.heap.size ≤ b) ∧ b < W_5.heap.size) (fun b h1 h2 => ⟨h2, h1⟩)
              clear hq hr NX NY
              replace OA := OA.keep hb_5
              replace OB := OB.keep hb_5
              replace U5 := U5.keep hb_5
              replace U6 := U6.keep hb_5
              replace O8 := O8.keep hb_5
              replace hB := then_ hB hb_5 hB.size
              refine hK _ _ ⟨OA, OB, U5, U6⟩ ?_
              clear hK K hb_5
              refine tree_pure (i := 5) (v := ?_) rfl rfl (by kernel_rfl) (by kernel_rfl) (by kernel_rfl) rfl (fun W hS => ?_) ⟨OA, OB, U5, U6⟩ ?_
              rotate_left
              · conv => lhs; simp [go_sem]
                first | done | exact rfl
              simp only [Act.put, List.setIfInBounds_toArray, List.set_cons_zero, List.set_cons_succ]
              refine tree_pure (i := 6) (v := ?_) rfl rfl (by kernel_rfl) (by kernel_rfl) (by kernel_rfl) rfl (fun W hS => ?_) ⟨OA, OB, U5, U6⟩ ?_
              rotate_left
              · conv => lhs; simp [go_sem]
                first | done | exact rfl
              simp only [Act.put, List.setIfInBounds_toArray, List.set_cons_zero, List.set_cons_succ]
              refine tree_pure (i := 7) (v := ?_) rfl rfl (by kernel_rfl) (by kernel_rfl) (by kernel_rfl) rfl (fun W hS => ?_) ⟨OA, OB, U5, U6⟩ ?_
              rotate_left
              · conv => lhs; simp [go_sem]
                first | done | exact rfl
              simp only [Act.put, List.setIfInBounds_toArray, List.set_cons_zero, List.set_cons_succ]
              refine tree_one (i := 9) (by kernel_rfl) rfl ?_
              · refine ⟨_, rfl, fun K hK => ?_⟩
                go_wp2
                refine hK _ _ ⟨OA.more _, OB.more _, U5.more _, U6.more _⟩ ?_
                clear hK K
                obtain ⟨W_9, hW⟩ : ∃ X, W_5.alloc (.cells #[.bool false, .slice none 0 0] 27) = X := ⟨_, rfl⟩
                have hb_9 : Below W_5.heap.size W_5 W_9 := hW ▸ (Below.refl _ _).alloc (Nat.le_refl _) _
                have O9_ : Own W_9 W_5.heap.size 27 #[.bool false, .slice none 0 0] := hW ▸ Own.made _ _ _
                have sz_9 := O9_.in_
                rw [hW]
                clear hW
                replace OA := OA.keep hb_9
                replace OB := OB.keep hb_9
                replace U5 := U5.keep hb_9
                replace U6 := U6.keep hb_9
                replace O8 := O8.keep hb_9
                replace NQ := NQ.keep hb_9
                replace NR := NR.keep hb_9
                replace hB := then_ hB hb_9 hB.size
                clear hb_9
                have O9 := O9_
                clear O9_
                refine tree_one (i := 10) (by kernel_rfl) rfl ?_
                · refine ⟨_, rfl, fun K hK => ?_⟩
                  have hfr := O8.at_
                  obtain ⟨P1, P2, P3⟩ := hfr
                  go_wp2
                  clear P1 P2 P3
                  refine hK _ _ ⟨(OA.apart (by omega) _ _).apart (by omega) _ _, (OB.apart (by omega) _ _).apart (by omega) _ _, (U5.apart (by omega) _ _).apart (by omega) _ _, (U6.apart (by omega) _ _).apart (by omega) _ _⟩ ?_
                  clear hK K
                  obtain ⟨W_10, hW⟩ : ∃ X, (W_9.setCell ⟨W_2.heap.size, 0, none⟩ (.bool s_q)).setCell ⟨W_2.heap.size, 1, none⟩ (.slice a_q l_q c_q) = X := ⟨_, rfl⟩
                  have OA_ : Own W_10 w.heap.size 24 #[.int .u64 (L0 z0), .int .u64 (L1 z0), .int .u64 (L2 z0), .int .u64 (L3 z0)] := hW ▸ ((OA.apart (by omega) _ _).apart (by omega) _ _)
                  have OB_ : Own W_10 (w.heap.size + 1) 24 #[.int .u64 (L0 z1), .int .u64 (L1 z1), .int .u64 (L2 z1), .int .u64 (L3 z1)] := hW ▸ ((OB.apart (by omega) _ _).apart (by omega) _ _)
                  have U5_ : Own W_10 w1.heap.size 24 #[.int .u64 (L0 q), .int .u64 (L1 q), .int .u64 (L2 q), .int .u64 (L3 q)] := hW ▸ ((U5.apart (by omega) _ _).apart (by omega) _ _)
                  have U6_ : Own W_10 (w1.heap.size + 1) 24 #[.int .u64 (L0 r), .int .u64 (L1 r), .int .u64 (L2 r), .int .u64 (L3 r)] := hW ▸ ((U6.apart (by omega) _ _).apart (by omega) _ _)
                  have O8_ : Own W_10 W_2.heap.size 27 #[.bool s_q, .slice a_q l_q c_q] := hW ▸ (((O8.put 0 _).put 1 _).as rfl)
                  have O9_ : Own W_10 W_5.heap.size 27 #[.bool false, .slice none 0 0] := hW ▸ ((O9.apart (by omega) _ _).apart (by omega) _ _)
                  have NQ_ := hW ▸ (NQ.put (p := W_2.heap.size) (i := 0) (by omega) (.bool s_q)).put (p := W_2.heap.size) (i := 1) (by omega) (.slice a_q l_q c_q)
                  have NR_ := hW ▸ (NR.put (p := W_2.heap.size) (i := 0) (by omega) (.bool s_q)).put (p := W_2.heap.size) (i := 1) (by omega) (.slice a_q l_q c_q)
                  have hB_ : Below w.heap.size w W_10 := hW ▸ ((hB.setCell (by show w.heap.size ≤ W_2.heap.size; omega) _).setCell (by show w.heap.size ≤ W_2.heap.size; omega) _)
                  rw [hW]
                  clear hW
                  clear OA OB U5 U6 O8 O9 NQ NR hB
                  have OA := OA_
                  have OB := OB_
                  have U5 := U5_
                  have U6 := U6_
                  have O8 := O8_
                  have O9 := O9_
                  have NQ := NQ_
                  have NR := NR_
                  have hB := hB_
                  clear OA_ OB_ U5_ U6_ O8_ O9_ NQ_ NR_ hB_
                  refine tree_one (i := 11) (by kernel_rfl) rfl ?_
                  · refine ⟨_, rfl, fun K hK => ?_⟩
                    have hfr := O9.at_
                    obtain ⟨P1, P2, P3⟩ := hfr
                    go_wp2
                    clear P1 P2 P3
                    refine hK _ _ ⟨(OA.apart (by omega) _ _).apart (by omega) _ _, (OB.apart (by omega) _ _).apart (by omega) _ _, (U5.apart (by omega) _ _).apart (by omega) _ _, (U6.apart (by omega) _ _).apart (by omega) _ _⟩ ?_
                    clear hK K
                    obtain ⟨W_11, hW⟩ : ∃ X, (W_10.setCell ⟨W_5.heap.size, 0, none⟩ (.bool s_r)).setCell ⟨W_5.heap.size, 1, none⟩ (.slice a_r l_r c_r) = X := ⟨_, rfl⟩
                    have OA_ : Own W_11 w.heap.size 24 #[.int .u64 (L0 z0), .int .u64 (L1 z0), .int .u64 (L2 z0), .int .u64 (L3 z0)] := hW ▸ ((OA.apart (by omega) _ _).apart (by omega) _ _)
                    have OB_ : Own W_11 (w.heap.size + 1) 24 #[.int .u64 (L0 z1), .int .u64 (L1 z1), .int .u64 (L2 z1), .int .u64 (L3 z1)] := hW ▸ ((OB.apart (by omega) _ _).apart (by omega) _ _)
                    have U5_ : Own W_11 w1.heap.size 24 #[.int .u64 (L0 q), .int .u64 (L1 q), .int .u64 (L2 q), .int .u64 (L3 q)] := hW ▸ ((U5.apart (by omega) _ _).apart (by omega) _ _)
                    have U6_ : Own W_11 (w1.heap.size + 1) 24 #[.int .u64 (L0 r), .int .u64 (L1 r), .int .u64 (L2 r), .int .u64 (L3 r)] := hW ▸ ((U6.apart (by omega) _ _).apart (by omega) _ _)
                    have O8_ : Own W_11 W_2.heap.size 27 #[.bool s_q, .slice a_q l_q c_q] := hW ▸ ((O8.apart (by omega) _ _).apart (by omega) _ _)
                    have O9_ : Own W_11 W_5.heap.size 27 #[.bool s_r, .slice a_r l_r c_r] := hW ▸ (((O9.put 0 _).put 1 _).as rfl)
                    have NQ_ := hW ▸ (NQ.put (p := W_5.heap.size) (i := 0) (by omega) (.bool s_r)).put (p := W_5.heap.size) (i := 1) (by omega) (.slice a_r l_r c_r)
                    have NR_ := hW ▸ (NR.put (p := W_5.heap.size) (i := 0) (by omega) (.bool s_r)).put (p := W_5.heap.size) (i := 1) (by omega) (.slice a_r l_r c_r)
                    have hB_ : Below w.heap.size w W_11 := hW ▸ ((hB.setCell (by show w.heap.size ≤ W_5.heap.size; omega) _).setCell (by show w.heap.size ≤ W_5.heap.size; omega) _)
                    rw [hW]
                    clear hW
                    clear OA OB U5 U6 O8 O9 NQ NR hB
                    have OA := OA_
                    have OB := OB_
                    have U5 := U5_
                    have U6 := U6_
                    have O8 := O8_
                    have O9 := O9_
                    have NQ := NQ_
                    have NR := NR_
                    have hB := hB_
                    clear OA_ OB_ U5_ U6_ O8_ O9_ NQ_ NR_ hB_
                    refine tree_end (by kernel_rfl) ?_
                    go_wp2_with fail
                    go_meet
                    exact ⟨W_2.heap.size, W_5.heap.size, s_q, a_q, l_q, c_q, s_r, a_r, l_r, c_r, rfl, rfl, O8, O9, NQ.mono (fun _ _ _ => trivial), NR.mono (fun _ _ _ => trivial), U5, U6, hB⟩
            · refine ⟨_, rfl, fun K hK => ?_⟩
              go_wp2
              refine hK _ _ ⟨OA.more _, OB.more _, U5.more _, U6.more _⟩ ?_
              clear hK K
              obtain ⟨W_5, hW⟩ : ∃ X, W_4.alloc (.cells #[.bool false, .slice none 0 0] 27) = X := ⟨_, rfl⟩
              have hb_5 : Below W_4.heap.size W_4 W_5 := hW ▸ (Below.refl _ _).alloc (Nat.le_refl _) _
              have O9_ : Own W_5 W_4.heap.size 27 #[.bool false, .slice none 0 0] := hW ▸ Own.made _ _ _
              have sz_5 := O9_.in_
              rw [hW]
              clear hW
              replace OA := OA.keep hb_5
              replace OB := OB.keep hb_5
              replace U5 := U5.keep hb_5
              replace U6 := U6.keep hb_5
              replace O8 := O8.keep hb_5
              replace NX := NX.keep hb_5
              replace NY := NY.keep hb_5
              replace hB := then_ hB hb_5 hB.size
              clear hb_5
              have O9 := O9_
              clear O9_
              refine tree_one (i := 4) (by kernel_rfl) rfl ?_
              · refine ⟨_, rfl, fun K hK => ?_⟩
                go_wp2_with (go_at_call 21; refine (div_num _ 0 0 _ _ z0 z1 W_5 NX (NY.num (T := 0) (C := 0) (fun b _ _ => .inr (Nat.zero_le _))) HZ.out L0_.out L1_.out).mono ?_; rintro e W_6 ⟨v_, v__, rfl, hq, hr, hb_6⟩)
                have sz_6 := hb_6.size
                obtain ⟨s_q, a_q, l_q, c_q, rfl⟩ := hq.shape
                obtain ⟨s_r, a_r, l_r, c_r, rfl⟩ := hr.shape
                have NQ := hq.mono (S' := fun b => W_5.heap.size ≤ b ∧ b < W_6.heap.size) (fun b h1 h2 => ⟨h2, h1⟩)
                have NR := hr.mono (S' := fun b => (((W_s.heap.size ≤ b ∧ b < W_2.heap.size) ∧ b < W_5.heap.size) ∨ W_5.heap.size ≤ b) ∧ b < W_6.heap.size) (fun b h1 h2 => ⟨h2, h1⟩)
                clear hq hr NX NY
                replace OA := OA.keep hb_6
                replace OB := OB.keep hb_6
                replace U5 := U5.keep hb_6
                replace U6 := U6.keep hb_6
                replace O8 := O8.keep hb_6
                replace O9 := O9.keep hb_6
                replace hB := then_ hB hb_6 hB.size
                refine hK _ _ ⟨OA, OB, U5, U6⟩ ?_
                clear hK K hb_6
                refine tree_pure (i := 5) (v := ?_) rfl rfl (by kernel_rfl) (by kernel_rfl) (by kernel_rfl) rfl (fun W hS => ?_) ⟨OA, OB, U5, U6⟩ ?_
                rotate_left
                · conv => lhs; simp [go_sem]
                  first | done | exact rfl
                simp only [Act.put, List.setIfInBounds_toArray, List.set_cons_zero, List.set_cons_succ]
                refine tree_pure (i := 6) (v := ?_) rfl rfl (by kernel_rfl) (by kernel_rfl) (by kernel_rfl) rfl (fun W hS => ?_) ⟨OA, OB, U5, U6⟩ ?_
                rotate_left
                · conv => lhs; simp [go_sem]
                  first | done | exact rfl
                simp only [Act.put, List.setIfInBounds_toArray, List.set_cons_zero, List.set_cons_succ]
                refine tree_pure (i := 7) (v := ?_) rfl rfl (by kernel_rfl) (by kernel_rfl) (by kernel_rfl) rfl (fun W hS => ?_) ⟨OA, OB, U5, U6⟩ ?_
                rotate_left
                · conv => lhs; simp [go_sem]
                  first | done | exact rfl
                simp only [Act.put, List.setIfInBounds_toArray, List.set_cons_zero, List.set_cons_succ]
                refine tree_one (i := 10) (by kernel_rfl) rfl ?_
                · refine ⟨_, rfl, fun K hK => ?_⟩
                  have hfr := O8.at_
                  obtain ⟨P1, P2, P3⟩ := hfr
                  go_wp2
                  clear P1 P2 P3
                  refine hK _ _ ⟨(OA.apart (by omega) _ _).apart (by omega) _ _, (OB.apart (by omega) _ _).apart (by omega) _ _, (U5.apart (by omega) _ _).apart (by omega) _ _, (U6.apart (by omega) _ _).apart (by omega) _ _⟩ ?_
                  clear hK K
                  obtain ⟨W_10, hW⟩ : ∃ X, (W_6.setCell ⟨W_2.heap.size, 0, none⟩ (.bool s_q)).setCell ⟨W_2.heap.size, 1, none⟩ (.slice a_q l_q c_q) = X := ⟨_, rfl⟩
                  have OA_ : Own W_10 w.heap.size 24 #[.int .u64 (L0 z0), .int .u64 (L1 z0), .int .u64 (L2 z0), .int .u64 (L3 z0)] := hW ▸ ((OA.apart (by omega) _ _).apart (by omega) _ _)
                  have OB_ : Own W_10 (w.heap.size + 1) 24 #[.int .u64 (L0 z1), .int .u64 (L1 z1), .int .u64 (L2 z1), .int .u64 (L3 z1)] := hW ▸ ((OB.apart (by omega) _ _).apart (by omega) _ _)
                  have U5_ : Own W_10 w1.heap.size 24 #[.int .u64 (L0 q), .int .u64 (L1 q), .int .u64 (L2 q), .int .u64 (L3 q)] := hW ▸ ((U5.apart (by omega) _ _).apart (by omega) _ _)
                  have U6_ : Own W_10 (w1.heap.size + 1) 24 #[.int .u64 (L0 r), .int .u64 (L1 r), .int .u64 (L2 r), .int .u64 (L3 r)] := hW ▸ ((U6.apart (by omega) _ _).apart (by omega) _ _)
                  have O8_ : Own W_10 W_2.heap.size 27 #[.bool s_q, .slice a_q l_q c_q] := hW ▸ (((O8.put 0 _).put 1 _).as rfl)
                  have O9_ : Own W_10 W_4.heap.size 27 #[.bool false, .slice none 0 0] := hW ▸ ((O9.apart (by omega) _ _).apart (by omega) _ _)
                  have NQ_ := hW ▸ (NQ.put (p := W_2.heap.size) (i := 0) (by omega) (.bool s_q)).put (p := W_2.heap.size) (i := 1) (by omega) (.slice a_q l_q c_q)
                  have NR_ := hW ▸ (NR.put (p := W_2.heap.size) (i := 0) (by omega) (.bool s_q)).put (p := W_2.heap.size) (i := 1) (by omega) (.slice a_q l_q c_q)
                  have hB_ : Below w.heap.size w W_10 := hW ▸ ((hB.setCell (by show w.heap.size ≤ W_2.heap.size; omega) _).setCell (by show w.heap.size ≤ W_2.heap.size; omega) _)
                  rw [hW]
                  clear hW
                  clear OA OB U5 U6 O8 O9 NQ NR hB
                  have OA := OA_
                  have OB := OB_
                  have U5 := U5_
                  have U6 := U6_
                  have O8 := O8_
                  have O9 := O9_
                  have NQ := NQ_
                  have NR := NR_
                  have hB := hB_
                  clear OA_ OB_ U5_ U6_ O8_ O9_ NQ_ NR_ hB_
                  refine tree_one (i := 11) (by kernel_rfl) rfl ?_
                  · refine ⟨_, rfl, fun K hK => ?_⟩
                    have hfr := O9.at_
                    obtain ⟨P1, P2, P3⟩ := hfr
                    go_wp2
                    clear P1 P2 P3
                    refine hK _ _ ⟨(OA.apart (by omega) _ _).apart (by omega) _ _, (OB.apart (by omega) _ _).apart (by omega) _ _, (U5.apart (by omega) _ _).apart (by omega) _ _, (U6.apart (by omega) _ _).apart (by omega) _ _⟩ ?_
                    clear hK K
                    obtain ⟨W_11, hW⟩ : ∃ X, (W_10.setCell ⟨W_4.heap.size, 0, none⟩ (.bool s_r)).setCell ⟨W_4.heap.size, 1, none⟩ (.slice a_r l_r c_r) = X := ⟨_, rfl⟩
                    have OA_ : Own W_11 w.heap.size 24 #[.int .u64 (L0 z0), .int .u64 (L1 z0), .int .u64 (L2 z0), .int .u64 (L3 z0)] := hW ▸ ((OA.apart (by omega) _ _).apart (by omega) _ _)
                    have OB_ : Own W_11 (w.heap.size + 1) 24 #[.int .u64 (L0 z1), .int .u64 (L1 z1), .int .u64 (L2 z1), .int .u64 (L3 z1)] := hW ▸ ((OB.apart (by omega) _ _).apart (by omega) _ _)
                    have U5_ : Own W_11 w1.heap.size 24 #[.int .u64 (L0 q), .int .u64 (L1 q), .int .u64 (L2 q), .int .u64 (L3 q)] := hW ▸ ((U5.apart (by omega) _ _).apart (by omega) _ _)
                    have U6_ : Own W_11 (w1.heap.size + 1) 24 #[.int .u64 (L0 r), .int .u64 (L1 r), .int .u64 (L2 r), .int .u64 (L3 r)] := hW ▸ ((U6.apart (by omega) _ _).apart (by omega) _ _)
                    have O8_ : Own W_11 W_2.heap.size 27 #[.bool s_q, .slice a_q l_q c_q] := hW ▸ ((O8.apart (by omega) _ _).apart (by omega) _ _)
                    have O9_ : Own W_11 W_4.heap.size 27 #[.bool s_r, .slice a_r l_r c_r] := hW ▸ (((O9.put 0 _).put 1 _).as rfl)
                    have NQ_ := hW ▸ (NQ.put (p := W_4.heap.size) (i := 0) (by omega) (.bool s_r)).put (p := W_4.heap.size) (i := 1) (by omega) (.slice a_r l_r c_r)
                    have NR_ := hW ▸ (NR.put (p := W_4.heap.size) (i := 0) (by omega) (.bool s_r)).put (p := W_4.heap.size) (i := 1) (by omega) (.slice a_r l_r c_r)
                    have hB_ : Below w.heap.size w W_11 := hW ▸ ((hB.setCell (by show w.heap.size ≤ W_4.heap.size; omega) _).setCell (by show w.heap.size ≤ W_4.heap.size; omega) _)
                    rw [hW]
                    clear hW
                    clear OA OB U5 U6 O8 O9 NQ NR hB
                    have OA := OA_
                    have OB := OB_
                    have U5 := U5_
                    have U6 := U6_
                    have O8 := O8_
                    have O9 := O9_
                    have NQ := NQ_
                    have NR := NR_
                    have hB := hB_
                    clear OA_ OB_ U5_ U6_ O8_ O9_ NQ_ NR_ hB_
                    refine tree_end (by kernel_rfl) ?_
                    go_wp2_with fail
                    go_meet
                    exact ⟨W_2.heap.size, W_4.heap.size, s_q, a_q, l_q, c_q, s_r, a_r, l_r, c_r, rfl, rfl, O8, O9, NQ.mono (fun _ _ _ => trivial), NR.mono (fun _ _ _ => trivial), U5, U6, hB⟩
          · refine ⟨_, rfl, fun K hK => ?_⟩
            go_wp2
            refine hK _ _ ⟨OA.more _, OB.more _, U5.more _, U6.more _⟩ ?_
            clear hK K
            obtain ⟨W_4, hW⟩ : ∃ X, W_3.alloc (.cells #[.bool false, .slice none 0 0] 27) = X := ⟨_, rfl⟩
            have hb_4 : Below W_3.heap.size W_3 W_4 := hW ▸ (Below.refl _ _).alloc (Nat.le_refl _) _
            have O9_ : Own W_4 W_3.heap.size 27 #[.bool false, .slice none 0 0] := hW ▸ Own.made _ _ _
            have sz_4 := O9_.in_
            rw [hW]
            clear hW
            replace OA := OA.keep hb_4
            replace OB := OB.keep hb_4
            replace U5 := U5.keep hb_4
            replace U6 := U6.keep hb_4
            replace O8 := O8.keep hb_4
            replace NX := NX.keep hb_4
            replace hB := then_ hB hb_4 hB.size
            clear hb_4
            have O9 := O9_
            clear O9_
            refine tree_one (i := 3) (by kernel_rfl) rfl ?_
            · refine ⟨_, rfl, fun K hK => ?_⟩
              go_wp2_with (go_at_call 10; refine (F1.out 0 W_4 (Nat.zero_le _)).mono ?_; rintro e W_5 ⟨v_, rfl, hn, hb_5⟩)
              have sz_5 := hb_5.size
              obtain ⟨s_y, a_y, l_y, c_y, rfl⟩ := hn.shape
              have NY := NumP.of hn (S := fun b => W_4.heap.size ≤ b ∧ b < W_5.heap.size) (fun b h1 h2 => ⟨by omega, h1⟩)
              clear hn
              replace OA := OA.keep hb_5
              replace OB := OB.keep hb_5
              replace U5 := U5.keep hb_5
              replace U6 := U6.keep hb_5
              replace O8 := O8.keep hb_5
              replace O9 := O9.keep hb_5
              replace NX := NX.keep hb_5
              replace hB := then_ hB hb_5 hB.size
              refine hK _ _ ⟨OA, OB, U5, U6⟩ ?_
              clear hK K hb_5
              refine tree_one (i := 4) (by kernel_rfl) rfl ?_
              · refine ⟨_, rfl, fun K hK => ?_⟩
                go_wp2_with (go_at_call 21; refine (div_num _ 0 0 _ _ z0 z1 W_5 NX (NY.num (T := 0) (C := 0) (fun b _ _ => .inr (Nat.zero_le _))) HZ.out L0_.out L1_.out).mono ?_; rintro e W_6 ⟨v_, v__, rfl, hq, hr, hb_6⟩)
                have sz_6 := hb_6.size
                obtain ⟨s_q, a_q, l_q, c_q, rfl⟩ := hq.shape
                obtain ⟨s_r, a_r, l_r, c_r, rfl⟩ := hr.shape
                have NQ := hq.mono (S' := fun b => W_5.heap.size ≤ b ∧ b < W_6.heap.size) (fun b h1 h2 => ⟨h2, h1⟩)
                have NR := hr.mono (S' := fun b => (((W_s.heap.size ≤ b ∧ b < W_2.heap.size) ∧ b < W_5.heap.size) ∨ W_5.heap.size ≤ b) ∧ b < W_6.heap.size) (fun b h1 h2 => ⟨h2, h1⟩)
                clear hq hr NX NY
                replace OA := OA.keep hb_6
                replace OB := OB.keep hb_6
                replace U5 := U5.keep hb_6
                replace U6 := U6.keep hb_6
                replace O8 := O8.keep hb_6
                replace O9 := O9.keep hb_6
                replace hB := then_ hB hb_6 hB.size
                refine hK _ _ ⟨OA, OB, U5, U6⟩ ?_
                clear hK K hb_6
                refine tree_pure (i := 5) (v := ?_) rfl rfl (by kernel_rfl) (by kernel_rfl) (by kernel_rfl) rfl (fun W hS => ?_) ⟨OA, OB, U5, U6⟩ ?_
                rotate_left
                · conv => lhs; simp [go_sem]
                  first | done | exact rfl
                simp only [Act.put, List.setIfInBounds_toArray, List.set_cons_zero, List.set_cons_succ]
                refine tree_pure (i := 6) (v := ?_) rfl rfl (by kernel_rfl) (by kernel_rfl) (by kernel_rfl) rfl (fun W hS => ?_) ⟨OA, OB, U5, U6⟩ ?_
                rotate_left
                · conv => lhs; simp [go_sem]
                  first | done | exact rfl
                simp only [Act.put, List.setIfInBounds_toArray, List.set_cons_zero, List.set_cons_succ]
                refine tree_pure (i := 7) (v := ?_) rfl rfl (by kernel_rfl) (by kernel_rfl) (by kernel_rfl) rfl (fun W hS => ?_) ⟨OA, OB, U5, U6⟩ ?_
                rotate_left
                · conv => lhs; simp [go_sem]
                  first | done | exact rfl
                simp only [Act.put, List.setIfInBounds_toArray, List.set_cons_zero, List.set_cons_succ]
                refine tree_one (i := 10) (by kernel_rfl) rfl ?_
                · refine ⟨_, rfl, fun K hK => ?_⟩
                  have hfr := O8.at_
                  obtain ⟨P1, P2, P3⟩ := hfr
                  go_wp2
                  clear P1 P2 P3
                  refine hK _ _ ⟨(OA.apart (by omega) _ _).apart (by omega) _ _, (OB.apart (by omega) _ _).apart (by omega) _ _, (U5.apart (by omega) _ _).apart (by omega) _ _, (U6.apart (by omega) _ _).apart (by omega) _ _⟩ ?_
                  clear hK K
                  obtain ⟨W_10, hW⟩ : ∃ X, (W_6.setCell ⟨W_2.heap.size, 0, none⟩ (.bool s_q)).setCell ⟨W_2.heap.size, 1, none⟩ (.slice a_q l_q c_q) = X := ⟨_, rfl⟩
                  have OA_ : Own W_10 w.heap.size 24 #[.int .u64 (L0 z0), .int .u64 (L1 z0), .int .u64 (L2 z0), .int .u64 (L3 z0)] := hW ▸ ((OA.apart (by omega) _ _).apart (by omega) _ _)
                  have OB_ : Own W_10 (w.heap.size + 1) 24 #[.int .u64 (L0 z1), .int .u64 (L1 z1), .int .u64 (L2 z1), .int .u64 (L3 z1)] := hW ▸ ((OB.apart (by omega) _ _).apart (by omega) _ _)
                  have U5_ : Own W_10 w1.heap.size 24 #[.int .u64 (L0 q), .int .u64 (L1 q), .int .u64 (L2 q), .int .u64 (L3 q)] := hW ▸ ((U5.apart (by omega) _ _).apart (by omega) _ _)
                  have U6_ : Own W_10 (w1.heap.size + 1) 24 #[.int .u64 (L0 r), .int .u64 (L1 r), .int .u64 (L2 r), .int .u64 (L3 r)] := hW ▸ ((U6.apart (by omega) _ _).apart (by omega) _ _)
                  have O8_ : Own W_10 W_2.heap.size 27 #[.bool s_q, .slice a_q l_q c_q] := hW ▸ (((O8.put 0 _).put 1 _).as rfl)
                  have O9_ : Own W_10 W_3.heap.size 27 #[.bool false, .slice none 0 0] := hW ▸ ((O9.apart (by omega) _ _).apart (by omega) _ _)
                  have NQ_ := hW ▸ (NQ.put (p := W_2.heap.size) (i := 0) (by omega) (.bool s_q)).put (p := W_2.heap.size) (i := 1) (by omega) (.slice a_q l_q c_q)
                  have NR_ := hW ▸ (NR.put (p := W_2.heap.size) (i := 0) (by omega) (.bool s_q)).put (p := W_2.heap.size) (i := 1) (by omega) (.slice a_q l_q c_q)
                  have hB_ : Below w.heap.size w W_10 := hW ▸ ((hB.setCell (by show w.heap.size ≤ W_2.heap.size; omega) _).setCell (by show w.heap.size ≤ W_2.heap.size; omega) _)
                  rw [hW]
                  clear hW
                  clear OA OB U5 U6 O8 O9 NQ NR hB
                  have OA := OA_
                  have OB := OB_
                  have U5 := U5_
                  have U6 := U6_
                  have O8 := O8_
                  have O9 := O9_
                  have NQ := NQ_
                  have NR := NR_
                  have hB := hB_
                  clear OA_ OB_ U5_ U6_ O8_ O9_ NQ_ NR_ hB_
                  refine tree_one (i := 11) (by kernel_rfl) rfl ?_
                  · refine ⟨_, rfl, fun K hK => ?_⟩
                    have hfr := O9.at_
                    obtain ⟨P1, P2, P3⟩ := hfr
                    go_wp2
                    clear P1 P2 P3
                    refine hK _ _ ⟨(OA.apart (by omega) _ _).apart (by omega) _ _, (OB.apart (by omega) _ _).apart (by omega) _ _, (U5.apart (by omega) _ _).apart (by omega) _ _, (U6.apart (by omega) _ _).apart (by omega) _ _⟩ ?_
                    clear hK K
                    obtain ⟨W_11, hW⟩ : ∃ X, (W_10.setCell ⟨W_3.heap.size, 0, none⟩ (.bool s_r)).setCell ⟨W_3.heap.size, 1, none⟩ (.slice a_r l_r c_r) = X := ⟨_, rfl⟩
                    have OA_ : Own W_11 w.heap.size 24 #[.int .u64 (L0 z0), .int .u64 (L1 z0), .int .u64 (L2 z0), .int .u64 (L3 z0)] := hW ▸ ((OA.apart (by omega) _ _).apart (by omega) _ _)
                    have OB_ : Own W_11 (w.heap.size + 1) 24 #[.int .u64 (L0 z1), .int .u64 (L1 z1), .int .u64 (L2 z1), .int .u64 (L3 z1)] := hW ▸ ((OB.apart (by omega) _ _).apart (by omega) _ _)
                    have U5_ : Own W_11 w1.heap.size 24 #[.int .u64 (L0 q), .int .u64 (L1 q), .int .u64 (L2 q), .int .u64 (L3 q)] := hW ▸ ((U5.apart (by omega) _ _).apart (by omega) _ _)
                    have U6_ : Own W_11 (w1.heap.size + 1) 24 #[.int .u64 (L0 r), .int .u64 (L1 r), .int .u64 (L2 r), .int .u64 (L3 r)] := hW ▸ ((U6.apart (by omega) _ _).apart (by omega) _ _)
                    have O8_ : Own W_11 W_2.heap.size 27 #[.bool s_q, .slice a_q l_q c_q] := hW ▸ ((O8.apart (by omega) _ _).apart (by omega) _ _)
                    have O9_ : Own W_11 W_3.heap.size 27 #[.bool s_r, .slice a_r l_r c_r] := hW ▸ (((O9.put 0 _).put 1 _).as rfl)
                    have NQ_ := hW ▸ (NQ.put (p := W_3.heap.size) (i := 0) (by omega) (.bool s_r)).put (p := W_3.heap.size) (i := 1) (by omega) (.slice a_r l_r c_r)
                    have NR_ := hW ▸ (NR.put (p := W_3.heap.size) (i := 0) (by omega) (.bool s_r)).put (p := W_3.heap.size) (i := 1) (by omega) (.slice a_r l_r c_r)
                    have hB_ : Below w.heap.size w W_11 := hW ▸ ((hB.setCell (by show w.heap.size ≤ W_3.heap.size; omega) _).setCell (by show w.heap.size ≤ W_3.heap.size; omega) _)
                    rw [hW]
                    clear hW
                    clear OA OB U5 U6 O8 O9 NQ NR hB
                    have OA := OA_
                    have OB := OB_
                    have U5 := U5_
                    have U6 := U6_
                    have O8 := O8_
                    have O9 := O9_
                    have NQ := NQ_
                    have NR := NR_
                    have hB := hB_
                    clear OA_ OB_ U5_ U6_ O8_ O9_ NQ_ NR_ hB_
                    refine tree_end (by kernel_rfl) ?_
                    go_wp2_with fail
                    go_meet
                    exact ⟨W_2.heap.size, W_3.heap.size, s_q, a_q, l_q, c_q, s_r, a_r, l_r, c_r, rfl, rfl, O8, O9, NQ.mono (fun _ _ _ => trivial), NR.mono (fun _ _ _ => trivial), U5, U6, hB⟩
        · refine ⟨_, rfl, fun K hK => ?_⟩
          go_wp2
          refine hK _ _ ⟨OA.more _, OB.more _, U5.more _, U6.more _⟩ ?_
          clear hK K
          obtain ⟨W_3, hW⟩ : ∃ X, W_2.alloc (.cells #[.bool false, .slice none 0 0] 27) = X := ⟨_, rfl⟩
          have hb_3 : Below W_2.heap.size W_2 W_3 := hW ▸ (Below.refl _ _).alloc (Nat.le_refl _) _
          have O9_ : Own W_3 W_2.heap.size 27 #[.bool false, .slice none 0 0] := hW ▸ Own.made _ _ _
          have sz_3 := O9_.in_
          rw [hW]
          clear hW
          replace OA := OA.keep hb_3
          replace OB := OB.keep hb_3
          replace U5 := U5.keep hb_3
          replace U6 := U6.keep hb_3
          replace NX := NX.keep hb_3
          replace hB := then_ hB hb_3 hB.size
          clear hb_3
          have O9 := O9_
          clear O9_
          refine tree_two (i := 3) (k := 8) (by kernel_rfl) rfl rfl ?_ ?_
          · refine ⟨_, rfl, fun K hK => ?_⟩
            go_wp2_with (go_at_call 10; refine (F1.out 0 W_3 (Nat.zero_le _)).mono ?_; rintro e W_4 ⟨v_, rfl, hn, hb_4⟩)
            have sz_4 := hb_4.size
            obtain ⟨s_y, a_y, l_y, c_y, rfl⟩ := hn.shape
            have NY := NumP.of hn (S := fun b => W_3.heap.size ≤ b ∧ b < W_4.heap.size) (fun b h1 h2 => ⟨by omega, h1⟩)
            clear hn
            replace OA := OA.keep hb_4
            replace OB := OB.keep hb_4
            replace U5 := U5.keep hb_4
            replace U6 := U6.keep hb_4
            replace O9 := O9.keep hb_4
            replace NX := NX.keep hb_4
            replace hB := then_ hB hb_4 hB.size
            refine hK _ _ ⟨OA, OB, U5, U6⟩ ?_
            clear hK K hb_4
            refine tree_two (i := 4) (k := 8) (by kernel_rfl) rfl rfl ?_ ?_
            · refine ⟨_, rfl, fun K hK => ?_⟩
              go_wp2_with (go_at_call 21; refine (div_num _ 0 0 _ _ z0 z1 W_4 NX (NY.num (T := 0) (C := 0) (fun b _ _ => .inr (Nat.zero_le _))) HZ.out L0_.out L1_.out).mono ?_; rintro e W_5 ⟨v_, v__, rfl, hq, hr, hb_5⟩)
              have sz_5 := hb_5.size
              obtain ⟨s_q, a_q, l_q, c_q, rfl⟩ := hq.shape
              obtain ⟨s_r, a_r, l_r, c_r, rfl⟩ := hr.shape
              have NQ := hq.mono (S' := fun b => W_4.heap.size ≤ b ∧ b < W_5.heap.size) (fun b h1 h2 => ⟨h2, h1⟩)
              have NR := hr.mono (S' := fun b => (((W_s.heap.size ≤ b ∧ b < W_2.heap.size) ∧ b < W_4.heap.size) ∨ W_4.heap.size ≤ b) ∧ b < W_5.heap.size) (fun b h1 h2 => ⟨h2, h1⟩)
              clear hq hr NX NY
              replace OA := OA.keep hb_5
              replace OB := OB.keep hb_5
              replace U5 := U5.keep hb_5
              replace U6 := U6.keep hb_5
              replace O9 := O9.keep hb_5
              replace hB := then_ hB hb_5 hB.size
              refine hK _ _ ⟨OA, OB, U5, U6⟩ ?_
              clear hK K hb_5
              refine tree_pure (i := 5) (v := ?_) rfl rfl (by kernel_rfl) (by kernel_rfl) (by kernel_rfl) rfl (fun W hS => ?_) ⟨OA, OB, U5, U6⟩ ?_
              rotate_left
              · conv => lhs; simp [go_sem]
                first | done | exact rfl
              simp only [Act.put, List.setIfInBounds_toArray, List.set_cons_zero, List.set_cons_succ]
              refine tree_pure (i := 6) (v := ?_) rfl rfl (by kernel_rfl) (by kernel_rfl) (by kernel_rfl) rfl (fun W hS => ?_) ⟨OA, OB, U5, U6⟩ ?_
              rotate_left
              · conv => lhs; simp [go_sem]
                first | done | exact rfl
              simp only [Act.put, List.setIfInBounds_toArray, List.set_cons_zero, List.set_cons_succ]
              refine tree_pure (i := 7) (v := ?_) rfl rfl (by kernel_rfl) (by kernel_rfl) (by kernel_rfl) rfl (fun W hS => ?_) ⟨OA, OB, U5, U6⟩ ?_
              rotate_left
              · conv => lhs; simp [go_sem]
                first | done | exact rfl
              simp only [Act.put, List.setIfInBounds_toArray, List.set_cons_zero, List.set_cons_succ]
              refine tree_one (i := 8) (by kernel_rfl) rfl ?_
              · refine ⟨_, rfl, fun K hK => ?_⟩
                go_wp2
                refine hK _ _ ⟨OA.more _, OB.more _, U5.more _, U6.more _⟩ ?_
                clear hK K
                obtain ⟨W_9, hW⟩ : ∃ X, W_5.alloc (.cells #[.bool false, .slice none 0 0] 27) = X := ⟨_, rfl⟩
                have hb_9 : Below W_5.heap.size W_5 W_9 := hW ▸ (Below.refl _ _).alloc (Nat.le_refl _) _
                have O8_ : Own W_9 W_5.heap.size 27 #[.bool false, .slice none 0 0] := hW ▸ Own.made _ _ _
                have sz_9 := O8_.in_
                rw [hW]
                clear hW
                replace OA := OA.keep hb_9
                replace OB := OB.keep hb_9
                replace U5 := U5.keep hb_9
                replace U6 := U6.keep hb_9
                replace O9 := O9.keep hb_9
                replace NQ := NQ.keep hb_9
                replace NR := NR.keep hb_9
                replace hB := then_ hB hb_9 hB.size
                clear hb_9
                have O8 := O8_
                clear O8_
                refine tree_one (i := 10) (by kernel_rfl) rfl ?_
                · refine ⟨_, rfl, fun K hK => ?_⟩
                  have hfr := O8.at_
                  obtain ⟨P1, P2, P3⟩ := hfr
                  go_wp2
                  clear P1 P2 P3
                  refine hK _ _ ⟨(OA.apart (by omega) _ _).apart (by omega) _ _, (OB.apart (by omega) _ _).apart (by omega) _ _, (U5.apart (by omega) _ _).apart (by omega) _ _, (U6.apart (by omega) _ _).apart (by omega) _ _⟩ ?_
                  clear hK K
                  obtain ⟨W_10, hW⟩ : ∃ X, (W_9.setCell ⟨W_5.heap.size, 0, none⟩ (.bool s_q)).setCell ⟨W_5.heap.size, 1, none⟩ (.slice a_q l_q c_q) = X := ⟨_, rfl⟩
                  have OA_ : Own W_10 w.heap.size 24 #[.int .u64 (L0 z0), .int .u64 (L1 z0), .int .u64 (L2 z0), .int .u64 (L3 z0)] := hW ▸ ((OA.apart (by omega) _ _).apart (by omega) _ _)
                  have OB_ : Own W_10 (w.heap.size + 1) 24 #[.int .u64 (L0 z1), .int .u64 (L1 z1), .int .u64 (L2 z1), .int .u64 (L3 z1)] := hW ▸ ((OB.apart (by omega) _ _).apart (by omega) _ _)
                  have U5_ : Own W_10 w1.heap.size 24 #[.int .u64 (L0 q), .int .u64 (L1 q), .int .u64 (L2 q), .int .u64 (L3 q)] := hW ▸ ((U5.apart (by omega) _ _).apart (by omega) _ _)
                  have U6_ : Own W_10 (w1.heap.size + 1) 24 #[.int .u64 (L0 r), .int .u64 (L1 r), .int .u64 (L2 r), .int .u64 (L3 r)] := hW ▸ ((U6.apart (by omega) _ _).apart (by omega) _ _)
                  have O9_ : Own W_10 W_2.heap.size 27 #[.bool false, .slice none 0 0] := hW ▸ ((O9.apart (by omega) _ _).apart (by omega) _ _)
                  have O8_ : Own W_10 W_5.heap.size 27 #[.bool s_q, .slice a_q l_q c_q] := hW ▸ (((O8.put 0 _).put 1 _).as rfl)
                  have NQ_ := hW ▸ (NQ.put (p := W_5.heap.size) (i := 0) (by omega) (.bool s_q)).put (p := W_5.heap.size) (i := 1) (by omega) (.slice a_q l_q c_q)
                  have NR_ := hW ▸ (NR.put (p := W_5.heap.size) (i := 0) (by omega) (.bool s_q)).put (p := W_5.heap.size) (i := 1) (by omega) (.slice a_q l_q c_q)
                  have hB_ : Below w.heap.size w W_10 := hW ▸ ((hB.setCell (by show w.heap.size ≤ W_5.heap.size; omega) _).setCell (by show w.heap.size ≤ W_5.heap.size; omega) _)
                  rw [hW]
                  clear hW
                  clear OA OB U5 U6 O9 O8 NQ NR hB
                  have OA := OA_
                  have OB := OB_
                  have U5 := U5_
                  have U6 := U6_
                  have O9 := O9_
                  have O8 := O8_
                  have NQ := NQ_
                  have NR := NR_
                  have hB := hB_
                  clear OA_ OB_ U5_ U6_ O9_ O8_ NQ_ NR_ hB_
                  refine tree_one (i := 11) (by kernel_rfl) rfl ?_
                  · refine ⟨_, rfl, fun K hK => ?_⟩
                    have hfr := O9.at_
                    obtain ⟨P1, P2, P3⟩ := hfr
                    go_wp2
                    clear P1 P2 P3
                    refine hK _ _ ⟨(OA.apart (by omega) _ _).apart (by omega) _ _, (OB.apart (by omega) _ _).apart (by omega) _ _, (U5.apart (by omega) _ _).apart (by omega) _ _, (U6.apart (by omega) _ _).apart (by omega) _ _⟩ ?_
                    clear hK K
                    obtain ⟨W_11, hW⟩ : ∃ X, (W_10.setCell ⟨W_2.heap.size, 0, none⟩ (.bool s_r)).setCell ⟨W_2.heap.size, 1, none⟩ (.slice a_r l_r c_r) = X := ⟨_, rfl⟩
                    have OA_ : Own W_11 w.heap.size 24 #[.int .u64 (L0 z0), .int .u64 (L1 z0), .int .u64 (L2 z0), .int .u64 (L3 z0)] := hW ▸ ((OA.apart (by omega) _ _).apart (by omega) _ _)
                    have OB_ : Own W_11 (w.heap.size + 1) 24 #[.int .u64 (L0 z1), .int .u64 (L1 z1), .int .u64 (L2 z1), .int .u64 (L3 z1)] := hW ▸ ((OB.apart (by omega) _ _).apart (by omega) _ _)
                    have U5_ : Own W_11 w1.heap.size 24 #[.int .u64 (L0 q), .int .u64 (L1 q), .int .u64 (L2 q), .int .u64 (L3 q)] := hW ▸ ((U5.apart (by omega) _ _).apart (by omega) _ _)
                    have U6_ : Own W_11 (w1.heap.size + 1) 24 #[.int .u64 (L0 r), .int .u64 (L1 r), .int .u64 (L2 r), .int .u64 (L3 r)] := hW ▸ ((U6.apart (by omega) _ _).apart (by omega) _ _)
                    have O9_ : Own W_11 W_2.heap.size 27 #[.bool s_r, .slice a_r l_r c_r] := hW ▸ (((O9.put 0 _).put 1 _).as rfl)
                    have O8_ : Own W_11 W_5.heap.size 27 #[.bool s_q, .slice a_q l_q c_q] := hW ▸ ((O8.apart (by omega) _ _).apart (by omega) _ _)
                    have NQ_ := hW ▸ (NQ.put (p := W_2.heap.size) (i := 0) (by omega) (.bool s_r)).put (p := W_2.heap.size) (i := 1) (by omega) (.slice a_r l_r c_r)
                    have NR_ := hW ▸ (NR.put (p := W_2.heap.size) (i := 0) (by omega) (.bool s_r)).put (p := W_2.heap.size) (i := 1) (by omega) (.slice a_r l_r c_r)
                    have hB_ : Below w.heap.size w W_11 := hW ▸ ((hB.setCell (by show w.heap.size ≤ W_2.heap.size; omega) _).setCell (by show w.heap.size ≤ W_2.heap.size; omega) _)
                    rw [hW]
                    clear hW
                    clear OA OB U5 U6 O9 O8 NQ NR hB
                    have OA := OA_
                    have OB := OB_
                    have U5 := U5_
                    have U6 := U6_
                    have O9 := O9_
                    have O8 := O8_
                    have NQ := NQ_
                    have NR := NR_
                    have hB := hB_
                    clear OA_ OB_ U5_ U6_ O9_ O8_ NQ_ NR_ hB_
                    refine tree_end (by kernel_rfl) ?_
                    go_wp2_with fail
                    go_meet
                    exact ⟨W_5.heap.size, W_2.heap.size, s_q, a_q, l_q, c_q, s_r, a_r, l_r, c_r, rfl, rfl, O8, O9, NQ.mono (fun _ _ _ => trivial), NR.mono (fun _ _ _ => trivial), U5, U6, hB⟩
            · refine ⟨_, rfl, fun K hK => ?_⟩
              go_wp2
              refine hK _ _ ⟨OA.more _, OB.more _, U5.more _, U6.more _⟩ ?_
              clear hK K
              obtain ⟨W_5, hW⟩ : ∃ X, W_4.alloc (.cells #[.bool false, .slice none 0 0] 27) = X := ⟨_, rfl⟩
              have hb_5 : Below W_4.heap.size W_4 W_5 := hW ▸ (Below.refl _ _).alloc (Nat.le_refl _) _
              have O8_ : Own W_5 W_4.heap.size 27 #[.bool false, .slice none 0 0] := hW ▸ Own.made _ _ _
              have sz_5 := O8_.in_
              rw [hW]
              clear hW
              replace OA := OA.keep hb_5
              replace OB := OB.keep hb_5
              replace U5 := U5.keep hb_5
              replace U6 := U6.keep hb_5
              replace O9 := O9.keep hb_5
              replace NX := NX.keep hb_5
              replace NY := NY.keep hb_5
              replace hB := then_ hB hb_5 hB.size
              clear hb_5
              have O8 := O8_
              clear O8_
              refine tree_one (i := 4) (by kernel_rfl) rfl ?_
              · refine ⟨_, rfl, fun K hK => ?_⟩
                go_wp2_with (go_at_call 21; refine (div_num _ 0 0 _ _ z0 z1 W_5 NX (NY.num (T := 0) (C := 0) (fun b _ _ => .inr (Nat.zero_le _))) HZ.out L0_.out L1_.out).mono ?_; rintro e W_6 ⟨v_, v__, rfl, hq, hr, hb_6⟩)
                have sz_6 := hb_6.size
                obtain ⟨s_q, a_q, l_q, c_q, rfl⟩ := hq.shape
                obtain ⟨s_r, a_r, l_r, c_r, rfl⟩ := hr.shape
                have NQ := hq.mono (S' := fun b => W_5.heap.size ≤ b ∧ b < W_6.heap.size) (fun b h1 h2 => ⟨h2, h1⟩)
                have NR := hr.mono (S' := fun b => (((W_s.heap.size ≤ b ∧ b < W_2.heap.size) ∧ b < W_5.heap.size) ∨ W_5.heap.size ≤ b) ∧ b < W_6.heap.size) (fun b h1 h2 => ⟨h2, h1⟩)
                clear hq hr NX NY
                replace OA := OA.keep hb_6
                replace OB := OB.keep hb_6
                replace U5 := U5.keep hb_6
                replace U6 := U6.keep hb_6
                replace O9 := O9.keep hb_6
                replace O8 := O8.keep hb_6
                replace hB := then_ hB hb_6 hB.size
                refine hK _ _ ⟨OA, OB, U5, U6⟩ ?_
                clear hK K hb_6
                refine tree_pure (i := 5) (v := ?_) rfl rfl (by kernel_rfl) (by kernel_rfl) (by kernel_rfl) rfl (fun W hS => ?_) ⟨OA, OB, U5, U6⟩ ?_
                rotate_left
                · conv => lhs; simp [go_sem]
                  first | done | exact rfl
                simp only [Act.put, List.setIfInBounds_toArray, List.set_cons_zero, List.set_cons_succ]
                refine tree_pure (i := 6) (v := ?_) rfl rfl (by kernel_rfl) (by kernel_rfl) (by kernel_rfl) rfl (fun W hS => ?_) ⟨OA, OB, U5, U6⟩ ?_
                rotate_left
                · conv => lhs; simp [go_sem]
                  first | done | exact rfl
                simp only [Act.put, List.setIfInBounds_toArray, List.set_cons_zero, List.set_cons_succ]
                refine tree_pure (i := 7) (v := ?_) rfl rfl (by kernel_rfl) (by kernel_rfl) (by kernel_rfl) rfl (fun W hS => ?_) ⟨OA, OB, U5, U6⟩ ?_
                rotate_left
                · conv => lhs; simp [go_sem]
                  first | done | exact rfl
                simp only [Act.put, List.setIfInBounds_toArray, List.set_cons_zero, List.set_cons_succ]
                refine tree_one (i := 10) (by kernel_rfl) rfl ?_
                · refine ⟨_, rfl, fun K hK => ?_⟩
                  have hfr := O8.at_
                  obtain ⟨P1, P2, P3⟩ := hfr
                  go_wp2
                  clear P1 P2 P3
                  refine hK _ _ ⟨(OA.apart (by omega) _ _).apart (by omega) _ _, (OB.apart (by omega) _ _).apart (by omega) _ _, (U5.apart (by omega) _ _).apart (by omega) _ _, (U6.apart (by omega) _ _).apart (by omega) _ _⟩ ?_
                  clear hK K
                  obtain ⟨W_10, hW⟩ : ∃ X, (W_6.setCell ⟨W_4.heap.size, 0, none⟩ (.bool s_q)).setCell ⟨W_4.heap.size, 1, none⟩ (.slice a_q l_q c_q) = X := ⟨_, rfl⟩
                  have OA_ : Own W_10 w.heap.size 24 #[.int .u64 (L0 z0), .int .u64 (L1 z0), .int .u64 (L2 z0), .int .u64 (L3 z0)] := hW ▸ ((OA.apart (by omega) _ _).apart (by omega) _ _)
                  have OB_ : Own W_10 (w.heap.size + 1) 24 #[.int .u64 (L0 z1), .int .u64 (L1 z1), .int .u64 (L2 z1), .int .u64 (L3 z1)] := hW ▸ ((OB.apart (by omega) _ _).apart (by omega) _ _)
                  have U5_ : Own W_10 w1.heap.size 24 #[.int .u64 (L0 q), .int .u64 (L1 q), .int .u64 (L2 q), .int .u64 (L3 q)] := hW ▸ ((U5.apart (by omega) _ _).apart (by omega) _ _)
                  have U6_ : Own W_10 (w1.heap.size + 1) 24 #[.int .u64 (L0 r), .int .u64 (L1 r), .int .u64 (L2 r), .int .u64 (L3 r)] := hW ▸ ((U6.apart (by omega) _ _).apart (by omega) _ _)
                  have O9_ : Own W_10 W_2.heap.size 27 #[.bool false, .slice none 0 0] := hW ▸ ((O9.apart (by omega) _ _).apart (by omega) _ _)
                  have O8_ : Own W_10 W_4.heap.size 27 #[.bool s_q, .slice a_q l_q c_q] := hW ▸ (((O8.put 0 _).put 1 _).as rfl)
                  have NQ_ := hW ▸ (NQ.put (p := W_4.heap.size) (i := 0) (by omega) (.bool s_q)).put (p := W_4.heap.size) (i := 1) (by omega) (.slice a_q l_q c_q)
                  have NR_ := hW ▸ (NR.put (p := W_4.heap.size) (i := 0) (by omega) (.bool s_q)).put (p := W_4.heap.size) (i := 1) (by omega) (.slice a_q l_q c_q)
                  have hB_ : Below w.heap.size w W_10 := hW ▸ ((hB.setCell (by show w.heap.size ≤ W_4.heap.size; omega) _).setCell (by show w.heap.size ≤ W_4.heap.size; omega) _)
                  rw [hW]
                  clear hW
                  clear OA OB U5 U6 O9 O8 NQ NR hB
                  have OA := OA_
                  have OB := OB_
                  have U5 := U5_
                  have U6 := U6_
                  have O9 := O9_
                  have O8 := O8_
                  have NQ := NQ_
                  have NR := NR_
                  have hB := hB_
                  clear OA_ OB_ U5_ U6_ O9_ O8_ NQ_ NR_ hB_
                  refine tree_one (i := 11) (by kernel_rfl) rfl ?_
                  · refine ⟨_, rfl, fun K hK => ?_⟩
                    have hfr := O9.at_
                    obtain ⟨P1, P2, P3⟩ := hfr
                    go_wp2
                    clear P1 P2 P3
                    refine hK _ _ ⟨(OA.apart (by omega) _ _).apart (by omega) _ _, (OB.apart (by omega) _ _).apart (by omega) _ _, (U5.apart (by omega) _ _).apart (by omega) _ _, (U6.apart (by omega) _ _).apart (by omega) _ _⟩ ?_
                    clear hK K
                    obtain ⟨W_11, hW⟩ : ∃ X, (W_10.setCell ⟨W_2.heap.size, 0, none⟩ (.bool s_r)).setCell ⟨W_2.heap.size, 1, none⟩ (.slice a_r l_r c_r) = X := ⟨_, rfl⟩
                    have OA_ : Own W_11 w.heap.size 24 #[.int .u64 (L0 z0), .int .u64 (L1 z0), .int .u64 (L2 z0), .int .u64 (L3 z0)] := hW ▸ ((OA.apart (by omega) _ _).apart (by omega) _ _)
                    have OB_ : Own W_11 (w.heap.size + 1) 24 #[.int .u64 (L0 z1), .int .u64 (L1 z1), .int .u64 (L2 z1), .int .u64 (L3 z1)] := hW ▸ ((OB.apart (by omega) _ _).apart (by omega) _ _)
                    have U5_ : Own W_11 w1.heap.size 24 #[.int .u64 (L0 q), .int .u64 (L1 q), .int .u64 (L2 q), .int .u64 (L3 q)] := hW ▸ ((U5.apart (by omega) _ _).apart (by omega) _ _)
                    have U6_ : Own W_11 (w1.heap.size + 1) 24 #[.int .u64 (L0 r), .int .u64 (L1 r), .int .u64 (L2 r), .int .u64 (L3 r)] := hW ▸ ((U6.apart (by omega) _ _).apart (by omega) _ _)
                    have O9_ : Own W_11 W_2.heap.size 27 #[.bool s_r, .slice a_r l_r c_r] := hW ▸ (((O9.put 0 _).put 1 _).as rfl)
                    have O8_ : Own W_11 W_4.heap.size 27 #[.bool s_q, .slice a_q l_q c_q] := hW ▸ ((O8.apart (by omega) _ _).apart (by omega) _ _)
                    have NQ_ := hW ▸ (NQ.put (p := W_2.heap.size) (i := 0) (by omega) (.bool s_r)).put (p := W_2.heap.size) (i := 1) (by omega) (.slice a_r l_r c_r)
                    have NR_ := hW ▸ (NR.put (p := W_2.heap.size) (i := 0) (by omega) (.bool s_r)).put (p := W_2.heap.size) (i := 1) (by omega) (.slice a_r l_r c_r)
                    have hB_ : Below w.heap.size w W_11 := hW ▸ ((hB.setCell (by show w.heap.size ≤ W_2.heap.size; omega) _).setCell (by show w.heap.size ≤ W_2.heap.size; omega) _)
                    rw [hW]
                    clear hW
                    clear OA OB U5 U6 O9 O8 NQ NR hB
                    have OA := OA_
                    have OB := OB_
                    have U5 := U5_
                    have U6 := U6_
                    have O9 := O9_
                    have O8 := O8_
                    have NQ := NQ_
                    have NR := NR_
                    have hB := hB_
                    clear OA_ OB_ U5_ U6_ O9_ O8_ NQ_ NR_ hB_
                    refine tree_end (by kernel_rfl) ?_
                    go_wp2_with fail
                    go_meet
                    exact ⟨W_4.heap.size, W_2.heap.size, s_q, a_q, l_q, c_q, s_r, a_r, l_r, c_r, rfl, rfl, O8, O9, NQ.mono (fun _ _ _ => trivial), NR.mono (fun _ _ _ => trivial), U5, U6, hB⟩
          · refine ⟨_, rfl, fun K hK => ?_⟩
            go_wp2
            refine hK _ _ ⟨OA.more _, OB.more _, U5.more _, U6.more _⟩ ?_
            clear hK K
            obtain ⟨W_4, hW⟩ : ∃ X, W_3.alloc (.cells #[.bool false, .slice none 0 0] 27) = X := ⟨_, rfl⟩
            have hb_4 : Below W_3.heap.size W_3 W_4 := hW ▸ (Below.refl _ _).alloc (Nat.le_refl _) _
            have O8_ : Own W_4 W_3.heap.size 27 #[.bool false, .slice none 0 0] := hW ▸ Own.made _ _ _
            have sz_4 := O8_.in_
            rw [hW]
            clear hW
            replace OA := OA.keep hb_4
            replace OB := OB.keep hb_4
            replace U5 := U5.keep hb_4
            replace U6 := U6.keep hb_4
            replace O9 := O9.keep hb_4
            replace NX := NX.keep hb_4
            replace hB := then_ hB hb_4 hB.size
            clear hb_4
            have O8 := O8_
            clear O8_
            refine tree_one (i := 3) (by kernel_rfl) rfl ?_
            · refine ⟨_, rfl, fun K hK => ?_⟩
              go_wp2_with (go_at_call 10; refine (F1.out 0 W_4 (Nat.zero_le _)).mono ?_; rintro e W_5 ⟨v_, rfl, hn, hb_5⟩)
              have sz_5 := hb_5.size
              obtain ⟨s_y, a_y, l_y, c_y, rfl⟩ := hn.shape
              have NY := NumP.of hn (S := fun b => W_4.heap.size ≤ b ∧ b < W_5.heap.size) (fun b h1 h2 => ⟨by omega, h1⟩)
              clear hn
              replace OA := OA.keep hb_5
              replace OB := OB.keep hb_5
              replace U5 := U5.keep hb_5
              replace U6 := U6.keep hb_5
              replace O9 := O9.keep hb_5
              replace O8 := O8.keep hb_5
              replace NX := NX.keep hb_5
              replace hB := then_ hB hb_5 hB.size
              refine hK _ _ ⟨OA, OB, U5, U6⟩ ?_
              clear hK K hb_5
              refine tree_one (i := 4) (by kernel_rfl) rfl ?_
              · refine ⟨_, rfl, fun K hK => ?_⟩
                go_wp2_with (go_at_call 21; refine (div_num _ 0 0 _ _ z0 z1 W_5 NX (NY.num (T := 0) (C := 0) (fun b _ _ => .inr (Nat.zero_le _))) HZ.out L0_.out L1_.out).mono ?_; rintro e W_6 ⟨v_, v__, rfl, hq, hr, hb_6⟩)
                have sz_6 := hb_6.size
                obtain ⟨s_q, a_q, l_q, c_q, rfl⟩ := hq.shape
                obtain ⟨s_r, a_r, l_r, c_r, rfl⟩ := hr.shape
                have NQ := hq.mono (S' := fun b => W_5.heap.size ≤ b ∧ b < W_6.heap.size) (fun b h1 h2 => ⟨h2, h1⟩)
                have NR := hr.mono (S' := fun b => (((W_s.heap.size ≤ b ∧ b < W_2.heap.size) ∧ b < W_5.heap.size) ∨ W_5.heap.size ≤ b) ∧ b < W_6.heap.size) (fun b h1 h2 => ⟨h2, h1⟩)
                clear hq hr NX NY
                replace OA := OA.keep hb_6
                replace OB := OB.keep hb_6
                replace U5 := U5.keep hb_6
                replace U6 := U6.keep hb_6
                replace O9 := O9.keep hb_6
                replace O8 := O8.keep hb_6
                replace hB := then_ hB hb_6 hB.size
                refine hK _ _ ⟨OA, OB, U5, U6⟩ ?_
                clear hK K hb_6
                refine tree_pure (i := 5) (v := ?_) rfl rfl (by kernel_rfl) (by kernel_rfl) (by kernel_rfl) rfl (fun W hS => ?_) ⟨OA, OB, U5, U6⟩ ?_
                rotate_left
                · conv => lhs; simp [go_sem]
                  first | done | exact rfl
                simp only [Act.put, List.setIfInBounds_toArray, List.set_cons_zero, List.set_cons_succ]
                refine tree_pure (i := 6) (v := ?_) rfl rfl (by kernel_rfl) (by kernel_rfl) (by kernel_rfl) rfl (fun W hS => ?_) ⟨OA, OB, U5, U6⟩ ?_
                rotate_left
                · conv => lhs; simp [go_sem]
                  first | done | exact rfl
                simp only [Act.put, List.setIfInBounds_toArray, List.set_cons_zero, List.set_cons_succ]
                refine tree_pure (i := 7) (v := ?_) rfl rfl (by kernel_rfl) (by kernel_rfl) (by kernel_rfl) rfl (fun W hS => ?_) ⟨OA, OB, U5, U6⟩ ?_
                rotate_left
                · conv => lhs; simp [go_sem]
                  first | done | exact rfl
                simp only [Act.put, List.setIfInBounds_toArray, List.set_cons_zero, List.set_cons_succ]
                refine tree_one (i := 10) (by kernel_rfl) rfl ?_
                · refine ⟨_, rfl, fun K hK => ?_⟩
                  have hfr := O8.at_
                  obtain ⟨P1, P2, P3⟩ := hfr
                  go_wp2
                  clear P1 P2 P3
                  refine hK _ _ ⟨(OA.apart (by omega) _ _).apart (by omega) _ _, (OB.apart (by omega) _ _).apart (by omega) _ _, (U5.apart (by omega) _ _).apart (by omega) _ _, (U6.apart (by omega) _ _).apart (by omega) _ _⟩ ?_
                  clear hK K
                  obtain ⟨W_10, hW⟩ : ∃ X, (W_6.setCell ⟨W_3.heap.size, 0, none⟩ (.bool s_q)).setCell ⟨W_3.heap.size, 1, none⟩ (.slice a_q l_q c_q) = X := ⟨_, rfl⟩
                  have OA_ : Own W_10 w.heap.size 24 #[.int .u64 (L0 z0), .int .u64 (L1 z0), .int .u64 (L2 z0), .int .u64 (L3 z0)] := hW ▸ ((OA.apart (by omega) _ _).apart (by omega) _ _)
                  have OB_ : Own W_10 (w.heap.size + 1) 24 #[.int .u64 (L0 z1), .int .u64 (L1 z1), .int .u64 (L2 z1), .int .u64 (L3 z1)] := hW ▸ ((OB.apart (by omega) _ _).apart (by omega) _ _)
                  have U5_ : Own W_10 w1.heap.size 24 #[.int .u64 (L0 q), .int .u64 (L1 q), .int .u64 (L2 q), .int .u64 (L3 q)] := hW ▸ ((U5.apart (by omega) _ _).apart (by omega) _ _)
                  have U6_ : Own W_10 (w1.heap.size + 1) 24 #[.int .u64 (L0 r), .int .u64 (L1 r), .int .u64 (L2 r), .int .u64 (L3 r)] := hW ▸ ((U6.apart (by omega) _ _).apart (by omega) _ _)
                  have O9_ : Own W_10 W_2.heap.size 27 #[.bool false, .slice none 0 0] := hW ▸ ((O9.apart (by omega) _ _).apart (by omega) _ _)
                  have O8_ : Own W_10 W_3.heap.size 27 #[.bool s_q, .slice a_q l_q c_q] := hW ▸ (((O8.put 0 _).put 1 _).as rfl)
                  have NQ_ := hW ▸ (NQ.put (p := W_3.heap.size) (i := 0) (by omega) (.bool s_q)).put (p := W_3.heap.size) (i := 1) (by omega) (.slice a_q l_q c_q)
                  have NR_ := hW ▸ (NR.put (p := W_3.heap.size) (i := 0) (by omega) (.bool s_q)).put (p := W_3.heap.size) (i := 1) (by omega) (.slice a_q l_q c_q)
                  have hB_ : Below w.heap.size w W_10 := hW ▸ ((hB.setCell (by show w.heap.size ≤ W_3.heap.size; omega) _).setCell (by show w.heap.size ≤ W_3.heap.size; omega) _)
                  rw [hW]
                  clear hW
                  clear OA OB U5 U6 O9 O8 NQ NR hB
                  have OA := OA_
                  have OB := OB_
                  have U5 := U5_
                  have U6 := U6_
                  have O9 := O9_
                  have O8 := O8_
                  have NQ := NQ_
                  have NR := NR_
                  have hB := hB_
                  clear OA_ OB_ U5_ U6_ O9_ O8_ NQ_ NR_ hB_
                  refine tree_one (i := 11) (by kernel_rfl) rfl ?_
                  · refine ⟨_, rfl, fun K hK => ?_⟩
                    have hfr := O9.at_
                    obtain ⟨P1, P2, P3⟩ := hfr
                    go_wp2
                    clear P1 P2 P3
                    refine hK _ _ ⟨(OA.apart (by omega) _ _).apart (by omega) _ _, (OB.apart (by omega) _ _).apart (by omega) _ _, (U5.apart (by omega) _ _).apart (by omega) _ _, (U6.apart (by omega) _ _).apart (by omega) _ _⟩ ?_
                    clear hK K
                    obtain ⟨W_11, hW⟩ : ∃ X, (W_10.setCell ⟨W_2.heap.size, 0, none⟩ (.bool s_r)).setCell ⟨W_2.heap.size, 1, none⟩ (.slice a_r l_r c_r) = X := ⟨_, rfl⟩
                    have OA_ : Own W_11 w.heap.size 24 #[.int .u64 (L0 z0), .int .u64 (L1 z0), .int .u64 (L2 z0), .int .u64 (L3 z0)] := hW ▸ ((OA.apart (by omega) _ _).apart (by omega) _ _)
                    have OB_ : Own W_11 (w.heap.size + 1) 24 #[.int .u64 (L0 z1), .int .u64 (L1 z1), .int .u64 (L2 z1), .int .u64 (L3 z1)] := hW ▸ ((OB.apart (by omega) _ _).apart (by omega) _ _)
                    have U5_ : Own W_11 w1.heap.size 24 #[.int .u64 (L0 q), .int .u64 (L1 q), .int .u64 (L2 q), .int .u64 (L3 q)] := hW ▸ ((U5.apart (by omega) _ _).apart (by omega) _ _)
                    have U6_ : Own W_11 (w1.heap.size + 1) 24 #[.int .u64 (L0 r), .int .u64 (L1 r), .int .u64 (L2 r), .int .u64 (L3 r)] := hW ▸ ((U6.apart (by omega) _ _).apart (by omega) _ _)
                    have O9_ : Own W_11 W_2.heap.size 27 #[.bool s_r, .slice a_r l_r c_r] := hW ▸ (((O9.put 0 _).put 1 _).as rfl)
                    have O8_ : Own W_11 W_3.heap.size 27 #[.bool s_q, .slice a_q l_q c_q] := hW ▸ ((O8.apart (by omega) _ _).apart (by omega) _ _)
                    have NQ_ := hW ▸ (NQ.put (p := W_2.heap.size) (i := 0) (by omega) (.bool s_r)).put (p := W_2.heap.size) (i := 1) (by omega) (.slice a_r l_r c_r)
                    have NR_ := hW ▸ (NR.put (p := W_2.heap.size) (i := 0) (by omega) (.bool s_r)).put (p := W_2.heap.size) (i := 1) (by omega) (.slice a_r l_r c_r)
                    have hB_ : Below w.heap.size w W_11 := hW ▸ ((hB.setCell (by show w.heap.size ≤ W_2.heap.size; omega) _).setCell (by show w.heap.size ≤ W_2.heap.size; omega) _)
                    rw [hW]
                    clear hW
                    clear OA OB U5 U6 O9 O8 NQ NR hB
                    have OA := OA_
                    have OB := OB_
                    have U5 := U5_
                    have U6 := U6_
                    have O9 := O9_
                    have O8 := O8_
                    have NQ := NQ_
                    have NR := NR_
                    have hB := hB_
                    clear OA_ OB_ U5_ U6_ O9_ O8_ NQ_ NR_ hB_
                    refine tree_end (by kernel_rfl) ?_
                    go_wp2_with fail
                    go_meet
                    exact ⟨W_3.heap.size, W_2.heap.size, s_q, a_q, l_q, c_q, s_r, a_r, l_r, c_r, rfl, rfl, O8, O9, NQ.mono (fun _ _ _ => trivial), NR.mono (fun _ _ _ => trivial), U5, U6, hB⟩
      · refine ⟨_, rfl, fun K hK => ?_⟩
        go_wp2
        refine hK _ _ ⟨OA.more _, OB.more _, U5.more _, U6.more _⟩ ?_
        clear hK K
        obtain ⟨W_2, hW⟩ : ∃ X, W_s.alloc (.cells #[.bool false, .slice none 0 0] 27) = X := ⟨_, rfl⟩
        have hb_2 : Below W_s.heap.size W_s W_2 := hW ▸ (Below.refl _ _).alloc (Nat.le_refl _) _
        have O8_ : Own W_2 W_s.heap.size 27 #[.bool false, .slice none 0 0] := hW ▸ Own.made _ _ _
        have sz_2 := O8_.in_
        rw [hW]
        clear hW
        replace OA := OA.keep hb_2
        replace OB := OB.keep hb_2
        replace U5 := U5.keep hb_2
        replace U6 := U6.keep hb_2
        replace hB := then_ hB hb_2 hB.size
        clear hb_2
        have O8 := O8_
        clear O8_
        refine tree_two (i := 1) (k := 9) (by kernel_rfl) rfl rfl ?_ ?_
        · refine ⟨_, rfl, fun K hK => ?_⟩
          go_wp2_with (go_at_call 10; refine (F0.out 0 W_2 (Nat.zero_le _)).mono ?_; rintro e W_3 ⟨v_, rfl, hn, hb_3⟩)
          have sz_3 := hb_3.size
          obtain ⟨s_x, a_x, l_x, c_x, rfl⟩ := hn.shape
          have NX := NumP.of hn (S := fun b => W_2.heap.size ≤ b ∧ b < W_3.heap.size) (fun b h1 h2 => ⟨by omega, h1⟩)
          clear hn
          replace OA := OA.keep hb_3
          replace OB := OB.keep hb_3
          replace U5 := U5.keep hb_3
          replace U6 := U6.keep hb_3
          replace O8 := O8.keep hb_3
          replace hB := then_ hB hb_3 hB.size
          refine hK _ _ ⟨OA, OB, U5, U6⟩ ?_
          clear hK K hb_3
          refine tree_two (i := 3) (k := 9) (by kernel_rfl) rfl rfl ?_ ?_
          · refine ⟨_, rfl, fun K hK => ?_⟩
            go_wp2_with (go_at_call 10; refine (F1.out 0 W_3 (Nat.zero_le _)).mono ?_; rintro e W_4 ⟨v_, rfl, hn, hb_4⟩)
            have sz_4 := hb_4.size
            obtain ⟨s_y, a_y, l_y, c_y, rfl⟩ := hn.shape
            have NY := NumP.of hn (S := fun b => W_3.heap.size ≤ b ∧ b < W_4.heap.size) (fun b h1 h2 => ⟨by omega, h1⟩)
            clear hn
            replace OA := OA.keep hb_4
            replace OB := OB.keep hb_4
            replace U5 := U5.keep hb_4
            replace U6 := U6.keep hb_4
            replace O8 := O8.keep hb_4
            replace NX := NX.keep hb_4
            replace hB := then_ hB hb_4 hB.size
            refine hK _ _ ⟨OA, OB, U5, U6⟩ ?_
            clear hK K hb_4
            refine tree_two (i := 4) (k := 9) (by kernel_rfl) rfl rfl ?_ ?_
            · refine ⟨_, rfl, fun K hK => ?_⟩
              go_wp2_with (go_at_call 21; refine (div_num _ 0 0 _ _ z0 z1 W_4 NX (NY.num (T := 0) (C := 0) (fun b _ _ => .inr (Nat.zero_le _))) HZ.out L0_.out L1_.out).mono ?_; rintro e W_5 ⟨v_, v__, rfl, hq, hr, hb_5⟩)
              have sz_5 := hb_5.size
              obtain ⟨s_q, a_q, l_q, c_q, rfl⟩ := hq.shape
              obtain ⟨s_r, a_r, l_r, c_r, rfl⟩ := hr.shape
              have NQ := hq.mono (S' := fun b => W_4.heap.size ≤ b ∧ b < W_5.heap.size) (fun b h1 h2 => ⟨h2, h1⟩)
              have NR := hr.mono (S' := fun b => (((W_2.heap.size ≤ b ∧ b < W_3.heap.size) ∧ b < W_4.heap.size) ∨ W_4.heap.size ≤ b) ∧ b < W_5.heap.size) (fun b h1 h2 => ⟨h2, h1⟩)
              clear hq hr NX NY
              replace OA := OA.keep hb_5
              replace OB := OB.keep hb_5
              replace U5 := U5.keep hb_5
              replace U6 := U6.keep hb_5
              replace O8 := O8.keep hb_5
              replace hB := then_ hB hb_5 hB.size
              refine hK _ _ ⟨OA, OB, U5, U6⟩ ?_
              clear hK K hb_5
              refine tree_pure (i := 5) (v := ?_) rfl rfl (by kernel_rfl) (by kernel_rfl) (by kernel_rfl) rfl (fun W hS => ?_) ⟨OA, OB, U5, U6⟩ ?_
              rotate_left
              · conv => lhs; simp [go_sem]
                first | done | exact rfl
              simp only [Act.put, List.setIfInBounds_toArray, List.set_cons_zero, List.set_cons_succ]
              refine tree_pure (i := 6) (v := ?_) rfl rfl (by kernel_rfl) (by kernel_rfl) (by kernel_rfl) rfl (fun W hS => ?_) ⟨OA, OB, U5, U6⟩ ?_
              rotate_left
              · conv => lhs; simp [go_sem]
                first | done | exact rfl
              simp only [Act.put, List.setIfInBounds_toArray, List.set_cons_zero, List.set_cons_succ]
              refine tree_pure (i := 7) (v := ?_) rfl rfl (by kernel_rfl) (by kernel_rfl) (by kernel_rfl) rfl (fun W hS => ?_) ⟨OA, OB, U5, U6⟩ ?_
              rotate_left
              · conv => lhs; simp [go_sem]
                first | done | exact rfl
              simp only [Act.put, List.setIfInBounds_toArray, List.set_cons_zero, List.set_cons_succ]
              refine tree_one (i := 9) (by kernel_rfl) rfl ?_
              · refine ⟨_, rfl, fun K hK => ?_⟩
                go_wp2
                refine hK _ _ ⟨OA.more _, OB.more _, U5.more _, U6.more _⟩ ?_
                clear hK K
                obtain ⟨W_9, hW⟩ : ∃ X, W_5.alloc (.cells #[.bool false, .slice none 0 0] 27) = X := ⟨_, rfl⟩
                have hb_9 : Below W_5.heap.size W_5 W_9 := hW ▸ (Below.refl _ _).alloc (Nat.le_refl _) _
                have O9_ : Own W_9 W_5.heap.size 27 #[.bool false, .slice none 0 0] := hW ▸ Own.made _ _ _
                have sz_9 := O9_.in_
                rw [hW]
                clear hW
                replace OA := OA.keep hb_9
                replace OB := OB.keep hb_9
                replace U5 := U5.keep hb_9
                replace U6 := U6.keep hb_9
                replace O8 := O8.keep hb_9
                replace NQ := NQ.keep hb_9
                replace NR := NR.keep hb_9
                replace hB := then_ hB hb_9 hB.size
                clear hb_9
                have O9 := O9_
                clear O9_
                refine tree_one (i := 10) (by kernel_rfl) rfl ?_
                · refine ⟨_, rfl, fun K hK => ?_⟩
                  have hfr := O8.at_
                  obtain ⟨P1, P2, P3⟩ := hfr
                  go_wp2
                  clear P1 P2 P3
                  refine hK _ _ ⟨(OA.apart (by omega) _ _).apart (by omega) _ _, (OB.apart (by omega) _ _).apart (by omega) _ _, (U5.apart (by omega) _ _).apart (by omega) _ _, (U6.apart (by omega) _ _).apart (by omega) _ _⟩ ?_
                  clear hK K
                  obtain ⟨W_10, hW⟩ : ∃ X, (W_9.setCell ⟨W_s.heap.size, 0, none⟩ (.bool s_q)).setCell ⟨W_s.heap.size, 1, none⟩ (.slice a_q l_q c_q) = X := ⟨_, rfl⟩
                  have OA_ : Own W_10 w.heap.size 24 #[.int .u64 (L0 z0), .int .u64 (L1 z0), .int .u64 (L2 z0), .int .u64 (L3 z0)] := hW ▸ ((OA.apart (by omega) _ _).apart (by omega) _ _)
                  have OB_ : Own W_10 (w.heap.size + 1) 24 #[.int .u64 (L0 z1), .int .u64 (L1 z1), .int .u64 (L2 z1), .int .u64 (L3 z1)] := hW ▸ ((OB.apart (by omega) _ _).apart (by omega) _ _)
                  have U5_ : Own W_10 w1.heap.size 24 #[.int .u64 (L0 q), .int .u64 (L1 q), .int .u64 (L2 q), .int .u64 (L3 q)] := hW ▸ ((U5.apart (by omega) _ _).apart (by omega) _ _)
                  have U6_ : Own W_10 (w1.heap.size + 1) 24 #[.int .u64 (L0 r), .int .u64 (L1 r), .int .u64 (L2 r), .int .u64 (L3 r)] := hW ▸ ((U6.apart (by omega) _ _).apart (by omega) _ _)
                  have O8_ : Own W_10 W_s.heap.size 27 #[.bool s_q, .slice a_q l_q c_q] := hW ▸ (((O8.put 0 _).put 1 _).as rfl)
                  have O9_ : Own W_10 W_5.heap.size 27 #[.bool false, .slice none 0 0] := hW ▸ ((O9.apart (by omega) _ _).apart (by omega) _ _)
                  have NQ_ := hW ▸ (NQ.put (p := W_s.heap.size) (i := 0) (by omega) (.bool s_q)).put (p := W_s.heap.size) (i := 1) (by omega) (.slice a_q l_q c_q)
                  have NR_ := hW ▸ (NR.put (p := W_s.heap.size) (i := 0) (by omega) (.bool s_q)).put (p := W_s.heap.size) (i := 1) (by omega) (.slice a_q l_q c_q)
                  have hB_ : Below w.heap.size w W_10 := hW ▸ ((hB.setCell (by show w.heap.size ≤ W_s.heap.size; omega) _).setCell (by show w.heap.size ≤ W_s.heap.size; omega) _)
                  rw [hW]
                  clear hW
                  clear OA OB U5 U6 O8 O9 NQ NR hB
                  have OA := OA_
                  have OB := OB_
                  have U5 := U5_
                  have U6 := U6_
                  have O8 := O8_
                  have O9 := O9_
                  have NQ := NQ_
                  have NR := NR_
                  have hB := hB_
                  clear OA_ OB_ U5_ U6_ O8_ O9_ NQ_ NR_ hB_
                  refine tree_one (i := 11) (by kernel_rfl) rfl ?_
                  · refine ⟨_, rfl, fun K hK => ?_⟩
                    have hfr := O9.at_
                    obtain ⟨P1, P2, P3⟩ := hfr
                    go_wp2
                    clear P1 P2 P3
                    refine hK _ _ ⟨(OA.apart (by omega) _ _).apart (by omega) _ _, (OB.apart (by omega) _ _).apart (by omega) _ _, (U5.apart (by omega) _ _).apart (by omega) _ _, (U6.apart (by omega) _ _).apart (by omega) _ _⟩ ?_
                    clear hK K
                    obtain ⟨W_11, hW⟩ : ∃ X, (W_10.setCell ⟨W_5.heap.size, 0, none⟩ (.bool s_r)).setCell ⟨W_5.heap.size, 1, none⟩ (.slice a_r l_r c_r) = X := ⟨_, rfl⟩
                    have OA_ : Own W_11 w.heap.size 24 #[.int .u64 (L0 z0), .int .u64 (L1 z0), .int .u64 (L2 z0), .int .u64 (L3 z0)] := hW ▸ ((OA.apart (by omega) _ _).apart (by omega) _ _)
                    have OB_ : Own W_11 (w.heap.size + 1) 24 #[.int .u64 (L0 z1), .int .u64 (L1 z1), .int .u64 (L2 z1), .int .u64 (L3 z1)] := hW ▸ ((OB.apart (by omega) _ _).apart (by omega) _ _)
                    have U5_ : Own W_11 w1.heap.size 24 #[.int .u64 (L0 q), .int .u64 (L1 q), .int .u64 (L2 q), .int .u64 (L3 q)] := hW ▸ ((U5.apart (by omega) _ _).apart (by omega) _ _)
                    have U6_ : Own W_11 (w1.heap.size + 1) 24 #[.int .u64 (L0 r), .int .u64 (L1 r), .int .u64 (L2 r), .int .u64 (L3 r)] := hW ▸ ((U6.apart (by omega) _ _).apart (by omega) _ _)
                    have O8_ : Own W_11 W_s.heap.size 27 #[.bool s_q, .slice a_q l_q c_q] := hW ▸ ((O8.apart (by omega) _ _).apart (by omega) _ _)
                    have O9_ : Own W_11 W_5.heap.size 27 #[.bool s_r, .slice a_r l_r c_r] := hW ▸ (((O9.put 0 _).put 1 _).as rfl)
                    have NQ_ := hW ▸ (NQ.put (p := W_5.heap.size) (i := 0) (by omega) (.bool s_r)).put (p := W_5.heap.size) (i := 1) (by omega) (.slice a_r l_r c_r)
                    have NR_ := hW ▸ (NR.put (p := W_5.heap.size) (i := 0) (by omega) (.bool s_r)).put (p := W_5.heap.size) (i := 1) (by omega) (.slice a_r l_r c_r)
                    have hB_ : Below w.heap.size w W_11 := hW ▸ ((hB.setCell (by show w.heap.size ≤ W_5.heap.size; omega) _).setCell (by show w.heap.size ≤ W_5.heap.size; omega) _)
                    rw [hW]
                    clear hW
                    clear OA OB U5 U6 O8 O9 NQ NR hB
                    have OA := OA_
                    have OB := OB_
                    have U5 := U5_
                    have U6 := U6_
                    have O8 := O8_
                    have O9 := O9_
                    have NQ := NQ_
                    have NR := NR_
                    have hB := hB_
                    clear OA_ OB_ U5_ U6_ O8_ O9_ NQ_ NR_ hB_
                    refine tree_end (by kernel_rfl) ?_
                    go_wp2_with fail
                    go_meet
                    exact ⟨W_s.heap.size, W_5.heap.size, s_q, a_q, l_q, c_q, s_r, a_r, l_r, c_r, rfl, rfl, O8, O9, NQ.mono (fun _ _ _ => trivial), NR.mono (fun _ _ _ => trivial), U5, U6, hB⟩
            · refine ⟨_, rfl, fun K hK => ?_⟩
              go_wp2
              refine hK _ _ ⟨OA.more _, OB.more _, U5.more _, U6.more _⟩ ?_
              clear hK K
              obtain ⟨W_5, hW⟩ : ∃ X, W_4.alloc (.cells #[.bool false, .slice none 0 0] 27) = X := ⟨_, rfl⟩
              have hb_5 : Below W_4.heap.size W_4 W_5 := hW ▸ (Below.refl _ _).alloc (Nat.le_refl _) _
              have O9_ : Own W_5 W_4.heap.size 27 #[.bool false, .slice none 0 0] := hW ▸ Own.made _ _ _
              have sz_5 := O9_.in_
              rw [hW]
              clear hW
              replace OA := OA.keep hb_5
              replace OB := OB.keep hb_5
              replace U5 := U5.keep hb_5
              replace U6 := U6.keep hb_5
              replace O8 := O8.keep hb_5
              replace NX := NX.keep hb_5
              replace NY := NY.keep hb_5
              replace hB := then_ hB hb_5 hB.size
              clear hb_5
              have O9 := O9_
              clear O9_
              refine tree_one (i := 4) (by kernel_rfl) rfl ?_
              · refine ⟨_, rfl, fun K hK => ?_⟩
                go_wp2_with (go_at_call 21; refine (div_num _ 0 0 _ _ z0 z1 W_5 NX (NY.num (T := 0) (C := 0) (fun b _ _ => .inr (Nat.zero_le _))) HZ.out L0_.out L1_.out).mono ?_; rintro e W_6 ⟨v_, v__, rfl, hq, hr, hb_6⟩)
                have sz_6 := hb_6.size
                obtain ⟨s_q, a_q, l_q, c_q, rfl⟩ := hq.shape
                obtain ⟨s_r, a_r, l_r, c_r, rfl⟩ := hr.shape
                have NQ := hq.mono (S' := fun b => W_5.heap.size ≤ b ∧ b < W_6.heap.size) (fun b h1 h2 => ⟨h2, h1⟩)
                have NR := hr.mono (S' := fun b => (((W_2.heap.size ≤ b ∧ b < W_3.heap.size) ∧ b < W_5.heap.size) ∨ W_5.heap.size ≤ b) ∧ b < W_6.heap.size) (fun b h1 h2 => ⟨h2, h1⟩)
                clear hq hr NX NY
                replace OA := OA.keep hb_6
                replace OB := OB.keep hb_6
                replace U5 := U5.keep hb_6
                replace U6 := U6.keep hb_6
                replace O8 := O8.keep hb_6
                replace O9 := O9.keep hb_6
                replace hB := then_ hB hb_6 hB.size
                refine hK _ _ ⟨OA, OB, U5, U6⟩ ?_
                clear hK K hb_6
                refine tree_pure (i := 5) (v := ?_) rfl rfl (by kernel_rfl) (by kernel_rfl) (by kernel_rfl) rfl (fun W hS => ?_) ⟨OA, OB, U5, U6⟩ ?_
                rotate_left
                · conv => lhs; simp [go_sem]
                  first | done | exact rfl
                simp only [Act.put, List.setIfInBounds_toArray, List.set_cons_zero, List.set_cons_succ]
                refine tree_pure (i := 6) (v := ?_) rfl rfl (by kernel_rfl) (by kernel_rfl) (by kernel_rfl) rfl (fun W hS => ?_) ⟨OA, OB, U5, U6⟩ ?_
                rotate_left
                · conv => lhs; simp [go_sem]
                  first | done | exact rfl
                simp only [Act.put, List.setIfInBounds_toArray, List.set_cons_zero, List.set_cons_succ]
                refine tree_pure (i := 7) (v := ?_) rfl rfl (by kernel_rfl) (by kernel_rfl) (by kernel_rfl) rfl (fun W hS => ?_) ⟨OA, OB, U5, U6⟩ ?_
                rotate_left
                · conv => lhs; simp [go_sem]
                  first | done | exact rfl
                simp only [Act.put, List.setIfInBounds_toArray, List.set_cons_zero, List.set_cons_succ]
                refine tree_one (i := 10) (by kernel_rfl) rfl ?_
                · refine ⟨_, rfl, fun K hK => ?_⟩
                  have hfr := O8.at_
                  obtain ⟨P1, P2, P3⟩ := hfr
                  go_wp2
                  clear P1 P2 P3
                  refine hK _ _ ⟨(OA.apart (by omega) _ _).apart (by omega) _ _, (OB.apart (by omega) _ _).apart (by omega) _ _, (U5.apart (by omega) _ _).apart (by omega) _ _, (U6.apart (by omega) _ _).apart (by omega) _ _⟩ ?_
                  clear hK K
                  obtain ⟨W_10, hW⟩ : ∃ X, (W_6.setCell ⟨W_s.heap.size, 0, none⟩ (.bool s_q)).setCell ⟨W_s.heap.size, 1, none⟩ (.slice a_q l_q c_q) = X := ⟨_, rfl⟩
                  have OA_ : Own W_10 w.heap.size 24 #[.int .u64 (L0 z0), .int .u64 (L1 z0), .int .u64 (L2 z0), .int .u64 (L3 z0)] := hW ▸ ((OA.apart (by omega) _ _).apart (by omega) _ _)
                  have OB_ : Own W_10 (w.heap.size + 1) 24 #[.int .u64 (L0 z1), .int .u64 (L1 z1), .int .u64 (L2 z1), .int .u64 (L3 z1)] := hW ▸ ((OB.apart (by omega) _ _).apart (by omega) _ _)
                  have U5_ : Own W_10 w1.heap.size 24 #[.int .u64 (L0 q), .int .u64 (L1 q), .int .u64 (L2 q), .int .u64 (L3 q)] := hW ▸ ((U5.apart (by omega) _ _).apart (by omega) _ _)
                  have U6_ : Own W_10 (w1.heap.size + 1) 24 #[.int .u64 (L0 r), .int .u64 (L1 r), .int .u64 (L2 r), .int .u64 (L3 r)] := hW ▸ ((U6.apart (by omega) _ _).apart (by omega) _ _)
                  have O8_ : Own W_10 W_s.heap.size 27 #[.bool s_q, .slice a_q l_q c_q] := hW ▸ (((O8.put 0 _).put 1 _).as rfl)
                  have O9_ : Own W_10 W_4.heap.size 27 #[.bool false, .slice none 0 0] := hW ▸ ((O9.apart (by omega) _ _).apart (by omega) _ _)
                  have NQ_ := hW ▸ (NQ.put (p := W_s.heap.size) (i := 0) (by omega) (.bool s_q)).put (p := W_s.heap.size) (i := 1) (by omega) (.slice a_q l_q c_q)
                  have NR_ := hW ▸ (NR.put (p := W_s.heap.size) (i := 0) (by omega) (.bool s_q)).put (p := W_s.heap.size) (i := 1) (by omega) (.slice a_q l_q c_q)
                  have hB_ : Below w.heap.size w W_10 := hW ▸ ((hB.setCell (by show w.heap.size ≤ W_s.heap.size; omega) _).setCell (by show w.heap.size ≤ W_s.heap.size; omega) _)
                  rw [hW]
                  clear hW
                  clear OA OB U5 U6 O8 O9 NQ NR hB
                  have OA := OA_
                  have OB := OB_
                  have U5 := U5_
                  have U6 := U6_
                  have O8 := O8_
                  have O9 := O9_
                  have NQ := NQ_
                  have NR := NR_
                  have hB := hB_
                  clear OA_ OB_ U5_ U6_ O8_ O9_ NQ_ NR_ hB_
                  refine tree_one (i := 11) (by kernel_rfl) rfl ?_
                  · refine ⟨_, rfl, fun K hK => ?_⟩
                    have hfr := O9.at_
                    obtain ⟨P1, P2, P3⟩ := hfr
                    go_wp2
                    clear P1 P2 P3
                    refine hK _ _ ⟨(OA.apart (by omega) _ _).apart (by omega) _ _, (OB.apart (by omega) _ _).apart (by omega) _ _, (U5.apart (by omega) _ _).apart (by omega) _ _, (U6.apart (by omega) _ _).apart (by omega) _ _⟩ ?_
                    clear hK K
                    obtain ⟨W_11, hW⟩ : ∃ X, (W_10.setCell ⟨W_4.heap.size, 0, none⟩ (.bool s_r)).setCell ⟨W_4.heap.size, 1, none⟩ (.slice a_r l_r c_r) = X := ⟨_, rfl⟩
                    have OA_ : Own W_11 w.heap.size 24 #[.int .u64 (L0 z0), .int .u64 (L1 z0), .int .u64 (L2 z0), .int .u64 (L3 z0)] := hW ▸ ((OA.apart (by omega) _ _).apart (by omega) _ _)
                    have OB_ : Own W_11 (w.heap.size + 1) 24 #[.int .u64 (L0 z1), .int .u64 (L1 z1), .int .u64 (L2 z1), .int .u64 (L3 z1)] := hW ▸ ((OB.apart (by omega) _ _).apart (by omega) _ _)
                    have U5_ : Own W_11 w1.heap.size 24 #[.int .u64 (L0 q), .int .u64 (L1 q), .int .u64 (L2 q), .int .u64 (L3 q)] := hW ▸ ((U5.apart (by omega) _ _).apart (by omega) _ _)
                    have U6_ : Own W_11 (w1.heap.size + 1) 24 #[.int .u64 (L0 r), .int .u64 (L1 r), .int .u64 (L2 r), .int .u64 (L3 r)] := hW ▸ ((U6.apart (by omega) _ _).apart (by omega) _ _)
                    have O8_ : Own W_11 W_s.heap.size 27 #[.bool s_q, .slice a_q l_q c_q] := hW ▸ ((O8.apart (by omega) _ _).apart (by omega) _ _)
                    have O9_ : Own W_11 W_4.heap.size 27 #[.bool s_r, .slice a_r l_r c_r] := hW ▸ (((O9.put 0 _).put 1 _).as rfl)
                    have NQ_ := hW ▸ (NQ.put (p := W_4.heap.size) (i := 0) (by omega) (.bool s_r)).put (p := W_4.heap.size) (i := 1) (by omega) (.slice a_r l_r c_r)
                    have NR_ := hW ▸ (NR.put (p := W_4.heap.size) (i := 0) (by omega) (.bool s_r)).put (p := W_4.heap.size) (i := 1) (by omega) (.slice a_r l_r c_r)
                    have hB_ : Below w.heap.size w W_11 := hW ▸ ((hB.setCell (by show w.heap.size ≤ W_4.heap.size; omega) _).setCell (by show w.heap.size ≤ W_4.heap.size; omega) _)
                    rw [hW]
                    clear hW
                    clear OA OB U5 U6 O8 O9 NQ NR hB
                    have OA := OA_
                    have OB := OB_
                    have U5 := U5_
                    have U6 := U6_
                    have O8 := O8_
                    have O9 := O9_
                    have NQ := NQ_
                    have NR := NR_
                    have hB := hB_
                    clear OA_ OB_ U5_ U6_ O8_ O9_ NQ_ NR_ hB_
                    refine tree_end (by kernel_rfl) ?_
                    go_wp2_with fail
                    go_meet
                    exact ⟨W_s.heap.size, W_4.heap.size, s_q, a_q, l_q, c_q, s_r, a_r, l_r, c_r, rfl, rfl, O8, O9, NQ.mono (fun _ _ _ => trivial), NR.mono (fun _ _ _ => trivial), U5, U6, hB⟩
          · refine ⟨_, rfl, fun K hK => ?_⟩
            go_wp2
            refine hK _ _ ⟨OA.more _, OB.more _, U5.more _, U6.more _⟩ ?_
            clear hK K
            obtain ⟨W_4, hW⟩ : ∃ X, W_3.alloc (.cells #[.bool false, .slice none 0 0] 27) = X := ⟨_, rfl⟩
            have hb_4 : Below W_3.heap.size W_3 W_4 := hW ▸ (Below.refl _ _).alloc (Nat.le_refl _) _
            have O9_ : Own W_4 W_3.heap.size 27 #[.bool false, .slice none 0 0] := hW ▸ Own.made _ _ _
            have sz_4 := O9_.in_
            rw [hW]
            clear hW
            replace OA := OA.keep hb_4
            replace OB := OB.keep hb_4
            replace U5 := U5.keep hb_4
            replace U6 := U6.keep hb_4
            replace O8 := O8.keep hb_4
            replace NX := NX.keep hb_4
            replace hB := then_ hB hb_4 hB.size
            clear hb_4
            have O9 := O9_
            clear O9_
            refine tree_one (i := 3) (by kernel_rfl) rfl ?_
            · refine ⟨_, rfl, fun K hK => ?_⟩
              go_wp2_with (go_at_call 10; refine (F1.out 0 W_4 (Nat.zero_le _)).mono ?_; rintro e W_5 ⟨v_, rfl, hn, hb_5⟩)
              have sz_5 := hb_5.size
              obtain ⟨s_y, a_y, l_y, c_y, rfl⟩ := hn.shape
              have NY := NumP.of hn (S := fun b => W_4.heap.size ≤ b ∧ b < W_5.heap.size) (fun b h1 h2 => ⟨by omega, h1⟩)
              clear hn
              replace OA := OA.keep hb_5
              replace OB := OB.keep hb_5
              replace U5 := U5.keep hb_5
              replace U6 := U6.keep hb_5
              replace O8 := O8.keep hb_5
              replace O9 := O9.keep hb_5
              replace NX := NX.keep hb_5
              replace hB := then_ hB hb_5 hB.size
              refine hK _ _ ⟨OA, OB, U5, U6⟩ ?_
              clear hK K hb_5
              refine tree_one (i := 4) (by kernel_rfl) rfl ?_
              · refine ⟨_, rfl, fun K hK => ?_⟩
                go_wp2_with (go_at_call 21; refine (div_num _ 0 0 _ _ z0 z1 W_5 NX (NY.num (T := 0) (C := 0) (fun b _ _ => .inr (Nat.zero_le _))) HZ.out L0_.out L1_.out).mono ?_; rintro e W_6 ⟨v_, v__, rfl, hq, hr, hb_6⟩)
                have sz_6 := hb_6.size
                obtain ⟨s_q, a_q, l_q, c_q, rfl⟩ := hq.shape
                obtain ⟨s_r, a_r, l_r, c_r, rfl⟩ := hr.shape
                have NQ := hq.mono (S' := fun b => W_5.heap.size ≤ b ∧ b < W_6.heap.size) (fun b h1 h2 => ⟨h2, h1⟩)
                have NR := hr.mono (S' := fun b => (((W_2.heap.size ≤ b ∧ b < W_3.heap.size) ∧ b < W_5.heap.size) ∨ W_5.heap.size ≤ b) ∧ b < W_6.heap.size) (fun b h1 h2 => ⟨h2, h1⟩)
                clear hq hr NX NY
                replace OA := OA.keep hb_6
                replace OB := OB.keep hb_6
                replace U5 := U5.keep hb_6
                replace U6 := U6.keep hb_6
                replace O8 := O8.keep hb_6
                replace O9 := O9.keep hb_6
                replace hB := then_ hB hb_6 hB.size
                refine hK _ _ ⟨OA, OB, U5, U6⟩ ?_
                clear hK K hb_6
                refine tree_pure (i := 5) (v := ?_) rfl rfl (by kernel_rfl) (by kernel_rfl) (by kernel_rfl) rfl (fun W hS => ?_) ⟨OA, OB, U5, U6⟩ ?_
                rotate_left
                · conv => lhs; simp [go_sem]
                  first | done | exact rfl
                simp only [Act.put, List.setIfInBounds_toArray, List.set_cons_zero, List.set_cons_succ]
                refine tree_pure (i := 6) (v := ?_) rfl rfl (by kernel_rfl) (by kernel_rfl) (by kernel_rfl) rfl (fun W hS => ?_) ⟨OA, OB, U5, U6⟩ ?_
                rotate_left
                · conv => lhs; simp [go_sem]
                  first | done | exact rfl
                simp only [Act.put, List.setIfInBounds_toArray, List.set_cons_zero, List.set_cons_succ]
                refine tree_pure (i := 7) (v := ?_) rfl rfl (by kernel_rfl) (by kernel_rfl) (by kernel_rfl) rfl (fun W hS => ?_) ⟨OA, OB, U5, U6⟩ ?_
                rotate_left
                · conv => lhs; simp [go_sem]
                  first | done | exact rfl
                simp only [Act.put, List.setIfInBounds_toArray, List.set_cons_zero, List.set_cons_succ]
                refine tree_one (i := 10) (by kernel_rfl) rfl ?_
                · refine ⟨_, rfl, fun K hK => ?_⟩
                  have hfr := O8.at_
                  obtain ⟨P1, P2, P3⟩ := hfr
                  go_wp2
                  clear P1 P2 P3
                  refine hK _ _ ⟨(OA.apart (by omega) _ _).apart (by omega) _ _, (OB.apart (by omega) _ _).apart (by omega) _ _, (U5.apart (by omega) _ _).apart (by omega) _ _, (U6.apart (by omega) _ _).apart (by omega) _ _⟩ ?_
                  clear hK K
                  obtain ⟨W_10, hW⟩ : ∃ X, (W_6.setCell ⟨W_s.heap.size, 0, none⟩ (.bool s_q)).setCell ⟨W_s.heap.size, 1, none⟩ (.slice a_q l_q c_q) = X := ⟨_, rfl⟩
                  have OA_ : Own W_10 w.heap.size 24 #[.int .u64 (L0 z0), .int .u64 (L1 z0), .int .u64 (L2 z0), .int .u64 (L3 z0)] := hW ▸ ((OA.apart (by omega) _ _).apart (by omega) _ _)
                  have OB_ : Own W_10 (w.heap.size + 1) 24 #[.int .u64 (L0 z1), .int .u64 (L1 z1), .int .u64 (L2 z1), .int .u64 (L3 z1)] := hW ▸ ((OB.apart (by omega) _ _).apart (by omega) _ _)
                  have U5_ : Own W_10 w1.heap.size 24 #[.int .u64 (L0 q), .int .u64 (L1 q), .int .u64 (L2 q), .int .u64 (L3 q)] := hW ▸ ((U5.apart (by omega) _ _).apart (by omega) _ _)
                  have U6_ : Own W_10 (w1.heap.size + 1) 24 #[.int .u64 (L0 r), .int .u64 (L1 r), .int .u64 (L2 r), .int .u64 (L3 r)] := hW ▸ ((U6.apart (by omega) _ _).apart (by omega) _ _)
                  have O8_ : Own W_10 W_s.heap.size 27 #[.bool s_q, .slice a_q l_q c_q] := hW ▸ (((O8.put 0 _).put 1 _).as rfl)
                  have O9_ : Own W_10 W_3.heap.size 27 #[.bool false, .slice none 0 0] := hW ▸ ((O9.apart (by omega) _ _).apart (by omega) _ _)
                  have NQ_ := hW ▸ (NQ.put (p := W_s.heap.size) (i := 0) (by omega) (.bool s_q)).put (p := W_s.heap.size) (i := 1) (by omega) (.slice a_q l_q c_q)
                  have NR_ := hW ▸ (NR.put (p := W_s.heap.size) (i := 0) (by omega) (.bool s_q)).put (p := W_s.heap.size) (i := 1) (by omega) (.slice a_q l_q c_q)
                  have hB_ : Below w.heap.size w W_10 := hW ▸ ((hB.setCell (by show w.heap.size ≤ W_s.heap.size; omega) _).setCell (by show w.heap.size ≤ W_s.heap.size; omega) _)
                  rw [hW]
                  clear hW
                  clear OA OB U5 U6 O8 O9 NQ NR hB
                  have OA := OA_
                  have OB := OB_
                  have U5 := U5_
                  have U6 := U6_
                  have O8 := O8_
                  have O9 := O9_
                  have NQ := NQ_
                  have NR := NR_
                  have hB := hB_
                  clear OA_ OB_ U5_ U6_ O8_ O9_ NQ_ NR_ hB_
                  refine tree_one (i := 11) (by kernel_rfl) rfl ?_
                  · refine ⟨_, rfl, fun K hK => ?_⟩
                    have hfr := O9.at_
                    obtain ⟨P1, P2, P3⟩ := hfr
                    go_wp2
                    clear P1 P2 P3
                    refine hK _ _ ⟨(OA.apart (by omega) _ _).apart (by omega) _ _, (OB.apart (by omega) _ _).apart (by omega) _ _, (U5.apart (by omega) _ _).apart (by omega) _ _, (U6.apart (by omega) _ _).apart (by omega) _ _⟩ ?_
                    clear hK K
                    obtain ⟨W_11, hW⟩ : ∃ X, (W_10.setCell ⟨W_3.heap.size, 0, none⟩ (.bool s_r)).setCell ⟨W_3.heap.size, 1, none⟩ (.slice a_r l_r c_r) = X := ⟨_, rfl⟩
                    have OA_ : Own W_11 w.heap.size 24 #[.int .u64 (L0 z0), .int .u64 (L1 z0), .int .u64 (L2 z0), .int .u64 (L3 z0)] := hW ▸ ((OA.apart (by omega) _ _).apart (by omega) _ _)
                    have OB_ : Own W_11 (w.heap.size + 1) 24 #[.int .u64 (L0 z1), .int .u64 (L1 z1), .int .u64 (L2 z1), .int .u64 (L3 z1)] := hW ▸ ((OB.apart (by omega) _ _).apart (by omega) _ _)
                    have U5_ : Own W_11 w1.heap.size 24 #[.int .u64 (L0 q), .int .u64 (L1 q), .int .u64 (L2 q), .int .u64 (L3 q)] := hW ▸ ((U5.apart (by omega) _ _).apart (by omega) _ _)
                    have U6_ : Own W_11 (w1.heap.size + 1) 24 #[.int .u64 (L0 r), .int .u64 (L1 r), .int .u64 (L2 r), .int .u64 (L3 r)] := hW ▸ ((U6.apart (by omega) _ _).apart (by omega) _ _)
                    have O8_ : Own W_11 W_s.heap.size 27 #[.bool s_q, .slice a_q l_q c_q] := hW ▸ ((O8.apart (by omega) _ _).apart (by omega) _ _)
                    have O9_ : Own W_11 W_3.heap.size 27 #[.bool s_r, .slice a_r l_r c_r] := hW ▸ (((O9.put 0 _).put 1 _).as rfl)
                    have NQ_ := hW ▸ (NQ.put (p := W_3.heap.size) (i := 0) (by omega) (.bool s_r)).put (p := W_3.heap.size) (i := 1) (by omega) (.slice a_r l_r c_r)
                    have NR_ := hW ▸ (NR.put (p := W_3.heap.size) (i := 0) (by omega) (.bool s_r)).put (p := W_3.heap.size) (i := 1) (by omega) (.slice a_r l_r c_r)
                    have hB_ : Below w.heap.size w W_11 := hW ▸ ((hB.setCell (by show w.heap.size ≤ W_3.heap.size; omega) _).setCell (by show w.heap.size ≤ W_3.heap.size; omega) _)
                    rw [hW]
                    clear hW
                    clear OA OB U5 U6 O8 O9 NQ NR hB
                    have OA := OA_
                    have OB := OB_
                    have U5 := U5_
                    have U6 := U6_
                    have O8 := O8_
                    have O9 := O9_
                    have NQ := NQ_
                    have NR := NR_
                    have hB := hB_
                    clear OA_ OB_ U5_ U6_ O8_ O9_ NQ_ NR_ hB_
                    refine tree_end (by kernel_rfl) ?_
                    go_wp2_with fail
                    go_meet
                    exact ⟨W_s.heap.size, W_3.heap.size, s_q, a_q, l_q, c_q, s_r, a_r, l_r, c_r, rfl, rfl, O8, O9, NQ.mono (fun _ _ _ => trivial), NR.mono (fun _ _ _ => trivial), U5, U6, hB⟩
        · refine ⟨_, rfl, fun K hK => ?_⟩
          go_wp2
          refine hK _ _ ⟨OA.more _, OB.more _, U5.more _, U6.more _⟩ ?_
          clear hK K
          obtain ⟨W_3, hW⟩ : ∃ X, W_2.alloc (.cells #[.bool false, .slice none 0 0] 27) = X := ⟨_, rfl⟩
          have hb_3 : Below W_2.heap.size W_2 W_3 := hW ▸ (Below.refl _ _).alloc (Nat.le_refl _) _
          have O9_ : Own W_3 W_2.heap.size 27 #[.bool false, .slice none 0 0] := hW ▸ Own.made _ _ _
          have sz_3 := O9_.in_
          rw [hW]
          clear hW
          replace OA := OA.keep hb_3
          replace OB := OB.keep hb_3
          replace U5 := U5.keep hb_3
          replace U6 := U6.keep hb_3
          replace O8 := O8.keep hb_3
          replace hB := then_ hB hb_3 hB.size
          clear hb_3
          have O9 := O9_
          clear O9_
          refine tree_one (i := 1) (by kernel_rfl) rfl ?_
          · refine ⟨_, rfl, fun K hK => ?_⟩
            go_wp2_with (go_at_call 10; refine (F0.out 0 W_3 (Nat.zero_le _)).mono ?_; rintro e W_4 ⟨v_, rfl, hn, hb_4⟩)
            have sz_4 := hb_4.size
            obtain ⟨s_x, a_x, l_x, c_x, rfl⟩ := hn.shape
            have NX := NumP.of hn (S := fun b => W_3.heap.size ≤ b ∧ b < W_4.heap.size) (fun b h1 h2 => ⟨by omega, h1⟩)
            clear hn
            replace OA := OA.keep hb_4
            replace OB := OB.keep hb_4
            replace U5 := U5.keep hb_4
            replace U6 := U6.keep hb_4
            replace O8 := O8.keep hb_4
            replace O9 := O9.keep hb_4
            replace hB := then_ hB hb_4 hB.size
            refine hK _ _ ⟨OA, OB, U5, U6⟩ ?_
            clear hK K hb_4
            refine tree_one (i := 3) (by kernel_rfl) rfl ?_
            · refine ⟨_, rfl, fun K hK => ?_⟩
              go_wp2_with (go_at_call 10; refine (F1.out 0 W_4 (Nat.zero_le _)).mono ?_; rintro e W_5 ⟨v_, rfl, hn, hb_5⟩)
              have sz_5 := hb_5.size
              obtain ⟨s_y, a_y, l_y, c_y, rfl⟩ := hn.shape
              have NY := NumP.of hn (S := fun b => W_4.heap.size ≤ b ∧ b < W_5.heap.size) (fun b h1 h2 => ⟨by omega, h1⟩)
              clear hn
              replace OA := OA.keep hb_5
              replace OB := OB.keep hb_5
              replace U5 := U5.keep hb_5
              replace U6 := U6.keep hb_5
              replace O8 := O8.keep hb_5
              replace O9 := O9.keep hb_5
              replace NX := NX.keep hb_5
              replace hB := then_ hB hb_5 hB.size
              refine hK _ _ ⟨OA, OB, U5, U6⟩ ?_
              clear hK K hb_5
              refine tree_one (i := 4) (by kernel_rfl) rfl ?_
              · refine ⟨_, rfl, fun K hK => ?_⟩
                go_wp2_with (go_at_call 21; refine (div_num _ 0 0 _ _ z0 z1 W_5 NX (NY.num (T := 0) (C := 0) (fun b _ _ => .inr (Nat.zero_le _))) HZ.out L0_.out L1_.out).mono ?_; rintro e W_6 ⟨v_, v__, rfl, hq, hr, hb_6⟩)
                have sz_6 := hb_6.size
                obtain ⟨s_q, a_q, l_q, c_q, rfl⟩ := hq.shape
                obtain ⟨s_r, a_r, l_r, c_r, rfl⟩ := hr.shape
                have NQ := hq.mono (S' := fun b => W_5.heap.size ≤ b ∧ b < W_6.heap.size) (fun b h1 h2 => ⟨h2, h1⟩)
                have NR := hr.mono (S' := fun b => (((W_3.heap.size ≤ b ∧ b < W_4.heap.size) ∧ b < W_5.heap.size) ∨ W_5.heap.size ≤ b) ∧ b < W_6.heap.size) (fun b h1 h2 => ⟨h2, h1⟩)
                clear hq hr NX NY
                replace OA := OA.keep hb_6
                replace OB := OB.keep hb_6
                replace U5 := U5.keep hb_6
                replace U6 := U6.keep hb_6
                replace O8 := O8.keep hb_6
                replace O9 := O9.keep hb_6
                replace hB := then_ hB hb_6 hB.size
                refine hK _ _ ⟨OA, OB, U5, U6⟩ ?_
                clear hK K hb_6
                refine tree_pure (i := 5) (v := ?_) rfl rfl (by kernel_rfl) (by kernel_rfl) (by kernel_rfl) rfl (fun W hS => ?_) ⟨OA, OB, U5, U6⟩ ?_
                rotate_left
                · conv => lhs; simp [go_sem]
                  first | done | exact rfl
                simp only [Act.put, List.setIfInBounds_toArray, List.set_cons_zero, List.set_cons_succ]
                refine tree_pure (i := 6) (v := ?_) rfl rfl (by kernel_rfl) (by kernel_rfl) (by kernel_rfl) rfl (fun W hS => ?_) ⟨OA, OB, U5, U6⟩ ?_
                rotate_left
                · conv => lhs; simp [go_sem]
                  first | done | exact rfl
                simp only [Act.put, List.setIfInBounds_toArray, List.set_cons_zero, List.set_cons_succ]
                refine tree_pure (i := 7) (v := ?_) rfl rfl (by kernel_rfl) (by kernel_rfl) (by kernel_rfl) rfl (fun W hS => ?_) ⟨OA, OB, U5, U6⟩ ?_
                rotate_left
                · conv => lhs; simp [go_sem]
                  first | done | exact rfl
                simp only [Act.put, List.setIfInBounds_toArray, List.set_cons_zero, List.set_cons_succ]
                refine tree_one (i := 10) (by kernel_rfl) rfl ?_
                · refine ⟨_, rfl, fun K hK => ?_⟩
                  have hfr := O8.at_
                  obtain ⟨P1, P2, P3⟩ := hfr
                  go_wp2
                  clear P1 P2 P3
                  refine hK _ _ ⟨(OA.apart (by omega) _ _).apart (by omega) _ _, (OB.apart (by omega) _ _).apart (by omega) _ _, (U5.apart (by omega) _ _).apart (by omega) _ _, (U6.apart (by omega) _ _).apart (by omega) _ _⟩ ?_
                  clear hK K
                  obtain ⟨W_10, hW⟩ : ∃ X, (W_6.setCell ⟨W_s.heap.size, 0, none⟩ (.bool s_q)).setCell ⟨W_s.heap.size, 1, none⟩ (.slice a_q l_q c_q) = X := ⟨_, rfl⟩
                  have OA_ : Own W_10 w.heap.size 24 #[.int .u64 (L0 z0), .int .u64 (L1 z0), .int .u64 (L2 z0), .int .u64 (L3 z0)] := hW ▸ ((OA.apart (by omega) _ _).apart (by omega) _ _)
                  have OB_ : Own W_10 (w.heap.size + 1) 24 #[.int .u64 (L0 z1), .int .u64 (L1 z1), .int .u64 (L2 z1), .int .u64 (L3 z1)] := hW ▸ ((OB.apart (by omega) _ _).apart (by omega) _ _)
                  have U5_ : Own W_10 w1.heap.size 24 #[.int .u64 (L0 q), .int .u64 (L1 q), .int .u64 (L2 q), .int .u64 (L3 q)] := hW ▸ ((U5.apart (by omega) _ _).apart (by omega) _ _)
                  have U6_ : Own W_10 (w1.heap.size + 1) 24 #[.int .u64 (L0 r), .int .u64 (L1 r), .int .u64 (L2 r), .int .u64 (L3 r)] := hW ▸ ((U6.apart (by omega) _ _).apart (by omega) _ _)
                  have O8_ : Own W_10 W_s.heap.size 27 #[.bool s_q, .slice a_q l_q c_q] := hW ▸ (((O8.put 0 _).put 1 _).as rfl)
                  have O9_ : Own W_10 W_2.heap.size 27 #[.bool false, .slice none 0 0] := hW ▸ ((O9.apart (by omega) _ _).apart (by omega) _ _)
                  have NQ_ := hW ▸ (NQ.put (p := W_s.heap.size) (i := 0) (by omega) (.bool s_q)).put (p := W_s.heap.size) (i := 1) (by omega) (.slice a_q l_q c_q)
                  have NR_ := hW ▸ (NR.put (p := W_s.heap.size) (i := 0) (by omega) (.bool s_q)).put (p := W_s.heap.size) (i := 1) (by omega) (.slice a_q l_q c_q)
                  have hB_ : Below w.heap.size w W_10 := hW ▸ ((hB.setCell (by show w.heap.size ≤ W_s.heap.size; omega) _).setCell (by show w.heap.size ≤ W_s.heap.size; omega) _)
                  rw [hW]
                  clear hW
                  clear OA OB U5 U6 O8 O9 NQ NR hB
                  have OA := OA_
                  have OB := OB_
                  have U5 := U5_
                  have U6 := U6_
                  have O8 := O8_
                  have O9 := O9_
                  have NQ := NQ_
                  have NR := NR_
                  have hB := hB_
                  clear OA_ OB_ U5_ U6_ O8_ O9_ NQ_ NR_ hB_
                  refine tree_one (i := 11) (by kernel_rfl) rfl ?_
                  · refine ⟨_, rfl, fun K hK => ?_⟩
                    have hfr := O9.at_
                    obtain ⟨P1, P2, P3⟩ := hfr
                    go_wp2
                    clear P1 P2 P3
                    refine hK _ _ ⟨(OA.apart (by omega) _ _).apart (by omega) _ _, (OB.apart (by omega) _ _).apart (by omega) _ _, (U5.apart (by omega) _ _).apart (by omega) _ _, (U6.apart (by omega) _ _).apart (by omega) _ _⟩ ?_
                    clear hK K
                    obtain ⟨W_11, hW⟩ : ∃ X, (W_10.setCell ⟨W_2.heap.size, 0, none⟩ (.bool s_r)).setCell ⟨W_2.heap.size, 1, none⟩ (.slice a_r l_r c_r) = X := ⟨_, rfl⟩
                    have OA_ : Own W_11 w.heap.size 24 #[.int .u64 (L0 z0), .int .u64 (L1 z0), .int .u64 (L2 z0), .int .u64 (L3 z0)] := hW ▸ ((OA.apart (by omega) _ _).apart (by omega) _ _)
                    have OB_ : Own W_11 (w.heap.size + 1) 24 #[.int .u64 (L0 z1), .int .u64 (L1 z1), .int .u64 (L2 z1), .int .u64 (L3 z1)] := hW ▸ ((OB.apart (by omega) _ _).apart (by omega) _ _)
                    have U5_ : Own W_11 w1.heap.size 24 #[.int .u64 (L0 q), .int .u64 (L1 q), .int .u64 (L2 q), .int .u64 (L3 q)] := hW ▸ ((U5.apart (by omega) _ _).apart (by omega) _ _)
                    have U6_ : Own W_11 (w1.heap.size + 1) 24 #[.int .u64 (L0 r), .int .u64 (L1 r), .int .u64 (L2 r), .int .u64 (L3 r)] := hW ▸ ((U6.apart (by omega) _ _).apart (by omega) _ _)
                    have O8_ : Own W_11 W_s.heap.size 27 #[.bool s_q, .slice a_q l_q c_q] := hW ▸ ((O8.apart (by omega) _ _).apart (by omega) _ _)
                    have O9_ : Own W_11 W_2.heap.size 27 #[.bool s_r, .slice a_r l_r c_r] := hW ▸ (((O9.put 0 _).put 1 _).as rfl)
                    have NQ_ := hW ▸ (NQ.put (p := W_2.heap.size) (i := 0) (by omega) (.bool s_r)).put (p := W_2.heap.size) (i := 1) (by omega) (.slice a_r l_r c_r)
                    have NR_ := hW ▸ (NR.put (p := W_2.heap.size) (i := 0) (by omega) (.bool s_r)).put (p := W_2.heap.size) (i := 1) (by omega) (.slice a_r l_r c_r)
                    have hB_ : Below w.heap.size w W_11 := hW ▸ ((hB.setCell (by show w.heap.size ≤ W_2.heap.size; omega) _).setCell (by show w.heap.size ≤ W_2.heap.size; omega) _)
                    rw [hW]
                    clear hW
                    clear OA OB U5 U6 O8 O9 NQ NR hB
                    have OA := OA_
                    have OB := OB_
                    have U5 := U5_
                    have U6 := U6_
                    have O8 := O8_
                    have O9 := O9_
                    have NQ := NQ_
                    have NR := NR_
                    have hB := hB_
                    clear OA_ OB_ U5_ U6_ O8_ O9_ NQ_ NR_ hB_
                    refine tree_end (by kernel_rfl) ?_
                    go_wp2_with fail
                    go_meet
                    exact ⟨W_s.heap.size, W_2.heap.size, s_q, a_q, l_q, c_q, s_r, a_r, l_r, c_r, rfl, rfl, O8, O9, NQ.mono (fun _ _ _ => trivial), NR.mono (fun _ _ _ => trivial), U5, U6, hB⟩
      · refine ⟨_, rfl, fun K hK => ?_⟩
        go_wp2
        refine hK _ _ ⟨OA.more _, OB.more _, U5.more _, U6.more _⟩ ?_
        clear hK K
        obtain ⟨W_2, hW⟩ : ∃ X, W_s.alloc (.cells #[.bool false, .slice none 0 0] 27) = X := ⟨_, rfl⟩
        have hb_2 : Below W_s.heap.size W_s W_2 := hW ▸ (Below.refl _ _).alloc (Nat.le_refl _) _
        have O9_ : Own W_2 W_s.heap.size 27 #[.bool false, .slice none 0 0] := hW ▸ Own.made _ _ _
        have sz_2 := O9_.in_
        rw [hW]
        clear hW
        replace OA := OA.keep hb_2
        replace OB := OB.keep hb_2
        replace U5 := U5.keep hb_2
        replace U6 := U6.keep hb_2
        replace hB := then_ hB hb_2 hB.size
        clear hb_2
        have O9 := O9_
        clear O9_
        refine tree_two (i := 1) (k := 8) (by kernel_rfl) rfl rfl ?_ ?_
        · refine ⟨_, rfl, fun K hK => ?_⟩
          go_wp2_with (go_at_call 10; refine (F0.out 0 W_2 (Nat.zero_le _)).mono ?_; rintro e W_3 ⟨v_, rfl, hn, hb_3⟩)
          have sz_3 := hb_3.size
          obtain ⟨s_x, a_x, l_x, c_x, rfl⟩ := hn.shape
          have NX := NumP.of hn (S := fun b => W_2.heap.size ≤ b ∧ b < W_3.heap.size) (fun b h1 h2 => ⟨by omega, h1⟩)
          clear hn
          replace OA := OA.keep hb_3
          replace OB := OB.keep hb_3
          replace U5 := U5.keep hb_3
          replace U6 := U6.keep hb_3
          replace O9 := O9.keep hb_3
          replace hB := then_ hB hb_3 hB.size
          refine hK _ _ ⟨OA, OB, U5, U6⟩ ?_
          clear hK K hb_3
          refine tree_two (i := 3) (k := 8) (by kernel_rfl) rfl rfl ?_ ?_
          · refine ⟨_, rfl, fun K hK => ?_⟩
            go_wp2_with (go_at_call 10; refine (F1.out 0 W_3 (Nat.zero_le _)).mono ?_; rintro e W_4 ⟨v_, rfl, hn, hb_4⟩)
            have sz_4 := hb_4.size
            obtain ⟨s_y, a_y, l_y, c_y, rfl⟩ := hn.shape
            have NY := NumP.of hn (S := fun b => W_3.heap.size ≤ b ∧ b < W_4.heap.size) (fun b h1 h2 => ⟨by omega, h1⟩)
            clear hn
            replace OA := OA.keep hb_4
            replace OB := OB.keep hb_4
            replace U5 := U5.keep hb_4
            replace U6 := U6.keep hb_4
            replace O9 := O9.keep hb_4
            replace NX := NX.keep hb_4
            replace hB := then_ hB hb_4 hB.size
            refine hK _ _ ⟨OA, OB, U5, U6⟩ ?_
            clear hK K hb_4
            refine tree_two (i := 4) (k := 8) (by kernel_rfl) rfl rfl ?_ ?_
            · refine ⟨_, rfl, fun K hK => ?_⟩
              go_wp2_with (go_at_call 21; refine (div_num _ 0 0 _ _ z0 z1 W_4 NX (NY.num (T := 0) (C := 0) (fun b _ _ => .inr (Nat.zero_le _))) HZ.out L0_.out L1_.out).mono ?_; rintro e W_5 ⟨v_, v__, rfl, hq, hr, hb_5⟩)
              have sz_5 := hb_5.size
              obtain ⟨s_q, a_q, l_q, c_q, rfl⟩ := hq.shape
              obtain ⟨s_r, a_r, l_r, c_r, rfl⟩ := hr.shape
              have NQ := hq.mono (S' := fun b => W_4.heap.size ≤ b ∧ b < W_5.heap.size) (fun b h1 h2 => ⟨h2, h1⟩)
              have NR := hr.mono (S' := fun b => (((W_2.heap.size ≤ b ∧ b < W_3.heap.size) ∧ b < W_4.heap.size) ∨ W_4.heap.size ≤ b) ∧ b < W_5.heap.size) (fun b h1 h2 => ⟨h2, h1⟩)
              clear hq hr NX NY
              replace OA := OA.keep hb_5
              replace OB := OB.keep hb_5
              replace U5 := U5.keep hb_5
              replace U6 := U6.keep hb_5
              replace O9 := O9.keep hb_5
              replace hB := then_ hB hb_5 hB.size
              refine hK _ _ ⟨OA, OB, U5, U6⟩ ?_
              clear hK K hb_5
              refine tree_pure (i := 5) (v := ?_) rfl rfl (by kernel_rfl) (by kernel_rfl) (by kernel_rfl) rfl (fun W hS => ?_) ⟨OA, OB, U5, U6⟩ ?_
              rotate_left
              · conv => lhs; simp [go_sem]
                first | done | exact rfl
              simp only [Act.put, List.setIfInBounds_toArray, List.set_cons_zero, List.set_cons_succ]
              refine tree_pure (i := 6) (v := ?_) rfl rfl (by kernel_rfl) (by kernel_rfl) (by kernel_rfl) rfl (fun W hS => ?_) ⟨OA, OB, U5, U6⟩ ?_
              rotate_left
              · conv => lhs; simp [go_sem]
                first | done | exact rfl
              simp only [Act.put, List.setIfInBounds_toArray, List.set_cons_zero, List.set_cons_succ]
              refine tree_pure (i := 7) (v := ?_) rfl rfl (by kernel_rfl) (by kernel_rfl) (by kernel_rfl) rfl (fun W hS => ?_) ⟨OA, OB, U5, U6⟩ ?_
              rotate_left
              · conv => lhs; simp [go_sem]
                first | done | exact rfl
              simp only [Act.put, List.setIfInBounds_toArray, List.set_cons_zero, List.set_cons_succ]
              refine tree_one (i := 8) (by kernel_rfl) rfl ?_
              · refine ⟨_, rfl, fun K hK => ?_⟩
                go_wp2
                refine hK _ _ ⟨OA.more _, OB.more _, U5.more _, U6.more _⟩ ?_
                clear hK K
                obtain ⟨W_9, hW⟩ : ∃ X, W_5.alloc (.cells #[.bool false, .slice none 0 0] 27) = X := ⟨_, rfl⟩
                have hb_9 : Below W_5.heap.size W_5 W_9 := hW ▸ (Below.refl _ _).alloc (Nat.le_refl _) _
                have O8_ : Own W_9 W_5.heap.size 27 #[.bool false, .slice none 0 0] := hW ▸ Own.made _ _ _
                have sz_9 := O8_.in_
                rw [hW]
                clear hW
                replace OA := OA.keep hb_9
                replace OB := OB.keep hb_9
                replace U5 := U5.keep hb_9
                replace U6 := U6.keep hb_9
                replace O9 := O9.keep hb_9
                replace NQ := NQ.keep hb_9
                replace NR := NR.keep hb_9
                replace hB := then_ hB hb_9 hB.size
                clear hb_9
                have O8 := O8_
                clear O8_
                refine tree_one (i := 10) (by kernel_rfl) rfl ?_
                · refine ⟨_, rfl, fun K hK => ?_⟩
                  have hfr := O8.at_
                  obtain ⟨P1, P2, P3⟩ := hfr
                  go_wp2
                  clear P1 P2 P3
                  refine hK _ _ ⟨(OA.apart (by omega) _ _).apart (by omega) _ _, (OB.apart (by omega) _ _).apart (by omega) _ _, (U5.apart (by omega) _ _).apart (by omega) _ _, (U6.apart (by omega) _ _).apart (by omega) _ _⟩ ?_
                  clear hK K
                  obtain ⟨W_10, hW⟩ : ∃ X, (W_9.setCell ⟨W_5.heap.size, 0, none⟩ (.bool s_q)).setCell ⟨W_5.heap.size, 1, none⟩ (.slice a_q l_q c_q) = X := ⟨_, rfl⟩
                  have OA_ : Own W_10 w.heap.size 24 #[.int .u64 (L0 z0), .int .u64 (L1 z0), .int .u64 (L2 z0), .int .u64 (L3 z0)] := hW ▸ ((OA.apart (by omega) _ _).apart (by omega) _ _)
                  have OB_ : Own W_10 (w.heap.size + 1) 24 #[.int .u64 (L0 z1), .int .u64 (L1 z1), .int .u64 (L2 z1), .int .u64 (L3 z1)] := hW ▸ ((OB.apart (by omega) _ _).apart (by omega) _ _)
                  have U5_ : Own W_10 w1.heap.size 24 #[.int .u64 (L0 q), .int .u64 (L1 q), .int .u64 (L2 q), .int .u64 (L3 q)] := hW ▸ ((U5.apart (by omega) _ _).apart (by omega) _ _)
                  have U6_ : Own W_10 (w1.heap.size + 1) 24 #[.int .u64 (L0 r), .int .u64 (L1 r), .int .u64 (L2 r), .int .u64 (L3 r)] := hW ▸ ((U6.apart (by omega) _ _).apart (by omega) _ _)
                  have O9_ : Own W_10 W_s.heap.size 27 #[.bool false, .slice none 0 0] := hW ▸ ((O9.apart (by omega) _ _).apart (by omega) _ _)
                  have O8_ : Own W_10 W_5.heap.size 27 #[.bool s_q, .slice a_q l_q c_q] := hW ▸ (((O8.put 0 _).put 1 _).as rfl)
                  have NQ_ := hW ▸ (NQ.put (p := W_5.heap.size) (i := 0) (by omega) (.bool s_q)).put (p := W_5.heap.size) (i := 1) (by omega) (.slice a_q l_q c_q)
                  have NR_ := hW ▸ (NR.put (p := W_5.heap.size) (i := 0) (by omega) (.bool s_q)).put (p := W_5.heap.size) (i := 1) (by omega) (.slice a_q l_q c_q)
                  have hB_ : Below w.heap.size w W_10 := hW ▸ ((hB.setCell (by show w.heap.size ≤ W_5.heap.size; omega) _).setCell (by show w.heap.size ≤ W_5.heap.size; omega) _)
                  rw [hW]
                  clear hW
                  clear OA OB U5 U6 O9 O8 NQ NR hB
                  have OA := OA_
                  have OB := OB_
                  have U5 := U5_
                  have U6 := U6_
                  have O9 := O9_
                  have O8 := O8_
                  have NQ := NQ_
                  have NR := NR_
                  have hB := hB_
                  clear OA_ OB_ U5_ U6_ O9_ O8_ NQ_ NR_ hB_
                  refine tree_one (i := 11) (by kernel_rfl) rfl ?_
                  · refine ⟨_, rfl, fun K hK => ?_⟩
                    have hfr := O9.at_
                    obtain ⟨P1, P2, P3⟩ := hfr
                    go_wp2
                    clear P1 P2 P3
                    refine hK _ _ ⟨(OA.apart (by omega) _ _).apart (by omega) _ _, (OB.apart (by omega) _ _).apart (by omega) _ _, (U5.apart (by omega) _ _).apart (by omega) _ _, (U6.apart (by omega) _ _).apart (by omega) _ _⟩ ?_
                    clear hK K
                    obtain ⟨W_11, hW⟩ : ∃ X, (W_10.setCell ⟨W_s.heap.size, 0, none⟩ (.bool s_r)).setCell ⟨W_s.heap.size, 1, none⟩ (.slice a_r l_r c_r) = X := ⟨_, rfl⟩
                    have OA_ : Own W_11 w.heap.size 24 #[.int .u64 (L0 z0), .int .u64 (L1 z0), .int .u64 (L2 z0), .int .u64 (L3 z0)] := hW ▸ ((OA.apart (by omega) _ _).apart (by omega) _ _)
                    have OB_ : Own W_11 (w.heap.size + 1) 24 #[.int .u64 (L0 z1), .int .u64 (L1 z1), .int .u64 (L2 z1), .int .u64 (L3 z1)] := hW ▸ ((OB.apart (by omega) _ _).apart (by omega) _ _)
                    have U5_ : Own W_11 w1.heap.size 24 #[.int .u64 (L0 q), .int .u64 (L1 q), .int .u64 (L2 q), .int .u64 (L3 q)] := hW ▸ ((U5.apart (by omega) _ _).apart (by omega) _ _)
                    have U6_ : Own W_11 (w1.heap.size + 1) 24 #[.int .u64 (L0 r), .int .u64 (L1 r), .int .u64 (L2 r), .int .u64 (L3 r)] := hW ▸ ((U6.apart (by omega) _ _).apart (by omega) _ _)
                    have O9_ : Own W_11 W_s.heap.size 27 #[.bool s_r, .slice a_r l_r c_r] := hW ▸ (((O9.put 0 _).put 1 _).as rfl)
                    have O8_ : Own W_11 W_5.heap.size 27 #[.bool s_q, .slice a_q l_q c_q] := hW ▸ ((O8.apart (by omega) _ _).apart (by omega) _ _)
                    have NQ_ := hW ▸ (NQ.put (p := W_s.heap.size) (i := 0) (by omega) (.bool s_r)).put (p := W_s.heap.size) (i := 1) (by omega) (.slice a_r l_r c_r)
                    have NR_ := hW ▸ (NR.put (p := W_s.heap.size) (i := 0) (by omega) (.bool s_r)).put (p := W_s.heap.size) (i := 1) (by omega) (.slice a_r l_r c_r)
                    have hB_ : Below w.heap.size w W_11 := hW ▸ ((hB.setCell (by show w.heap.size ≤ W_s.heap.size; omega) _).setCell (by show w.heap.size ≤ W_s.heap.size; omega) _)
                    rw [hW]
                    clear hW
                    clear OA OB U5 U6 O9 O8 NQ NR hB
                    have OA := OA_
                    have OB := OB_
                    have U5 := U5_
                    have U6 := U6_
                    have O9 := O9_
                    have O8 := O8_
                    have NQ := NQ_
                    have NR := NR_
                    have hB := hB_
                    clear OA_ OB_ U5_ U6_ O9_ O8_ NQ_ NR_ hB_
                    refine tree_end (by kernel_rfl) ?_
                    go_wp2_with fail
                    go_meet
                    exact ⟨W_5.heap.size, W_s.heap.size, s_q, a_q, l_q, c_q, s_r, a_r, l_r, c_r, rfl, rfl, O8, O9, NQ.mono (fun _ _ _ => trivial), NR.mono (fun _ _ _ => trivial), U5, U6, hB⟩
            · refine ⟨_, rfl, fun K hK => ?_⟩
              go_wp2
              refine hK _ _ ⟨OA.more _, OB.more _, U5.more _, U6.more _⟩ ?_
              clear hK K
              obtain ⟨W_5, hW⟩ : ∃ X, W_4.alloc (.cells #[.bool false, .slice none 0 0] 27) = X := ⟨_, rfl⟩
              have hb_5 : Below W_4.heap.size W_4 W_5 := hW ▸ (Below.refl _ _).alloc (Nat.le_refl _) _
              have O8_ : Own W_5 W_4.heap.size 27 #[.bool false, .slice none 0 0] := hW ▸ Own.made _ _ _
              have sz_5 := O8_.in_
              rw [hW]
              clear hW
              replace OA := OA.keep hb_5
              replace OB := OB.keep hb_5
              replace U5 := U5.keep hb_5
              replace U6 := U6.keep hb_5
              replace O9 := O9.keep hb_5
              replace NX := NX.keep hb_5
              replace NY := NY.keep hb_5
              replace hB := then_ hB hb_5 hB.size
              clear hb_5
              have O8 := O8_
              clear O8_
              refine tree_one (i := 4) (by kernel_rfl) rfl ?_
              · refine ⟨_, rfl, fun K hK => ?_⟩
                go_wp2_with (go_at_call 21; refine (div_num _ 0 0 _ _ z0 z1 W_5 NX (NY.num (T := 0) (C := 0) (fun b _ _ => .inr (Nat.zero_le _))) HZ.out L0_.out L1_.out).mono ?_; rintro e W_6 ⟨v_, v__, rfl, hq, hr, hb_6⟩)
                have sz_6 := hb_6.size
                obtain ⟨s_q, a_q, l_q, c_q, rfl⟩ := hq.shape
                obtain ⟨s_r, a_r, l_r, c_r, rfl⟩ := hr.shape
                have NQ := hq.mono (S' := fun b => W_5.heap.size ≤ b ∧ b < W_6.heap.size) (fun b h1 h2 => ⟨h2, h1⟩)
                have NR := hr.mono (S' := fun b => (((W_2.heap.size ≤ b ∧ b < W_3.heap.size) ∧ b < W_5.heap.size) ∨ W_5.heap.size ≤ b) ∧ b < W_6.heap.size) (fun b h1 h2 => ⟨h2, h1⟩)
                clear hq hr NX NY
                replace OA := OA.keep hb_6
                replace OB := OB.keep hb_6
                replace U5 := U5.keep hb_6
                replace U6 := U6.keep hb_6
                replace O9 := O9.keep hb_6
                replace O8 := O8.keep hb_6
                replace hB := then_ hB hb_6 hB.size
                refine hK _ _ ⟨OA, OB, U5, U6⟩ ?_
                clear hK K hb_6
                refine tree_pure (i := 5) (v := ?_) rfl rfl (by kernel_rfl) (by kernel_rfl) (by kernel_rfl) rfl (fun W hS => ?_) ⟨OA, OB, U5, U6⟩ ?_
                rotate_left
                · conv => lhs; simp [go_sem]
                  first | done | exact rfl
                simp only [Act.put, List.setIfInBounds_toArray, List.set_cons_zero, List.set_cons_succ]
                refine tree_pure (i := 6) (v := ?_) rfl rfl (by kernel_rfl) (by kernel_rfl) (by kernel_rfl) rfl (fun W hS => ?_) ⟨OA, OB, U5, U6⟩ ?_
                rotate_left
                · conv => lhs; simp [go_sem]
                  first | done | exact rfl
                simp only [Act.put, List.setIfInBounds_toArray, List.set_cons_zero, List.set_cons_succ]
                refine tree_pure (i := 7) (v := ?_) rfl rfl (by kernel_rfl) (by kernel_rfl) (by kernel_rfl) rfl (fun W hS => ?_) ⟨OA, OB, U5, U6⟩ ?_
                rotate_left
                · conv => lhs; simp [go_sem]
                  first | done | exact rfl
                simp only [Act.put, List.setIfInBounds_toArray, List.set_cons_zero, List.set_cons_succ]
                refine tree_one (i := 10) (by kernel_rfl) rfl ?_
                · refine ⟨_, rfl, fun K hK => ?_⟩
                  have hfr := O8.at_
                  obtain ⟨P1, P2, P3⟩ := hfr
                  go_wp2
                  clear P1 P2 P3
                  refine hK _ _ ⟨(OA.apart (by omega) _ _).apart (by omega) _ _, (OB.apart (by omega) _ _).apart (by omega) _ _, (U5.apart (by omega) _ _).apart (by omega) _ _, (U6.apart (by omega) _ _).apart (by omega) _ _⟩ ?_
                  clear hK K
                  obtain ⟨W_10, hW⟩ : ∃ X, (W_6.setCell ⟨W_4.heap.size, 0, none⟩ (.bool s_q)).setCell ⟨W_4.heap.size, 1, none⟩ (.slice a_q l_q c_q) = X := ⟨_, rfl⟩
                  have OA_ : Own W_10 w.heap.size 24 #[.int .u64 (L0 z0), .int .u64 (L1 z0), .int .u64 (L2 z0), .int .u64 (L3 z0)] := hW ▸ ((OA.apart (by omega) _ _).apart (by omega) _ _)
                  have OB_ : Own W_10 (w.heap.size + 1) 24 #[.int .u64 (L0 z1), .int .u64 (L1 z1), .int .u64 (L2 z1), .int .u64 (L3 z1)] := hW ▸ ((OB.apart (by omega) _ _).apart (by omega) _ _)
                  have U5_ : Own W_10 w1.heap.size 24 #[.int .u64 (L0 q), .int .u64 (L1 q), .int .u64 (L2 q), .int .u64 (L3 q)] := hW ▸ ((U5.apart (by omega) _ _).apart (by omega) _ _)
                  have U6_ : Own W_10 (w1.heap.size + 1) 24 #[.int .u64 (L0 r), .int .u64 (L1 r), .int .u64 (L2 r), .int .u64 (L3 r)] := hW ▸ ((U6.apart (by omega) _ _).apart (by omega) _ _)
                  have O9_ : Own W_10 W_s.heap.size 27 #[.bool false, .slice none 0 0] := hW ▸ ((O9.apart (by omega) _ _).apart (by omega) _ _)
                  have O8_ : Own W_10 W_4.heap.size 27 #[.bool s_q, .slice a_q l_q c_q] := hW ▸ (((O8.put 0 _).put 1 _).as rfl)
                  have NQ_ := hW ▸ (NQ.put (p := W_4.heap.size) (i := 0) (by omega) (.bool s_q)).put (p := W_4.heap.size) (i := 1) (by omega) (.slice a_q l_q c_q)
                  have NR_ := hW ▸ (NR.put (p := W_4.heap.size) (i := 0) (by omega) (.bool s_q)).put (p := W_4.heap.size) (i := 1) (by omega) (.slice a_q l_q c_q)
                  have hB_ : Below w.heap.size w W_10 := hW ▸ ((hB.setCell (by show w.heap.size ≤ W_4.heap.size; omega) _).setCell (by show w.heap.size ≤ W_4.heap.size; omega) _)
                  rw [hW]
                  clear hW
                  clear OA OB U5 U6 O9 O8 NQ NR hB
                  have OA := OA_
                  have OB := OB_
                  have U5 := U5_
                  have U6 := U6_
                  have O9 := O9_
                  have O8 := O8_
                  have NQ := NQ_
                  have NR := NR_
                  have hB := hB_
                  clear OA_ OB_ U5_ U6_ O9_ O8_ NQ_ NR_ hB_
                  refine tree_one (i := 11) (by kernel_rfl) rfl ?_
                  · refine ⟨_, rfl, fun K hK => ?_⟩
                    have hfr := O9.at_
                    obtain ⟨P1, P2, P3⟩ := hfr
                    go_wp2
                    clear P1 P2 P3
                    refine hK _ _ ⟨(OA.apart (by omega) _ _).apart (by omega) _ _, (OB.apart (by omega) _ _).apart (by omega) _ _, (U5.apart (by omega) _ _).apart (by omega) _ _, (U6.apart (by omega) _ _).apart (by omega) _ _⟩ ?_
                    clear hK K
                    obtain ⟨W_11, hW⟩ : ∃ X, (W_10.setCell ⟨W_s.heap.size, 0, none⟩ (.bool s_r)).setCell ⟨W_s.heap.size, 1, none⟩ (.slice a_r l_r c_r) = X := ⟨_, rfl⟩
                    have OA_ : Own W_11 w.heap.size 24 #[.int .u64 (L0 z0), .int .u64 (L1 z0), .int .u64 (L2 z0), .int .u64 (L3 z0)] := hW ▸ ((OA.apart (by omega) _ _).apart (by omega) _ _)
                    have OB_ : Own W_11 (w.heap.size + 1) 24 #[.int .u64 (L0 z1), .int .u64 (L1 z1), .int .u64 (L2 z1), .int .u64 (L3 z1)] := hW ▸ ((OB.apart (by omega) _ _).apart (by omega) _ _)
                    have U5_ : Own W_11 w1.heap.size 24 #[.int .u64 (L0 q), .int .u64 (L1 q), .int .u64 (L2 q), .int .u64 (L3 q)] := hW ▸ ((U5.apart (by omega) _ _).apart (by omega) _ _)
                    have U6_ : Own W_11 (w1.heap.size + 1) 24 #[.int .u64 (L0 r), .int .u64 (L1 r), .int .u64 (L2 r), .int .u64 (L3 r)] := hW ▸ ((U6.apart (by omega) _ _).apart (by omega) _ _)
                    have O9_ : Own W_11 W_s.heap.size 27 #[.bool s_r, .slice a_r l_r c_r] := hW ▸ (((O9.put 0 _).put 1 _).as rfl)
                    have O8_ : Own W_11 W_4.heap.size 27 #[.bool s_q, .slice a_q l_q c_q] := hW ▸ ((O8.apart (by omega) _ _).apart (by omega) _ _)
                    have NQ_ := hW ▸ (NQ.put (p := W_s.heap.size) (i := 0) (by omega) (.bool s_r)).put (p := W_s.heap.size) (i := 1) (by omega) (.slice a_r l_r c_r)
                    have NR_ := hW ▸ (NR.put (p := W_s.heap.size) (i := 0) (by omega) (.bool s_r)).put (p := W_s.heap.size) (i := 1) (by omega) (.slice a_r l_r c_r)
                    have hB_ : Below w.heap.size w W_11 := hW ▸ ((hB.setCell (by show w.heap.size ≤ W_s.heap.size; omega) _).setCell (by show w.heap.size ≤ W_s.heap.size; omega) _)
                    rw [hW]
                    clear hW
                    clear OA OB U5 U6 O9 O8 NQ NR hB
                    have OA := OA_
                    have OB := OB_
                    have U5 := U5_
                    have U6 := U6_
                    have O9 := O9_
                    have O8 := O8_
                    have NQ := NQ_
                    have NR := NR_
                    have hB := hB_
                    clear OA_ OB_ U5_ U6_ O9_ O8_ NQ_ NR_ hB_
                    refine tree_end (by kernel_rfl) ?_
                    go_wp2_with fail
                    go_meet
                    exact ⟨W_4.heap.size, W_s.heap.size, s_q, a_q, l_q, c_q, s_r, a_r, l_r, c_r, rfl, rfl, O8, O9, NQ.mono (fun _ _ _ => trivial), NR.mono (fun _ _ _ => trivial), U5, U6, hB⟩
          · refine ⟨_, rfl, fun K hK => ?_⟩
            go_wp2
            refine hK _ _ ⟨OA.more _, OB.more _, U5.more _, U6.more _⟩ ?_
            clear hK K
            obtain ⟨W_4, hW⟩ : ∃ X, W_3.alloc (.cells #[.bool false, .slice none 0 0] 27) = X := ⟨_, rfl⟩
            have hb_4 : Below W_3.heap.size W_3 W_4 := hW ▸ (Below.refl _ _).alloc (Nat.le_refl _) _
            have O8_ : Own W_4 W_3.heap.size 27 #[.bool false, .slice none 0 0] := hW ▸ Own.made _ _ _
            have sz_4 := O8_.in_
            rw [hW]
            clear hW
            replace OA := OA.keep hb_4
            replace OB := OB.keep hb_4
            replace U5 := U5.keep hb_4
            replace U6 := U6.keep hb_4
            replace O9 := O9.keep hb_4
            replace NX := NX.keep hb_4
            replace hB := then_ hB hb_4 hB.size
            clear hb_4
            have O8 := O8_
            clear O8_
            refine tree_one (i := 3) (by kernel_rfl) rfl ?_
            · refine ⟨_, rfl, fun K hK => ?_⟩
              go_wp2_with (go_at_call 10; refine (F1.out 0 W_4 (Nat.zero_le _)).mono ?_; rintro e W_5 ⟨v_, rfl, hn, hb_5⟩)
              have sz_5 := hb_5.size
              obtain ⟨s_y, a_y, l_y, c_y, rfl⟩ := hn.shape
              have NY := NumP.of hn (S := fun b => W_4.heap.size ≤ b ∧ b < W_5.heap.size) (fun b h1 h2 => ⟨by omega, h1⟩)
              clear hn
              replace OA := OA.keep hb_5
              replace OB := OB.keep hb_5
              replace U5 := U5.keep hb_5
              replace U6 := U6.keep hb_5
              replace O9 := O9.keep hb_5
              replace O8 := O8.keep hb_5
              replace NX := NX.keep hb_5
              replace hB := then_ hB hb_5 hB.size
              refine hK _ _ ⟨OA, OB, U5, U6⟩ ?_
              clear hK K hb_5
              refine tree_one (i := 4) (by kernel_rfl) rfl ?_
              · refine ⟨_, rfl, fun K hK => ?_⟩
                go_wp2_with (go_at_call 21; refine (div_num _ 0 0 _ _ z0 z1 W_5 NX (NY.num (T := 0) (C := 0) (fun b _ _ => .inr (Nat.zero_le _))) HZ.out L0_.out L1_.out).mono ?_; rintro e W_6 ⟨v_, v__, rfl, hq, hr, hb_6⟩)
                have sz_6 := hb_6.size
                obtain ⟨s_q, a_q, l_q, c_q, rfl⟩ := hq.shape
                obtain ⟨s_r, a_r, l_r, c_r, rfl⟩ := hr.shape
                have NQ := hq.mono (S' := fun b => W_5.heap.size ≤ b ∧ b < W_6.heap.size) (fun b h1 h2 => ⟨h2, h1⟩)
                have NR := hr.mono (S' := fun b => (((W_2.heap.size ≤ b ∧ b < W_3.heap.size) ∧ b < W_5.heap.size) ∨ W_5.heap.size ≤ b) ∧ b < W_6.heap.size) (fun b h1 h2 => ⟨h2, h1⟩)
                clear hq hr NX NY
                replace OA := OA.keep hb_6
                replace OB := OB.keep hb_6
                replace U5 := U5.keep hb_6
                replace U6 := U6.keep hb_6
                replace O9 := O9.keep hb_6
                replace O8 := O8.keep hb_6
                replace hB := then_ hB hb_6 hB.size
                refine hK _ _ ⟨OA, OB, U5, U6⟩ ?_
                clear hK K hb_6
                refine tree_pure (i := 5) (v := ?_) rfl rfl (by kernel_rfl) (by kernel_rfl) (by kernel_rfl) rfl (fun W hS => ?_) ⟨OA, OB, U5, U6⟩ ?_
                rotate_left
                · conv => lhs; simp [go_sem]
                  first | done | exact rfl
                simp only [Act.put, List.setIfInBounds_toArray, List.set_cons_zero, List.set_cons_succ]
                refine tree_pure (i := 6) (v := ?_) rfl rfl (by kernel_rfl) (by kernel_rfl) (by kernel_rfl) rfl (fun W hS => ?_) ⟨OA, OB, U5, U6⟩ ?_
                rotate_left
                · conv => lhs; simp [go_sem]
                  first | done | exact rfl
                simp only [Act.put, List.setIfInBounds_toArray, List.set_cons_zero, List.set_cons_succ]
                refine tree_pure (i := 7) (v := ?_) rfl rfl (by kernel_rfl) (by kernel_rfl) (by kernel_rfl) rfl (fun W hS => ?_) ⟨OA, OB, U5, U6⟩ ?_
                rotate_left
                · conv => lhs; simp [go_sem]
                  first | done | exact rfl
                simp only [Act.put, List.setIfInBounds_toArray, List.set_cons_zero, List.set_cons_succ]
                refine tree_one (i := 10) (by kernel_rfl) rfl ?_
                · refine ⟨_, rfl, fun K hK => ?_⟩
                  have hfr := O8.at_
                  obtain ⟨P1, P2, P3⟩ := hfr
                  go_wp2
                  clear P1 P2 P3
                  refine hK _ _ ⟨(OA.apart (by omega) _ _).apart (by omega) _ _, (OB.apart (by omega) _ _).apart (by omega) _ _, (U5.apart (by omega) _ _).apart (by omega) _ _, (U6.apart (by omega) _ _).apart (by omega) _ _⟩ ?_
                  clear hK K
                  obtain ⟨W_10, hW⟩ : ∃ X, (W_6.setCell ⟨W_3.heap.size, 0, none⟩ (.bool s_q)).setCell ⟨W_3.heap.size, 1, none⟩ (.slice a_q l_q c_q) = X := ⟨_, rfl⟩
                  have OA_ : Own W_10 w.heap.size 24 #[.int .u64 (L0 z0), .int .u64 (L1 z0), .int .u64 (L2 z0), .int .u64 (L3 z0)] := hW ▸ ((OA.apart (by omega) _ _).apart (by omega) _ _)
                  have OB_ : Own W_10 (w.heap.size + 1) 24 #[.int .u64 (L0 z1), .int .u64 (L1 z1), .int .u64 (L2 z1), .int .u64 (L3 z1)] := hW ▸ ((OB.apart (by omega) _ _).apart (by omega) _ _)
                  have U5_ : Own W_10 w1.heap.size 24 #[.int .u64 (L0 q), .int .u64 (L1 q), .int .u64 (L2 q), .int .u64 (L3 q)] := hW ▸ ((U5.apart (by omega) _ _).apart (by omega) _ _)
                  have U6_ : Own W_10 (w1.heap.size + 1) 24 #[.int .u64 (L0 r), .int .u64 (L1 r), .int .u64 (L2 r), .int .u64 (L3 r)] := hW ▸ ((U6.apart (by omega) _ _).apart (by omega) _ _)
                  have O9_ : Own W_10 W_s.heap.size 27 #[.bool false, .slice none 0 0] := hW ▸ ((O9.apart (by omega) _ _).apart (by omega) _ _)
                  have O8_ : Own W_10 W_3.heap.size 27 #[.bool s_q, .slice a_q l_q c_q] := hW ▸ (((O8.put 0 _).put 1 _).as rfl)
                  have NQ_ := hW ▸ (NQ.put (p := W_3.heap.size) (i := 0) (by omega) (.bool s_q)).put (p := W_3.heap.size) (i := 1) (by omega) (.slice a_q l_q c_q)
                  have NR_ := hW ▸ (NR.put (p := W_3.heap.size) (i := 0) (by omega) (.bool s_q)).put (p := W_3.heap.size) (i := 1) (by omega) (.slice a_q l_q c_q)
                  have hB_ : Below w.heap.size w W_10 := hW ▸ ((hB.setCell (by show w.heap.size ≤ W_3.heap.size; omega) _).setCell (by show w.heap.size ≤ W_3.heap.size; omega) _)
                  rw [hW]
                  clear hW
                  clear OA OB U5 U6 O9 O8 NQ NR hB
                  have OA := OA_
                  have OB := OB_
                  have U5 := U5_
                  have U6 := U6_
                  have O9 := O9_
                  have O8 := O8_
                  have NQ := NQ_
                  have NR := NR_
                  have hB := hB_
                  clear OA_ OB_ U5_ U6_ O9_ O8_ NQ_ NR_ hB_
                  refine tree_one (i := 11) (by kernel_rfl) rfl ?_
                  · refine ⟨_, rfl, fun K hK => ?_⟩
                    have hfr := O9.at_
                    obtain ⟨P1, P2, P3⟩ := hfr
                    go_wp2
                    clear P1 P2 P3
                    refine hK _ _ ⟨(OA.apart (by omega) _ _).apart (by omega) _ _, (OB.apart (by omega) _ _).apart (by omega) _ _, (U5.apart (by omega) _ _).apart (by omega) _ _, (U6.apart (by omega) _ _).apart (by omega) _ _⟩ ?_
                    clear hK K
                    obtain ⟨W_11, hW⟩ : ∃ X, (W_10.setCell ⟨W_s.heap.size, 0, none⟩ (.bool s_r)).setCell ⟨W_s.heap.size, 1, none⟩ (.slice a_r l_r c_r) = X := ⟨_, rfl⟩
                    have OA_ : Own W_11 w.heap.size 24 #[.int .u64 (L0 z0), .int .u64 (L1 z0), .int .u64 (L2 z0), .int .u64 (L3 z0)] := hW ▸ ((OA.apart (by omega) _ _).apart (by omega) _ _)
                    have OB_ : Own W_11 (w.heap.size + 1) 24 #[.int .u64 (L0 z1), .int .u64 (L1 z1), .int .u64 (L2 z1), .int .u64 (L3 z1)] := hW ▸ ((OB.apart (by omega) _ _).apart (by omega) _ _)
                    have U5_ : Own W_11 w1.heap.size 24 #[.int .u64 (L0 q), .int .u64 (L1 q), .int .u64 (L2 q), .int .u64 (L3 q)] := hW ▸ ((U5.apart (by omega) _ _).apart (by omega) _ _)
                    have U6_ : Own W_11 (w1.heap.size + 1) 24 #[.int .u64 (L0 r), .int .u64 (L1 r), .int .u64 (L2 r), .int .u64 (L3 r)] := hW ▸ ((U6.apart (by omega) _ _).apart (by omega) _ _)
                    have O9_ : Own W_11 W_s.heap.size 27 #[.bool s_r, .slice a_r l_r c_r] := hW ▸ (((O9.put 0 _).put 1 _).as rfl)
                    have O8_ : Own W_11 W_3.heap.size 27 #[.bool s_q, .slice a_q l_q c_q] := hW ▸ ((O8.apart (by omega) _ _).apart (by omega) _ _)
                    have NQ_ := hW ▸ (NQ.put (p := W_s.heap.size) (i := 0) (by omega) (.bool s_r)).put (p := W_s.heap.size) (i := 1) (by omega) (.slice a_r l_r c_r)
                    have NR_ := hW ▸ (NR.put (p := W_s.heap.size) (i := 0) (by omega) (.bool s_r)).put (p := W_s.heap.size) (i := 1) (by omega) (.slice a_r l_r c_r)
                    have hB_ : Below w.heap.size w W_11 := hW ▸ ((hB.setCell (by show w.heap.size ≤ W_s.heap.size; omega) _).setCell (by show w.heap.size ≤ W_s.heap.size; omega) _)
                    rw [hW]
                    clear hW
                    clear OA OB U5 U6 O9 O8 NQ NR hB
                    have OA := OA_
                    have OB := OB_
                    have U5 := U5_
                    have U6 := U6_
                    have O9 := O9_
                    have O8 := O8_
                    have NQ := NQ_
                    have NR := NR_
                    have hB := hB_
                    clear OA_ OB_ U5_ U6_ O9_ O8_ NQ_ NR_ hB_
                    refine tree_end (by kernel_rfl) ?_
                    go_wp2_with fail
                    go_meet
                    exact ⟨W_3.heap.size, W_s.heap.size, s_q, a_q, l_q, c_q, s_r, a_r, l_r, c_r, rfl, rfl, O8, O9, NQ.mono (fun _ _ _ => trivial), NR.mono (fun _ _ _ => trivial), U5, U6, hB⟩
        · refine ⟨_, rfl, fun K hK => ?_⟩
          go_wp2
          refine hK _ _ ⟨OA.more _, OB.more _, U5.more _, U6.more _⟩ ?_
          clear hK K
          obtain ⟨W_3, hW⟩ : ∃ X, W_2.alloc (.cells #[.bool false, .slice none 0 0] 27) = X := ⟨_, rfl⟩
          have hb_3 : Below W_2.heap.size W_2 W_3 := hW ▸ (Below.refl _ _).alloc (Nat.le_refl _) _
          have O8_ : Own W_3 W_2.heap.size 27 #[.bool false, .slice none 0 0] := hW ▸ Own.made _ _ _
          have sz_3 := O8_.in_
          rw [hW]
          clear hW
          replace OA := OA.keep hb_3
          replace OB := OB.keep hb_3
          replace U5 := U5.keep hb_3
          replace U6 := U6.keep hb_3
          replace O9 := O9.keep hb_3
          replace hB := then_ hB hb_3 hB.size
          clear hb_3
          have O8 := O8_
          clear O8_
          refine tree_one (i := 1) (by kernel_rfl) rfl ?_
          · refine ⟨_, rfl, fun K hK => ?_⟩
            go_wp2_with (go_at_call 10; refine (F0.out 0 W_3 (Nat.zero_le _)).mono ?_; rintro e W_4 ⟨v_, rfl, hn, hb_4⟩)
            have sz_4 := hb_4.size
            obtain ⟨s_x, a_x, l_x, c_x, rfl⟩ := hn.shape
            have NX := NumP.of hn (S := fun b => W_3.heap.size ≤ b ∧ b < W_4.heap.size) (fun b h1 h2 => ⟨by omega, h1⟩)
            clear hn
            replace OA := OA.keep hb_4
            replace OB := OB.keep hb_4
            replace U5 := U5.keep hb_4
            replace U6 := U6.keep hb_4
            replace O9 := O9.keep hb_4
            replace O8 := O8.keep hb_4
            replace hB := then_ hB hb_4 hB.size
            refine hK _ _ ⟨OA, OB, U5, U6⟩ ?_
            clear hK K hb_4
            refine tree_one (i := 3) (by kernel_rfl) rfl ?_
            · refine ⟨_, rfl, fun K hK => ?_⟩
              go_wp2_with (go_at_call 10; refine (F1.out 0 W_4 (Nat.zero_le _)).mono ?_; rintro e W_5 ⟨v_, rfl, hn, hb_5⟩)
              have sz_5 := hb_5.size
              obtain ⟨s_y, a_y, l_y, c_y, rfl⟩ := hn.shape
              have NY := NumP.of hn (S := fun b => W_4.heap.size ≤ b ∧ b < W_5.heap.size) (fun b h1 h2 => ⟨by omega, h1⟩)
              clear hn
              replace OA := OA.keep hb_5
              replace OB := OB.keep hb_5
              replace U5 := U5.keep hb_5
              replace U6 := U6.keep hb_5
              replace O9 := O9.keep hb_5
              replace O8 := O8.keep hb_5
              replace NX := NX.keep hb_5
              replace hB := then_ hB hb_5 hB.size
              refine hK _ _ ⟨OA, OB, U5, U6⟩ ?_
              clear hK K hb_5
              refine tree_one (i := 4) (by kernel_rfl) rfl ?_
              · refine ⟨_, rfl, fun K hK => ?_⟩
                go_wp2_with (go_at_call 21; refine (div_num _ 0 0 _ _ z0 z1 W_5 NX (NY.num (T := 0) (C := 0) (fun b _ _ => .inr (Nat.zero_le _))) HZ.out L0_.out L1_.out).mono ?_; rintro e W_6 ⟨v_, v__, rfl, hq, hr, hb_6⟩)
                have sz_6 := hb_6.size
                obtain ⟨s_q, a_q, l_q, c_q, rfl⟩ := hq.shape
                obtain ⟨s_r, a_r, l_r, c_r, rfl⟩ := hr.shape
                have NQ := hq.mono (S' := fun b => W_5.heap.size ≤ b ∧ b < W_6.heap.size) (fun b h1 h2 => ⟨h2, h1⟩)
                have NR := hr.mono (S' := fun b => (((W_3.heap.size ≤ b ∧ b < W_4.heap.size) ∧ b < W_5.heap.size) ∨ W_5.heap.size ≤ b) ∧ b < W_6.heap.size) (fun b h1 h2 => ⟨h2, h1⟩)
                clear hq hr NX NY
                replace OA := OA.keep hb_6
                replace OB := OB.keep hb_6
                replace U5 := U5.keep hb_6
                replace U6 := U6.keep hb_6
                replace O9 := O9.keep hb_6
                replace O8 := O8.keep hb_6
                replace hB := then_ hB hb_6 hB.size
                refine hK _ _ ⟨OA, OB, U5, U6⟩ ?_
                clear hK K hb_6
                refine tree_pure (i := 5) (v := ?_) rfl rfl (by kernel_rfl) (by kernel_rfl) (by kernel_rfl) rfl (fun W hS => ?_) ⟨OA, OB, U5, U6⟩ ?_
                rotate_left
                · conv => lhs; simp [go_sem]
                  first | done | exact rfl
                simp only [Act.put, List.setIfInBounds_toArray, List.set_cons_zero, List.set_cons_succ]
                refine tree_pure (i := 6) (v := ?_) rfl rfl (by kernel_rfl) (by kernel_rfl) (by kernel_rfl) rfl (fun W hS => ?_) ⟨OA, OB, U5, U6⟩ ?_
                rotate_left
                · conv => lhs; simp [go_sem]
                  first | done | exact rfl
                simp only [Act.put, List.setIfInBounds_toArray, List.set_cons_zero, List.set_cons_succ]
                refine tree_pure (i := 7) (v := ?_) rfl rfl (by kernel_rfl) (by kernel_rfl) (by kernel_rfl) rfl (fun W hS => ?_) ⟨OA, OB, U5, U6⟩ ?_
                rotate_left
                · conv => lhs; simp [go_sem]
                  first | done | exact rfl
                simp only [Act.put, List.setIfInBounds_toArray, List.set_cons_zero, List.set_cons_succ]
                refine tree_one (i := 10) (by kernel_rfl) rfl ?_
                · refine ⟨_, rfl, fun K hK => ?_⟩
                  have hfr := O8.at_
                  obtain ⟨P1, P2, P3⟩ := hfr
                  go_wp2
                  clear P1 P2 P3
                  refine hK _ _ ⟨(OA.apart (by omega) _ _).apart (by omega) _ _, (OB.apart (by omega) _ _).apart (by omega) _ _, (U5.apart (by omega) _ _).apart (by omega) _ _, (U6.apart (by omega) _ _).apart (by omega) _ _⟩ ?_
                  clear hK K
                  obtain ⟨W_10, hW⟩ : ∃ X, (W_6.setCell ⟨W_2.heap.size, 0, none⟩ (.bool s_q)).setCell ⟨W_2.heap.size, 1, none⟩ (.slice a_q l_q c_q) = X := ⟨_, rfl⟩
                  have OA_ : Own W_10 w.heap.size 24 #[.int .u64 (L0 z0), .int .u64 (L1 z0), .int .u64 (L2 z0), .int .u64 (L3 z0)] := hW ▸ ((OA.apart (by omega) _ _).apart (by omega) _ _)
                  have OB_ : Own W_10 (w.heap.size + 1) 24 #[.int .u64 (L0 z1), .int .u64 (L1 z1), .int .u64 (L2 z1), .int .u64 (L3 z1)] := hW ▸ ((OB.apart (by omega) _ _).apart (by omega) _ _)
                  have U5_ : Own W_10 w1.heap.size 24 #[.int .u64 (L0 q), .int .u64 (L1 q), .int .u64 (L2 q), .int .u64 (L3 q)] := hW ▸ ((U5.apart (by omega) _ _).apart (by omega) _ _)
                  have U6_ : Own W_10 (w1.heap.size + 1) 24 #[.int .u64 (L0 r), .int .u64 (L1 r), .int .u64 (L2 r), .int .u64 (L3 r)] := hW ▸ ((U6.apart (by omega) _ _).apart (by omega) _ _)
                  have O9_ : Own W_10 W_s.heap.size 27 #[.bool false, .slice none 0 0] := hW ▸ ((O9.apart (by omega) _ _).apart (by omega) _ _)
                  have O8_ : Own W_10 W_2.heap.size 27 #[.bool s_q, .slice a_q l_q c_q] := hW ▸ (((O8.put 0 _).put 1 _).as rfl)
                  have NQ_ := hW ▸ (NQ.put (p := W_2.heap.size) (i := 0) (by omega) (.bool s_q)).put (p := W_2.heap.size) (i := 1) (by omega) (.slice a_q l_q c_q)
                  have NR_ := hW ▸ (NR.put (p := W_2.heap.size) (i := 0) (by omega) (.bool s_q)).put (p := W_2.heap.size) (i := 1) (by omega) (.slice a_q l_q c_q)
                  have hB_ : Below w.heap.size w W_10 := hW ▸ ((hB.setCell (by show w.heap.size ≤ W_2.heap.size; omega) _).setCell (by show w.heap.size ≤ W_2.heap.size; omega) _)
                  rw [hW]
                  clear hW
                  clear OA OB U5 U6 O9 O8 NQ NR hB
                  have OA := OA_
                  have OB := OB_
                  have U5 := U5_
                  have U6 := U6_
                  have O9 := O9_
                  have O8 := O8_
                  have NQ := NQ_
                  have NR := NR_
                  have hB := hB_
                  clear OA_ OB_ U5_ U6_ O9_ O8_ NQ_ NR_ hB_
                  refine tree_one (i := 11) (by kernel_rfl) rfl ?_
                  · refine ⟨_, rfl, fun K hK => ?_⟩
                    have hfr := O9.at_
                    obtain ⟨P1, P2, P3⟩ := hfr
                    go_wp2
                    clear P1 P2 P3
                    refine hK _ _ ⟨(OA.apart (by omega) _ _).apart (by omega) _ _, (OB.apart (by omega) _ _).apart (by omega) _ _, (U5.apart (by omega) _ _).apart (by omega) _ _, (U6.apart (by omega) _ _).apart (by omega) _ _⟩ ?_
                    clear hK K
                    obtain ⟨W_11, hW⟩ : ∃ X, (W_10.setCell ⟨W_s.heap.size, 0, none⟩ (.bool s_r)).setCell ⟨W_s.heap.size, 1, none⟩ (.slice a_r l_r c_r) = X := ⟨_, rfl⟩
                    have OA_ : Own W_11 w.heap.size 24 #[.int .u64 (L0 z0), .int .u64 (L1 z0), .int .u64 (L2 z0), .int .u64 (L3 z0)] := hW ▸ ((OA.apart (by omega) _ _).apart (by omega) _ _)
                    have OB_ : Own W_11 (w.heap.size + 1) 24 #[.int .u64 (L0 z1), .int .u64 (L1 z1), .int .u64 (L2 z1), .int .u64 (L3 z1)] := hW ▸ ((OB.apart (by omega) _ _).apart (by omega) _ _)
                    have U5_ : Own W_11 w1.heap.size 24 #[.int .u64 (L0 q), .int .u64 (L1 q), .int .u64 (L2 q), .int .u64 (L3 q)] := hW ▸ ((U5.apart (by omega) _ _).apart (by omega) _ _)
                    have U6_ : Own W_11 (w1.heap.size + 1) 24 #[.int .u64 (L0 r), .int .u64 (L1 r), .int .u64 (L2 r), .int .u64 (L3 r)] := hW ▸ ((U6.apart (by omega) _ _).apart (by omega) _ _)
                    have O9_ : Own W_11 W_s.heap.size 27 #[.bool s_r, .slice a_r l_r c_r] := hW ▸ (((O9.put 0 _).put 1 _).as rfl)
                    have O8_ : Own W_11 W_2.heap.size 27 #[.bool s_q, .slice a_q l_q c_q] := hW ▸ ((O8.apart (by omega) _ _).apart (by omega) _ _)
                    have NQ_ := hW ▸ (NQ.put (p := W_s.heap.size) (i := 0) (by omega) (.bool s_r)).put (p := W_s.heap.size) (i := 1) (by omega) (.slice a_r l_r c_r)
                    have NR_ := hW ▸ (NR.put (p := W_s.heap.size) (i := 0) (by omega) (.bool s_r)).put (p := W_s.heap.size) (i := 1) (by omega) (.slice a_r l_r c_r)
                    have hB_ : Below w.heap.size w W_11 := hW ▸ ((hB.setCell (by show w.heap.size ≤ W_s.heap.size; omega) _).setCell (by show w.heap.size ≤ W_s.heap.size; omega) _)
                    rw [hW]
                    clear hW
                    clear OA OB U5 U6 O9 O8 NQ NR hB
                    have OA := OA_
                    have OB := OB_
                    have U5 := U5_
                    have U6 := U6_
                    have O9 := O9_
                    have O8 := O8_
                    have NQ := NQ_
                    have NR := NR_
                    have hB := hB_
                    clear OA_ OB_ U5_ U6_ O9_ O8_ NQ_ NR_ hB_
                    refine tree_end (by kernel_rfl) ?_
                    go_wp2_with fail
                    go_meet
                    exact ⟨W_2.heap.size, W_s.heap.size, s_q, a_q, l_q, c_q, s_r, a_r, l_r, c_r, rfl, rfl, O8, O9, NQ.mono (fun _ _ _ => trivial), NR.mono (fun _ _ _ => trivial), U5, U6, hB⟩
    case rest =>
      obtain ⟨b5, b6, s5, a5, l5, c5, s6, a6, l6, c6, rfl, rfl, O8, O9, NQ, NR, U5, U6, hB⟩ := hcut
      have HNQ := Lib.hid NQ
      have HNR := Lib.hid NR
      have HP0 := Lib.hid (show Pow10 wc from hp.out.keep hB)
      clear NQ NR F0 F1 L0_ L1_ HZ
      rcases HCC.out with ⟨h1, h2⟩ | ⟨h1, h2, h3⟩
      · subst h2
        have HA := Lib.hid h1
        clear h1 HCC HNR O9 U6
        go_wp2_with (first
          | (go_at_call 14; refine (awake_any _ HP0.out).mono ?_; rintro e w2 ⟨rfl, hb2⟩; have U5b := U5.keep hb2; have O8b := O8.keep hb2; have HNQb := Lib.hid (HNQ.out.keep hb2); have hB2 := then_ hB hb2 hB.size; obtain ⟨P1, P2, P3⟩ := U5b.at_; obtain ⟨Q1, Q2, Q3⟩ := O8b.at_)
          | (go_at_call 15; with_reducible refine (is_num _ _ _ (z0.tdiv z1) q 3 w2 (HNQb.out.old 0) HA.out).mono ?_; rintro e w3 ⟨rfl, hb3⟩))
        go_ret
        exact ⟨rfl, then_ hB2 hb3 hB2.size⟩
      · subst h3
        have HA := Lib.hid h1
        have HA2 := Lib.hid h2
        clear h1 h2 HCC
        go_wp2_with (first
          | (go_at_call 14; refine (awake_any _ HP0.out).mono ?_; rintro e w2 ⟨rfl, hb2⟩; have U5b := U5.keep hb2; have U6b := U6.keep hb2; have O8b := O8.keep hb2; have O9b := O9.keep hb2; have HNQb := Lib.hid (HNQ.out.keep hb2); have HNRb := Lib.hid (HNR.out.keep hb2); have hB2 := then_ hB hb2 hB.size; obtain ⟨P1, P2, P3⟩ := U5b.at_; obtain ⟨Q1, Q2, Q3⟩ := O8b.at_)
          | (go_at_call 15; with_reducible refine (is_num _ _ _ (z0.tdiv z1) q 0 w2 (HNQb.out.old 0) HA.out).mono ?_; rintro e w3 ⟨rfl, hb3⟩; have U6c := U6b.keep hb3; have O9c := O9b.keep hb3; have HNRc := Lib.hid (HNRb.out.keep hb3); have hB3 := then_ hB2 hb3 hB2.size; clear P1 P2 P3 Q1 Q2 Q3; obtain ⟨P1, P2, P3⟩ := U6c.at_; obtain ⟨Q1, Q2, Q3⟩ := O9c.at_)
          | (go_at_call 15; with_reducible refine (is_num _ _ _ (z0.tmod z1) r 0 w3 (HNRc.out.old 0) HA2.out).mono ?_; rintro e w4 ⟨rfl, hb4⟩))
        go_ret
        exact ⟨rfl, then_ hB3 hb4 hB3.size⟩

set_option maxRecDepth 100000 in
theorem lifted (os : Os) (started : os.Started) (H : Type) (enc : TypeId × Value → H) :
    ReturnsInHanded {} Tryd.checked os 5 .any (fun w args => (Rows.wideQuotientsSpec.pre enc Tryd.prog Tryd.f5 [] false w args ∧ laidMetH Tryd.prog lay3 w) ∧ sizedMet enc Tryd.prog Tryd.f5 (OpenSpec.ofChange Rows.wideQuotientsSpec) false w args) (Rows.wideQuotientsSpec.post enc Tryd.prog Tryd.f5 false true false false) := by
  refine returnsInHanded_of_change_and (C := Tryd.checked) (X := fun w _ => laidMetH Tryd.prog lay3 w) (fun _ _ _ hh h => h.of_heap hh) own started (by kernel_rfl) Tryd.func5
    (ChangeSpec.witness_shaped (enc := enc) (C := Tryd.checked) (os := os) (X := fun w _ => laidMetH Tryd.prog lay3 w) false (World.doorLaid Tryd.prog 400 os) #[.agg #[.int .u64 0, .int .u64 0, .int .u64 0, .int .u64 0], .agg #[.int .u64 0, .int .u64 0, .int .u64 0, .int .u64 0]] 8 rfl (World.shaped_of_RefB (by kernel_rfl) (by kernel_rfl)) (by kernel_rfl) (by kernel_rfl) (by kernel_rfl) (door_met os _)) ?_
  intro W base args ds gs before hval0 hW _ _ hL _
  have hval : ∀ (j : Nat) t v, Tryd.f5.params[j]? = some t → args[j]? = some v → Value.okWide Tryd.prog W .any base t v := hval0
  have hW' := hW
  obtain ⟨p, q, hA0, hV, rfl, hfz, hnd⟩ := hW
  have hA : DataW.TrodAll enc Tryd.prog W 0 (fun _ => true) true Tryd.f5.params.toList args.toList ds p := hA0
  rw [Tryd.params5] at hA hval
  obtain ⟨v0, vs0, d0, ds0, p0, q0, hargs, rfl, rfl, h0, r0⟩ := trodAll_cons hA
  obtain ⟨v1, vs1, d1, ds1, p1, q1, rfl, rfl, rfl, h1, r1⟩ := trodAll_cons r0
  obtain ⟨rfl, rfl, rfl⟩ := trodAll_nil r1
  obtain rfl : args = #[v0, v1] := by cases args; simp_all
  obtain ⟨rfl, rfl⟩ := trodVars_none hV
  obtain ⟨z0, rfl, rfl, rfl, f0⟩ := open_i4 (hval 0 24 v0 rfl rfl) h0
  obtain ⟨z1, rfl, rfl, rfl, f1⟩ := open_i4 (hval 1 24 v1 rfl rfl) h1
  clear hA0 hval0
  refine (walk z0 z1 W f0 f1 (pow_of hL)).mono fun e W' ⟨he, bel⟩ => ?_
  subst he
  exact ⟨_, rfl, _, _, _, [], _, [], hW', trodAll_mk1 (shut_bool Tryd.underlying4 _), (trodAll_cons_mk (shut_i4 _) (trodAll_cons_mk (shut_i4 _) trodAll_mk0)), rfl, bel.frame _, fun h => by cases h⟩

theorem over : Rows.WideQuotientsSaid :=
  OpenClaim.holds_of_wide 5 Tryd.f5 rfl rfl rfl rfl rfl rfl rfl ⟨rfl, rfl, rfl, rfl, rfl⟩ rfl rfl rfl rfl rfl (by kernel_rfl) Tryd.func5 (by kernel_rfl)
    (of_decide_eq_true (by kernel_rfl)) (by unfold Func.isWrapper; first | (rw [if_pos (by decide +kernel)]; kernel_rfl) | (rw [if_neg (by decide +kernel)]; exact ⟨rfl, rfl⟩))
    (fun os started H enc _ => lifted os started H enc)

/-- THE STATEMENT -/
theorem proved : Rows.WideQuotientsCardSaid :=
  Claim7.holds_tied_plain_at .later [] [.data, .data, .data] true (true, "967dca3fa14bcff598b7a8224b9eaf3b9bea7657f4d3a184d0d0e975bb1324a6") false
    over (fun _ h => by cases h) (by kernel_rfl) (fun _ h => by cases h) wideQuotients_row_tie rfl ⟨rfl, rfl⟩ (by kernel_rfl) rfl
    (fun f fn hf hfn => by
      obtain rfl : f = 5 := Option.some.inj ((show Tryd.prog.funcNamed "croft/croftlaw03.WideQuotients" = some 5 by kernel_rfl).symm.trans hf) |>.symm
      obtain rfl : fn = Tryd.f5 := (Option.some.inj (Tryd.func5.symm.trans hfn)).symm
      exact ⟨by kernel_rfl, fun j t ht => by
        rw [Tryd.params5] at ht
        have hm : t ∈ [24, 24] := by simpa using Array.mem_of_getElem? ht
        have hall : ([24, 24].all fun u => !Tryd.prog.wantsStandIn u) = true := by kernel_rfl
        exact (show Tryd.prog.wantsStandIn t = false by simpa using List.all_eq_true.1 hall t hm)⟩)
    (by kernel_rfl)
#print axioms proved
end Go.Proofs.YtdnjkminicmffaaDoor.wideQuotients
