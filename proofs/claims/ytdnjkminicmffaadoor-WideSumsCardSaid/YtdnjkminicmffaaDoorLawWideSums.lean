/- WideSums: sums, differences and negatives of any numbers are the document's, or don't fit; the tables start as the program's text lays them. -/
import Derived.Test.YtdnjkminicmffaaDoorRows
import Derived.Test.YtdnjkminicmffaaDoorBase
import Derived.Test.YtdnjkminicmffaaDoorRefW
import Derived.Test.YtdnjkminicmffaaDoorRefY
import Derived.Test.YtdnjkminicmffaaDoorFloA
import Derived.Test.YtdnjkminicmffaaDoorTree
import Derived.Test.YtdnjkminicmffaaDoorSeq
import Derived.Test.YtdnjkminicmffaaDoorAw3
import Derived.Test.YtdnjkminicmffaaDoorMemoZ
import Derived.Test.YtdnjkminicmffaaDoorWideJ
import Derived.WalkKit
import Derived.ProofKit
import Derived.OpenShut
import Derived.ShutString
import Derived.ChangeOld
import Derived.Below
import Derived.SliceStrings
import Derived.Test.YtdnjkminicmffaaDoorLaid
import Derived.Test.YtdnjkminicmffaaDoorCards
import Derived.Test.YtdnjkminicmffaaDoorTie
import Derived.LaidMore
import Derived.Stop.Joined
import Derived.SevenTiedAt
namespace Go.Proofs.YtdnjkminicmffaaDoor.wideSums
open Go.ChangeShapes Go.WideShapes Go.ChangeAt Go.RowKit
open Go.ChangeMaps (open_string shut_string)
set_option linter.unusedVariables false

set_option linter.unusedSimpArgs false
theorem digs_short {n k : Nat} (h : (n : Int) < 65536 ^ k) : (digs n).length ≤ k := by
  rcases Nat.lt_or_ge k (digs n).length with hk | hk
  · exfalso
    have hn : n ≠ 0 := by rintro rfl; rw [digs_zero] at hk; simp at hk
    obtain ⟨h1, _⟩ := digs_len hn
    have h2 : (65536 : Int) ^ k ≤ 65536 ^ ((digs n).length - 1) := by
      obtain ⟨t, ht⟩ : ∃ t, (digs n).length - 1 = k + t := ⟨(digs n).length - 1 - k, by omega⟩
      rw [ht, Int.pow_add]
      have h4 : (0 : Int) < 65536 ^ k := Int.pow_pos (by decide)
      have h5 : (0 : Int) < 65536 ^ t := Int.pow_pos (by decide)
      have := Int.mul_le_mul_of_nonneg_left (show (1 : Int) ≤ 65536 ^ t by omega) (show (0 : Int) ≤ 65536 ^ k by omega)
      omega
    omega
  · exact hk
theorem fit_short {z : Int} (h : Fit z) : (digs z.natAbs).length ≤ 16 := by
  refine digs_short ?_
  obtain ⟨h1, h2⟩ := h
  rw [show (65536 : Int) ^ 16 = 115792089237316195423570985008687907853269984665640564039457584007913129639936 by decide]
  omega
theorem neg_case (z : Int) (fz : Fit z) : ∃ r er, (∀ w, Calls Tryd.prog 13 #[.agg #[.int .u64 (L0 z), .int .u64 (L1 z), .int .u64 (L2 z), .int .u64 (L3 z)]] w fun e w' => e = .returned (.tuple #[.agg #[.int .u64 (L0 r), .int .u64 (L1 r), .int .u64 (L2 r), .int .u64 (L3 r)], .int .i64 er]) ∧ Below w.heap.size w w') ∧ Ans (-z) r er := by
  by_cases h : Fit (0 - z)
  · exact ⟨0 - z, 0, neg_fit z fz h, .inl ⟨by rw [← Int.zero_sub]; exact h, by omega, rfl⟩⟩
  · exact ⟨0, 3, fun w => neg_large z fz h w, .inr ⟨by rw [← Int.zero_sub]; exact h, rfl, rfl⟩⟩
theorem gives_case {F : Nat} {x y z r er : Int} (h : Gives F x y z r er) : Ans z r er := by
  rcases h.2.2 with ⟨a, b, c⟩ | ⟨a, b, c⟩
  · exact .inl ⟨c, b, a⟩
  · exact .inr ⟨c, b, a⟩

theorem own : ownKnob Tryd.prog.godebug = none := by kernel_rfl
theorem laidOut : laidOutB Tryd.prog = true := by kernel_rfl

set_option maxHeartbeats 64000000 in
set_option maxRecDepth 20000 in
theorem walk (z0 : Int) (z1 : Int) (w : World) (f0 : Fit z0) (f1 : Fit z1) (hp : Pow10 w) :
    Calls Tryd.prog 3 #[.agg #[.int .u64 (L0 z0), .int .u64 (L1 z0), .int .u64 (L2 z0), .int .u64 (L3 z0)], .agg #[.int .u64 (L0 z1), .int .u64 (L1 z1), .int .u64 (L2 z1), .int .u64 (L3 z1)]] w fun e w' => e = .returned (.bool true) ∧ Below w.heap.size w w' := by
  have F0 := Lib.hid (fun T w h => from_num T z0 f0 w h)
  have F1 := Lib.hid (fun T w h => from_num T z1 f1 w h)
  have S0 := Lib.hid (fit_short f0)
  have S1 := Lib.hid (fit_short f1)
  obtain ⟨r1, e1, GA⟩ := add_both z0 z1 f0 f1
  obtain ⟨r2, e2, GS⟩ := sub_both z0 z1 f0 f1
  obtain ⟨r3, e3, NE1, hneg⟩ := neg_case z0 f0
  have HA1 := Lib.hid (gives_case GA)
  have HA2 := Lib.hid (gives_case GS)
  have HA3 := Lib.hid hneg
  have AD := Lib.hid GA.1
  have SB := Lib.hid GS.1
  have NE := Lib.hid NE1
  replace hp := Lib.hid hp
  clear GA GS NE1 hneg f0 f1
  go_enter Tryd.func3, Tryd.ntmps3
  go_upto_region 1 with fail
  go_name_world W0 hW0e
  have OA : Own W0 w.heap.size 24 #[.int .u64 (L0 z0), .int .u64 (L1 z0), .int .u64 (L2 z0), .int .u64 (L3 z0)] := hW0e ▸ (by repeat' (first | (with_reducible assumption) | (with_reducible refine Own.drawnN ?_ _) | (with_reducible refine Own.drawn ?_) | (with_reducible refine Own.made_at ?_; first | rfl | (simp; done) | omega | (simp; omega)) | (with_reducible refine Own.more ?_ _) | (with_reducible refine Own.apart ?_ ?_ _ _; rotate_left; first | omega | (simp; done) | (simp; omega)) | (refine Own.put ?_ _ _)))
  have OB : Own W0 (w.heap.size + 1) 24 #[.int .u64 (L0 z1), .int .u64 (L1 z1), .int .u64 (L2 z1), .int .u64 (L3 z1)] := hW0e ▸ (by repeat' (first | (with_reducible assumption) | (with_reducible refine Own.drawnN ?_ _) | (with_reducible refine Own.drawn ?_) | (with_reducible refine Own.made_at ?_; first | rfl | (simp; done) | omega | (simp; omega)) | (with_reducible refine Own.more ?_ _) | (with_reducible refine Own.apart ?_ ?_ _ _; rotate_left; first | omega | (simp; done) | (simp; omega)) | (refine Own.put ?_ _ _)))
  have hB : Below w.heap.size w W0 := hW0e ▸ (by repeat' (first | (with_reducible exact Below.refl _ _) | (with_reducible assumption) | (with_reducible refine below_drewN ?_ _) | (with_reducible refine Below.drew ?_) | (with_reducible refine Below.alloc ?_ ?_ _) | (with_reducible refine Below.setCell ?_ ?_ _) | (with_reducible refine then_ ?_ (by with_reducible assumption) ?_) | (with_reducible exact Nat.le_refl _) | (with_reducible exact Nat.le_succ _) | (with_reducible exact Nat.le_succ_of_le (by with_reducible assumption)) | omega | (simp; done) | (simp; omega) | (exact Nat.le_succ _) | (exact Nat.le_succ_of_le (by with_reducible assumption))))
  have sz0 := OB.in_
  clear hW0e
  go_cut [5, 6] (fun u v wx => ∃ (b5 b6 : Nat) (s5 : Bool) (a5 : Option Addr) (l5 c5 : Nat) (s6 : Bool) (a6 : Option Addr) (l6 c6 : Nat), u = .pointer (some ⟨b5, 0, none⟩) ∧ v = .pointer (some ⟨b6, 0, none⟩) ∧ Own wx b5 27 #[.bool s5, .slice a5 l5 c5] ∧ Own wx b6 27 #[.bool s6, .slice a6 l6 c6] ∧ NumP wx (fun _ => True) (.agg #[.bool s5, .slice a5 l5 c5]) z0 ∧ NumP wx (fun _ => True) (.agg #[.bool s6, .slice a6 l6 c6]) z1 ∧ Own wx w.heap.size 24 #[.int .u64 (L0 z0), .int .u64 (L1 z0), .int .u64 (L2 z0), .int .u64 (L3 z0)] ∧ Own wx (w.heap.size + 1) 24 #[.int .u64 (L0 z1), .int .u64 (L1 z1), .int .u64 (L2 z1), .int .u64 (L3 z1)] ∧ Below w.heap.size w wx)
  case first =>
    refine wp_region_tree (fun W => Own W w.heap.size 24 #[.int .u64 (L0 z0), .int .u64 (L1 z0), .int .u64 (L2 z0), .int .u64 (L3 z0)] ∧ Own W (w.heap.size + 1) 24 #[.int .u64 (L0 z1), .int .u64 (L1 z1), .int .u64 (L2 z1), .int .u64 (L3 z1)]) [0, 2] [0, 2] 8 (by kernel_rfl) rfl ?_
    replace OA := OA.drawn
    replace OB := OB.drawn
    replace hB := hB.drew
    obtain ⟨W_s, hWs⟩ : ∃ X, W0.drew = X := ⟨_, rfl⟩
    rw [hWs] at OA OB hB ⊢
    replace sz0 := OB.in_
    clear hWs
    refine tree_pure (i := 0) (v := ?_) rfl rfl (by kernel_rfl) (by kernel_rfl) (by kernel_rfl) rfl (fun W hS => ?_) ⟨OA, OB⟩ ?_
    rotate_left
    · have hS := hS rfl
      obtain ⟨q0, q1⟩ := hS
      obtain ⟨q01, q02, q03⟩ := q0.at_
      obtain ⟨q11, q12, q13⟩ := q1.at_
      conv => lhs; simp [go_sem, *]
      first | done | exact rfl
    simp only [Act.put, List.setIfInBounds_toArray, List.set_cons_zero, List.set_cons_succ]
    refine tree_pure (i := 2) (v := ?_) rfl rfl (by kernel_rfl) (by kernel_rfl) (by kernel_rfl) rfl (fun W hS => ?_) ⟨OA, OB⟩ ?_
    rotate_left
    · have hS := hS rfl
      obtain ⟨q0, q1⟩ := hS
      obtain ⟨q01, q02, q03⟩ := q0.at_
      obtain ⟨q11, q12, q13⟩ := q1.at_
      conv => lhs; simp [go_sem, *]
      first | done | exact rfl
    simp only [Act.put, List.setIfInBounds_toArray, List.set_cons_zero, List.set_cons_succ]
    refine tree_three (i := 1) (k := 4) (m := 5) (by kernel_rfl) rfl rfl rfl ?_ ?_ ?_
    · refine ⟨_, rfl, fun K hK => ?_⟩
      go_wp2_with (go_at_call 10; refine (F0.out 0 W_s (Nat.zero_le _)).mono ?_; rintro e W_2 ⟨v_, rfl, hn, hb_2⟩)
      have sz_2 := hb_2.size
      obtain ⟨s_x, a_x, l_x, c_x, rfl⟩ := hn.shape
      have NX := NumP.of hn (S := fun b => W_s.heap.size ≤ b ∧ b < W_2.heap.size) (fun b h1 h2 => ⟨by omega, h1⟩)
      clear hn
      replace OA := OA.keep hb_2
      replace OB := OB.keep hb_2
      replace hB := then_ hB hb_2 hB.size
      refine hK _ _ ⟨OA, OB⟩ ?_
      clear hK K hb_2
      refine tree_three (i := 3) (k := 4) (m := 5) (by kernel_rfl) rfl rfl rfl ?_ ?_ ?_
      · refine ⟨_, rfl, fun K hK => ?_⟩
        go_wp2_with (go_at_call 10; refine (F1.out 0 W_2 (Nat.zero_le _)).mono ?_; rintro e W_3 ⟨v_, rfl, hn, hb_3⟩)
        have sz_3 := hb_3.size
        obtain ⟨s_y, a_y, l_y, c_y, rfl⟩ := hn.shape
        have NY := NumP.of hn (S := fun b => W_2.heap.size ≤ b ∧ b < W_3.heap.size) (fun b h1 h2 => ⟨by omega, h1⟩)
        clear hn
        replace OA := OA.keep hb_3
        replace OB := OB.keep hb_3
        replace NX := NX.keep hb_3
        replace hB := then_ hB hb_3 hB.size
        refine hK _ _ ⟨OA, OB⟩ ?_
        clear hK K hb_3
        refine tree_two (i := 4) (k := 5) (by kernel_rfl) rfl rfl ?_ ?_
        · refine ⟨_, rfl, fun K hK => ?_⟩
          go_wp2
          refine hK _ _ ⟨OA.more _, OB.more _⟩ ?_
          clear hK K
          obtain ⟨W_4, hW⟩ : ∃ X, W_3.alloc (.cells #[.bool false, .slice none 0 0] 27) = X := ⟨_, rfl⟩
          have hb_4 : Below W_3.heap.size W_3 W_4 := hW ▸ (Below.refl _ _).alloc (Nat.le_refl _) _
          have O5_ : Own W_4 W_3.heap.size 27 #[.bool false, .slice none 0 0] := hW ▸ Own.made _ _ _
          have sz_4 := O5_.in_
          rw [hW]
          clear hW
          replace OA := OA.keep hb_4
          replace OB := OB.keep hb_4
          replace NX := NX.keep hb_4
          replace NY := NY.keep hb_4
          replace hB := then_ hB hb_4 hB.size
          clear hb_4
          have O5 := O5_
          clear O5_
          refine tree_one (i := 5) (by kernel_rfl) rfl ?_
          · refine ⟨_, rfl, fun K hK => ?_⟩
            go_wp2
            refine hK _ _ ⟨OA.more _, OB.more _⟩ ?_
            clear hK K
            obtain ⟨W_5, hW⟩ : ∃ X, W_4.alloc (.cells #[.bool false, .slice none 0 0] 27) = X := ⟨_, rfl⟩
            have hb_5 : Below W_4.heap.size W_4 W_5 := hW ▸ (Below.refl _ _).alloc (Nat.le_refl _) _
            have O6_ : Own W_5 W_4.heap.size 27 #[.bool false, .slice none 0 0] := hW ▸ Own.made _ _ _
            have sz_5 := O6_.in_
            rw [hW]
            clear hW
            replace OA := OA.keep hb_5
            replace OB := OB.keep hb_5
            replace O5 := O5.keep hb_5
            replace NX := NX.keep hb_5
            replace NY := NY.keep hb_5
            replace hB := then_ hB hb_5 hB.size
            clear hb_5
            have O6 := O6_
            clear O6_
            refine tree_one (i := 6) (by kernel_rfl) rfl ?_
            · refine ⟨_, rfl, fun K hK => ?_⟩
              have hfr := O5.at_
              obtain ⟨P1, P2, P3⟩ := hfr
              go_wp2
              clear P1 P2 P3
              refine hK _ _ ⟨(OA.apart (by omega) _ _).apart (by omega) _ _, (OB.apart (by omega) _ _).apart (by omega) _ _⟩ ?_
              clear hK K
              obtain ⟨W_6, hW⟩ : ∃ X, (W_5.setCell ⟨W_3.heap.size, 0, none⟩ (.bool s_x)).setCell ⟨W_3.heap.size, 1, none⟩ (.slice a_x l_x c_x) = X := ⟨_, rfl⟩
              have OA_ : Own W_6 w.heap.size 24 #[.int .u64 (L0 z0), .int .u64 (L1 z0), .int .u64 (L2 z0), .int .u64 (L3 z0)] := hW ▸ ((OA.apart (by omega) _ _).apart (by omega) _ _)
              have OB_ : Own W_6 (w.heap.size + 1) 24 #[.int .u64 (L0 z1), .int .u64 (L1 z1), .int .u64 (L2 z1), .int .u64 (L3 z1)] := hW ▸ ((OB.apart (by omega) _ _).apart (by omega) _ _)
              have O5_ : Own W_6 W_3.heap.size 27 #[.bool s_x, .slice a_x l_x c_x] := hW ▸ (((O5.put 0 _).put 1 _).as rfl)
              have O6_ : Own W_6 W_4.heap.size 27 #[.bool false, .slice none 0 0] := hW ▸ ((O6.apart (by omega) _ _).apart (by omega) _ _)
              have NX_ := hW ▸ (NX.put (p := W_3.heap.size) (i := 0) (by omega) (.bool s_x)).put (p := W_3.heap.size) (i := 1) (by omega) (.slice a_x l_x c_x)
              have NY_ := hW ▸ (NY.put (p := W_3.heap.size) (i := 0) (by omega) (.bool s_x)).put (p := W_3.heap.size) (i := 1) (by omega) (.slice a_x l_x c_x)
              have hB_ : Below w.heap.size w W_6 := hW ▸ ((hB.setCell (by show w.heap.size ≤ W_3.heap.size; omega) _).setCell (by show w.heap.size ≤ W_3.heap.size; omega) _)
              rw [hW]
              clear hW
              clear OA OB O5 O6 NX NY hB
              have OA := OA_
              have OB := OB_
              have O5 := O5_
              have O6 := O6_
              have NX := NX_
              have NY := NY_
              have hB := hB_
              clear OA_ OB_ O5_ O6_ NX_ NY_ hB_
              refine tree_one (i := 7) (by kernel_rfl) rfl ?_
              · refine ⟨_, rfl, fun K hK => ?_⟩
                have hfr := O6.at_
                obtain ⟨P1, P2, P3⟩ := hfr
                go_wp2
                clear P1 P2 P3
                refine hK _ _ ⟨(OA.apart (by omega) _ _).apart (by omega) _ _, (OB.apart (by omega) _ _).apart (by omega) _ _⟩ ?_
                clear hK K
                obtain ⟨W_7, hW⟩ : ∃ X, (W_6.setCell ⟨W_4.heap.size, 0, none⟩ (.bool s_y)).setCell ⟨W_4.heap.size, 1, none⟩ (.slice a_y l_y c_y) = X := ⟨_, rfl⟩
                have OA_ : Own W_7 w.heap.size 24 #[.int .u64 (L0 z0), .int .u64 (L1 z0), .int .u64 (L2 z0), .int .u64 (L3 z0)] := hW ▸ ((OA.apart (by omega) _ _).apart (by omega) _ _)
                have OB_ : Own W_7 (w.heap.size + 1) 24 #[.int .u64 (L0 z1), .int .u64 (L1 z1), .int .u64 (L2 z1), .int .u64 (L3 z1)] := hW ▸ ((OB.apart (by omega) _ _).apart (by omega) _ _)
                have O5_ : Own W_7 W_3.heap.size 27 #[.bool s_x, .slice a_x l_x c_x] := hW ▸ ((O5.apart (by omega) _ _).apart (by omega) _ _)
                have O6_ : Own W_7 W_4.heap.size 27 #[.bool s_y, .slice a_y l_y c_y] := hW ▸ (((O6.put 0 _).put 1 _).as rfl)
                have NX_ := hW ▸ (NX.put (p := W_4.heap.size) (i := 0) (by omega) (.bool s_y)).put (p := W_4.heap.size) (i := 1) (by omega) (.slice a_y l_y c_y)
                have NY_ := hW ▸ (NY.put (p := W_4.heap.size) (i := 0) (by omega) (.bool s_y)).put (p := W_4.heap.size) (i := 1) (by omega) (.slice a_y l_y c_y)
                have hB_ : Below w.heap.size w W_7 := hW ▸ ((hB.setCell (by show w.heap.size ≤ W_4.heap.size; omega) _).setCell (by show w.heap.size ≤ W_4.heap.size; omega) _)
                rw [hW]
                clear hW
                clear OA OB O5 O6 NX NY hB
                have OA := OA_
                have OB := OB_
                have O5 := O5_
                have O6 := O6_
                have NX := NX_
                have NY := NY_
                have hB := hB_
                clear OA_ OB_ O5_ O6_ NX_ NY_ hB_
                refine tree_end (by kernel_rfl) ?_
                go_wp2_with fail
                go_meet
                exact ⟨W_3.heap.size, W_4.heap.size, s_x, a_x, l_x, c_x, s_y, a_y, l_y, c_y, rfl, rfl, O5, O6, NX.mono (fun _ _ _ => trivial), NY.mono (fun _ _ _ => trivial), OA, OB, hB⟩
        · refine ⟨_, rfl, fun K hK => ?_⟩
          go_wp2
          refine hK _ _ ⟨OA.more _, OB.more _⟩ ?_
          clear hK K
          obtain ⟨W_4, hW⟩ : ∃ X, W_3.alloc (.cells #[.bool false, .slice none 0 0] 27) = X := ⟨_, rfl⟩
          have hb_4 : Below W_3.heap.size W_3 W_4 := hW ▸ (Below.refl _ _).alloc (Nat.le_refl _) _
          have O6_ : Own W_4 W_3.heap.size 27 #[.bool false, .slice none 0 0] := hW ▸ Own.made _ _ _
          have sz_4 := O6_.in_
          rw [hW]
          clear hW
          replace OA := OA.keep hb_4
          replace OB := OB.keep hb_4
          replace NX := NX.keep hb_4
          replace NY := NY.keep hb_4
          replace hB := then_ hB hb_4 hB.size
          clear hb_4
          have O6 := O6_
          clear O6_
          refine tree_one (i := 4) (by kernel_rfl) rfl ?_
          · refine ⟨_, rfl, fun K hK => ?_⟩
            go_wp2
            refine hK _ _ ⟨OA.more _, OB.more _⟩ ?_
            clear hK K
            obtain ⟨W_5, hW⟩ : ∃ X, W_4.alloc (.cells #[.bool false, .slice none 0 0] 27) = X := ⟨_, rfl⟩
            have hb_5 : Below W_4.heap.size W_4 W_5 := hW ▸ (Below.refl _ _).alloc (Nat.le_refl _) _
            have O5_ : Own W_5 W_4.heap.size 27 #[.bool false, .slice none 0 0] := hW ▸ Own.made _ _ _
            have sz_5 := O5_.in_
            rw [hW]
            clear hW
            replace OA := OA.keep hb_5
            replace OB := OB.keep hb_5
            replace O6 := O6.keep hb_5
            replace NX := NX.keep hb_5
            replace NY := NY.keep hb_5
            replace hB := then_ hB hb_5 hB.size
            clear hb_5
            have O5 := O5_
            clear O5_
            refine tree_one (i := 6) (by kernel_rfl) rfl ?_
            · refine ⟨_, rfl, fun K hK => ?_⟩
              have hfr := O5.at_
              obtain ⟨P1, P2, P3⟩ := hfr
              go_wp2
              clear P1 P2 P3
              refine hK _ _ ⟨(OA.apart (by omega) _ _).apart (by omega) _ _, (OB.apart (by omega) _ _).apart (by omega) _ _⟩ ?_
              clear hK K
              obtain ⟨W_6, hW⟩ : ∃ X, (W_5.setCell ⟨W_4.heap.size, 0, none⟩ (.bool s_x)).setCell ⟨W_4.heap.size, 1, none⟩ (.slice a_x l_x c_x) = X := ⟨_, rfl⟩
              have OA_ : Own W_6 w.heap.size 24 #[.int .u64 (L0 z0), .int .u64 (L1 z0), .int .u64 (L2 z0), .int .u64 (L3 z0)] := hW ▸ ((OA.apart (by omega) _ _).apart (by omega) _ _)
              have OB_ : Own W_6 (w.heap.size + 1) 24 #[.int .u64 (L0 z1), .int .u64 (L1 z1), .int .u64 (L2 z1), .int .u64 (L3 z1)] := hW ▸ ((OB.apart (by omega) _ _).apart (by omega) _ _)
              have O6_ : Own W_6 W_3.heap.size 27 #[.bool false, .slice none 0 0] := hW ▸ ((O6.apart (by omega) _ _).apart (by omega) _ _)
              have O5_ : Own W_6 W_4.heap.size 27 #[.bool s_x, .slice a_x l_x c_x] := hW ▸ (((O5.put 0 _).put 1 _).as rfl)
              have NX_ := hW ▸ (NX.put (p := W_4.heap.size) (i := 0) (by omega) (.bool s_x)).put (p := W_4.heap.size) (i := 1) (by omega) (.slice a_x l_x c_x)
              have NY_ := hW ▸ (NY.put (p := W_4.heap.size) (i := 0) (by omega) (.bool s_x)).put (p := W_4.heap.size) (i := 1) (by omega) (.slice a_x l_x c_x)
              have hB_ : Below w.heap.size w W_6 := hW ▸ ((hB.setCell (by show w.heap.size ≤ W_4.heap.size; omega) _).setCell (by show w.heap.size ≤ W_4.heap.size; omega) _)
              rw [hW]
              clear hW
              clear OA OB O6 O5 NX NY hB
              have OA := OA_
              have OB := OB_
              have O6 := O6_
              have O5 := O5_
              have NX := NX_
              have NY := NY_
              have hB := hB_
              clear OA_ OB_ O6_ O5_ NX_ NY_ hB_
              refine tree_one (i := 7) (by kernel_rfl) rfl ?_
              · refine ⟨_, rfl, fun K hK => ?_⟩
                have hfr := O6.at_
                obtain ⟨P1, P2, P3⟩ := hfr
                go_wp2
                clear P1 P2 P3
                refine hK _ _ ⟨(OA.apart (by omega) _ _).apart (by omega) _ _, (OB.apart (by omega) _ _).apart (by omega) _ _⟩ ?_
                clear hK K
                obtain ⟨W_7, hW⟩ : ∃ X, (W_6.setCell ⟨W_3.heap.size, 0, none⟩ (.bool s_y)).setCell ⟨W_3.heap.size, 1, none⟩ (.slice a_y l_y c_y) = X := ⟨_, rfl⟩
                have OA_ : Own W_7 w.heap.size 24 #[.int .u64 (L0 z0), .int .u64 (L1 z0), .int .u64 (L2 z0), .int .u64 (L3 z0)] := hW ▸ ((OA.apart (by omega) _ _).apart (by omega) _ _)
                have OB_ : Own W_7 (w.heap.size + 1) 24 #[.int .u64 (L0 z1), .int .u64 (L1 z1), .int .u64 (L2 z1), .int .u64 (L3 z1)] := hW ▸ ((OB.apart (by omega) _ _).apart (by omega) _ _)
                have O6_ : Own W_7 W_3.heap.size 27 #[.bool s_y, .slice a_y l_y c_y] := hW ▸ (((O6.put 0 _).put 1 _).as rfl)
                have O5_ : Own W_7 W_4.heap.size 27 #[.bool s_x, .slice a_x l_x c_x] := hW ▸ ((O5.apart (by omega) _ _).apart (by omega) _ _)
                have NX_ := hW ▸ (NX.put (p := W_3.heap.size) (i := 0) (by omega) (.bool s_y)).put (p := W_3.heap.size) (i := 1) (by omega) (.slice a_y l_y c_y)
                have NY_ := hW ▸ (NY.put (p := W_3.heap.size) (i := 0) (by omega) (.bool s_y)).put (p := W_3.heap.size) (i := 1) (by omega) (.slice a_y l_y c_y)
                have hB_ : Below w.heap.size w W_7 := hW ▸ ((hB.setCell (by show w.heap.size ≤ W_3.heap.size; omega) _).setCell (by show w.heap.size ≤ W_3.heap.size; omega) _)
                rw [hW]
                clear hW
                clear OA OB O6 O5 NX NY hB
                have OA := OA_
                have OB := OB_
                have O6 := O6_
                have O5 := O5_
                have NX := NX_
                have NY := NY_
                have hB := hB_
                clear OA_ OB_ O6_ O5_ NX_ NY_ hB_
                refine tree_end (by kernel_rfl) ?_
                go_wp2_with fail
                go_meet
                exact ⟨W_4.heap.size, W_3.heap.size, s_x, a_x, l_x, c_x, s_y, a_y, l_y, c_y, rfl, rfl, O5, O6, NX.mono (fun _ _ _ => trivial), NY.mono (fun _ _ _ => trivial), OA, OB, hB⟩
      · refine ⟨_, rfl, fun K hK => ?_⟩
        go_wp2
        refine hK _ _ ⟨OA.more _, OB.more _⟩ ?_
        clear hK K
        obtain ⟨W_3, hW⟩ : ∃ X, W_2.alloc (.cells #[.bool false, .slice none 0 0] 27) = X := ⟨_, rfl⟩
        have hb_3 : Below W_2.heap.size W_2 W_3 := hW ▸ (Below.refl _ _).alloc (Nat.le_refl _) _
        have O5_ : Own W_3 W_2.heap.size 27 #[.bool false, .slice none 0 0] := hW ▸ Own.made _ _ _
        have sz_3 := O5_.in_
        rw [hW]
        clear hW
        replace OA := OA.keep hb_3
        replace OB := OB.keep hb_3
        replace NX := NX.keep hb_3
        replace hB := then_ hB hb_3 hB.size
        clear hb_3
        have O5 := O5_
        clear O5_
        refine tree_two (i := 3) (k := 5) (by kernel_rfl) rfl rfl ?_ ?_
        · refine ⟨_, rfl, fun K hK => ?_⟩
          go_wp2_with (go_at_call 10; refine (F1.out 0 W_3 (Nat.zero_le _)).mono ?_; rintro e W_4 ⟨v_, rfl, hn, hb_4⟩)
          have sz_4 := hb_4.size
          obtain ⟨s_y, a_y, l_y, c_y, rfl⟩ := hn.shape
          have NY := NumP.of hn (S := fun b => W_3.heap.size ≤ b ∧ b < W_4.heap.size) (fun b h1 h2 => ⟨by omega, h1⟩)
          clear hn
          replace OA := OA.keep hb_4
          replace OB := OB.keep hb_4
          replace O5 := O5.keep hb_4
          replace NX := NX.keep hb_4
          replace hB := then_ hB hb_4 hB.size
          refine hK _ _ ⟨OA, OB⟩ ?_
          clear hK K hb_4
          refine tree_one (i := 5) (by kernel_rfl) rfl ?_
          · refine ⟨_, rfl, fun K hK => ?_⟩
            go_wp2
            refine hK _ _ ⟨OA.more _, OB.more _⟩ ?_
            clear hK K
            obtain ⟨W_5, hW⟩ : ∃ X, W_4.alloc (.cells #[.bool false, .slice none 0 0] 27) = X := ⟨_, rfl⟩
            have hb_5 : Below W_4.heap.size W_4 W_5 := hW ▸ (Below.refl _ _).alloc (Nat.le_refl _) _
            have O6_ : Own W_5 W_4.heap.size 27 #[.bool false, .slice none 0 0] := hW ▸ Own.made _ _ _
            have sz_5 := O6_.in_
            rw [hW]
            clear hW
            replace OA := OA.keep hb_5
            replace OB := OB.keep hb_5
            replace O5 := O5.keep hb_5
            replace NX := NX.keep hb_5
            replace NY := NY.keep hb_5
            replace hB := then_ hB hb_5 hB.size
            clear hb_5
            have O6 := O6_
            clear O6_
            refine tree_one (i := 6) (by kernel_rfl) rfl ?_
            · refine ⟨_, rfl, fun K hK => ?_⟩
              have hfr := O5.at_
              obtain ⟨P1, P2, P3⟩ := hfr
              go_wp2
              clear P1 P2 P3
              refine hK _ _ ⟨(OA.apart (by omega) _ _).apart (by omega) _ _, (OB.apart (by omega) _ _).apart (by omega) _ _⟩ ?_
              clear hK K
              obtain ⟨W_6, hW⟩ : ∃ X, (W_5.setCell ⟨W_2.heap.size, 0, none⟩ (.bool s_x)).setCell ⟨W_2.heap.size, 1, none⟩ (.slice a_x l_x c_x) = X := ⟨_, rfl⟩
              have OA_ : Own W_6 w.heap.size 24 #[.int .u64 (L0 z0), .int .u64 (L1 z0), .int .u64 (L2 z0), .int .u64 (L3 z0)] := hW ▸ ((OA.apart (by omega) _ _).apart (by omega) _ _)
              have OB_ : Own W_6 (w.heap.size + 1) 24 #[.int .u64 (L0 z1), .int .u64 (L1 z1), .int .u64 (L2 z1), .int .u64 (L3 z1)] := hW ▸ ((OB.apart (by omega) _ _).apart (by omega) _ _)
              have O5_ : Own W_6 W_2.heap.size 27 #[.bool s_x, .slice a_x l_x c_x] := hW ▸ (((O5.put 0 _).put 1 _).as rfl)
              have O6_ : Own W_6 W_4.heap.size 27 #[.bool false, .slice none 0 0] := hW ▸ ((O6.apart (by omega) _ _).apart (by omega) _ _)
              have NX_ := hW ▸ (NX.put (p := W_2.heap.size) (i := 0) (by omega) (.bool s_x)).put (p := W_2.heap.size) (i := 1) (by omega) (.slice a_x l_x c_x)
              have NY_ := hW ▸ (NY.put (p := W_2.heap.size) (i := 0) (by omega) (.bool s_x)).put (p := W_2.heap.size) (i := 1) (by omega) (.slice a_x l_x c_x)
              have hB_ : Below w.heap.size w W_6 := hW ▸ ((hB.setCell (by show w.heap.size ≤ W_2.heap.size; omega) _).setCell (by show w.heap.size ≤ W_2.heap.size; omega) _)
              rw [hW]
              clear hW
              clear OA OB O5 O6 NX NY hB
              have OA := OA_
              have OB := OB_
              have O5 := O5_
              have O6 := O6_
              have NX := NX_
              have NY := NY_
              have hB := hB_
              clear OA_ OB_ O5_ O6_ NX_ NY_ hB_
              refine tree_one (i := 7) (by kernel_rfl) rfl ?_
              · refine ⟨_, rfl, fun K hK => ?_⟩
                have hfr := O6.at_
                obtain ⟨P1, P2, P3⟩ := hfr
                go_wp2
                clear P1 P2 P3
                refine hK _ _ ⟨(OA.apart (by omega) _ _).apart (by omega) _ _, (OB.apart (by omega) _ _).apart (by omega) _ _⟩ ?_
                clear hK K
                obtain ⟨W_7, hW⟩ : ∃ X, (W_6.setCell ⟨W_4.heap.size, 0, none⟩ (.bool s_y)).setCell ⟨W_4.heap.size, 1, none⟩ (.slice a_y l_y c_y) = X := ⟨_, rfl⟩
                have OA_ : Own W_7 w.heap.size 24 #[.int .u64 (L0 z0), .int .u64 (L1 z0), .int .u64 (L2 z0), .int .u64 (L3 z0)] := hW ▸ ((OA.apart (by omega) _ _).apart (by omega) _ _)
                have OB_ : Own W_7 (w.heap.size + 1) 24 #[.int .u64 (L0 z1), .int .u64 (L1 z1), .int .u64 (L2 z1), .int .u64 (L3 z1)] := hW ▸ ((OB.apart (by omega) _ _).apart (by omega) _ _)
                have O5_ : Own W_7 W_2.heap.size 27 #[.bool s_x, .slice a_x l_x c_x] := hW ▸ ((O5.apart (by omega) _ _).apart (by omega) _ _)
                have O6_ : Own W_7 W_4.heap.size 27 #[.bool s_y, .slice a_y l_y c_y] := hW ▸ (((O6.put 0 _).put 1 _).as rfl)
                have NX_ := hW ▸ (NX.put (p := W_4.heap.size) (i := 0) (by omega) (.bool s_y)).put (p := W_4.heap.size) (i := 1) (by omega) (.slice a_y l_y c_y)
                have NY_ := hW ▸ (NY.put (p := W_4.heap.size) (i := 0) (by omega) (.bool s_y)).put (p := W_4.heap.size) (i := 1) (by omega) (.slice a_y l_y c_y)
                have hB_ : Below w.heap.size w W_7 := hW ▸ ((hB.setCell (by show w.heap.size ≤ W_4.heap.size; omega) _).setCell (by show w.heap.size ≤ W_4.heap.size; omega) _)
                rw [hW]
                clear hW
                clear OA OB O5 O6 NX NY hB
                have OA := OA_
                have OB := OB_
                have O5 := O5_
                have O6 := O6_
                have NX := NX_
                have NY := NY_
                have hB := hB_
                clear OA_ OB_ O5_ O6_ NX_ NY_ hB_
                refine tree_end (by kernel_rfl) ?_
                go_wp2_with fail
                go_meet
                exact ⟨W_2.heap.size, W_4.heap.size, s_x, a_x, l_x, c_x, s_y, a_y, l_y, c_y, rfl, rfl, O5, O6, NX.mono (fun _ _ _ => trivial), NY.mono (fun _ _ _ => trivial), OA, OB, hB⟩
        · refine ⟨_, rfl, fun K hK => ?_⟩
          go_wp2
          refine hK _ _ ⟨OA.more _, OB.more _⟩ ?_
          clear hK K
          obtain ⟨W_4, hW⟩ : ∃ X, W_3.alloc (.cells #[.bool false, .slice none 0 0] 27) = X := ⟨_, rfl⟩
          have hb_4 : Below W_3.heap.size W_3 W_4 := hW ▸ (Below.refl _ _).alloc (Nat.le_refl _) _
          have O6_ : Own W_4 W_3.heap.size 27 #[.bool false, .slice none 0 0] := hW ▸ Own.made _ _ _
          have sz_4 := O6_.in_
          rw [hW]
          clear hW
          replace OA := OA.keep hb_4
          replace OB := OB.keep hb_4
          replace O5 := O5.keep hb_4
          replace NX := NX.keep hb_4
          replace hB := then_ hB hb_4 hB.size
          clear hb_4
          have O6 := O6_
          clear O6_
          refine tree_one (i := 3) (by kernel_rfl) rfl ?_
          · refine ⟨_, rfl, fun K hK => ?_⟩
            go_wp2_with (go_at_call 10; refine (F1.out 0 W_4 (Nat.zero_le _)).mono ?_; rintro e W_5 ⟨v_, rfl, hn, hb_5⟩)
            have sz_5 := hb_5.size
            obtain ⟨s_y, a_y, l_y, c_y, rfl⟩ := hn.shape
            have NY := NumP.of hn (S := fun b => W_4.heap.size ≤ b ∧ b < W_5.heap.size) (fun b h1 h2 => ⟨by omega, h1⟩)
            clear hn
            replace OA := OA.keep hb_5
            replace OB := OB.keep hb_5
            replace O5 := O5.keep hb_5
            replace O6 := O6.keep hb_5
            replace NX := NX.keep hb_5
            replace hB := then_ hB hb_5 hB.size
            refine hK _ _ ⟨OA, OB⟩ ?_
            clear hK K hb_5
            refine tree_one (i := 6) (by kernel_rfl) rfl ?_
            · refine ⟨_, rfl, fun K hK => ?_⟩
              have hfr := O5.at_
              obtain ⟨P1, P2, P3⟩ := hfr
              go_wp2
              clear P1 P2 P3
              refine hK _ _ ⟨(OA.apart (by omega) _ _).apart (by omega) _ _, (OB.apart (by omega) _ _).apart (by omega) _ _⟩ ?_
              clear hK K
              obtain ⟨W_6, hW⟩ : ∃ X, (W_5.setCell ⟨W_2.heap.size, 0, none⟩ (.bool s_x)).setCell ⟨W_2.heap.size, 1, none⟩ (.slice a_x l_x c_x) = X := ⟨_, rfl⟩
              have OA_ : Own W_6 w.heap.size 24 #[.int .u64 (L0 z0), .int .u64 (L1 z0), .int .u64 (L2 z0), .int .u64 (L3 z0)] := hW ▸ ((OA.apart (by omega) _ _).apart (by omega) _ _)
              have OB_ : Own W_6 (w.heap.size + 1) 24 #[.int .u64 (L0 z1), .int .u64 (L1 z1), .int .u64 (L2 z1), .int .u64 (L3 z1)] := hW ▸ ((OB.apart (by omega) _ _).apart (by omega) _ _)
              have O5_ : Own W_6 W_2.heap.size 27 #[.bool s_x, .slice a_x l_x c_x] := hW ▸ (((O5.put 0 _).put 1 _).as rfl)
              have O6_ : Own W_6 W_3.heap.size 27 #[.bool false, .slice none 0 0] := hW ▸ ((O6.apart (by omega) _ _).apart (by omega) _ _)
              have NX_ := hW ▸ (NX.put (p := W_2.heap.size) (i := 0) (by omega) (.bool s_x)).put (p := W_2.heap.size) (i := 1) (by omega) (.slice a_x l_x c_x)
              have NY_ := hW ▸ (NY.put (p := W_2.heap.size) (i := 0) (by omega) (.bool s_x)).put (p := W_2.heap.size) (i := 1) (by omega) (.slice a_x l_x c_x)
              have hB_ : Below w.heap.size w W_6 := hW ▸ ((hB.setCell (by show w.heap.size ≤ W_2.heap.size; omega) _).setCell (by show w.heap.size ≤ W_2.heap.size; omega) _)
              rw [hW]
              clear hW
              clear OA OB O5 O6 NX NY hB
              have OA := OA_
              have OB := OB_
              have O5 := O5_
              have O6 := O6_
              have NX := NX_
              have NY := NY_
              have hB := hB_
              clear OA_ OB_ O5_ O6_ NX_ NY_ hB_
              refine tree_one (i := 7) (by kernel_rfl) rfl ?_
              · refine ⟨_, rfl, fun K hK => ?_⟩
                have hfr := O6.at_
                obtain ⟨P1, P2, P3⟩ := hfr
                go_wp2
                clear P1 P2 P3
                refine hK _ _ ⟨(OA.apart (by omega) _ _).apart (by omega) _ _, (OB.apart (by omega) _ _).apart (by omega) _ _⟩ ?_
                clear hK K
                obtain ⟨W_7, hW⟩ : ∃ X, (W_6.setCell ⟨W_3.heap.size, 0, none⟩ (.bool s_y)).setCell ⟨W_3.heap.size, 1, none⟩ (.slice a_y l_y c_y) = X := ⟨_, rfl⟩
                have OA_ : Own W_7 w.heap.size 24 #[.int .u64 (L0 z0), .int .u64 (L1 z0), .int .u64 (L2 z0), .int .u64 (L3 z0)] := hW ▸ ((OA.apart (by omega) _ _).apart (by omega) _ _)
                have OB_ : Own W_7 (w.heap.size + 1) 24 #[.int .u64 (L0 z1), .int .u64 (L1 z1), .int .u64 (L2 z1), .int .u64 (L3 z1)] := hW ▸ ((OB.apart (by omega) _ _).apart (by omega) _ _)
                have O5_ : Own W_7 W_2.heap.size 27 #[.bool s_x, .slice a_x l_x c_x] := hW ▸ ((O5.apart (by omega) _ _).apart (by omega) _ _)
                have O6_ : Own W_7 W_3.heap.size 27 #[.bool s_y, .slice a_y l_y c_y] := hW ▸ (((O6.put 0 _).put 1 _).as rfl)
                have NX_ := hW ▸ (NX.put (p := W_3.heap.size) (i := 0) (by omega) (.bool s_y)).put (p := W_3.heap.size) (i := 1) (by omega) (.slice a_y l_y c_y)
                have NY_ := hW ▸ (NY.put (p := W_3.heap.size) (i := 0) (by omega) (.bool s_y)).put (p := W_3.heap.size) (i := 1) (by omega) (.slice a_y l_y c_y)
                have hB_ : Below w.heap.size w W_7 := hW ▸ ((hB.setCell (by show w.heap.size ≤ W_3.heap.size; omega) _).setCell (by show w.heap.size ≤ W_3.heap.size; omega) _)
                rw [hW]
                clear hW
                clear OA OB O5 O6 NX NY hB
                have OA := OA_
                have OB := OB_
                have O5 := O5_
                have O6 := O6_
                have NX := NX_
                have NY := NY_
                have hB := hB_
                clear OA_ OB_ O5_ O6_ NX_ NY_ hB_
                refine tree_end (by kernel_rfl) ?_
                go_wp2_with fail
                go_meet
                exact ⟨W_2.heap.size, W_3.heap.size, s_x, a_x, l_x, c_x, s_y, a_y, l_y, c_y, rfl, rfl, O5, O6, NX.mono (fun _ _ _ => trivial), NY.mono (fun _ _ _ => trivial), OA, OB, hB⟩
      · refine ⟨_, rfl, fun K hK => ?_⟩
        go_wp2
        refine hK _ _ ⟨OA.more _, OB.more _⟩ ?_
        clear hK K
        obtain ⟨W_3, hW⟩ : ∃ X, W_2.alloc (.cells #[.bool false, .slice none 0 0] 27) = X := ⟨_, rfl⟩
        have hb_3 : Below W_2.heap.size W_2 W_3 := hW ▸ (Below.refl _ _).alloc (Nat.le_refl _) _
        have O6_ : Own W_3 W_2.heap.size 27 #[.bool false, .slice none 0 0] := hW ▸ Own.made _ _ _
        have sz_3 := O6_.in_
        rw [hW]
        clear hW
        replace OA := OA.keep hb_3
        replace OB := OB.keep hb_3
        replace NX := NX.keep hb_3
        replace hB := then_ hB hb_3 hB.size
        clear hb_3
        have O6 := O6_
        clear O6_
        refine tree_two (i := 3) (k := 4) (by kernel_rfl) rfl rfl ?_ ?_
        · refine ⟨_, rfl, fun K hK => ?_⟩
          go_wp2_with (go_at_call 10; refine (F1.out 0 W_3 (Nat.zero_le _)).mono ?_; rintro e W_4 ⟨v_, rfl, hn, hb_4⟩)
          have sz_4 := hb_4.size
          obtain ⟨s_y, a_y, l_y, c_y, rfl⟩ := hn.shape
          have NY := NumP.of hn (S := fun b => W_3.heap.size ≤ b ∧ b < W_4.heap.size) (fun b h1 h2 => ⟨by omega, h1⟩)
          clear hn
          replace OA := OA.keep hb_4
          replace OB := OB.keep hb_4
          replace O6 := O6.keep hb_4
          replace NX := NX.keep hb_4
          replace hB := then_ hB hb_4 hB.size
          refine hK _ _ ⟨OA, OB⟩ ?_
          clear hK K hb_4
          refine tree_one (i := 4) (by kernel_rfl) rfl ?_
          · refine ⟨_, rfl, fun K hK => ?_⟩
            go_wp2
            refine hK _ _ ⟨OA.more _, OB.more _⟩ ?_
            clear hK K
            obtain ⟨W_5, hW⟩ : ∃ X, W_4.alloc (.cells #[.bool false, .slice none 0 0] 27) = X := ⟨_, rfl⟩
            have hb_5 : Below W_4.heap.size W_4 W_5 := hW ▸ (Below.refl _ _).alloc (Nat.le_refl _) _
            have O5_ : Own W_5 W_4.heap.size 27 #[.bool false, .slice none 0 0] := hW ▸ Own.made _ _ _
            have sz_5 := O5_.in_
            rw [hW]
            clear hW
            replace OA := OA.keep hb_5
            replace OB := OB.keep hb_5
            replace O6 := O6.keep hb_5
            replace NX := NX.keep hb_5
            replace NY := NY.keep hb_5
            replace hB := then_ hB hb_5 hB.size
            clear hb_5
            have O5 := O5_
            clear O5_
            refine tree_one (i := 6) (by kernel_rfl) rfl ?_
            · refine ⟨_, rfl, fun K hK => ?_⟩
              have hfr := O5.at_
              obtain ⟨P1, P2, P3⟩ := hfr
              go_wp2
              clear P1 P2 P3
              refine hK _ _ ⟨(OA.apart (by omega) _ _).apart (by omega) _ _, (OB.apart (by omega) _ _).apart (by omega) _ _⟩ ?_
              clear hK K
              obtain ⟨W_6, hW⟩ : ∃ X, (W_5.setCell ⟨W_4.heap.size, 0, none⟩ (.bool s_x)).setCell ⟨W_4.heap.size, 1, none⟩ (.slice a_x l_x c_x) = X := ⟨_, rfl⟩
              have OA_ : Own W_6 w.heap.size 24 #[.int .u64 (L0 z0), .int .u64 (L1 z0), .int .u64 (L2 z0), .int .u64 (L3 z0)] := hW ▸ ((OA.apart (by omega) _ _).apart (by omega) _ _)
              have OB_ : Own W_6 (w.heap.size + 1) 24 #[.int .u64 (L0 z1), .int .u64 (L1 z1), .int .u64 (L2 z1), .int .u64 (L3 z1)] := hW ▸ ((OB.apart (by omega) _ _).apart (by omega) _ _)
              have O6_ : Own W_6 W_2.heap.size 27 #[.bool false, .slice none 0 0] := hW ▸ ((O6.apart (by omega) _ _).apart (by omega) _ _)
              have O5_ : Own W_6 W_4.heap.size 27 #[.bool s_x, .slice a_x l_x c_x] := hW ▸ (((O5.put 0 _).put 1 _).as rfl)
              have NX_ := hW ▸ (NX.put (p := W_4.heap.size) (i := 0) (by omega) (.bool s_x)).put (p := W_4.heap.size) (i := 1) (by omega) (.slice a_x l_x c_x)
              have NY_ := hW ▸ (NY.put (p := W_4.heap.size) (i := 0) (by omega) (.bool s_x)).put (p := W_4.heap.size) (i := 1) (by omega) (.slice a_x l_x c_x)
              have hB_ : Below w.heap.size w W_6 := hW ▸ ((hB.setCell (by show w.heap.size ≤ W_4.heap.size; omega) _).setCell (by show w.heap.size ≤ W_4.heap.size; omega) _)
              rw [hW]
              clear hW
              clear OA OB O6 O5 NX NY hB
              have OA := OA_
              have OB := OB_
              have O6 := O6_
              have O5 := O5_
              have NX := NX_
              have NY := NY_
              have hB := hB_
              clear OA_ OB_ O6_ O5_ NX_ NY_ hB_
              refine tree_one (i := 7) (by kernel_rfl) rfl ?_
              · refine ⟨_, rfl, fun K hK => ?_⟩
                have hfr := O6.at_
                obtain ⟨P1, P2, P3⟩ := hfr
                go_wp2
                clear P1 P2 P3
                refine hK _ _ ⟨(OA.apart (by omega) _ _).apart (by omega) _ _, (OB.apart (by omega) _ _).apart (by omega) _ _⟩ ?_
                clear hK K
                obtain ⟨W_7, hW⟩ : ∃ X, (W_6.setCell ⟨W_2.heap.size, 0, none⟩ (.bool s_y)).setCell ⟨W_2.heap.size, 1, none⟩ (.slice a_y l_y c_y) = X := ⟨_, rfl⟩
                have OA_ : Own W_7 w.heap.size 24 #[.int .u64 (L0 z0), .int .u64 (L1 z0), .int .u64 (L2 z0), .int .u64 (L3 z0)] := hW ▸ ((OA.apart (by omega) _ _).apart (by omega) _ _)
                have OB_ : Own W_7 (w.heap.size + 1) 24 #[.int .u64 (L0 z1), .int .u64 (L1 z1), .int .u64 (L2 z1), .int .u64 (L3 z1)] := hW ▸ ((OB.apart (by omega) _ _).apart (by omega) _ _)
                have O6_ : Own W_7 W_2.heap.size 27 #[.bool s_y, .slice a_y l_y c_y] := hW ▸ (((O6.put 0 _).put 1 _).as rfl)
                have O5_ : Own W_7 W_4.heap.size 27 #[.bool s_x, .slice a_x l_x c_x] := hW ▸ ((O5.apart (by omega) _ _).apart (by omega) _ _)
                have NX_ := hW ▸ (NX.put (p := W_2.heap.size) (i := 0) (by omega) (.bool s_y)).put (p := W_2.heap.size) (i := 1) (by omega) (.slice a_y l_y c_y)
                have NY_ := hW ▸ (NY.put (p := W_2.heap.size) (i := 0) (by omega) (.bool s_y)).put (p := W_2.heap.size) (i := 1) (by omega) (.slice a_y l_y c_y)
                have hB_ : Below w.heap.size w W_7 := hW ▸ ((hB.setCell (by show w.heap.size ≤ W_2.heap.size; omega) _).setCell (by show w.heap.size ≤ W_2.heap.size; omega) _)
                rw [hW]
                clear hW
                clear OA OB O6 O5 NX NY hB
                have OA := OA_
                have OB := OB_
                have O6 := O6_
                have O5 := O5_
                have NX := NX_
                have NY := NY_
                have hB := hB_
                clear OA_ OB_ O6_ O5_ NX_ NY_ hB_
                refine tree_end (by kernel_rfl) ?_
                go_wp2_with fail
                go_meet
                exact ⟨W_4.heap.size, W_2.heap.size, s_x, a_x, l_x, c_x, s_y, a_y, l_y, c_y, rfl, rfl, O5, O6, NX.mono (fun _ _ _ => trivial), NY.mono (fun _ _ _ => trivial), OA, OB, hB⟩
        · refine ⟨_, rfl, fun K hK => ?_⟩
          go_wp2
          refine hK _ _ ⟨OA.more _, OB.more _⟩ ?_
          clear hK K
          obtain ⟨W_4, hW⟩ : ∃ X, W_3.alloc (.cells #[.bool false, .slice none 0 0] 27) = X := ⟨_, rfl⟩
          have hb_4 : Below W_3.heap.size W_3 W_4 := hW ▸ (Below.refl _ _).alloc (Nat.le_refl _) _
          have O5_ : Own W_4 W_3.heap.size 27 #[.bool false, .slice none 0 0] := hW ▸ Own.made _ _ _
          have sz_4 := O5_.in_
          rw [hW]
          clear hW
          replace OA := OA.keep hb_4
          replace OB := OB.keep hb_4
          replace O6 := O6.keep hb_4
          replace NX := NX.keep hb_4
          replace hB := then_ hB hb_4 hB.size
          clear hb_4
          have O5 := O5_
          clear O5_
          refine tree_one (i := 3) (by kernel_rfl) rfl ?_
          · refine ⟨_, rfl, fun K hK => ?_⟩
            go_wp2_with (go_at_call 10; refine (F1.out 0 W_4 (Nat.zero_le _)).mono ?_; rintro e W_5 ⟨v_, rfl, hn, hb_5⟩)
            have sz_5 := hb_5.size
            obtain ⟨s_y, a_y, l_y, c_y, rfl⟩ := hn.shape
            have NY := NumP.of hn (S := fun b => W_4.heap.size ≤ b ∧ b < W_5.heap.size) (fun b h1 h2 => ⟨by omega, h1⟩)
            clear hn
            replace OA := OA.keep hb_5
            replace OB := OB.keep hb_5
            replace O6 := O6.keep hb_5
            replace O5 := O5.keep hb_5
            replace NX := NX.keep hb_5
            replace hB := then_ hB hb_5 hB.size
            refine hK _ _ ⟨OA, OB⟩ ?_
            clear hK K hb_5
            refine tree_one (i := 6) (by kernel_rfl) rfl ?_
            · refine ⟨_, rfl, fun K hK => ?_⟩
              have hfr := O5.at_
              obtain ⟨P1, P2, P3⟩ := hfr
              go_wp2
              clear P1 P2 P3
              refine hK _ _ ⟨(OA.apart (by omega) _ _).apart (by omega) _ _, (OB.apart (by omega) _ _).apart (by omega) _ _⟩ ?_
              clear hK K
              obtain ⟨W_6, hW⟩ : ∃ X, (W_5.setCell ⟨W_3.heap.size, 0, none⟩ (.bool s_x)).setCell ⟨W_3.heap.size, 1, none⟩ (.slice a_x l_x c_x) = X := ⟨_, rfl⟩
              have OA_ : Own W_6 w.heap.size 24 #[.int .u64 (L0 z0), .int .u64 (L1 z0), .int .u64 (L2 z0), .int .u64 (L3 z0)] := hW ▸ ((OA.apart (by omega) _ _).apart (by omega) _ _)
              have OB_ : Own W_6 (w.heap.size + 1) 24 #[.int .u64 (L0 z1), .int .u64 (L1 z1), .int .u64 (L2 z1), .int .u64 (L3 z1)] := hW ▸ ((OB.apart (by omega) _ _).apart (by omega) _ _)
              have O6_ : Own W_6 W_2.heap.size 27 #[.bool false, .slice none 0 0] := hW ▸ ((O6.apart (by omega) _ _).apart (by omega) _ _)
              have O5_ : Own W_6 W_3.heap.size 27 #[.bool s_x, .slice a_x l_x c_x] := hW ▸ (((O5.put 0 _).put 1 _).as rfl)
              have NX_ := hW ▸ (NX.put (p := W_3.heap.size) (i := 0) (by omega) (.bool s_x)).put (p := W_3.heap.size) (i := 1) (by omega) (.slice a_x l_x c_x)
              have NY_ := hW ▸ (NY.put (p := W_3.heap.size) (i := 0) (by omega) (.bool s_x)).put (p := W_3.heap.size) (i := 1) (by omega) (.slice a_x l_x c_x)
              have hB_ : Below w.heap.size w W_6 := hW ▸ ((hB.setCell (by show w.heap.size ≤ W_3.heap.size; omega) _).setCell (by show w.heap.size ≤ W_3.heap.size; omega) _)
              rw [hW]
              clear hW
              clear OA OB O6 O5 NX NY hB
              have OA := OA_
              have OB := OB_
              have O6 := O6_
              have O5 := O5_
              have NX := NX_
              have NY := NY_
              have hB := hB_
              clear OA_ OB_ O6_ O5_ NX_ NY_ hB_
              refine tree_one (i := 7) (by kernel_rfl) rfl ?_
              · refine ⟨_, rfl, fun K hK => ?_⟩
                have hfr := O6.at_
                obtain ⟨P1, P2, P3⟩ := hfr
                go_wp2
                clear P1 P2 P3
                refine hK _ _ ⟨(OA.apart (by omega) _ _).apart (by omega) _ _, (OB.apart (by omega) _ _).apart (by omega) _ _⟩ ?_
                clear hK K
                obtain ⟨W_7, hW⟩ : ∃ X, (W_6.setCell ⟨W_2.heap.size, 0, none⟩ (.bool s_y)).setCell ⟨W_2.heap.size, 1, none⟩ (.slice a_y l_y c_y) = X := ⟨_, rfl⟩
                have OA_ : Own W_7 w.heap.size 24 #[.int .u64 (L0 z0), .int .u64 (L1 z0), .int .u64 (L2 z0), .int .u64 (L3 z0)] := hW ▸ ((OA.apart (by omega) _ _).apart (by omega) _ _)
                have OB_ : Own W_7 (w.heap.size + 1) 24 #[.int .u64 (L0 z1), .int .u64 (L1 z1), .int .u64 (L2 z1), .int .u64 (L3 z1)] := hW ▸ ((OB.apart (by omega) _ _).apart (by omega) _ _)
                have O6_ : Own W_7 W_2.heap.size 27 #[.bool s_y, .slice a_y l_y c_y] := hW ▸ (((O6.put 0 _).put 1 _).as rfl)
                have O5_ : Own W_7 W_3.heap.size 27 #[.bool s_x, .slice a_x l_x c_x] := hW ▸ ((O5.apart (by omega) _ _).apart (by omega) _ _)
                have NX_ := hW ▸ (NX.put (p := W_2.heap.size) (i := 0) (by omega) (.bool s_y)).put (p := W_2.heap.size) (i := 1) (by omega) (.slice a_y l_y c_y)
                have NY_ := hW ▸ (NY.put (p := W_2.heap.size) (i := 0) (by omega) (.bool s_y)).put (p := W_2.heap.size) (i := 1) (by omega) (.slice a_y l_y c_y)
                have hB_ : Below w.heap.size w W_7 := hW ▸ ((hB.setCell (by show w.heap.size ≤ W_2.heap.size; omega) _).setCell (by show w.heap.size ≤ W_2.heap.size; omega) _)
                rw [hW]
                clear hW
                clear OA OB O6 O5 NX NY hB
                have OA := OA_
                have OB := OB_
                have O6 := O6_
                have O5 := O5_
                have NX := NX_
                have NY := NY_
                have hB := hB_
                clear OA_ OB_ O6_ O5_ NX_ NY_ hB_
                refine tree_end (by kernel_rfl) ?_
                go_wp2_with fail
                go_meet
                exact ⟨W_3.heap.size, W_2.heap.size, s_x, a_x, l_x, c_x, s_y, a_y, l_y, c_y, rfl, rfl, O5, O6, NX.mono (fun _ _ _ => trivial), NY.mono (fun _ _ _ => trivial), OA, OB, hB⟩
    · refine ⟨_, rfl, fun K hK => ?_⟩
      go_wp2
      refine hK _ _ ⟨OA.more _, OB.more _⟩ ?_
      clear hK K
      obtain ⟨W_2, hW⟩ : ∃ X, W_s.alloc (.cells #[.bool false, .slice none 0 0] 27) = X := ⟨_, rfl⟩
      have hb_2 : Below W_s.heap.size W_s W_2 := hW ▸ (Below.refl _ _).alloc (Nat.le_refl _) _
      have O5_ : Own W_2 W_s.heap.size 27 #[.bool false, .slice none 0 0] := hW ▸ Own.made _ _ _
      have sz_2 := O5_.in_
      rw [hW]
      clear hW
      replace OA := OA.keep hb_2
      replace OB := OB.keep hb_2
      replace hB := then_ hB hb_2 hB.size
      clear hb_2
      have O5 := O5_
      clear O5_
      refine tree_two (i := 1) (k := 5) (by kernel_rfl) rfl rfl ?_ ?_
      · refine ⟨_, rfl, fun K hK => ?_⟩
        go_wp2_with (go_at_call 10; refine (F0.out 0 W_2 (Nat.zero_le _)).mono ?_; rintro e W_3 ⟨v_, rfl, hn, hb_3⟩)
        have sz_3 := hb_3.size
        obtain ⟨s_x, a_x, l_x, c_x, rfl⟩ := hn.shape
        have NX := NumP.of hn (S := fun b => W_2.heap.size ≤ b ∧ b < W_3.heap.size) (fun b h1 h2 => ⟨by omega, h1⟩)
        clear hn
        replace OA := OA.keep hb_3
        replace OB := OB.keep hb_3
        replace O5 := O5.keep hb_3
        replace hB := then_ hB hb_3 hB.size
        refine hK _ _ ⟨OA, OB⟩ ?_
        clear hK K hb_3
        refine tree_two (i := 3) (k := 5) (by kernel_rfl) rfl rfl ?_ ?_
        · refine ⟨_, rfl, fun K hK => ?_⟩
          go_wp2_with (go_at_call 10; refine (F1.out 0 W_3 (Nat.zero_le _)).mono ?_; rintro e W_4 ⟨v_, rfl, hn, hb_4⟩)
          have sz_4 := hb_4.size
          obtain ⟨s_y, a_y, l_y, c_y, rfl⟩ := hn.shape
          have NY := NumP.of hn (S := fun b => W_3.heap.size ≤ b ∧ b < W_4.heap.size) (fun b h1 h2 => ⟨by omega, h1⟩)
          clear hn
          replace OA := OA.keep hb_4
          replace OB := OB.keep hb_4
          replace O5 := O5.keep hb_4
          replace NX := NX.keep hb_4
          replace hB := then_ hB hb_4 hB.size
          refine hK _ _ ⟨OA, OB⟩ ?_
          clear hK K hb_4
          refine tree_one (i := 5) (by kernel_rfl) rfl ?_
          · refine ⟨_, rfl, fun K hK => ?_⟩
            go_wp2
            refine hK _ _ ⟨OA.more _, OB.more _⟩ ?_
            clear hK K
            obtain ⟨W_5, hW⟩ : ∃ X, W_4.alloc (.cells #[.bool false, .slice none 0 0] 27) = X := ⟨_, rfl⟩
            have hb_5 : Below W_4.heap.size W_4 W_5 := hW ▸ (Below.refl _ _).alloc (Nat.le_refl _) _
            have O6_ : Own W_5 W_4.heap.size 27 #[.bool false, .slice none 0 0] := hW ▸ Own.made _ _ _
            have sz_5 := O6_.in_
            rw [hW]
            clear hW
            replace OA := OA.keep hb_5
            replace OB := OB.keep hb_5
            replace O5 := O5.keep hb_5
            replace NX := NX.keep hb_5
            replace NY := NY.keep hb_5
            replace hB := then_ hB hb_5 hB.size
            clear hb_5
            have O6 := O6_
            clear O6_
            refine tree_one (i := 6) (by kernel_rfl) rfl ?_
            · refine ⟨_, rfl, fun K hK => ?_⟩
              have hfr := O5.at_
              obtain ⟨P1, P2, P3⟩ := hfr
              go_wp2
              clear P1 P2 P3
              refine hK _ _ ⟨(OA.apart (by omega) _ _).apart (by omega) _ _, (OB.apart (by omega) _ _).apart (by omega) _ _⟩ ?_
              clear hK K
              obtain ⟨W_6, hW⟩ : ∃ X, (W_5.setCell ⟨W_s.heap.size, 0, none⟩ (.bool s_x)).setCell ⟨W_s.heap.size, 1, none⟩ (.slice a_x l_x c_x) = X := ⟨_, rfl⟩
              have OA_ : Own W_6 w.heap.size 24 #[.int .u64 (L0 z0), .int .u64 (L1 z0), .int .u64 (L2 z0), .int .u64 (L3 z0)] := hW ▸ ((OA.apart (by omega) _ _).apart (by omega) _ _)
              have OB_ : Own W_6 (w.heap.size + 1) 24 #[.int .u64 (L0 z1), .int .u64 (L1 z1), .int .u64 (L2 z1), .int .u64 (L3 z1)] := hW ▸ ((OB.apart (by omega) _ _).apart (by omega) _ _)
              have O5_ : Own W_6 W_s.heap.size 27 #[.bool s_x, .slice a_x l_x c_x] := hW ▸ (((O5.put 0 _).put 1 _).as rfl)
              have O6_ : Own W_6 W_4.heap.size 27 #[.bool false, .slice none 0 0] := hW ▸ ((O6.apart (by omega) _ _).apart (by omega) _ _)
              have NX_ := hW ▸ (NX.put (p := W_s.heap.size) (i := 0) (by omega) (.bool s_x)).put (p := W_s.heap.size) (i := 1) (by omega) (.slice a_x l_x c_x)
              have NY_ := hW ▸ (NY.put (p := W_s.heap.size) (i := 0) (by omega) (.bool s_x)).put (p := W_s.heap.size) (i := 1) (by omega) (.slice a_x l_x c_x)
              have hB_ : Below w.heap.size w W_6 := hW ▸ ((hB.setCell (by show w.heap.size ≤ W_s.heap.size; omega) _).setCell (by show w.heap.size ≤ W_s.heap.size; omega) _)
              rw [hW]
              clear hW
              clear OA OB O5 O6 NX NY hB
              have OA := OA_
              have OB := OB_
              have O5 := O5_
              have O6 := O6_
              have NX := NX_
              have NY := NY_
              have hB := hB_
              clear OA_ OB_ O5_ O6_ NX_ NY_ hB_
              refine tree_one (i := 7) (by kernel_rfl) rfl ?_
              · refine ⟨_, rfl, fun K hK => ?_⟩
                have hfr := O6.at_
                obtain ⟨P1, P2, P3⟩ := hfr
                go_wp2
                clear P1 P2 P3
                refine hK _ _ ⟨(OA.apart (by omega) _ _).apart (by omega) _ _, (OB.apart (by omega) _ _).apart (by omega) _ _⟩ ?_
                clear hK K
                obtain ⟨W_7, hW⟩ : ∃ X, (W_6.setCell ⟨W_4.heap.size, 0, none⟩ (.bool s_y)).setCell ⟨W_4.heap.size, 1, none⟩ (.slice a_y l_y c_y) = X := ⟨_, rfl⟩
                have OA_ : Own W_7 w.heap.size 24 #[.int .u64 (L0 z0), .int .u64 (L1 z0), .int .u64 (L2 z0), .int .u64 (L3 z0)] := hW ▸ ((OA.apart (by omega) _ _).apart (by omega) _ _)
                have OB_ : Own W_7 (w.heap.size + 1) 24 #[.int .u64 (L0 z1), .int .u64 (L1 z1), .int .u64 (L2 z1), .int .u64 (L3 z1)] := hW ▸ ((OB.apart (by omega) _ _).apart (by omega) _ _)
                have O5_ : Own W_7 W_s.heap.size 27 #[.bool s_x, .slice a_x l_x c_x] := hW ▸ ((O5.apart (by omega) _ _).apart (by omega) _ _)
                have O6_ : Own W_7 W_4.heap.size 27 #[.bool s_y, .slice a_y l_y c_y] := hW ▸ (((O6.put 0 _).put 1 _).as rfl)
                have NX_ := hW ▸ (NX.put (p := W_4.heap.size) (i := 0) (by omega) (.bool s_y)).put (p := W_4.heap.size) (i := 1) (by omega) (.slice a_y l_y c_y)
                have NY_ := hW ▸ (NY.put (p := W_4.heap.size) (i := 0) (by omega) (.bool s_y)).put (p := W_4.heap.size) (i := 1) (by omega) (.slice a_y l_y c_y)
                have hB_ : Below w.heap.size w W_7 := hW ▸ ((hB.setCell (by show w.heap.size ≤ W_4.heap.size; omega) _).setCell (by show w.heap.size ≤ W_4.heap.size; omega) _)
                rw [hW]
                clear hW
                clear OA OB O5 O6 NX NY hB
                have OA := OA_
                have OB := OB_
                have O5 := O5_
                have O6 := O6_
                have NX := NX_
                have NY := NY_
                have hB := hB_
                clear OA_ OB_ O5_ O6_ NX_ NY_ hB_
                refine tree_end (by kernel_rfl) ?_
                go_wp2_with fail
                go_meet
                exact ⟨W_s.heap.size, W_4.heap.size, s_x, a_x, l_x, c_x, s_y, a_y, l_y, c_y, rfl, rfl, O5, O6, NX.mono (fun _ _ _ => trivial), NY.mono (fun _ _ _ => trivial), OA, OB, hB⟩
        · refine ⟨_, rfl, fun K hK => ?_⟩
          go_wp2
          refine hK _ _ ⟨OA.more _, OB.more _⟩ ?_
          clear hK K
          obtain ⟨W_4, hW⟩ : ∃ X, W_3.alloc (.cells #[.bool false, .slice none 0 0] 27) = X := ⟨_, rfl⟩
          have hb_4 : Below W_3.heap.size W_3 W_4 := hW ▸ (Below.refl _ _).alloc (Nat.le_refl _) _
          have O6_ : Own W_4 W_3.heap.size 27 #[.bool false, .slice none 0 0] := hW ▸ Own.made _ _ _
          have sz_4 := O6_.in_
          rw [hW]
          clear hW
          replace OA := OA.keep hb_4
          replace OB := OB.keep hb_4
          replace O5 := O5.keep hb_4
          replace NX := NX.keep hb_4
          replace hB := then_ hB hb_4 hB.size
          clear hb_4
          have O6 := O6_
          clear O6_
          refine tree_one (i := 3) (by kernel_rfl) rfl ?_
          · refine ⟨_, rfl, fun K hK => ?_⟩
            go_wp2_with (go_at_call 10; refine (F1.out 0 W_4 (Nat.zero_le _)).mono ?_; rintro e W_5 ⟨v_, rfl, hn, hb_5⟩)
            have sz_5 := hb_5.size
            obtain ⟨s_y, a_y, l_y, c_y, rfl⟩ := hn.shape
            have NY := NumP.of hn (S := fun b => W_4.heap.size ≤ b ∧ b < W_5.heap.size) (fun b h1 h2 => ⟨by omega, h1⟩)
            clear hn
            replace OA := OA.keep hb_5
            replace OB := OB.keep hb_5
            replace O5 := O5.keep hb_5
            replace O6 := O6.keep hb_5
            replace NX := NX.keep hb_5
            replace hB := then_ hB hb_5 hB.size
            refine hK _ _ ⟨OA, OB⟩ ?_
            clear hK K hb_5
            refine tree_one (i := 6) (by kernel_rfl) rfl ?_
            · refine ⟨_, rfl, fun K hK => ?_⟩
              have hfr := O5.at_
              obtain ⟨P1, P2, P3⟩ := hfr
              go_wp2
              clear P1 P2 P3
              refine hK _ _ ⟨(OA.apart (by omega) _ _).apart (by omega) _ _, (OB.apart (by omega) _ _).apart (by omega) _ _⟩ ?_
              clear hK K
              obtain ⟨W_6, hW⟩ : ∃ X, (W_5.setCell ⟨W_s.heap.size, 0, none⟩ (.bool s_x)).setCell ⟨W_s.heap.size, 1, none⟩ (.slice a_x l_x c_x) = X := ⟨_, rfl⟩
              have OA_ : Own W_6 w.heap.size 24 #[.int .u64 (L0 z0), .int .u64 (L1 z0), .int .u64 (L2 z0), .int .u64 (L3 z0)] := hW ▸ ((OA.apart (by omega) _ _).apart (by omega) _ _)
              have OB_ : Own W_6 (w.heap.size + 1) 24 #[.int .u64 (L0 z1), .int .u64 (L1 z1), .int .u64 (L2 z1), .int .u64 (L3 z1)] := hW ▸ ((OB.apart (by omega) _ _).apart (by omega) _ _)
              have O5_ : Own W_6 W_s.heap.size 27 #[.bool s_x, .slice a_x l_x c_x] := hW ▸ (((O5.put 0 _).put 1 _).as rfl)
              have O6_ : Own W_6 W_3.heap.size 27 #[.bool false, .slice none 0 0] := hW ▸ ((O6.apart (by omega) _ _).apart (by omega) _ _)
              have NX_ := hW ▸ (NX.put (p := W_s.heap.size) (i := 0) (by omega) (.bool s_x)).put (p := W_s.heap.size) (i := 1) (by omega) (.slice a_x l_x c_x)
              have NY_ := hW ▸ (NY.put (p := W_s.heap.size) (i := 0) (by omega) (.bool s_x)).put (p := W_s.heap.size) (i := 1) (by omega) (.slice a_x l_x c_x)
              have hB_ : Below w.heap.size w W_6 := hW ▸ ((hB.setCell (by show w.heap.size ≤ W_s.heap.size; omega) _).setCell (by show w.heap.size ≤ W_s.heap.size; omega) _)
              rw [hW]
              clear hW
              clear OA OB O5 O6 NX NY hB
              have OA := OA_
              have OB := OB_
              have O5 := O5_
              have O6 := O6_
              have NX := NX_
              have NY := NY_
              have hB := hB_
              clear OA_ OB_ O5_ O6_ NX_ NY_ hB_
              refine tree_one (i := 7) (by kernel_rfl) rfl ?_
              · refine ⟨_, rfl, fun K hK => ?_⟩
                have hfr := O6.at_
                obtain ⟨P1, P2, P3⟩ := hfr
                go_wp2
                clear P1 P2 P3
                refine hK _ _ ⟨(OA.apart (by omega) _ _).apart (by omega) _ _, (OB.apart (by omega) _ _).apart (by omega) _ _⟩ ?_
                clear hK K
                obtain ⟨W_7, hW⟩ : ∃ X, (W_6.setCell ⟨W_3.heap.size, 0, none⟩ (.bool s_y)).setCell ⟨W_3.heap.size, 1, none⟩ (.slice a_y l_y c_y) = X := ⟨_, rfl⟩
                have OA_ : Own W_7 w.heap.size 24 #[.int .u64 (L0 z0), .int .u64 (L1 z0), .int .u64 (L2 z0), .int .u64 (L3 z0)] := hW ▸ ((OA.apart (by omega) _ _).apart (by omega) _ _)
                have OB_ : Own W_7 (w.heap.size + 1) 24 #[.int .u64 (L0 z1), .int .u64 (L1 z1), .int .u64 (L2 z1), .int .u64 (L3 z1)] := hW ▸ ((OB.apart (by omega) _ _).apart (by omega) _ _)
                have O5_ : Own W_7 W_s.heap.size 27 #[.bool s_x, .slice a_x l_x c_x] := hW ▸ ((O5.apart (by omega) _ _).apart (by omega) _ _)
                have O6_ : Own W_7 W_3.heap.size 27 #[.bool s_y, .slice a_y l_y c_y] := hW ▸ (((O6.put 0 _).put 1 _).as rfl)
                have NX_ := hW ▸ (NX.put (p := W_3.heap.size) (i := 0) (by omega) (.bool s_y)).put (p := W_3.heap.size) (i := 1) (by omega) (.slice a_y l_y c_y)
                have NY_ := hW ▸ (NY.put (p := W_3.heap.size) (i := 0) (by omega) (.bool s_y)).put (p := W_3.heap.size) (i := 1) (by omega) (.slice a_y l_y c_y)
                have hB_ : Below w.heap.size w W_7 := hW ▸ ((hB.setCell (by show w.heap.size ≤ W_3.heap.size; omega) _).setCell (by show w.heap.size ≤ W_3.heap.size; omega) _)
                rw [hW]
                clear hW
                clear OA OB O5 O6 NX NY hB
                have OA := OA_
                have OB := OB_
                have O5 := O5_
                have O6 := O6_
                have NX := NX_
                have NY := NY_
                have hB := hB_
                clear OA_ OB_ O5_ O6_ NX_ NY_ hB_
                refine tree_end (by kernel_rfl) ?_
                go_wp2_with fail
                go_meet
                exact ⟨W_s.heap.size, W_3.heap.size, s_x, a_x, l_x, c_x, s_y, a_y, l_y, c_y, rfl, rfl, O5, O6, NX.mono (fun _ _ _ => trivial), NY.mono (fun _ _ _ => trivial), OA, OB, hB⟩
      · refine ⟨_, rfl, fun K hK => ?_⟩
        go_wp2
        refine hK _ _ ⟨OA.more _, OB.more _⟩ ?_
        clear hK K
        obtain ⟨W_3, hW⟩ : ∃ X, W_2.alloc (.cells #[.bool false, .slice none 0 0] 27) = X := ⟨_, rfl⟩
        have hb_3 : Below W_2.heap.size W_2 W_3 := hW ▸ (Below.refl _ _).alloc (Nat.le_refl _) _
        have O6_ : Own W_3 W_2.heap.size 27 #[.bool false, .slice none 0 0] := hW ▸ Own.made _ _ _
        have sz_3 := O6_.in_
        rw [hW]
        clear hW
        replace OA := OA.keep hb_3
        replace OB := OB.keep hb_3
        replace O5 := O5.keep hb_3
        replace hB := then_ hB hb_3 hB.size
        clear hb_3
        have O6 := O6_
        clear O6_
        refine tree_one (i := 1) (by kernel_rfl) rfl ?_
        · refine ⟨_, rfl, fun K hK => ?_⟩
          go_wp2_with (go_at_call 10; refine (F0.out 0 W_3 (Nat.zero_le _)).mono ?_; rintro e W_4 ⟨v_, rfl, hn, hb_4⟩)
          have sz_4 := hb_4.size
          obtain ⟨s_x, a_x, l_x, c_x, rfl⟩ := hn.shape
          have NX := NumP.of hn (S := fun b => W_3.heap.size ≤ b ∧ b < W_4.heap.size) (fun b h1 h2 => ⟨by omega, h1⟩)
          clear hn
          replace OA := OA.keep hb_4
          replace OB := OB.keep hb_4
          replace O5 := O5.keep hb_4
          replace O6 := O6.keep hb_4
          replace hB := then_ hB hb_4 hB.size
          refine hK _ _ ⟨OA, OB⟩ ?_
          clear hK K hb_4
          refine tree_one (i := 3) (by kernel_rfl) rfl ?_
          · refine ⟨_, rfl, fun K hK => ?_⟩
            go_wp2_with (go_at_call 10; refine (F1.out 0 W_4 (Nat.zero_le _)).mono ?_; rintro e W_5 ⟨v_, rfl, hn, hb_5⟩)
            have sz_5 := hb_5.size
            obtain ⟨s_y, a_y, l_y, c_y, rfl⟩ := hn.shape
            have NY := NumP.of hn (S := fun b => W_4.heap.size ≤ b ∧ b < W_5.heap.size) (fun b h1 h2 => ⟨by omega, h1⟩)
            clear hn
            replace OA := OA.keep hb_5
            replace OB := OB.keep hb_5
            replace O5 := O5.keep hb_5
            replace O6 := O6.keep hb_5
            replace NX := NX.keep hb_5
            replace hB := then_ hB hb_5 hB.size
            refine hK _ _ ⟨OA, OB⟩ ?_
            clear hK K hb_5
            refine tree_one (i := 6) (by kernel_rfl) rfl ?_
            · refine ⟨_, rfl, fun K hK => ?_⟩
              have hfr := O5.at_
              obtain ⟨P1, P2, P3⟩ := hfr
              go_wp2
              clear P1 P2 P3
              refine hK _ _ ⟨(OA.apart (by omega) _ _).apart (by omega) _ _, (OB.apart (by omega) _ _).apart (by omega) _ _⟩ ?_
              clear hK K
              obtain ⟨W_6, hW⟩ : ∃ X, (W_5.setCell ⟨W_s.heap.size, 0, none⟩ (.bool s_x)).setCell ⟨W_s.heap.size, 1, none⟩ (.slice a_x l_x c_x) = X := ⟨_, rfl⟩
              have OA_ : Own W_6 w.heap.size 24 #[.int .u64 (L0 z0), .int .u64 (L1 z0), .int .u64 (L2 z0), .int .u64 (L3 z0)] := hW ▸ ((OA.apart (by omega) _ _).apart (by omega) _ _)
              have OB_ : Own W_6 (w.heap.size + 1) 24 #[.int .u64 (L0 z1), .int .u64 (L1 z1), .int .u64 (L2 z1), .int .u64 (L3 z1)] := hW ▸ ((OB.apart (by omega) _ _).apart (by omega) _ _)
              have O5_ : Own W_6 W_s.heap.size 27 #[.bool s_x, .slice a_x l_x c_x] := hW ▸ (((O5.put 0 _).put 1 _).as rfl)
              have O6_ : Own W_6 W_2.heap.size 27 #[.bool false, .slice none 0 0] := hW ▸ ((O6.apart (by omega) _ _).apart (by omega) _ _)
              have NX_ := hW ▸ (NX.put (p := W_s.heap.size) (i := 0) (by omega) (.bool s_x)).put (p := W_s.heap.size) (i := 1) (by omega) (.slice a_x l_x c_x)
              have NY_ := hW ▸ (NY.put (p := W_s.heap.size) (i := 0) (by omega) (.bool s_x)).put (p := W_s.heap.size) (i := 1) (by omega) (.slice a_x l_x c_x)
              have hB_ : Below w.heap.size w W_6 := hW ▸ ((hB.setCell (by show w.heap.size ≤ W_s.heap.size; omega) _).setCell (by show w.heap.size ≤ W_s.heap.size; omega) _)
              rw [hW]
              clear hW
              clear OA OB O5 O6 NX NY hB
              have OA := OA_
              have OB := OB_
              have O5 := O5_
              have O6 := O6_
              have NX := NX_
              have NY := NY_
              have hB := hB_
              clear OA_ OB_ O5_ O6_ NX_ NY_ hB_
              refine tree_one (i := 7) (by kernel_rfl) rfl ?_
              · refine ⟨_, rfl, fun K hK => ?_⟩
                have hfr := O6.at_
                obtain ⟨P1, P2, P3⟩ := hfr
                go_wp2
                clear P1 P2 P3
                refine hK _ _ ⟨(OA.apart (by omega) _ _).apart (by omega) _ _, (OB.apart (by omega) _ _).apart (by omega) _ _⟩ ?_
                clear hK K
                obtain ⟨W_7, hW⟩ : ∃ X, (W_6.setCell ⟨W_2.heap.size, 0, none⟩ (.bool s_y)).setCell ⟨W_2.heap.size, 1, none⟩ (.slice a_y l_y c_y) = X := ⟨_, rfl⟩
                have OA_ : Own W_7 w.heap.size 24 #[.int .u64 (L0 z0), .int .u64 (L1 z0), .int .u64 (L2 z0), .int .u64 (L3 z0)] := hW ▸ ((OA.apart (by omega) _ _).apart (by omega) _ _)
                have OB_ : Own W_7 (w.heap.size + 1) 24 #[.int .u64 (L0 z1), .int .u64 (L1 z1), .int .u64 (L2 z1), .int .u64 (L3 z1)] := hW ▸ ((OB.apart (by omega) _ _).apart (by omega) _ _)
                have O5_ : Own W_7 W_s.heap.size 27 #[.bool s_x, .slice a_x l_x c_x] := hW ▸ ((O5.apart (by omega) _ _).apart (by omega) _ _)
                have O6_ : Own W_7 W_2.heap.size 27 #[.bool s_y, .slice a_y l_y c_y] := hW ▸ (((O6.put 0 _).put 1 _).as rfl)
                have NX_ := hW ▸ (NX.put (p := W_2.heap.size) (i := 0) (by omega) (.bool s_y)).put (p := W_2.heap.size) (i := 1) (by omega) (.slice a_y l_y c_y)
                have NY_ := hW ▸ (NY.put (p := W_2.heap.size) (i := 0) (by omega) (.bool s_y)).put (p := W_2.heap.size) (i := 1) (by omega) (.slice a_y l_y c_y)
                have hB_ : Below w.heap.size w W_7 := hW ▸ ((hB.setCell (by show w.heap.size ≤ W_2.heap.size; omega) _).setCell (by show w.heap.size ≤ W_2.heap.size; omega) _)
                rw [hW]
                clear hW
                clear OA OB O5 O6 NX NY hB
                have OA := OA_
                have OB := OB_
                have O5 := O5_
                have O6 := O6_
                have NX := NX_
                have NY := NY_
                have hB := hB_
                clear OA_ OB_ O5_ O6_ NX_ NY_ hB_
                refine tree_end (by kernel_rfl) ?_
                go_wp2_with fail
                go_meet
                exact ⟨W_s.heap.size, W_2.heap.size, s_x, a_x, l_x, c_x, s_y, a_y, l_y, c_y, rfl, rfl, O5, O6, NX.mono (fun _ _ _ => trivial), NY.mono (fun _ _ _ => trivial), OA, OB, hB⟩
    · refine ⟨_, rfl, fun K hK => ?_⟩
      go_wp2
      refine hK _ _ ⟨OA.more _, OB.more _⟩ ?_
      clear hK K
      obtain ⟨W_2, hW⟩ : ∃ X, W_s.alloc (.cells #[.bool false, .slice none 0 0] 27) = X := ⟨_, rfl⟩
      have hb_2 : Below W_s.heap.size W_s W_2 := hW ▸ (Below.refl _ _).alloc (Nat.le_refl _) _
      have O6_ : Own W_2 W_s.heap.size 27 #[.bool false, .slice none 0 0] := hW ▸ Own.made _ _ _
      have sz_2 := O6_.in_
      rw [hW]
      clear hW
      replace OA := OA.keep hb_2
      replace OB := OB.keep hb_2
      replace hB := then_ hB hb_2 hB.size
      clear hb_2
      have O6 := O6_
      clear O6_
      refine tree_two (i := 1) (k := 4) (by kernel_rfl) rfl rfl ?_ ?_
      · refine ⟨_, rfl, fun K hK => ?_⟩
        go_wp2_with (go_at_call 10; refine (F0.out 0 W_2 (Nat.zero_le _)).mono ?_; rintro e W_3 ⟨v_, rfl, hn, hb_3⟩)
        have sz_3 := hb_3.size
        obtain ⟨s_x, a_x, l_x, c_x, rfl⟩ := hn.shape
        have NX := NumP.of hn (S := fun b => W_2.heap.size ≤ b ∧ b < W_3.heap.size) (fun b h1 h2 => ⟨by omega, h1⟩)
        clear hn
        replace OA := OA.keep hb_3
        replace OB := OB.keep hb_3
        replace O6 := O6.keep hb_3
        replace hB := then_ hB hb_3 hB.size
        refine hK _ _ ⟨OA, OB⟩ ?_
        clear hK K hb_3
        refine tree_two (i := 3) (k := 4) (by kernel_rfl) rfl rfl ?_ ?_
        · refine ⟨_, rfl, fun K hK => ?_⟩
          go_wp2_with (go_at_call 10; refine (F1.out 0 W_3 (Nat.zero_le _)).mono ?_; rintro e W_4 ⟨v_, rfl, hn, hb_4⟩)
          have sz_4 := hb_4.size
          obtain ⟨s_y, a_y, l_y, c_y, rfl⟩ := hn.shape
          have NY := NumP.of hn (S := fun b => W_3.heap.size ≤ b ∧ b < W_4.heap.size) (fun b h1 h2 => ⟨by omega, h1⟩)
          clear hn
          replace OA := OA.keep hb_4
          replace OB := OB.keep hb_4
          replace O6 := O6.keep hb_4
          replace NX := NX.keep hb_4
          replace hB := then_ hB hb_4 hB.size
          refine hK _ _ ⟨OA, OB⟩ ?_
          clear hK K hb_4
          refine tree_one (i := 4) (by kernel_rfl) rfl ?_
          · refine ⟨_, rfl, fun K hK => ?_⟩
            go_wp2
            refine hK _ _ ⟨OA.more _, OB.more _⟩ ?_
            clear hK K
            obtain ⟨W_5, hW⟩ : ∃ X, W_4.alloc (.cells #[.bool false, .slice none 0 0] 27) = X := ⟨_, rfl⟩
            have hb_5 : Below W_4.heap.size W_4 W_5 := hW ▸ (Below.refl _ _).alloc (Nat.le_refl _) _
            have O5_ : Own W_5 W_4.heap.size 27 #[.bool false, .slice none 0 0] := hW ▸ Own.made _ _ _
            have sz_5 := O5_.in_
            rw [hW]
            clear hW
            replace OA := OA.keep hb_5
            replace OB := OB.keep hb_5
            replace O6 := O6.keep hb_5
            replace NX := NX.keep hb_5
            replace NY := NY.keep hb_5
            replace hB := then_ hB hb_5 hB.size
            clear hb_5
            have O5 := O5_
            clear O5_
            refine tree_one (i := 6) (by kernel_rfl) rfl ?_
            · refine ⟨_, rfl, fun K hK => ?_⟩
              have hfr := O5.at_
              obtain ⟨P1, P2, P3⟩ := hfr
              go_wp2
              clear P1 P2 P3
              refine hK _ _ ⟨(OA.apart (by omega) _ _).apart (by omega) _ _, (OB.apart (by omega) _ _).apart (by omega) _ _⟩ ?_
              clear hK K
              obtain ⟨W_6, hW⟩ : ∃ X, (W_5.setCell ⟨W_4.heap.size, 0, none⟩ (.bool s_x)).setCell ⟨W_4.heap.size, 1, none⟩ (.slice a_x l_x c_x) = X := ⟨_, rfl⟩
              have OA_ : Own W_6 w.heap.size 24 #[.int .u64 (L0 z0), .int .u64 (L1 z0), .int .u64 (L2 z0), .int .u64 (L3 z0)] := hW ▸ ((OA.apart (by omega) _ _).apart (by omega) _ _)
              have OB_ : Own W_6 (w.heap.size + 1) 24 #[.int .u64 (L0 z1), .int .u64 (L1 z1), .int .u64 (L2 z1), .int .u64 (L3 z1)] := hW ▸ ((OB.apart (by omega) _ _).apart (by omega) _ _)
              have O6_ : Own W_6 W_s.heap.size 27 #[.bool false, .slice none 0 0] := hW ▸ ((O6.apart (by omega) _ _).apart (by omega) _ _)
              have O5_ : Own W_6 W_4.heap.size 27 #[.bool s_x, .slice a_x l_x c_x] := hW ▸ (((O5.put 0 _).put 1 _).as rfl)
              have NX_ := hW ▸ (NX.put (p := W_4.heap.size) (i := 0) (by omega) (.bool s_x)).put (p := W_4.heap.size) (i := 1) (by omega) (.slice a_x l_x c_x)
              have NY_ := hW ▸ (NY.put (p := W_4.heap.size) (i := 0) (by omega) (.bool s_x)).put (p := W_4.heap.size) (i := 1) (by omega) (.slice a_x l_x c_x)
              have hB_ : Below w.heap.size w W_6 := hW ▸ ((hB.setCell (by show w.heap.size ≤ W_4.heap.size; omega) _).setCell (by show w.heap.size ≤ W_4.heap.size; omega) _)
              rw [hW]
              clear hW
              clear OA OB O6 O5 NX NY hB
              have OA := OA_
              have OB := OB_
              have O6 := O6_
              have O5 := O5_
              have NX := NX_
              have NY := NY_
              have hB := hB_
              clear OA_ OB_ O6_ O5_ NX_ NY_ hB_
              refine tree_one (i := 7) (by kernel_rfl) rfl ?_
              · refine ⟨_, rfl, fun K hK => ?_⟩
                have hfr := O6.at_
                obtain ⟨P1, P2, P3⟩ := hfr
                go_wp2
                clear P1 P2 P3
                refine hK _ _ ⟨(OA.apart (by omega) _ _).apart (by omega) _ _, (OB.apart (by omega) _ _).apart (by omega) _ _⟩ ?_
                clear hK K
                obtain ⟨W_7, hW⟩ : ∃ X, (W_6.setCell ⟨W_s.heap.size, 0, none⟩ (.bool s_y)).setCell ⟨W_s.heap.size, 1, none⟩ (.slice a_y l_y c_y) = X := ⟨_, rfl⟩
                have OA_ : Own W_7 w.heap.size 24 #[.int .u64 (L0 z0), .int .u64 (L1 z0), .int .u64 (L2 z0), .int .u64 (L3 z0)] := hW ▸ ((OA.apart (by omega) _ _).apart (by omega) _ _)
                have OB_ : Own W_7 (w.heap.size + 1) 24 #[.int .u64 (L0 z1), .int .u64 (L1 z1), .int .u64 (L2 z1), .int .u64 (L3 z1)] := hW ▸ ((OB.apart (by omega) _ _).apart (by omega) _ _)
                have O6_ : Own W_7 W_s.heap.size 27 #[.bool s_y, .slice a_y l_y c_y] := hW ▸ (((O6.put 0 _).put 1 _).as rfl)
                have O5_ : Own W_7 W_4.heap.size 27 #[.bool s_x, .slice a_x l_x c_x] := hW ▸ ((O5.apart (by omega) _ _).apart (by omega) _ _)
                have NX_ := hW ▸ (NX.put (p := W_s.heap.size) (i := 0) (by omega) (.bool s_y)).put (p := W_s.heap.size) (i := 1) (by omega) (.slice a_y l_y c_y)
                have NY_ := hW ▸ (NY.put (p := W_s.heap.size) (i := 0) (by omega) (.bool s_y)).put (p := W_s.heap.size) (i := 1) (by omega) (.slice a_y l_y c_y)
                have hB_ : Below w.heap.size w W_7 := hW ▸ ((hB.setCell (by show w.heap.size ≤ W_s.heap.size; omega) _).setCell (by show w.heap.size ≤ W_s.heap.size; omega) _)
                rw [hW]
                clear hW
                clear OA OB O6 O5 NX NY hB
                have OA := OA_
                have OB := OB_
                have O6 := O6_
                have O5 := O5_
                have NX := NX_
                have NY := NY_
                have hB := hB_
                clear OA_ OB_ O6_ O5_ NX_ NY_ hB_
                refine tree_end (by kernel_rfl) ?_
                go_wp2_with fail
                go_meet
                exact ⟨W_4.heap.size, W_s.heap.size, s_x, a_x, l_x, c_x, s_y, a_y, l_y, c_y, rfl, rfl, O5, O6, NX.mono (fun _ _ _ => trivial), NY.mono (fun _ _ _ => trivial), OA, OB, hB⟩
        · refine ⟨_, rfl, fun K hK => ?_⟩
          go_wp2
          refine hK _ _ ⟨OA.more _, OB.more _⟩ ?_
          clear hK K
          obtain ⟨W_4, hW⟩ : ∃ X, W_3.alloc (.cells #[.bool false, .slice none 0 0] 27) = X := ⟨_, rfl⟩
          have hb_4 : Below W_3.heap.size W_3 W_4 := hW ▸ (Below.refl _ _).alloc (Nat.le_refl _) _
          have O5_ : Own W_4 W_3.heap.size 27 #[.bool false, .slice none 0 0] := hW ▸ Own.made _ _ _
          have sz_4 := O5_.in_
          rw [hW]
          clear hW
          replace OA := OA.keep hb_4
          replace OB := OB.keep hb_4
          replace O6 := O6.keep hb_4
          replace NX := NX.keep hb_4
          replace hB := then_ hB hb_4 hB.size
          clear hb_4
          have O5 := O5_
          clear O5_
          refine tree_one (i := 3) (by kernel_rfl) rfl ?_
          · refine ⟨_, rfl, fun K hK => ?_⟩
            go_wp2_with (go_at_call 10; refine (F1.out 0 W_4 (Nat.zero_le _)).mono ?_; rintro e W_5 ⟨v_, rfl, hn, hb_5⟩)
            have sz_5 := hb_5.size
            obtain ⟨s_y, a_y, l_y, c_y, rfl⟩ := hn.shape
            have NY := NumP.of hn (S := fun b => W_4.heap.size ≤ b ∧ b < W_5.heap.size) (fun b h1 h2 => ⟨by omega, h1⟩)
            clear hn
            replace OA := OA.keep hb_5
            replace OB := OB.keep hb_5
            replace O6 := O6.keep hb_5
            replace O5 := O5.keep hb_5
            replace NX := NX.keep hb_5
            replace hB := then_ hB hb_5 hB.size
            refine hK _ _ ⟨OA, OB⟩ ?_
            clear hK K hb_5
            refine tree_one (i := 6) (by kernel_rfl) rfl ?_
            · refine ⟨_, rfl, fun K hK => ?_⟩
              have hfr := O5.at_
              obtain ⟨P1, P2, P3⟩ := hfr
              go_wp2
              clear P1 P2 P3
              refine hK _ _ ⟨(OA.apart (by omega) _ _).apart (by omega) _ _, (OB.apart (by omega) _ _).apart (by omega) _ _⟩ ?_
              clear hK K
              obtain ⟨W_6, hW⟩ : ∃ X, (W_5.setCell ⟨W_3.heap.size, 0, none⟩ (.bool s_x)).setCell ⟨W_3.heap.size, 1, none⟩ (.slice a_x l_x c_x) = X := ⟨_, rfl⟩
              have OA_ : Own W_6 w.heap.size 24 #[.int .u64 (L0 z0), .int .u64 (L1 z0), .int .u64 (L2 z0), .int .u64 (L3 z0)] := hW ▸ ((OA.apart (by omega) _ _).apart (by omega) _ _)
              have OB_ : Own W_6 (w.heap.size + 1) 24 #[.int .u64 (L0 z1), .int .u64 (L1 z1), .int .u64 (L2 z1), .int .u64 (L3 z1)] := hW ▸ ((OB.apart (by omega) _ _).apart (by omega) _ _)
              have O6_ : Own W_6 W_s.heap.size 27 #[.bool false, .slice none 0 0] := hW ▸ ((O6.apart (by omega) _ _).apart (by omega) _ _)
              have O5_ : Own W_6 W_3.heap.size 27 #[.bool s_x, .slice a_x l_x c_x] := hW ▸ (((O5.put 0 _).put 1 _).as rfl)
              have NX_ := hW ▸ (NX.put (p := W_3.heap.size) (i := 0) (by omega) (.bool s_x)).put (p := W_3.heap.size) (i := 1) (by omega) (.slice a_x l_x c_x)
              have NY_ := hW ▸ (NY.put (p := W_3.heap.size) (i := 0) (by omega) (.bool s_x)).put (p := W_3.heap.size) (i := 1) (by omega) (.slice a_x l_x c_x)
              have hB_ : Below w.heap.size w W_6 := hW ▸ ((hB.setCell (by show w.heap.size ≤ W_3.heap.size; omega) _).setCell (by show w.heap.size ≤ W_3.heap.size; omega) _)
              rw [hW]
              clear hW
              clear OA OB O6 O5 NX NY hB
              have OA := OA_
              have OB := OB_
              have O6 := O6_
              have O5 := O5_
              have NX := NX_
              have NY := NY_
              have hB := hB_
              clear OA_ OB_ O6_ O5_ NX_ NY_ hB_
              refine tree_one (i := 7) (by kernel_rfl) rfl ?_
              · refine ⟨_, rfl, fun K hK => ?_⟩
                have hfr := O6.at_
                obtain ⟨P1, P2, P3⟩ := hfr
                go_wp2
                clear P1 P2 P3
                refine hK _ _ ⟨(OA.apart (by omega) _ _).apart (by omega) _ _, (OB.apart (by omega) _ _).apart (by omega) _ _⟩ ?_
                clear hK K
                obtain ⟨W_7, hW⟩ : ∃ X, (W_6.setCell ⟨W_s.heap.size, 0, none⟩ (.bool s_y)).setCell ⟨W_s.heap.size, 1, none⟩ (.slice a_y l_y c_y) = X := ⟨_, rfl⟩
                have OA_ : Own W_7 w.heap.size 24 #[.int .u64 (L0 z0), .int .u64 (L1 z0), .int .u64 (L2 z0), .int .u64 (L3 z0)] := hW ▸ ((OA.apart (by omega) _ _).apart (by omega) _ _)
                have OB_ : Own W_7 (w.heap.size + 1) 24 #[.int .u64 (L0 z1), .int .u64 (L1 z1), .int .u64 (L2 z1), .int .u64 (L3 z1)] := hW ▸ ((OB.apart (by omega) _ _).apart (by omega) _ _)
                have O6_ : Own W_7 W_s.heap.size 27 #[.bool s_y, .slice a_y l_y c_y] := hW ▸ (((O6.put 0 _).put 1 _).as rfl)
                have O5_ : Own W_7 W_3.heap.size 27 #[.bool s_x, .slice a_x l_x c_x] := hW ▸ ((O5.apart (by omega) _ _).apart (by omega) _ _)
                have NX_ := hW ▸ (NX.put (p := W_s.heap.size) (i := 0) (by omega) (.bool s_y)).put (p := W_s.heap.size) (i := 1) (by omega) (.slice a_y l_y c_y)
                have NY_ := hW ▸ (NY.put (p := W_s.heap.size) (i := 0) (by omega) (.bool s_y)).put (p := W_s.heap.size) (i := 1) (by omega) (.slice a_y l_y c_y)
                have hB_ : Below w.heap.size w W_7 := hW ▸ ((hB.setCell (by show w.heap.size ≤ W_s.heap.size; omega) _).setCell (by show w.heap.size ≤ W_s.heap.size; omega) _)
                rw [hW]
                clear hW
                clear OA OB O6 O5 NX NY hB
                have OA := OA_
                have OB := OB_
                have O6 := O6_
                have O5 := O5_
                have NX := NX_
                have NY := NY_
                have hB := hB_
                clear OA_ OB_ O6_ O5_ NX_ NY_ hB_
                refine tree_end (by kernel_rfl) ?_
                go_wp2_with fail
                go_meet
                exact ⟨W_3.heap.size, W_s.heap.size, s_x, a_x, l_x, c_x, s_y, a_y, l_y, c_y, rfl, rfl, O5, O6, NX.mono (fun _ _ _ => trivial), NY.mono (fun _ _ _ => trivial), OA, OB, hB⟩
      · refine ⟨_, rfl, fun K hK => ?_⟩
        go_wp2
        refine hK _ _ ⟨OA.more _, OB.more _⟩ ?_
        clear hK K
        obtain ⟨W_3, hW⟩ : ∃ X, W_2.alloc (.cells #[.bool false, .slice none 0 0] 27) = X := ⟨_, rfl⟩
        have hb_3 : Below W_2.heap.size W_2 W_3 := hW ▸ (Below.refl _ _).alloc (Nat.le_refl _) _
        have O5_ : Own W_3 W_2.heap.size 27 #[.bool false, .slice none 0 0] := hW ▸ Own.made _ _ _
        have sz_3 := O5_.in_
        rw [hW]
        clear hW
        replace OA := OA.keep hb_3
        replace OB := OB.keep hb_3
        replace O6 := O6.keep hb_3
        replace hB := then_ hB hb_3 hB.size
        clear hb_3
        have O5 := O5_
        clear O5_
        refine tree_one (i := 1) (by kernel_rfl) rfl ?_
        · refine ⟨_, rfl, fun K hK => ?_⟩
          go_wp2_with (go_at_call 10; refine (F0.out 0 W_3 (Nat.zero_le _)).mono ?_; rintro e W_4 ⟨v_, rfl, hn, hb_4⟩)
          have sz_4 := hb_4.size
          obtain ⟨s_x, a_x, l_x, c_x, rfl⟩ := hn.shape
          have NX := NumP.of hn (S := fun b => W_3.heap.size ≤ b ∧ b < W_4.heap.size) (fun b h1 h2 => ⟨by omega, h1⟩)
          clear hn
          replace OA := OA.keep hb_4
          replace OB := OB.keep hb_4
          replace O6 := O6.keep hb_4
          replace O5 := O5.keep hb_4
          replace hB := then_ hB hb_4 hB.size
          refine hK _ _ ⟨OA, OB⟩ ?_
          clear hK K hb_4
          refine tree_one (i := 3) (by kernel_rfl) rfl ?_
          · refine ⟨_, rfl, fun K hK => ?_⟩
            go_wp2_with (go_at_call 10; refine (F1.out 0 W_4 (Nat.zero_le _)).mono ?_; rintro e W_5 ⟨v_, rfl, hn, hb_5⟩)
            have sz_5 := hb_5.size
            obtain ⟨s_y, a_y, l_y, c_y, rfl⟩ := hn.shape
            have NY := NumP.of hn (S := fun b => W_4.heap.size ≤ b ∧ b < W_5.heap.size) (fun b h1 h2 => ⟨by omega, h1⟩)
            clear hn
            replace OA := OA.keep hb_5
            replace OB := OB.keep hb_5
            replace O6 := O6.keep hb_5
            replace O5 := O5.keep hb_5
            replace NX := NX.keep hb_5
            replace hB := then_ hB hb_5 hB.size
            refine hK _ _ ⟨OA, OB⟩ ?_
            clear hK K hb_5
            refine tree_one (i := 6) (by kernel_rfl) rfl ?_
            · refine ⟨_, rfl, fun K hK => ?_⟩
              have hfr := O5.at_
              obtain ⟨P1, P2, P3⟩ := hfr
              go_wp2
              clear P1 P2 P3
              refine hK _ _ ⟨(OA.apart (by omega) _ _).apart (by omega) _ _, (OB.apart (by omega) _ _).apart (by omega) _ _⟩ ?_
              clear hK K
              obtain ⟨W_6, hW⟩ : ∃ X, (W_5.setCell ⟨W_2.heap.size, 0, none⟩ (.bool s_x)).setCell ⟨W_2.heap.size, 1, none⟩ (.slice a_x l_x c_x) = X := ⟨_, rfl⟩
              have OA_ : Own W_6 w.heap.size 24 #[.int .u64 (L0 z0), .int .u64 (L1 z0), .int .u64 (L2 z0), .int .u64 (L3 z0)] := hW ▸ ((OA.apart (by omega) _ _).apart (by omega) _ _)
              have OB_ : Own W_6 (w.heap.size + 1) 24 #[.int .u64 (L0 z1), .int .u64 (L1 z1), .int .u64 (L2 z1), .int .u64 (L3 z1)] := hW ▸ ((OB.apart (by omega) _ _).apart (by omega) _ _)
              have O6_ : Own W_6 W_s.heap.size 27 #[.bool false, .slice none 0 0] := hW ▸ ((O6.apart (by omega) _ _).apart (by omega) _ _)
              have O5_ : Own W_6 W_2.heap.size 27 #[.bool s_x, .slice a_x l_x c_x] := hW ▸ (((O5.put 0 _).put 1 _).as rfl)
              have NX_ := hW ▸ (NX.put (p := W_2.heap.size) (i := 0) (by omega) (.bool s_x)).put (p := W_2.heap.size) (i := 1) (by omega) (.slice a_x l_x c_x)
              have NY_ := hW ▸ (NY.put (p := W_2.heap.size) (i := 0) (by omega) (.bool s_x)).put (p := W_2.heap.size) (i := 1) (by omega) (.slice a_x l_x c_x)
              have hB_ : Below w.heap.size w W_6 := hW ▸ ((hB.setCell (by show w.heap.size ≤ W_2.heap.size; omega) _).setCell (by show w.heap.size ≤ W_2.heap.size; omega) _)
              rw [hW]
              clear hW
              clear OA OB O6 O5 NX NY hB
              have OA := OA_
              have OB := OB_
              have O6 := O6_
              have O5 := O5_
              have NX := NX_
              have NY := NY_
              have hB := hB_
              clear OA_ OB_ O6_ O5_ NX_ NY_ hB_
              refine tree_one (i := 7) (by kernel_rfl) rfl ?_
              · refine ⟨_, rfl, fun K hK => ?_⟩
                have hfr := O6.at_
                obtain ⟨P1, P2, P3⟩ := hfr
                go_wp2
                clear P1 P2 P3
                refine hK _ _ ⟨(OA.apart (by omega) _ _).apart (by omega) _ _, (OB.apart (by omega) _ _).apart (by omega) _ _⟩ ?_
                clear hK K
                obtain ⟨W_7, hW⟩ : ∃ X, (W_6.setCell ⟨W_s.heap.size, 0, none⟩ (.bool s_y)).setCell ⟨W_s.heap.size, 1, none⟩ (.slice a_y l_y c_y) = X := ⟨_, rfl⟩
                have OA_ : Own W_7 w.heap.size 24 #[.int .u64 (L0 z0), .int .u64 (L1 z0), .int .u64 (L2 z0), .int .u64 (L3 z0)] := hW ▸ ((OA.apart (by omega) _ _).apart (by omega) _ _)
                have OB_ : Own W_7 (w.heap.size + 1) 24 #[.int .u64 (L0 z1), .int .u64 (L1 z1), .int .u64 (L2 z1), .int .u64 (L3 z1)] := hW ▸ ((OB.apart (by omega) _ _).apart (by omega) _ _)
                have O6_ : Own W_7 W_s.heap.size 27 #[.bool s_y, .slice a_y l_y c_y] := hW ▸ (((O6.put 0 _).put 1 _).as rfl)
                have O5_ : Own W_7 W_2.heap.size 27 #[.bool s_x, .slice a_x l_x c_x] := hW ▸ ((O5.apart (by omega) _ _).apart (by omega) _ _)
                have NX_ := hW ▸ (NX.put (p := W_s.heap.size) (i := 0) (by omega) (.bool s_y)).put (p := W_s.heap.size) (i := 1) (by omega) (.slice a_y l_y c_y)
                have NY_ := hW ▸ (NY.put (p := W_s.heap.size) (i := 0) (by omega) (.bool s_y)).put (p := W_s.heap.size) (i := 1) (by omega) (.slice a_y l_y c_y)
                have hB_ : Below w.heap.size w W_7 := hW ▸ ((hB.setCell (by show w.heap.size ≤ W_s.heap.size; omega) _).setCell (by show w.heap.size ≤ W_s.heap.size; omega) _)
                rw [hW]
                clear hW
                clear OA OB O6 O5 NX NY hB
                have OA := OA_
                have OB := OB_
                have O6 := O6_
                have O5 := O5_
                have NX := NX_
                have NY := NY_
                have hB := hB_
                clear OA_ OB_ O6_ O5_ NX_ NY_ hB_
                refine tree_end (by kernel_rfl) ?_
                go_wp2_with fail
                go_meet
                exact ⟨W_2.heap.size, W_s.heap.size, s_x, a_x, l_x, c_x, s_y, a_y, l_y, c_y, rfl, rfl, O5, O6, NX.mono (fun _ _ _ => trivial), NY.mono (fun _ _ _ => trivial), OA, OB, hB⟩
  case rest =>
    obtain ⟨b5, b6, s5, a5, l5, c5, s6, a6, l6, c6, rfl, rfl, O5, O6, NX, NY, OA, OB, hB⟩ := hcut
    clear F0 F1
    have HNX := Lib.hid NX
    have HNY := Lib.hid NY
    clear NX NY
    obtain ⟨P1, P2, P3⟩ := OA.at_
    obtain ⟨Q1, Q2, Q3⟩ := OB.at_
    go_upto_region 3 with (go_at_call 11; refine (AD.out _).mono ?_; rintro e w1 ⟨rfl, hb1⟩)
    go_name_world V1 hW2
    have U1 : Own V1 w1.heap.size 24 #[.int .u64 (L0 r1), .int .u64 (L1 r1), .int .u64 (L2 r1), .int .u64 (L3 r1)] := hW2 ▸ (by repeat' (first | (with_reducible assumption) | (with_reducible refine Own.drawnN ?_ _) | (with_reducible refine Own.drawn ?_) | (with_reducible refine Own.made_at ?_; first | rfl | (simp; done) | omega | (simp; omega)) | (with_reducible refine Own.more ?_ _) | (with_reducible refine Own.apart ?_ ?_ _ _; rotate_left; first | omega | (simp; done) | (simp; omega)) | (refine Own.put ?_ _ _)))
    have hb2 : Below w1.heap.size w1 V1 := hW2 ▸ (by repeat' (first | (with_reducible exact Below.refl _ _) | (with_reducible assumption) | (with_reducible refine below_drewN ?_ _) | (with_reducible refine Below.drew ?_) | (with_reducible refine Below.alloc ?_ ?_ _) | (with_reducible refine Below.setCell ?_ ?_ _) | (with_reducible refine then_ ?_ (by with_reducible assumption) ?_) | (with_reducible exact Nat.le_refl _) | (with_reducible exact Nat.le_succ _) | (with_reducible exact Nat.le_succ_of_le (by with_reducible assumption)) | omega | (simp; done) | (simp; omega) | (exact Nat.le_succ _) | (exact Nat.le_succ_of_le (by with_reducible assumption))))
    have hb12 : Below wc.heap.size wc V1 := then_ hb1 hb2 hb1.size
    replace O5 := O5.keep hb12
    replace O6 := O6.keep hb12
    replace OA := OA.keep hb12
    replace OB := OB.keep hb12
    replace HNX := Lib.hid (HNX.out.keep hb12)
    replace HNY := Lib.hid (HNY.out.keep hb12)
    replace hB := then_ hB hb12 hB.size
    clear hW2 hb1 hb2 hb12 P1 P2 P3 Q1 Q2 Q3
    obtain ⟨P1, P2, P3⟩ := OA.at_
    obtain ⟨Q1, Q2, Q3⟩ := OB.at_
    go_upto_region 4 with (go_at_call 12; refine (SB.out _).mono ?_; rintro e w2 ⟨rfl, hb1⟩)
    go_name_world V2 hW2
    have U2 : Own V2 w2.heap.size 24 #[.int .u64 (L0 r2), .int .u64 (L1 r2), .int .u64 (L2 r2), .int .u64 (L3 r2)] := hW2 ▸ (by repeat' (first | (with_reducible assumption) | (with_reducible refine Own.drawnN ?_ _) | (with_reducible refine Own.drawn ?_) | (with_reducible refine Own.made_at ?_; first | rfl | (simp; done) | omega | (simp; omega)) | (with_reducible refine Own.more ?_ _) | (with_reducible refine Own.apart ?_ ?_ _ _; rotate_left; first | omega | (simp; done) | (simp; omega)) | (refine Own.put ?_ _ _)))
    have hb2 : Below w2.heap.size w2 V2 := hW2 ▸ (by repeat' (first | (with_reducible exact Below.refl _ _) | (with_reducible assumption) | (with_reducible refine below_drewN ?_ _) | (with_reducible refine Below.drew ?_) | (with_reducible refine Below.alloc ?_ ?_ _) | (with_reducible refine Below.setCell ?_ ?_ _) | (with_reducible refine then_ ?_ (by with_reducible assumption) ?_) | (with_reducible exact Nat.le_refl _) | (with_reducible exact Nat.le_succ _) | (with_reducible exact Nat.le_succ_of_le (by with_reducible assumption)) | omega | (simp; done) | (simp; omega) | (exact Nat.le_succ _) | (exact Nat.le_succ_of_le (by with_reducible assumption))))
    have hb12 : Below V1.heap.size V1 V2 := then_ hb1 hb2 hb1.size
    replace O5 := O5.keep hb12
    replace O6 := O6.keep hb12
    replace OA := OA.keep hb12
    replace OB := OB.keep hb12
    replace U1 := U1.keep hb12
    replace HNX := Lib.hid (HNX.out.keep hb12)
    replace HNY := Lib.hid (HNY.out.keep hb12)
    replace hB := then_ hB hb12 hB.size
    clear hW2 hb1 hb2 hb12 P1 P2 P3 Q1 Q2 Q3
    obtain ⟨P1, P2, P3⟩ := OA.at_
    obtain ⟨Q1, Q2, Q3⟩ := OB.at_
    go_upto_region 5 with (go_at_call 13; refine (NE.out _).mono ?_; rintro e w3 ⟨rfl, hb1⟩)
    go_name_world V3 hW2
    have U3 : Own V3 w3.heap.size 24 #[.int .u64 (L0 r3), .int .u64 (L1 r3), .int .u64 (L2 r3), .int .u64 (L3 r3)] := hW2 ▸ (by repeat' (first | (with_reducible assumption) | (with_reducible refine Own.drawnN ?_ _) | (with_reducible refine Own.drawn ?_) | (with_reducible refine Own.made_at ?_; first | rfl | (simp; done) | omega | (simp; omega)) | (with_reducible refine Own.more ?_ _) | (with_reducible refine Own.apart ?_ ?_ _ _; rotate_left; first | omega | (simp; done) | (simp; omega)) | (refine Own.put ?_ _ _)))
    have hb2 : Below w3.heap.size w3 V3 := hW2 ▸ (by repeat' (first | (with_reducible exact Below.refl _ _) | (with_reducible assumption) | (with_reducible refine below_drewN ?_ _) | (with_reducible refine Below.drew ?_) | (with_reducible refine Below.alloc ?_ ?_ _) | (with_reducible refine Below.setCell ?_ ?_ _) | (with_reducible refine then_ ?_ (by with_reducible assumption) ?_) | (with_reducible exact Nat.le_refl _) | (with_reducible exact Nat.le_succ _) | (with_reducible exact Nat.le_succ_of_le (by with_reducible assumption)) | omega | (simp; done) | (simp; omega) | (exact Nat.le_succ _) | (exact Nat.le_succ_of_le (by with_reducible assumption))))
    have hb12 : Below V2.heap.size V2 V3 := then_ hb1 hb2 hb1.size
    replace O5 := O5.keep hb12
    replace O6 := O6.keep hb12
    replace OA := OA.keep hb12
    replace OB := OB.keep hb12
    replace U1 := U1.keep hb12
    replace U2 := U2.keep hb12
    replace HNX := Lib.hid (HNX.out.keep hb12)
    replace HNY := Lib.hid (HNY.out.keep hb12)
    replace hB := then_ hB hb12 hB.size
    clear hW2 hb1 hb2 hb12 P1 P2 P3 Q1 Q2 Q3
    have B0 := hB
    have HP : Pow10 V3.drew := hp.out.keep B0.drew
    clear hB OA OB AD SB NE hp
    replace HNX := Lib.hid (HNX.out.keep ((Below.refl _ _).drew))
    replace HNY := Lib.hid (HNY.out.keep ((Below.refl _ _).drew))
    refine wp_region_seq (fun W => Own W b5 27 #[.bool s5, .slice a5 l5 c5] ∧ Own W b6 27 #[.bool s6, .slice a6 l6 c6] ∧ Own W w1.heap.size 24 #[.int .u64 (L0 r1), .int .u64 (L1 r1), .int .u64 (L2 r1), .int .u64 (L3 r1)] ∧ Own W w2.heap.size 24 #[.int .u64 (L0 r2), .int .u64 (L1 r2), .int .u64 (L2 r2), .int .u64 (L3 r2)] ∧ Own W w3.heap.size 24 #[.int .u64 (L0 r3), .int .u64 (L1 r3), .int .u64 (L2 r3), .int .u64 (L3 r3)]) (1 :: 2 :: 3 :: 4 :: 5 :: 8 :: 9 :: 10 :: 11 :: 12 :: 13 :: 17 :: 18 :: 19 :: 20 :: 21 :: 24 :: 25 :: []) (2 :: 4 :: 5 :: 10 :: 12 :: 13 :: 19 :: 21 :: []) (0 :: 1 :: 2 :: 3 :: 4 :: 5 :: 6 :: 7 :: 8 :: 9 :: 10 :: 11 :: 12 :: 13 :: 14 :: 15 :: 16 :: 17 :: 18 :: 19 :: 20 :: 21 :: 22 :: 23 :: 24 :: 25 :: []) (by kernel_rfl) (by kernel_rfl) rfl (by kernel_rfl) rfl (⟨O5.drawn, O6.drawn, U1.drawn, U2.drawn, U3.drawn⟩) (by simp only [picked, List.filterMap_cons, List.filterMap_nil, List.getElem?_cons_zero, List.getElem?_cons_succ, Option.map_some]; exact rfl) ?_
    refine seq_on rfl rfl fun K hK => ?_
    go_wp2_with (go_at_call 14; refine (awake_any _ HP).mono ?_; rintro e x1 ⟨rfl, hb⟩)
    replace O5 := O5.drawn.keep hb
    replace O6 := O6.drawn.keep hb
    replace U1 := U1.drawn.keep hb
    replace U2 := U2.drawn.keep hb
    replace U3 := U3.drawn.keep hb
    have B1 : Below w.heap.size w x1 := then_ B0.drew hb B0.size
    replace HNX := Lib.hid (HNX.out.keep hb)
    replace HNY := Lib.hid (HNY.out.keep hb)
    refine hK _ _ ⟨O5, O6, U1, U2, U3⟩ ?_
    clear hK K B0 hb
    iterate 5
      refine seq_want (v := ?_) rfl rfl (fun W hS => ?_) ?_
      rotate_left
      · first
          | (conv => lhs; simp [go_sem]
             first | done | exact rfl)
          | (have hS := hS rfl
             obtain ⟨q1, q2, q3, q4, q5⟩ := hS
             obtain ⟨q11, q12, q13⟩ := q1.at_
             obtain ⟨q21, q22, q23⟩ := q2.at_
             obtain ⟨q31, q32, q33⟩ := q3.at_
             obtain ⟨q41, q42, q43⟩ := q4.at_
             obtain ⟨q51, q52, q53⟩ := q5.at_
             conv => lhs; simp [go_sem, *]
             first | done | exact rfl)
      simp only [Act.put, List.setIfInBounds_toArray, List.set_cons_zero, List.set_cons_succ]
    refine seq_on rfl rfl fun K hK => ?_
    go_wp2_with (go_at_call 16; refine (add_num 0 _ _ _ _ _ _ z0 z1 x1 (Nat.zero_le _) (HNX.out.old 0) (HNY.out.old 0) (Nat.le_trans S0.out (by decide)) (Nat.le_trans S1.out (by decide))).mono ?_; rintro e x2 ⟨v1, rfl, m1, hb⟩)
    replace O5 := O5.keep hb
    replace O6 := O6.keep hb
    replace U1 := U1.keep hb
    replace U2 := U2.keep hb
    replace U3 := U3.keep hb
    have B2 : Below w.heap.size w x2 := then_ B1 hb B1.size
    replace HNX := Lib.hid (HNX.out.keep hb)
    replace HNY := Lib.hid (HNY.out.keep hb)
    replace m1 := Lib.hid m1
    refine hK _ _ ⟨O5, O6, U1, U2, U3⟩ ?_
    clear hK K B1 hb
    refine seq_on rfl rfl fun K hK => ?_
    go_wp2_with (go_at_call 15; refine (is_num _ _ v1 (z0 + z1) r1 e1 x2 m1.out HA1.out).mono ?_; rintro e x3 ⟨rfl, hb⟩)
    replace O5 := O5.keep hb
    replace O6 := O6.keep hb
    replace U1 := U1.keep hb
    replace U2 := U2.keep hb
    replace U3 := U3.keep hb
    have B3 : Below w.heap.size w x3 := then_ B2 hb B2.size
    replace HNX := Lib.hid (HNX.out.keep hb)
    replace HNY := Lib.hid (HNY.out.keep hb)
    clear m1
    refine hK _ _ ⟨O5, O6, U1, U2, U3⟩ ?_
    clear hK K B2 hb
    iterate 6
      refine seq_want (v := ?_) rfl rfl (fun W hS => ?_) ?_
      rotate_left
      · first
          | (conv => lhs; simp [go_sem]
             first | done | exact rfl)
          | (have hS := hS rfl
             obtain ⟨q1, q2, q3, q4, q5⟩ := hS
             obtain ⟨q11, q12, q13⟩ := q1.at_
             obtain ⟨q21, q22, q23⟩ := q2.at_
             obtain ⟨q31, q32, q33⟩ := q3.at_
             obtain ⟨q41, q42, q43⟩ := q4.at_
             obtain ⟨q51, q52, q53⟩ := q5.at_
             conv => lhs; simp [go_sem, *]
             first | done | exact rfl)
      simp only [Act.put, List.setIfInBounds_toArray, List.set_cons_zero, List.set_cons_succ]
    refine seq_on rfl rfl fun K hK => ?_
    go_wp2_with (go_at_call 17; refine (neg_num x3.heap.size _ z1 x3 (Nat.le_refl _) (HNY.out.old _)).mono ?_; rintro e x4 ⟨v2, rfl, m2, hb⟩)
    replace O5 := O5.keep hb
    replace O6 := O6.keep hb
    replace U1 := U1.keep hb
    replace U2 := U2.keep hb
    replace U3 := U3.keep hb
    have B4 : Below w.heap.size w x4 := then_ B3 hb B3.size
    replace HNX := Lib.hid (HNX.out.keep hb)
    replace HNY := Lib.hid (HNY.out.keep hb)
    replace m2 := Lib.hid m2
    refine hK _ _ ⟨O5, O6, U1, U2, U3⟩ ?_
    clear hK K B3 hb
    refine seq_on rfl rfl fun K hK => ?_
    go_wp2_with (go_at_call 16; refine (add_num 0 _ _ _ _ _ v2 z0 (-z1) x4 (Nat.zero_le _) (HNX.out.old 0) m2.out (Nat.le_trans S0.out (by decide)) (by rw [Int.natAbs_neg]; exact Nat.le_trans S1.out (by decide))).mono ?_; rintro e x5 ⟨v3, rfl, m3, hb⟩)
    replace O5 := O5.keep hb
    replace O6 := O6.keep hb
    replace U1 := U1.keep hb
    replace U2 := U2.keep hb
    replace U3 := U3.keep hb
    have B5 : Below w.heap.size w x5 := then_ B4 hb B4.size
    replace HNX := Lib.hid (HNX.out.keep hb)
    replace HNY := Lib.hid (HNY.out.keep hb)
    replace m3 := Lib.hid m3
    clear m2
    refine hK _ _ ⟨O5, O6, U1, U2, U3⟩ ?_
    clear hK K B4 hb
    refine seq_on rfl rfl fun K hK => ?_
    go_wp2_with (go_at_call 15; refine (is_num _ _ v3 (z0 + -z1) r2 e2 x5 m3.out (by rw [← Int.sub_eq_add_neg]; exact HA2.out)).mono ?_; rintro e x6 ⟨rfl, hb⟩)
    replace O5 := O5.keep hb
    replace O6 := O6.keep hb
    replace U1 := U1.keep hb
    replace U2 := U2.keep hb
    replace U3 := U3.keep hb
    have B6 : Below w.heap.size w x6 := then_ B5 hb B5.size
    replace HNX := Lib.hid (HNX.out.keep hb)
    replace HNY := Lib.hid (HNY.out.keep hb)
    clear m3
    refine hK _ _ ⟨O5, O6, U1, U2, U3⟩ ?_
    clear hK K B5 hb
    iterate 5
      refine seq_want (v := ?_) rfl rfl (fun W hS => ?_) ?_
      rotate_left
      · first
          | (conv => lhs; simp [go_sem]
             first | done | exact rfl)
          | (have hS := hS rfl
             obtain ⟨q1, q2, q3, q4, q5⟩ := hS
             obtain ⟨q11, q12, q13⟩ := q1.at_
             obtain ⟨q21, q22, q23⟩ := q2.at_
             obtain ⟨q31, q32, q33⟩ := q3.at_
             obtain ⟨q41, q42, q43⟩ := q4.at_
             obtain ⟨q51, q52, q53⟩ := q5.at_
             conv => lhs; simp [go_sem, *]
             first | done | exact rfl)
      simp only [Act.put, List.setIfInBounds_toArray, List.set_cons_zero, List.set_cons_succ]
    refine seq_on rfl rfl fun K hK => ?_
    go_wp2_with (go_at_call 17; refine (neg_num x6.heap.size _ z0 x6 (Nat.le_refl _) (HNX.out.old _)).mono ?_; rintro e x7 ⟨v4, rfl, m4, hb⟩)
    replace O5 := O5.keep hb
    replace O6 := O6.keep hb
    replace U1 := U1.keep hb
    replace U2 := U2.keep hb
    replace U3 := U3.keep hb
    have B7 : Below w.heap.size w x7 := then_ B6 hb B6.size
    replace m4 := Lib.hid m4
    refine hK _ _ ⟨O5, O6, U1, U2, U3⟩ ?_
    clear hK K B6 hb
    refine seq_on rfl rfl fun K hK => ?_
    go_wp2_with (go_at_call 15; refine (is_num _ _ v4 (-z0) r3 e3 x7 m4.out HA3.out).mono ?_; rintro e x8 ⟨rfl, hb⟩)
    replace O5 := O5.keep hb
    replace O6 := O6.keep hb
    replace U1 := U1.keep hb
    replace U2 := U2.keep hb
    replace U3 := U3.keep hb
    have B8 : Below w.heap.size w x8 := then_ B7 hb B7.size
    clear m4
    refine hK _ _ ⟨O5, O6, U1, U2, U3⟩ ?_
    clear hK K B7 hb
    iterate 2
      refine seq_want (v := ?_) rfl rfl (fun W hS => ?_) ?_
      rotate_left
      · conv => lhs; simp [go_sem]
        first | done | exact rfl
      simp only [Act.put, List.setIfInBounds_toArray, List.set_cons_zero, List.set_cons_succ]
    refine seq_end ?_
    go_wp2
    go_ret
    exact ⟨rfl, B8⟩

set_option maxRecDepth 100000 in
theorem lifted (os : Os) (started : os.Started) (H : Type) (enc : TypeId × Value → H) :
    ReturnsInHanded {} Tryd.checked os 3 .any (fun w args => (Rows.wideSumsSpec.pre enc Tryd.prog Tryd.f3 [] false w args ∧ laidMetH Tryd.prog lay3 w) ∧ sizedMet enc Tryd.prog Tryd.f3 (OpenSpec.ofChange Rows.wideSumsSpec) false w args) (Rows.wideSumsSpec.post enc Tryd.prog Tryd.f3 false true false false) := by
  refine returnsInHanded_of_change_and (C := Tryd.checked) (X := fun w _ => laidMetH Tryd.prog lay3 w) (fun _ _ _ hh h => h.of_heap hh) own started (by kernel_rfl) Tryd.func3
    (ChangeSpec.witness_shaped (enc := enc) (C := Tryd.checked) (os := os) (X := fun w _ => laidMetH Tryd.prog lay3 w) false (World.doorLaid Tryd.prog 400 os) #[.agg #[.int .u64 0, .int .u64 0, .int .u64 0, .int .u64 0], .agg #[.int .u64 0, .int .u64 0, .int .u64 0, .int .u64 0]] 8 rfl (World.shaped_of_RefB (by kernel_rfl) (by kernel_rfl)) (by kernel_rfl) (by kernel_rfl) (by kernel_rfl) (door_met os _)) ?_
  intro W base args ds gs before hval0 hW _ _ hL _
  have hval : ∀ (j : Nat) t v, Tryd.f3.params[j]? = some t → args[j]? = some v → Value.okWide Tryd.prog W .any base t v := hval0
  have hW' := hW
  obtain ⟨p, q, hA0, hV, rfl, hfz, hnd⟩ := hW
  have hA : DataW.TrodAll enc Tryd.prog W 0 (fun _ => true) true Tryd.f3.params.toList args.toList ds p := hA0
  rw [Tryd.params3] at hA hval
  obtain ⟨v0, vs0, d0, ds0, p0, q0, hargs, rfl, rfl, h0, r0⟩ := trodAll_cons hA
  obtain ⟨v1, vs1, d1, ds1, p1, q1, rfl, rfl, rfl, h1, r1⟩ := trodAll_cons r0
  obtain ⟨rfl, rfl, rfl⟩ := trodAll_nil r1
  obtain rfl : args = #[v0, v1] := by cases args; simp_all
  obtain ⟨rfl, rfl⟩ := trodVars_none hV
  obtain ⟨z0, rfl, rfl, rfl, f0⟩ := open_i4 (hval 0 24 v0 rfl rfl) h0
  obtain ⟨z1, rfl, rfl, rfl, f1⟩ := open_i4 (hval 1 24 v1 rfl rfl) h1
  clear hA0 hval0
  refine (walk z0 z1 W f0 f1 (pow_of hL)).mono fun e W' ⟨he, bel⟩ => ?_
  subst he
  exact ⟨_, rfl, _, _, _, [], _, [], hW', trodAll_mk1 (shut_bool Tryd.underlying4 _), (trodAll_cons_mk (shut_i4 _) (trodAll_cons_mk (shut_i4 _) trodAll_mk0)), rfl, bel.frame _, fun h => by cases h⟩

theorem over : Rows.WideSumsSaid :=
  OpenClaim.holds_of_wide 3 Tryd.f3 rfl rfl rfl rfl rfl rfl rfl ⟨rfl, rfl, rfl, rfl, rfl⟩ rfl rfl rfl rfl rfl (by kernel_rfl) Tryd.func3 (by kernel_rfl)
    (of_decide_eq_true (by kernel_rfl)) (by unfold Func.isWrapper; first | (rw [if_pos (by decide +kernel)]; kernel_rfl) | (rw [if_neg (by decide +kernel)]; exact ⟨rfl, rfl⟩))
    (fun os started H enc _ => lifted os started H enc)

/-- THE STATEMENT -/
theorem proved : Rows.WideSumsCardSaid :=
  Claim7.holds_tied_plain_at .later [] [.data, .data, .data] true (true, "967dca3fa14bcff598b7a8224b9eaf3b9bea7657f4d3a184d0d0e975bb1324a6") false
    over (fun _ h => by cases h) (by kernel_rfl) (fun _ h => by cases h) wideSums_row_tie rfl ⟨rfl, rfl⟩ (by kernel_rfl) rfl
    (fun f fn hf hfn => by
      obtain rfl : f = 3 := Option.some.inj ((show Tryd.prog.funcNamed "croft/croftlaw03.WideSums" = some 3 by kernel_rfl).symm.trans hf) |>.symm
      obtain rfl : fn = Tryd.f3 := (Option.some.inj (Tryd.func3.symm.trans hfn)).symm
      exact ⟨by kernel_rfl, fun j t ht => by
        rw [Tryd.params3] at ht
        have hm : t ∈ [24, 24] := by simpa using Array.mem_of_getElem? ht
        have hall : ([24, 24].all fun u => !Tryd.prog.wantsStandIn u) = true := by kernel_rfl
        exact (show Tryd.prog.wantsStandIn t = false by simpa using List.all_eq_true.1 hall t hm)⟩)
    (by kernel_rfl)
#print axioms proved
end Go.Proofs.YtdnjkminicmffaaDoor.wideSums
