/- merged: The contract of croftref03.Add: the sum of two numbers. Rows of digits whose block is told by a predicate; the contract of croftref03.Power: 2 to the k, k at most 300. Products of numbers by their digits, as one reckons on paper. It speaks of no function. A number through a small one, digit by digit from the top: what half and Text reckon. It speaks of no function. The contract of croftref03.half: digits through 2, rounded to nought. The contract of croftref03.Floor: the greatest whole number not above a number through 2 to the n (n at most 300 counts). The contract of croftref03.Mul: the product of two numbers. The contract of croftref03.Text: a number in decimal. Condition: fewer than 1000 decimal digits. The contract of croftref03.Div: quotient and rest to nought, of a number through one that isn't nought. -/
import Derived.Test.YtigcbgehnlilaaaDoorRefG
import Derived.Test.YtigcbgehnlilaaaDoorSeq
import Derived.Test.YtigcbgehnlilaaaDoorWideR
import Derived.Deep.LoopGhost
import Derived.Deep.OwnRows
import Derived.Deep.DeepCutAuto
import Derived.Lib.ItoaWalk
import Derived.BigQuiet
import Derived.Deep.QuietTactic
import Derived.Test.YtigcbgehnlilaaaDoorDec
import Derived.Laws.IdiomStrings
import Derived.Maps.AppendAt
import Derived.OwnWalk
section
namespace Go.Proofs.YtigcbgehnlilaaaDoor
open Go.ChangeShapes Go.WideShapes Go.ChangeAt Go.RowKit
set_option linter.unusedVariables false

-- WALK
set_option maxHeartbeats 16000000 in
set_option maxRecDepth 20000 in
theorem add_num (T Tx Cx Ty Cy : Nat) (v v' : Value) (x y : Int) (w : World) (hT : T ≤ w.heap.size) (hx : Num w Tx Cx v x) (hy : Num w Ty Cy v' y) (hlx : (digs x.natAbs).length ≤ 100000000) (hly : (digs y.natAbs).length ≤ 100000000) :
    Calls Tryd.prog 39 #[v, v'] w fun e w' => ∃ v2, e = .returned v2 ∧ Num w' T w.heap.size v2 (x + y) ∧ Below w.heap.size w w' := by
  obtain ⟨xa, xl, xc, rfl, rx⟩ := hx
  obtain ⟨ya, yl, yc, rfl, ry⟩ := hy
  have lx : xl ≤ 100000000 := by have := rx.hlen; omega
  have ly : yl ≤ 100000000 := by have := ry.hlen; omega
  have RX := Lib.hid (fun w' (hb : Below w.heap.size w w') => rx.keep hb)
  have RY := Lib.hid (fun w' (hb : Below w.heap.size w w') => ry.keep hb)
  clear rx ry hlx hly
  obtain ⟨sx, hsx⟩ : ∃ s, decide (x < 0) = s := ⟨_, rfl⟩
  obtain ⟨sy, hsy⟩ : ∃ s, decide (y < 0) = s := ⟨_, rfl⟩
  rw [hsx, hsy]
  have HX := Lib.hid hsx
  have HY := Lib.hid hsy
  clear hsx hsy
  go_enter Tryd.func39, Tryd.ntmps39
  go_upto_region 1 with fail
  go_name_world W0 hW0
  have OA : Own W0 w.heap.size 59 #[.bool sx, .slice xa xl xc] := hW0 ▸ (by repeat' (first | (with_reducible assumption) | (with_reducible refine Own.drawnN ?_ _) | (with_reducible refine Own.drawn ?_) | (with_reducible refine Own.made_at ?_; first | rfl | (simp; done) | omega | (simp; omega)) | (with_reducible refine Own.more ?_ _) | (with_reducible refine Own.apart ?_ ?_ _ _; rotate_left; first | omega | (simp; done) | (simp; omega)) | (refine Own.put ?_ _ _)))
  have OB : Own W0 (w.heap.size + 1) 59 #[.bool sy, .slice ya yl yc] := hW0 ▸ (by repeat' (first | (with_reducible assumption) | (with_reducible refine Own.drawnN ?_ _) | (with_reducible refine Own.drawn ?_) | (with_reducible refine Own.made_at ?_; first | rfl | (simp; done) | omega | (simp; omega)) | (with_reducible refine Own.more ?_ _) | (with_reducible refine Own.apart ?_ ?_ _ _; rotate_left; first | omega | (simp; done) | (simp; omega)) | (refine Own.put ?_ _ _)))
  have OR : Own W0 (w.heap.size + 2) 59 #[.bool false, .slice none 0 0] := hW0 ▸ (by repeat' (first | (with_reducible assumption) | (with_reducible refine Own.drawnN ?_ _) | (with_reducible refine Own.drawn ?_) | (with_reducible refine Own.made_at ?_; first | rfl | (simp; done) | omega | (simp; omega)) | (with_reducible refine Own.more ?_ _) | (with_reducible refine Own.apart ?_ ?_ _ _; rotate_left; first | omega | (simp; done) | (simp; omega)) | (refine Own.put ?_ _ _)))
  have hB : Below w.heap.size w W0 := hW0 ▸ (by repeat' (first | (with_reducible exact Below.refl _ _) | (with_reducible assumption) | (with_reducible refine below_drewN ?_ _) | (with_reducible refine Below.drew ?_) | (with_reducible refine Below.alloc ?_ ?_ _) | (with_reducible refine Below.setCell ?_ ?_ _) | (with_reducible refine then_ ?_ (by with_reducible assumption) ?_) | (with_reducible exact Nat.le_refl _) | (with_reducible exact Nat.le_succ _) | (with_reducible exact Nat.le_succ_of_le (by with_reducible assumption)) | omega | (simp; done) | (simp; omega) | (exact Nat.le_succ _) | (exact Nat.le_succ_of_le (by with_reducible assumption))))
  clear hW0
  obtain ⟨q11, q12, q13⟩ := OA.at_
  obtain ⟨q21, q22, q23⟩ := OB.at_
  have hs0 := OR.in_
  by_cases hss : sx = sy
  · subst hss
    have t1 : (sx == sx) = true := by cases sx <;> rfl
    have HZ := Lib.hid (show (if sx = true then -((x.natAbs + y.natAbs : Nat) : Int) else ((x.natAbs + y.natAbs : Nat) : Int)) = x + y by
      have h1 := HX.out
      have h2 := HY.out
      cases sx
      · simp at h1 h2 ⊢; omega
      · simp at h1 h2 ⊢; omega)
    go_upto_region 2 with fail
    clear q11 q12 q13 q21 q22 q23
    refine wp_region_seq (fun W => Own W w.heap.size 59 #[.bool sx, .slice xa xl xc] ∧ Own W (w.heap.size + 1) 59 #[.bool sx, .slice ya yl yc]) (0 :: 1 :: 2 :: 3 :: 4 :: 5 :: 7 :: []) (1 :: 3 :: 5 :: []) (0 :: 1 :: 2 :: 3 :: 4 :: 5 :: 6 :: 7 :: 8 :: 9 :: []) (by kernel_rfl) (by kernel_rfl) rfl (by kernel_rfl) rfl (⟨OA.drawn, OB.drawn⟩) (by simp only [picked, List.filterMap_cons, List.filterMap_nil, List.getElem?_cons_zero, List.getElem?_cons_succ, Option.map_some]; exact rfl) ?_
    iterate 6
      refine seq_want (v := ?_) rfl rfl (fun W hS => ?_) ?_
      rotate_left
      · first
          | (conv => lhs; simp [go_sem]
             first | done | exact rfl)
          | (have hS := hS rfl
             obtain ⟨q1, q2⟩ := hS
             obtain ⟨q11, q12, q13⟩ := q1.at_
             obtain ⟨q21, q22, q23⟩ := q2.at_
             conv => lhs; simp [go_sem, *]
             first | done | exact rfl)
      simp only [Act.put, List.setIfInBounds_toArray, List.set_cons_zero, List.set_cons_succ]
    refine seq_on rfl rfl fun K hK => ?_
    go_wp2_with (go_at_call 62; refine (plus_num x.natAbs y.natAbs _ T _ _ _ _ _ _ _ _ _ W0.drew lx ly (RX.out _ hB.drew) (RY.out _ hB.drew)).mono ?_; rintro e w1 ⟨a', l', c', rfl, hd, hb1⟩)
    have hdg := Dg.digs (x.natAbs + y.natAbs)
    have hvl := vl_digs (x.natAbs + y.natAbs)
    obtain ⟨zs, hzs⟩ : ∃ zs, digs (x.natAbs + y.natAbs) = zs := ⟨_, rfl⟩
    rw [hzs] at hd hdg hvl
    clear hzs
    refine hK _ _ ⟨OA.drawn.keep hb1, OB.drawn.keep hb1⟩ ?_
    clear hK K
    iterate 1
      refine seq_want (v := ?_) rfl rfl (fun W hS => ?_) ?_
      rotate_left
      · conv => lhs; simp [go_sem]
        first | done | exact rfl
      simp only [Act.put, List.setIfInBounds_toArray, List.set_cons_zero, List.set_cons_succ]
    refine seq_on rfl rfl fun K hK => ?_
    go_wp2_with (go_at_call 61; refine (trim_num T W0.drew.heap.size sx a' l' c' zs _ w1 hd hdg hvl).mono ?_; rintro e w2 ⟨v2, rfl, hn, hb2⟩)
    have hb12 := then_ hb1 hb2 hb1.size
    refine hK _ _ ⟨OA.drawn.keep hb12, OB.drawn.keep hb12⟩ ?_
    clear hK K
    have OR2 := OR.drawn.keep hb12
    have hs3 : w.heap.size + 2 < W0.drew.heap.size := hs0
    have hB2 := then_ hB.drew hb12 hB.size
    have hz := HZ.out
    rw [hz] at hn
    obtain ⟨sn, na, nl, nc, rfl⟩ := hn.shape
    have HN := Lib.hid hn
    obtain ⟨r1, r2, r3⟩ := OR2.at_
    have hs2 := OA.in_
    clear hn hd hdg hvl hb1 hb2 hb12 OA OB OR hB HX HY hz
    refine seq_last rfl rfl (by kernel_rfl) rfl fun K hK => ?_
    go_wp2
    refine hK _ _ ?_
    clear hK K
    refine seq_end ?_
    go_wp2
    refine bodyPost_ret (v := .agg #[.bool sn, .slice na nl nc]) (by simp [results, Tryd.results39, go_sem, r1]) rfl ⟨_, rfl, ?_, ?_⟩
    · exact ((HN.out.put (by omega) (by omega) _).put (by omega) (by omega) _).mono (Nat.le_refl _) (by omega)
    · repeat' (first | (with_reducible exact Below.refl _ _) | (with_reducible assumption) | (with_reducible refine below_drewN ?_ _) | (with_reducible refine Below.drew ?_) | (with_reducible refine Below.alloc ?_ ?_ _) | (with_reducible refine Below.setCell ?_ ?_ _) | (with_reducible refine then_ ?_ (by with_reducible assumption) ?_) | (with_reducible exact Nat.le_refl _) | (with_reducible exact Nat.le_succ _) | (with_reducible exact Nat.le_succ_of_le (by with_reducible assumption)) | omega | (simp; done) | (simp; omega) | (exact Nat.le_succ _) | (exact Nat.le_succ_of_le (by with_reducible assumption)))
  · have t1 : (sx == sy) = false := by simpa using hss
    replace hss := Lib.hid hss
    have CZ := cmp_range (x.natAbs : Int) y.natAbs
    obtain ⟨cz, hcz⟩ : ∃ c, cmpZ (x.natAbs : Int) y.natAbs = c := ⟨_, rfl⟩
    have SZ := fun w' hb => size_num x.natAbs y.natAbs _ _ _ _ _ _ _ _ _ _ w' (RX.out w' hb) (RY.out w' hb)
    rw [hcz] at SZ CZ
    have HC := Lib.hid hcz
    replace SZ := Lib.hid SZ
    clear hcz
    go_wp2_with fail
    go_at_call 63
    refine (SZ.out W0 hB).mono ?_
    rintro e w0 ⟨rfl, kd, rfl⟩
    have hs1 : w.heap.size + 2 < (W0.drewN kd).heap.size := hs0
    replace hB := below_drewN hB kd
    replace OA := OA.drawnN kd
    replace OB := OB.drawnN kd
    replace OR := OR.drawnN kd
    clear q11 q12 q13 q21 q22 q23 hs0 SZ
    obtain ⟨W1, hW1⟩ : ∃ W1, W0.drewN kd = W1 := ⟨_, rfl⟩
    rw [hW1] at hs1 hB OA OB OR ⊢
    clear hW1
    obtain ⟨q11, q12, q13⟩ := OA.at_
    obtain ⟨q21, q22, q23⟩ := OB.at_
    by_cases hge : 0 ≤ cz
    · have hmn : y.natAbs ≤ x.natAbs := by
        have h := HC.out
        unfold cmpZ at h
        rcases Nat.lt_or_ge x.natAbs y.natAbs with h1 | h1
        · rw [if_pos (by omega)] at h; omega
        · exact h1
      have HZ := Lib.hid (show (if sx = true then -((x.natAbs : Int) - y.natAbs) else (x.natAbs : Int) - y.natAbs) = x + y by
        have h1 := HX.out
        have h2 := HY.out
        have h3 := hss.out
        cases sx <;> cases sy <;> simp at h1 h2 h3 ⊢ <;> omega)
      clear HC hss
      go_upto_region 4 with fail
      clear q11 q12 q13 q21 q22 q23
      refine wp_region_seq (fun W => Own W w.heap.size 59 #[.bool sx, .slice xa xl xc] ∧ Own W (w.heap.size + 1) 59 #[.bool sy, .slice ya yl yc]) (0 :: 1 :: 2 :: 3 :: 4 :: 5 :: 7 :: []) (1 :: 3 :: 5 :: []) (0 :: 1 :: 2 :: 3 :: 4 :: 5 :: 6 :: 7 :: 8 :: 9 :: []) (by kernel_rfl) (by kernel_rfl) rfl (by kernel_rfl) rfl (⟨OA.drawn, OB.drawn⟩) (by simp only [picked, List.filterMap_cons, List.filterMap_nil, List.getElem?_cons_zero, List.getElem?_cons_succ, Option.map_some]; exact rfl) ?_
      iterate 6
        refine seq_want (v := ?_) rfl rfl (fun W hS => ?_) ?_
        rotate_left
        · first
            | (conv => lhs; simp [go_sem]
               first | done | exact rfl)
            | (have hS := hS rfl
               obtain ⟨q1, q2⟩ := hS
               obtain ⟨q11, q12, q13⟩ := q1.at_
               obtain ⟨q21, q22, q23⟩ := q2.at_
               conv => lhs; simp [go_sem, *]
               first | done | exact rfl)
        simp only [Act.put, List.setIfInBounds_toArray, List.set_cons_zero, List.set_cons_succ]
      refine seq_on rfl rfl fun K hK => ?_
      go_wp2_with (go_at_call 64; refine (minus_num x.natAbs y.natAbs hmn _ T _ _ _ _ _ _ _ _ _ W1.drew lx (RX.out _ hB.drew) (RY.out _ hB.drew)).mono ?_; rintro e w1 ⟨a', l', c', zs, rfl, hd, hdg, hvl, hb1⟩)
      refine hK _ _ ⟨OA.drawn.keep hb1, OB.drawn.keep hb1⟩ ?_
      clear hK K
      iterate 1
        refine seq_want (v := ?_) rfl rfl (fun W hS => ?_) ?_
        rotate_left
        · conv => lhs; simp [go_sem]
          first | done | exact rfl
        simp only [Act.put, List.setIfInBounds_toArray, List.set_cons_zero, List.set_cons_succ]
      refine seq_on rfl rfl fun K hK => ?_
      go_wp2_with (go_at_call 61; refine (trim_num T W1.drew.heap.size sx a' l' c' zs _ w1 hd hdg hvl).mono ?_; rintro e w2 ⟨v2, rfl, hn, hb2⟩)
      have hb12 := then_ hb1 hb2 hb1.size
      refine hK _ _ ⟨OA.drawn.keep hb12, OB.drawn.keep hb12⟩ ?_
      clear hK K
      have OR2 := OR.drawn.keep hb12
      have hs3 : w.heap.size + 2 < W1.drew.heap.size := hs1
      have hB2 := then_ hB.drew hb12 hB.size
      have hz := HZ.out
      rw [hz] at hn
      obtain ⟨sn, na, nl, nc, rfl⟩ := hn.shape
      have HN := Lib.hid hn
      obtain ⟨r1, r2, r3⟩ := OR2.at_
      have hs2 := OA.in_
      clear hn hd hdg hvl hb1 hb2 hb12 OA OB OR hB HX HY hz
      refine seq_last rfl rfl (by kernel_rfl) rfl fun K hK => ?_
      go_wp2
      refine hK _ _ ?_
      clear hK K
      refine seq_end ?_
      go_wp2
      refine bodyPost_ret (v := .agg #[.bool sn, .slice na nl nc]) (by simp [results, Tryd.results39, go_sem, r1]) rfl ⟨_, rfl, ?_, ?_⟩
      · exact ((HN.out.put (by omega) (by omega) _).put (by omega) (by omega) _).mono (Nat.le_refl _) (by omega)
      · repeat' (first | (with_reducible exact Below.refl _ _) | (with_reducible assumption) | (with_reducible refine below_drewN ?_ _) | (with_reducible refine Below.drew ?_) | (with_reducible refine Below.alloc ?_ ?_ _) | (with_reducible refine Below.setCell ?_ ?_ _) | (with_reducible refine then_ ?_ (by with_reducible assumption) ?_) | (with_reducible exact Nat.le_refl _) | (with_reducible exact Nat.le_succ _) | (with_reducible exact Nat.le_succ_of_le (by with_reducible assumption)) | omega | (simp; done) | (simp; omega) | (exact Nat.le_succ _) | (exact Nat.le_succ_of_le (by with_reducible assumption)))
    · have hmn : x.natAbs ≤ y.natAbs := by
        have h := HC.out
        unfold cmpZ at h
        rcases Nat.lt_or_ge y.natAbs x.natAbs with h1 | h1
        · rw [if_neg (by omega), if_pos (by omega)] at h; omega
        · exact h1
      have HZ := Lib.hid (show (if sy = true then -((y.natAbs : Int) - x.natAbs) else (y.natAbs : Int) - x.natAbs) = x + y by
        have h1 := HX.out
        have h2 := HY.out
        have h3 := hss.out
        cases sx <;> cases sy <;> simp at h1 h2 h3 ⊢ <;> omega)
      clear HC hss
      go_upto_region 5 with fail
      clear q11 q12 q13 q21 q22 q23
      refine wp_region_seq (fun W => Own W w.heap.size 59 #[.bool sx, .slice xa xl xc] ∧ Own W (w.heap.size + 1) 59 #[.bool sy, .slice ya yl yc]) (0 :: 1 :: 2 :: 3 :: 4 :: 5 :: 7 :: []) (1 :: 3 :: 5 :: []) (0 :: 1 :: 2 :: 3 :: 4 :: 5 :: 6 :: 7 :: 8 :: 9 :: []) (by kernel_rfl) (by kernel_rfl) rfl (by kernel_rfl) rfl (⟨OA.drawn, OB.drawn⟩) (by simp only [picked, List.filterMap_cons, List.filterMap_nil, List.getElem?_cons_zero, List.getElem?_cons_succ, Option.map_some]; exact rfl) ?_
      iterate 6
        refine seq_want (v := ?_) rfl rfl (fun W hS => ?_) ?_
        rotate_left
        · first
            | (conv => lhs; simp [go_sem]
               first | done | exact rfl)
            | (have hS := hS rfl
               obtain ⟨q1, q2⟩ := hS
               obtain ⟨q11, q12, q13⟩ := q1.at_
               obtain ⟨q21, q22, q23⟩ := q2.at_
               conv => lhs; simp [go_sem, *]
               first | done | exact rfl)
        simp only [Act.put, List.setIfInBounds_toArray, List.set_cons_zero, List.set_cons_succ]
      refine seq_on rfl rfl fun K hK => ?_
      go_wp2_with (go_at_call 64; refine (minus_num y.natAbs x.natAbs hmn _ T _ _ _ _ _ _ _ _ _ W1.drew ly (RY.out _ hB.drew) (RX.out _ hB.drew)).mono ?_; rintro e w1 ⟨a', l', c', zs, rfl, hd, hdg, hvl, hb1⟩)
      refine hK _ _ ⟨OA.drawn.keep hb1, OB.drawn.keep hb1⟩ ?_
      clear hK K
      iterate 1
        refine seq_want (v := ?_) rfl rfl (fun W hS => ?_) ?_
        rotate_left
        · conv => lhs; simp [go_sem]
          first | done | exact rfl
        simp only [Act.put, List.setIfInBounds_toArray, List.set_cons_zero, List.set_cons_succ]
      refine seq_on rfl rfl fun K hK => ?_
      go_wp2_with (go_at_call 61; refine (trim_num T W1.drew.heap.size sy a' l' c' zs _ w1 hd hdg hvl).mono ?_; rintro e w2 ⟨v2, rfl, hn, hb2⟩)
      have hb12 := then_ hb1 hb2 hb1.size
      refine hK _ _ ⟨OA.drawn.keep hb12, OB.drawn.keep hb12⟩ ?_
      clear hK K
      have OR2 := OR.drawn.keep hb12
      have hs3 : w.heap.size + 2 < W1.drew.heap.size := hs1
      have hB2 := then_ hB.drew hb12 hB.size
      have hz := HZ.out
      rw [hz] at hn
      obtain ⟨sn, na, nl, nc, rfl⟩ := hn.shape
      have HN := Lib.hid hn
      obtain ⟨r1, r2, r3⟩ := OR2.at_
      have hs2 := OA.in_
      clear hn hd hdg hvl hb1 hb2 hb12 OA OB OR hB HX HY hz
      refine seq_last rfl rfl (by kernel_rfl) rfl fun K hK => ?_
      go_wp2
      refine hK _ _ ?_
      clear hK K
      refine seq_end ?_
      go_wp2
      refine bodyPost_ret (v := .agg #[.bool sn, .slice na nl nc]) (by simp [results, Tryd.results39, go_sem, r1]) rfl ⟨_, rfl, ?_, ?_⟩
      · exact ((HN.out.put (by omega) (by omega) _).put (by omega) (by omega) _).mono (Nat.le_refl _) (by omega)
      · repeat' (first | (with_reducible exact Below.refl _ _) | (with_reducible assumption) | (with_reducible refine below_drewN ?_ _) | (with_reducible refine Below.drew ?_) | (with_reducible refine Below.alloc ?_ ?_ _) | (with_reducible refine Below.setCell ?_ ?_ _) | (with_reducible refine then_ ?_ (by with_reducible assumption) ?_) | (with_reducible exact Nat.le_refl _) | (with_reducible exact Nat.le_succ _) | (with_reducible exact Nat.le_succ_of_le (by with_reducible assumption)) | omega | (simp; done) | (simp; omega) | (exact Nat.le_succ _) | (exact Nat.le_succ_of_le (by with_reducible assumption)))
end Go.Proofs.YtigcbgehnlilaaaDoor
end
section
namespace Go.Proofs.YtigcbgehnlilaaaDoor
open Go.ChangeShapes Go.WideShapes Go.ChangeAt Go.RowKit
set_option linter.unusedVariables false

theorem digs_short {n k : Nat} (h : (n : Int) < 65536 ^ k) : (digs n).length ≤ k := by
  rcases Nat.lt_or_ge k (digs n).length with hk | hk
  · exfalso
    have hn : n ≠ 0 := by rintro rfl; rw [digs_zero] at hk; simp at hk
    obtain ⟨h1, _⟩ := digs_len hn
    have h2 : (65536 : Int) ^ k ≤ 65536 ^ ((digs n).length - 1) := by
      obtain ⟨t, ht⟩ : ∃ t, (digs n).length - 1 = k + t := ⟨(digs n).length - 1 - k, by omega⟩
      rw [ht, Int.pow_add]
      have h4 : (0 : Int) < 65536 ^ k := Int.pow_pos (by decide)
      have h5 : (0 : Int) < 65536 ^ t := Int.pow_pos (by decide)
      have := Int.mul_le_mul_of_nonneg_left (show (1 : Int) ≤ 65536 ^ t by omega) (show (0 : Int) ≤ 65536 ^ k by omega)
      omega
    omega
  · exact hk
structure RowP (w : World) (S : Nat → Prop) (a : Option Addr) (len cap : Nat) (zs : List Int) : Prop where
  hlen : zs.length = len
  hcap : len ≤ cap
  hmax : cap ≤ maxLen
  hcells : zs = [] ∨ ∃ b o, a = some ⟨b, o, none⟩ ∧ S b ∧ b < w.heap.size ∧ ∀ i z, zs[i]? = some z → w.cell? ⟨b, o + i, none⟩ = some (.int .i64 z)
theorem RowP.of {w : World} {T C : Nat} {a : Option Addr} {len cap : Nat} {zs : List Int} (h : DRow w T C a len cap zs) {S : Nat → Prop} (hS : ∀ b, b < w.heap.size → b < T ∨ C ≤ b → S b) : RowP w S a len cap zs := by
  refine ⟨h.hlen, h.hcap, h.hmax, ?_⟩
  by_cases e : zs = []
  · exact .inl e
  · rcases h.hcells with h' | ⟨b, o, ha, ht, hc⟩
    · exact .inl h'
    · obtain ⟨d, r, hd⟩ := List.exists_cons_of_ne_nil e
      have hb := cell_lt (hc 0 d (by rw [hd]; rfl))
      exact .inr ⟨b, o, ha, hS b hb ht, hb, hc⟩
theorem RowP.row {w : World} {S : Nat → Prop} {a : Option Addr} {len cap : Nat} {zs : List Int} (h : RowP w S a len cap zs) {T C : Nat} (hS : ∀ b, S b → b < w.heap.size → b < T ∨ C ≤ b) : DRow w T C a len cap zs :=
  ⟨h.hlen, h.hcap, h.hmax, h.hcells.imp id fun ⟨b, o, ha, hs, hb, hc⟩ => ⟨b, o, ha, hS b hs hb, hc⟩⟩
theorem RowP.old {w : World} {S : Nat → Prop} {a : Option Addr} {len cap : Nat} {zs : List Int} (h : RowP w S a len cap zs) (C : Nat) : DRow w w.heap.size C a len cap zs := h.row fun _ _ hb => .inl hb
theorem RowP.keep {w w' : World} {S : Nat → Prop} {a : Option Addr} {len cap : Nat} {zs : List Int} (h : RowP w S a len cap zs) (hb : Below w.heap.size w w') : RowP w' S a len cap zs :=
  ⟨h.hlen, h.hcap, h.hmax, h.hcells.imp id fun ⟨b, o, ha, hs, hl, hc⟩ => ⟨b, o, ha, hs, Nat.lt_of_lt_of_le hl hb.size, fun i z hz => Go.Proofs.YtigcbgehnlilaaaDoor.keep hb (hc i z hz)⟩⟩
theorem RowP.put {w : World} {S : Nat → Prop} {a : Option Addr} {len cap : Nat} {zs : List Int} (h : RowP w S a len cap zs) {p i : Nat} (hp : ¬ S p) (u : Value) : RowP (w.setCell ⟨p, i, none⟩ u) S a len cap zs := by
  refine ⟨h.hlen, h.hcap, h.hmax, h.hcells.imp id ?_⟩
  rintro ⟨b, o, ha, hs, hl, hc⟩
  refine ⟨b, o, ha, hs, by simpa [World.setCell] using hl, fun i z hz => ?_⟩
  rw [World.cell?_of_block (w := w) (a := ⟨b, o + i, none⟩) (Below.heap_setCell w _ u b (show b ≠ p by rintro rfl; exact hp hs))]
  exact hc i z hz
theorem RowP.mono {w : World} {S S' : Nat → Prop} {a : Option Addr} {len cap : Nat} {zs : List Int} (h : RowP w S a len cap zs) (hS : ∀ b, b < w.heap.size → S b → S' b) : RowP w S' a len cap zs :=
  ⟨h.hlen, h.hcap, h.hmax, h.hcells.imp id fun ⟨b, o, ha, hs, hl, hc⟩ => ⟨b, o, ha, hS b hl hs, hl, hc⟩⟩
/-- the value of a croftref03.Num that is the number z -/
def NumP (w : World) (S : Nat → Prop) (v : Value) (z : Int) : Prop := ∃ a len cap, v = .agg #[.bool (decide (z < 0)), .slice a len cap] ∧ RowP w S a len cap (digs z.natAbs)
theorem NumP.of {w : World} {T C : Nat} {v : Value} {z : Int} (h : Num w T C v z) {S : Nat → Prop} (hS : ∀ b, b < w.heap.size → b < T ∨ C ≤ b → S b) : NumP w S v z := by
  obtain ⟨a, len, cap, h1, h2⟩ := h
  exact ⟨a, len, cap, h1, RowP.of h2 hS⟩
theorem NumP.num {w : World} {S : Nat → Prop} {v : Value} {z : Int} (h : NumP w S v z) {T C : Nat} (hS : ∀ b, S b → b < w.heap.size → b < T ∨ C ≤ b) : Num w T C v z := by
  obtain ⟨a, len, cap, h1, h2⟩ := h
  exact ⟨a, len, cap, h1, h2.row hS⟩
theorem NumP.old {w : World} {S : Nat → Prop} {v : Value} {z : Int} (h : NumP w S v z) (C : Nat) : Num w w.heap.size C v z := h.num fun _ _ hb => .inl hb
theorem NumP.keep {w w' : World} {S : Nat → Prop} {v : Value} {z : Int} (h : NumP w S v z) (hb : Below w.heap.size w w') : NumP w' S v z := by
  obtain ⟨a, len, cap, h1, h2⟩ := h
  exact ⟨a, len, cap, h1, h2.keep hb⟩
theorem NumP.put {w : World} {S : Nat → Prop} {v : Value} {z : Int} (h : NumP w S v z) {p i : Nat} (hp : ¬ S p) (u : Value) : NumP (w.setCell ⟨p, i, none⟩ u) S v z := by
  obtain ⟨a, len, cap, h1, h2⟩ := h
  exact ⟨a, len, cap, h1, h2.put hp u⟩
theorem NumP.mono {w : World} {S S' : Nat → Prop} {v : Value} {z : Int} (h : NumP w S v z) (hS : ∀ b, b < w.heap.size → S b → S' b) : NumP w S' v z := by
  obtain ⟨a, len, cap, h1, h2⟩ := h
  exact ⟨a, len, cap, h1, h2.mono hS⟩
theorem NumP.shape {w : World} {S : Nat → Prop} {v : Value} {z : Int} (h : NumP w S v z) : ∃ n a len cap, v = .agg #[.bool n, .slice a len cap] := by
  obtain ⟨a, len, cap, h1, _⟩ := h
  exact ⟨_, a, len, cap, h1⟩
/-- the number 1 in a block of its own -/
theorem one_num {w : World} {b : Nat} {ty : TypeId} (h : Own w b ty #[.int .i64 1]) {S : Nat → Prop} (hS : S b) : NumP w S (.agg #[.bool false, .slice (some ⟨b, 0, none⟩) 1 1]) 1 := by
  have e : digs (1 : Int).natAbs = [1] := by rw [show (1 : Int).natAbs = 1 from rfl, digs_pos (by decide)]; simp [digs_zero]
  refine ⟨some ⟨b, 0, none⟩, 1, 1, rfl, ?_⟩
  rw [e]
  refine ⟨rfl, Nat.le_refl _, by unfold maxLen; omega, .inr ⟨b, 0, rfl, hS, h.in_, fun i z hz => ?_⟩⟩
  match i, hz with
  | 0, hz =>
    simp at hz
    subst hz
    exact h.at_.1 0

end Go.Proofs.YtigcbgehnlilaaaDoor
end
section
namespace Go.Proofs.YtigcbgehnlilaaaDoor

/-- one digit's step -/
theorem mul_step {o : List Int} {k : Nat} {e c p : Int} (h : o[k]? = some e) : vl (o.set k ((e + c + p) % 65536)) + 65536 ^ (k + 1) * ((e + c + p) / 65536) = vl o + 65536 ^ k * c + 65536 ^ k * p := by
  rw [vl_set o k _ e h, Int.pow_succ, Int.mul_assoc]
  have hd := Int.mul_ediv_add_emod (e + c + p) 65536
  have hq : (e + c + p) % 65536 - e + 65536 * ((e + c + p) / 65536) = c + p := by omega
  rw [Int.add_assoc, ← Int.mul_add, hq, Int.mul_add]
  omega
/-- the invariant of the inner loop goes on -/
theorem mul_inner {o : List Int} {ys : List Int} {i j : Nat} {e c x y V : Int} (h : o[i + j]? = some e) (hy : ys[j]? = some y) (hI : vl o + 65536 ^ (i + j) * c = V + 65536 ^ i * (x * vl (ys.take j))) :
    vl (o.set (i + j) ((e + c + x * y) % 65536)) + 65536 ^ (i + (j + 1)) * ((e + c + x * y) / 65536) = V + 65536 ^ i * (x * vl (ys.take (j + 1))) := by
  rw [← Nat.add_assoc, mul_step h, hI, vl_take ys j y hy, Int.pow_add, Int.mul_add x, Int.mul_add (65536 ^ i)]
  have : (65536 : Int) ^ i * 65536 ^ j * (x * y) = 65536 ^ i * (x * (65536 ^ j * y)) := by
    rw [Int.mul_assoc, Int.mul_left_comm (65536 ^ j) x y]
  omega
theorem mul_over {o : List Int} {ys : List Int} {i j : Nat} {e c x V : Int} (h : o[i + j]? = some e) (hj : ys.length ≤ j) (hI : vl o + 65536 ^ (i + j) * c = V + 65536 ^ i * (x * vl (ys.take j))) :
    vl (o.set (i + j) ((e + c) % 65536)) + 65536 ^ (i + (j + 1)) * ((e + c) / 65536) = V + 65536 ^ i * (x * vl (ys.take (j + 1))) := by
  have := mul_step (p := 0) (c := c) h
  simp only [Int.add_zero, Int.mul_zero] at this
  rw [← Nat.add_assoc, this, hI, List.take_of_length_le hj, List.take_of_length_le (show ys.length ≤ j + 1 by omega)]
/-- what one row adds -/
theorem mul_outer {xs ys : List Int} {i : Nat} {x : Int} (hx : xs[i]? = some x) : vl (xs.take i) * vl ys + 65536 ^ i * (x * vl ys) = vl (xs.take (i + 1)) * vl ys := by
  rw [vl_take xs i x hx, Int.add_mul, Int.mul_assoc]
/-- a carry behind the last digit has its place -/
theorem mul_room {o xs ys : List Int} {i j : Nat} {c x : Int} (ho : Dg o) (hX : Dg xs) (hY : Dg ys) (hx : xs[i]? = some x) (hj : ys.length ≤ j) (hc : 0 < c) (hI : vl o + 65536 ^ (i + j) * c = vl (xs.take i) * vl ys + 65536 ^ i * (x * vl (ys.take j))) : j ≤ ys.length := by
  rw [List.take_of_length_le hj, mul_outer hx] at hI
  have h1 := vl_nonneg ho
  have h2 := vl_lt (hX.take (i + 1))
  have h3 := vl_nonneg (hX.take (i + 1))
  have h4 := vl_lt hY
  have h5 := vl_nonneg hY
  have hl : (xs.take (i + 1)).length = i + 1 := by
    obtain ⟨hi, _⟩ := List.getElem?_eq_some_iff.1 hx
    rw [List.length_take]; omega
  rw [hl] at h2
  have hP : (0 : Int) < 65536 ^ (i + 1) := Int.pow_pos (by decide)
  have hQ : (0 : Int) < 65536 ^ ys.length := Int.pow_pos (by decide)
  have h6 : vl (xs.take (i + 1)) * vl ys < 65536 ^ (i + 1) * 65536 ^ ys.length := by
    have a1 := Int.mul_le_mul_of_nonneg_left (show vl ys + 1 ≤ 65536 ^ ys.length by omega) (Int.le_of_lt hP)
    have a2 := Int.mul_le_mul_of_nonneg_right (show vl (xs.take (i + 1)) ≤ 65536 ^ (i + 1) by omega) h5
    rw [Int.mul_add, Int.mul_one] at a1
    omega
  rw [← Int.pow_add] at h6
  rcases Nat.lt_or_ge ys.length j with hlt | hge
  · exfalso
    obtain ⟨t, ht⟩ : ∃ t, i + j = i + 1 + ys.length + t := ⟨i + j - (i + 1 + ys.length), by omega⟩
    rw [ht, Int.pow_add] at hI
    have hT : (1 : Int) ≤ 65536 ^ t := Int.pow_pos (by decide)
    have hS : (0 : Int) < 65536 ^ (i + 1 + ys.length) := Int.pow_pos (by decide)
    have a3 := Int.mul_le_mul_of_nonneg_left hT (Int.le_of_lt hS)
    rw [Int.mul_one] at a3
    have a4 := Int.mul_le_mul_of_nonneg_left (show (1 : Int) ≤ c by omega) (show (0 : Int) ≤ 65536 ^ (i + 1 + ys.length) * 65536 ^ t by omega)
    rw [Int.mul_one] at a4
    omega
  · exact hge
/-- the digits' products stay within bounds -/
theorem mul_bound {e c x y : Int} (e0 : 0 ≤ e) (e1 : e ≤ 65535) (c0 : 0 ≤ c) (c1 : c ≤ 65535) (x0 : 0 ≤ x) (x1 : x ≤ 65535) (y0 : 0 ≤ y) (y1 : y ≤ 65535) : 0 ≤ x * y ∧ x * y ≤ 4294836225 ∧ 0 ≤ (e + c + x * y) / 65536 ∧ (e + c + x * y) / 65536 ≤ 65535 := by
  have h0 : 0 ≤ x * y := Int.mul_nonneg x0 y0
  have h1 : x * y ≤ 65535 * 65535 := Int.mul_le_mul x1 y1 y0 (by decide)
  omega
/-- what stands in a row of cells -/
def cells (o : List Int) : Array Value := (o.map (Value.int .i64)).toArray
theorem cells_get (o : List Int) (k : Nat) {e : Int} (h : o[k]? = some e) : (cells o)[k]? = some (.int .i64 e) := by
  simp [cells, h]
theorem cells_set (o : List Int) (k : Nat) (d : Int) : (cells o).setIfInBounds k (.int .i64 d) = cells (o.set k d) := by
  simp [cells, List.map_set]
end Go.Proofs.YtigcbgehnlilaaaDoor
end
section
namespace Go.Proofs.YtigcbgehnlilaaaDoor

end Go.Proofs.YtigcbgehnlilaaaDoor
end
section
namespace Go.Proofs.YtigcbgehnlilaaaDoor
open Go.ChangeShapes Go.WideShapes Go.ChangeAt Go.RowKit
set_option linter.unusedVariables false

theorem info_intH : (Tryd.prog.info? 3).map (fun i => (i.zero, i.size, i.bytes)) = some (some (.int .i64 0), 1, 8) := by kernel_rfl
theorem cells_made (n : Nat) : madeCells #[.int .i64 0] n = cells (List.replicate n 0) := by
  apply Array.ext'
  rw [toList_madeCells_one]
  simp [cells]
theorem num_digits (s : Bool) (a : Option Addr) (l c : Nat) (w : World) : (Instr.field 59 (.agg #[.bool s, .slice a l c]) 1).run Tryd.prog w = .ok (.slice a l c) w := by kernel_rfl
/-- a block of one's own as a row of digits -/
theorem own_drow {w : World} {p : Nat} {ty : TypeId} {o : List Int} {n T C : Nat} (h : Own w p ty (cells o)) (hl : o.length = n) (hn : n ≤ maxLen) (hC : C ≤ p) : DRow w T C (some ⟨p, 0, none⟩) n n o :=
  ⟨hl, Nat.le_refl _, hn, .inr ⟨p, 0, rfl, .inr hC, fun i z hz => by rw [Nat.zero_add, h.at_.1 i, cells_get o i hz]⟩⟩

end Go.Proofs.YtigcbgehnlilaaaDoor
end
section
namespace Go.Proofs.YtigcbgehnlilaaaDoor
open Go.ChangeShapes Go.WideShapes Go.ChangeAt Go.RowKit
set_option linter.unusedVariables false

theorem DRow.mono {w : World} {T C C' : Nat} {a : Option Addr} {len cap : Nat} {zs : List Int} (h : DRow w T C a len cap zs) (hC : C' ≤ C) : DRow w T C' a len cap zs :=
  ⟨h.hlen, h.hcap, h.hmax, h.hcells.imp id fun ⟨b, o, ha, ht, hc⟩ => ⟨b, o, ha, by omega, hc⟩⟩
end Go.Proofs.YtigcbgehnlilaaaDoor
end
section
namespace Go.Proofs.YtigcbgehnlilaaaDoor
open Go.ChangeShapes Go.WideShapes Go.ChangeAt Go.RowKit
set_option linter.unusedVariables false

/-- a digit of a row that was there -/
theorem DRow.at_ {w : World} {T C : Nat} {a : Option Addr} {len cap : Nat} {zs : List Int} (h : DRow w T C a len cap zs) {i : Nat} {d : Int} (hd : zs[i]? = some d) : ∃ b o, a = some ⟨b, o, none⟩ ∧ w.cell? ⟨b, o + i, none⟩ = some (.int .i64 d) ∧ b < w.heap.size := by
  rcases h.hcells with e | ⟨b, o, ha, _, hc⟩
  · rw [e] at hd; simp at hd
  · exact ⟨b, o, ha, hc i d hd, cell_lt (hc i d hd)⟩

set_option maxHeartbeats 16000000 in
set_option maxRecDepth 20000 in
theorem mul_num (T Tx Cx Ty Cy : Nat) (v v' : Value) (x y : Int) (w : World) (hT : T ≤ w.heap.size) (hx : Num w Tx Cx v x) (hy : Num w Ty Cy v' y) (hlx : (digs x.natAbs).length ≤ 10000000) (hly : (digs y.natAbs).length ≤ 10000000) :
    Calls Tryd.prog 36 #[v, v'] w fun e w' => ∃ v2, e = .returned v2 ∧ Num w' T w.heap.size v2 (x * y) ∧ Below w.heap.size w w' := by
  obtain ⟨xa, xl, xc, rfl, rx⟩ := hx
  obtain ⟨ya, yl, yc, rfl, ry⟩ := hy
  have lx := rx.hlen
  have ly := ry.hlen
  have hX := Dg.digs x.natAbs
  have hY := Dg.digs y.natAbs
  have hvx := vl_digs x.natAbs
  have hvy := vl_digs y.natAbs
  obtain ⟨xs, hxs⟩ : ∃ xs, digs x.natAbs = xs := ⟨_, rfl⟩
  obtain ⟨ys, hys⟩ : ∃ ys, digs y.natAbs = ys := ⟨_, rfl⟩
  rw [hxs] at rx lx hX hvx hlx
  rw [hys] at ry ly hY hvy hly
  have lx2 : xl ≤ 10000000 := by omega
  have ly2 : yl ≤ 10000000 := by omega
  have RX := Lib.hid rx
  have RY := Lib.hid ry
  have LX := Lib.hid lx
  have LY := Lib.hid ly
  have HDX := Lib.hid hX
  have HDY := Lib.hid hY
  obtain ⟨sx, hsx⟩ : ∃ s, decide (x < 0) = s := ⟨_, rfl⟩
  obtain ⟨sy, hsy⟩ : ∃ s, decide (y < 0) = s := ⟨_, rfl⟩
  have HZ := Lib.hid (show (if (sx != sy) = true then -(vl xs * vl ys) else vl xs * vl ys) = x * y by
    rw [hvx, hvy]
    by_cases h1 : x < 0 <;> by_cases h2 : y < 0
    · rw [← hsx, ← hsy]; simp [h1, h2]
      rw [show ((x.natAbs : Nat) : Int) = -x by omega, show ((y.natAbs : Nat) : Int) = -y by omega, Int.neg_mul_neg]
    · rw [← hsx, ← hsy]; simp [h1, h2]
      rw [show ((x.natAbs : Nat) : Int) = -x by omega, show ((y.natAbs : Nat) : Int) = y by omega, Int.neg_mul, Int.neg_neg]
    · rw [← hsx, ← hsy]; simp [h1, h2]
      rw [show ((x.natAbs : Nat) : Int) = x by omega, show ((y.natAbs : Nat) : Int) = -y by omega, Int.mul_neg, Int.neg_neg]
    · rw [← hsx, ← hsy]; simp [h1, h2]
      rw [show ((x.natAbs : Nat) : Int) = x by omega, show ((y.natAbs : Nat) : Int) = y by omega])
  rw [hsx, hsy]
  clear hsx hsy hxs hys hvx hvy rx ry lx ly hX hY hlx hly
  have HM := run_make_row' (P := Tryd.prog) 57 3 (.int .i64 0) 8 Tryd.underlying57 info_intH rfl .i64 .i64 (xl + yl + 1) (by omega) (by omega)
  have ec : ((xl + yl + 1 : Nat) : Int) = (xl : Int) + yl + 1 := by omega
  rw [ec] at HM
  go_enter Tryd.func36, Tryd.ntmps36
  go_upto_region 2 with fail
  go_name_world W0 hW0
  have OA : Own W0 w.heap.size 59 #[.bool sx, .slice xa xl xc] := hW0 ▸ (by repeat' (first | (with_reducible assumption) | (with_reducible refine Own.drawnN ?_ _) | (with_reducible refine Own.drawn ?_) | (with_reducible refine Own.made_at ?_; first | rfl | (simp; done) | omega | (simp; omega)) | (with_reducible refine Own.more ?_ _) | (with_reducible refine Own.apart ?_ ?_ _ _; rotate_left; first | omega | (simp; done) | (simp; omega)) | (refine Own.put ?_ _ _)))
  have OB : Own W0 (w.heap.size + 1) 59 #[.bool sy, .slice ya yl yc] := hW0 ▸ (by repeat' (first | (with_reducible assumption) | (with_reducible refine Own.drawnN ?_ _) | (with_reducible refine Own.drawn ?_) | (with_reducible refine Own.made_at ?_; first | rfl | (simp; done) | omega | (simp; omega)) | (with_reducible refine Own.more ?_ _) | (with_reducible refine Own.apart ?_ ?_ _ _; rotate_left; first | omega | (simp; done) | (simp; omega)) | (refine Own.put ?_ _ _)))
  have OR : Own W0 (w.heap.size + 2) 59 #[.bool false, .slice none 0 0] := hW0 ▸ (by repeat' (first | (with_reducible assumption) | (with_reducible refine Own.drawnN ?_ _) | (with_reducible refine Own.drawn ?_) | (with_reducible refine Own.made_at ?_; first | rfl | (simp; done) | omega | (simp; omega)) | (with_reducible refine Own.more ?_ _) | (with_reducible refine Own.apart ?_ ?_ _ _; rotate_left; first | omega | (simp; done) | (simp; omega)) | (refine Own.put ?_ _ _)))
  have OO : Own W0 (w.heap.size + 3) 3 (cells (List.replicate (xl + yl + 1) 0)) := hW0 ▸ (by rw [cells_made]; repeat' (first | (with_reducible assumption) | (with_reducible refine Own.drawnN ?_ _) | (with_reducible refine Own.drawn ?_) | (with_reducible refine Own.made_at ?_; first | rfl | (simp; done) | omega | (simp; omega)) | (with_reducible refine Own.more ?_ _) | (with_reducible refine Own.apart ?_ ?_ _ _; rotate_left; first | omega | (simp; done) | (simp; omega)) | (refine Own.put ?_ _ _)))
  have hB0 : Below w.heap.size w W0 := hW0 ▸ (by repeat' (first | (with_reducible exact Below.refl _ _) | (with_reducible assumption) | (with_reducible refine below_drewN ?_ _) | (with_reducible refine Below.drew ?_) | (with_reducible refine Below.alloc ?_ ?_ _) | (with_reducible refine Below.setCell ?_ ?_ _) | (with_reducible refine then_ ?_ (by with_reducible assumption) ?_) | (with_reducible exact Nat.le_refl _) | (with_reducible exact Nat.le_succ _) | (with_reducible exact Nat.le_succ_of_le (by with_reducible assumption)) | omega | (simp; done) | (simp; omega) | (exact Nat.le_succ _) | (exact Nat.le_succ_of_le (by with_reducible assumption))))
  clear hW0 HM ec
  go_wp2
  go_loopg [6] xl (fun g i wr => ∃ (k : Nat) (o : List Int), g + k = xl ∧ i = .int .i64 k ∧ o.length = xl + yl + 1 ∧ Dg o ∧ Hid (vl o = vl (xs.take k) * vl ys) ∧ Own wr w.heap.size 59 #[.bool sx, .slice xa xl xc] ∧ Own wr (w.heap.size + 1) 59 #[.bool sy, .slice ya yl yc] ∧ Own wr (w.heap.size + 2) 59 #[.bool false, .slice none 0 0] ∧ Own wr (w.heap.size + 3) 3 (cells o) ∧ Below w.heap.size w wr)
  case atStart =>
    exact ⟨0, List.replicate (xl + yl + 1) 0, rfl, rfl, by simp, Dg.replicate _, Lib.hid (by rw [vl_replicate]; simp [vl]), OA, OB, OR, OO, hB0⟩
  case round =>
    clear OA OB OR OO hB0
    obtain ⟨k, o, hk, rfl, hlo, hdo, hvo, OA, OB, OR, OO, hB⟩ := hrel
    obtain ⟨G, hG⟩ : ∃ G, G = gk := ⟨_, rfl⟩
    obtain ⟨P1, P2, P3⟩ := OA.at_
    obtain ⟨Q1, Q2, Q3⟩ := OB.at_
    by_cases hkx : k < xl
    · have hk1 : (k : Int) < xl := by omega
      obtain ⟨x0, hx0⟩ : ∃ d, xs[k]? = some d := ⟨xs[k]'(by have := LX.out; omega), by simp⟩
      obtain ⟨x1, x2⟩ := HDX.out.at hx0
      replace hx0 := Lib.hid hx0
      go_wp2
      go_loopg [7, 8] (yl + 1) (fun g c j wr => ∃ (m : Nat) (o : List Int) (c0 : Int), g + m = yl + 1 ∧ j = .int .i64 m ∧ c = .int .i64 c0 ∧ 0 ≤ c0 ∧ c0 ≤ 65535 ∧ o.length = xl + yl + 1 ∧ Dg o ∧ Hid (vl o + 65536 ^ (k + m) * c0 = vl (xs.take k) * vl ys + 65536 ^ k * (x0 * vl (ys.take m))) ∧ Own wr w.heap.size 59 #[.bool sx, .slice xa xl xc] ∧ Own wr (w.heap.size + 1) 59 #[.bool sy, .slice ya yl yc] ∧ Own wr (w.heap.size + 2) 59 #[.bool false, .slice none 0 0] ∧ Own wr (w.heap.size + 3) 3 (cells o) ∧ Below w.heap.size w wr)
      case atStart =>
        exact ⟨0, o, 0, rfl, rfl, rfl, by omega, by omega, hlo, hdo, Lib.hid (by rw [hvo.out]; simp [vl]), OA, OB, OR, OO, hB⟩
      case round =>
        clear OA OB OR OO hB P1 P2 P3 Q1 Q2 Q3 hlo hdo hvo
        obtain ⟨m, o, c0, hm, rfl, rfl, c1, c2, hlo, hdo, hvo, OA, OB, OR, OO, hB⟩ := hrel
        obtain ⟨P1, P2, P3⟩ := OA.at_
        obtain ⟨Q1, Q2, Q3⟩ := OB.at_
        obtain ⟨R1, R2, R3⟩ := OO.at_
        replace hlo := Lib.hid hlo
        by_cases hmy : m < yl
        · have hm1 : (m : Int) < yl := by omega
          obtain ⟨y0, hy0⟩ : ∃ d, ys[m]? = some d := ⟨ys[m]'(by have := LY.out; omega), by simp⟩
          obtain ⟨y1, y2⟩ := HDY.out.at hy0
          obtain ⟨e0, he0⟩ : ∃ d, o[k + m]? = some d := ⟨o[k + m]'(by have := hlo.out; omega), by simp⟩
          obtain ⟨e1, e2⟩ := hdo.at he0
          obtain ⟨b1, b2, b3, b4⟩ := mul_bound e1 e2 c1 c2 x1 x2 y1 y2
          have HI := Lib.hid (mul_inner he0 hy0 hvo.out)
          obtain ⟨xb, xo, rfl, hcx0, hxb⟩ := DRow.at_ RX.out hx0.out
          obtain ⟨yb, yo, rfl, hcy0, hyb⟩ := DRow.at_ RY.out hy0
          have hcx : wr.cell? ⟨xb, xo + k, none⟩ = some (.int .i64 x0) := by rw [hB.cell (cell_lt hcx0)]; exact hcx0
          have hcy : wr.cell? ⟨yb, yo + m, none⟩ = some (.int .i64 y0) := by rw [hB.cell (cell_lt hcy0)]; exact hcy0
          have hco : wr.cell? ⟨w.heap.size + 3, k + m, none⟩ = some (.int .i64 e0) := (R1 (k + m)).trans (cells_get _ _ he0)
          have SET := Lib.hid (cells_set o (k + m) ((e0 + c0 + x0 * y0) % 65536))
          have HLO := Lib.hid (show (o.set (k + m) ((e0 + c0 + x0 * y0) % 65536)).length = xl + yl + 1 by rw [List.length_set]; exact hlo.out)
          have HDO := Lib.hid (hdo.set (k + m) (d := (e0 + c0 + x0 * y0) % 65536) (by omega) (by omega))
          have ekm : (k : Int) + (m : Int) = ((k + m : Nat) : Int) := by omega
          have ekl : ((k + m : Nat) : Int) < (xl : Int) + yl + 1 := by omega
          obtain ⟨km, hkm⟩ : ∃ km, k + m = km := ⟨_, rfl⟩
          rw [hkm] at SET HLO HDO HI hco ekm ekl
          clear hcx0 hcy0 he0 hy0 R1 hvo hdo hlo hkm
          obtain ⟨p, hp⟩ : ∃ p, x0 * y0 = p := ⟨_, rfl⟩
          rw [hp] at b1 b2 b3 b4 HI SET HLO HDO
          go_wp2
          go_quiet (fail)
          rename_i nq
          go_wp2
          go_roundg (gk - 1)
          case measure => omega
          case rel => exact ⟨m + 1, _, _, by omega, by go_num, rfl, b3, b4, HLO.out, HDO.out, HI.out, (OA.drawnN nq).apart (by omega) _ _, (OB.drawnN nq).apart (by omega) _ _, (OR.drawnN nq).apart (by omega) _ _, ((OO.drawnN nq).put _ _).as SET.out, (below_drewN hB nq).setCell (by show w.heap.size ≤ w.heap.size + 3; omega) _⟩
        · have hm1 : ¬ (m : Int) < yl := by omega
          by_cases hc : 0 < c0
          · have hroom := mul_room hdo HDX.out HDY.out hx0.out (show ys.length ≤ m by have := LY.out; omega) hc hvo.out
            have hmy2 : m = yl := by have := LY.out; omega
            obtain ⟨e0, he0⟩ : ∃ d, o[k + m]? = some d := ⟨o[k + m]'(by have := hlo.out; omega), by simp⟩
            obtain ⟨e1, e2⟩ := hdo.at he0
            have HI := Lib.hid (mul_over he0 (show ys.length ≤ m by have := LY.out; omega) hvo.out)
            have hco : wr.cell? ⟨w.heap.size + 3, k + m, none⟩ = some (.int .i64 e0) := (R1 (k + m)).trans (cells_get _ _ he0)
            have SET := Lib.hid (cells_set o (k + m) ((e0 + c0) % 65536))
            have HLO := Lib.hid (show (o.set (k + m) ((e0 + c0) % 65536)).length = xl + yl + 1 by rw [List.length_set]; exact hlo.out)
            have HDO := Lib.hid (hdo.set (k + m) (d := (e0 + c0) % 65536) (by omega) (by omega))
            have ekm : (k : Int) + (m : Int) = ((k + m : Nat) : Int) := by omega
            have ekl : ((k + m : Nat) : Int) < (xl : Int) + yl + 1 := by omega
            have b3 : 0 ≤ (e0 + c0) / 65536 := by omega
            have b4 : (e0 + c0) / 65536 ≤ 65535 := by omega
            obtain ⟨km, hkm⟩ : ∃ km, k + m = km := ⟨_, rfl⟩
            rw [hkm] at SET HLO HDO HI hco ekm ekl
            have hgk : 0 < gk := by omega
            clear he0 R1 hvo hdo hlo hkm hmy2 hroom
            go_wp2
            go_roundg (gk - 1)
            case measure => omega
            case rel => exact ⟨m + 1, _, _, by omega, by go_num, rfl, b3, b4, HLO.out, HDO.out, HI.out, OA.apart (by omega) _ _, OB.apart (by omega) _ _, OR.apart (by omega) _ _, (OO.put _ _).as SET.out, hB.setCell (by show w.heap.size ≤ w.heap.size + 3; omega) _⟩
          · obtain rfl : c0 = 0 := by omega
            have HV := Lib.hid (show vl o = vl (xs.take (k + 1)) * vl ys by
              have := hvo.out
              rw [List.take_of_length_le (show ys.length ≤ m by have := LY.out; omega), mul_outer hx0.out] at this
              simpa using this)
            have hlo2 := hlo
            clear hvo R1 hlo hc
            go_wp2
            go_roundg (G - 1)
            case measure => omega
            case rel => exact ⟨k + 1, o, by omega, by go_num, hlo2.out, hdo, HV, OA, OB, OR, OO, hB⟩
    · have hk1 : ¬ (k : Int) < xl := by omega
      have hke : k = xl := by omega
      have hv2 : vl o = vl xs * vl ys := by have := hvo.out; rwa [List.take_of_length_le (by have := LX.out; omega)] at this
      have OD : DRow wr T (w.heap.size + 3) (some ⟨w.heap.size + 3, 0, none⟩) (xl + yl + 1) (xl + yl + 1) o := own_drow OO hlo (by unfold maxLen; omega) (Nat.le_refl _)
      have TR1 := trim_num T (w.heap.size + 3) (sx != sy) _ _ _ o _ wr OD hdo hv2
      rw [HZ.out] at TR1
      have TR := Lib.hid TR1
      have hs1 := OO.in_
      clear TR1 OD OO hdo hvo hv2 hlo HZ RX RY LX LY HDX HDY hke
      go_wp2_with (go_at_call 61; refine TR.out.mono ?_; rintro e w1 ⟨v2, rfl, hn, hb1⟩; obtain ⟨sn, na, nl, nc, rfl⟩ := hn.shape; have HN := Lib.hid hn; clear hn; have OR2 := OR.keep hb1; obtain ⟨r1, r2, r3⟩ := OR2.at_; have hB1 := then_ hB hb1 hB.size; clear OA OB OR OR2 P1 P2 P3 Q1 Q2 Q3 TR hb1 hB)
      refine bodyPost_ret (v := .agg #[.bool sn, .slice na nl nc]) (by simp [results, Tryd.results36, go_sem, r1]) rfl ⟨_, rfl, ?_, ?_⟩
      · exact ((HN.out.put (by omega) (by omega) _).put (by omega) (by omega) _).mono (Nat.le_refl _) (by omega)
      · repeat' (first | (with_reducible exact Below.refl _ _) | (with_reducible assumption) | (with_reducible refine below_drewN ?_ _) | (with_reducible refine Below.drew ?_) | (with_reducible refine Below.alloc ?_ ?_ _) | (with_reducible refine Below.setCell ?_ ?_ _) | (with_reducible refine then_ ?_ (by with_reducible assumption) ?_) | (with_reducible exact Nat.le_refl _) | (with_reducible exact Nat.le_succ _) | (with_reducible exact Nat.le_succ_of_le (by with_reducible assumption)) | omega | (simp; done) | (simp; omega) | (exact Nat.le_succ _) | (exact Nat.le_succ_of_le (by with_reducible assumption)))
end Go.Proofs.YtigcbgehnlilaaaDoor
end
section
namespace Go.Proofs.YtigcbgehnlilaaaDoor
open Go.ChangeShapes Go.WideShapes Go.ChangeAt Go.RowKit
set_option linter.unusedVariables false

end Go.Proofs.YtigcbgehnlilaaaDoor
end
section
namespace Go.Proofs.YtigcbgehnlilaaaDoor
open Go.ChangeShapes Go.WideShapes Go.ChangeAt Go.RowKit
set_option linter.unusedVariables false

theorem info_row : (Tryd.prog.info? 57).map (fun i => (i.zero, i.size, i.bytes)) = some (some (.slice none 0 0), 1, 24) := by kernel_rfl
theorem two_ge {j m : Nat} (h : 16 * m ≤ j) : 65536 ^ m ≤ 2 ^ j := by
  have h2 : (2 : Nat) ^ (16 * m) ≤ 2 ^ j := Nat.pow_le_pow_right (by decide) h
  rwa [Nat.pow_mul, show (2 : Nat) ^ 16 = 65536 from rfl] at h2
theorem rounds {A B k : Nat} (hA : A < 65536 ^ 20) (hB : 0 < B) (h : B * 2 ^ k ≤ A) : k < 320 := by
  rcases Nat.lt_or_ge k 320 with hk | hk
  · exact hk
  · have h1 := two_ge (j := k) (m := 20) (by omega)
    have h2 : 1 * 2 ^ k ≤ B * 2 ^ k := Nat.mul_le_mul_right _ hB
    omega
theorem short_20 {n : Nat} (h : n < 65536 ^ 20) : (digs n).length ≤ 20 := digs_short (by
  have : (n : Int) < ((65536 ^ 20 : Nat) : Int) := Int.ofNat_lt.2 h
  rwa [Int.natCast_pow 65536 20] at this)
theorem short_21 {n : Nat} (h : n < 65536 * 65536 ^ 20) : (digs n).length ≤ 21 := digs_short (by
  rw [Nat.mul_comm, ← Nat.pow_succ] at h
  have : (n : Int) < ((65536 ^ 21 : Nat) : Int) := Int.ofNat_lt.2 h
  rwa [Int.natCast_pow 65536 21] at this)
theorem cmp_le {m n : Nat} : cmpZ (m : Int) n ≤ 0 ↔ m ≤ n := by
  unfold cmpZ
  repeat' split
  all_goals omega
theorem RowP.grown {w w1 : World} {S : Nat → Prop} {a : Option Addr} {len cap : Nat} {zs : List Int} (h : RowP w S a len cap zs) {row : Option Nat} (hg : w.grownBy w1 row) (hS : ∀ b, S b → row ≠ some b) : RowP w1 S a len cap zs := by
  refine ⟨h.hlen, h.hcap, h.hmax, h.hcells.imp id ?_⟩
  rintro ⟨b, o, ha, hs, hl, hc⟩
  exact ⟨b, o, ha, hs, Nat.lt_of_lt_of_le hl hg.size, fun i z hz => (World.cell?_of_block (w := w) (a := ⟨b, o + i, none⟩) (hg.block b hl (fun e => hS b hs e.symm))).trans (hc i z hz)⟩
theorem tdiv_sg (x y : Int) : (if (decide (x < 0) != decide (y < 0)) = true then -((x.natAbs / y.natAbs : Nat) : Int) else ((x.natAbs / y.natAbs : Nat) : Int)) = x.tdiv y := by
  by_cases h1 : x < 0 <;> by_cases h2 : y < 0
  · obtain ⟨a, rfl⟩ : ∃ a : Nat, x = -(a : Int) := ⟨x.natAbs, by omega⟩
    obtain ⟨b, rfl⟩ : ∃ b : Nat, y = -(b : Int) := ⟨y.natAbs, by omega⟩
    rw [decide_eq_true h1, decide_eq_true h2, if_neg (by decide), Int.natAbs_neg, Int.natAbs_neg, Int.neg_tdiv, Int.tdiv_neg, Int.neg_neg]; rfl
  · obtain ⟨a, rfl⟩ : ∃ a : Nat, x = -(a : Int) := ⟨x.natAbs, by omega⟩
    obtain ⟨b, rfl⟩ : ∃ b : Nat, y = (b : Int) := ⟨y.natAbs, by omega⟩
    rw [decide_eq_true h1, decide_eq_false h2, if_pos (by decide), Int.natAbs_neg, Int.neg_tdiv]; rfl
  · obtain ⟨a, rfl⟩ : ∃ a : Nat, x = (a : Int) := ⟨x.natAbs, by omega⟩
    obtain ⟨b, rfl⟩ : ∃ b : Nat, y = -(b : Int) := ⟨y.natAbs, by omega⟩
    rw [decide_eq_false h1, decide_eq_true h2, if_pos (by decide), Int.natAbs_neg, Int.tdiv_neg]; rfl
  · obtain ⟨a, rfl⟩ : ∃ a : Nat, x = (a : Int) := ⟨x.natAbs, by omega⟩
    obtain ⟨b, rfl⟩ : ∃ b : Nat, y = (b : Int) := ⟨y.natAbs, by omega⟩
    rw [decide_eq_false h1, decide_eq_false h2, if_neg (by decide)]; rfl
theorem tmod_sg (x y : Int) : (if decide (x < 0) = true then -((x.natAbs % y.natAbs : Nat) : Int) else ((x.natAbs % y.natAbs : Nat) : Int)) = x.tmod y := by
  have hy : ∀ a : Int, a.tmod y = a.tmod (y.natAbs : Int) := fun a => by
    by_cases h2 : y < 0
    · obtain ⟨b, rfl⟩ : ∃ b : Nat, y = -(b : Int) := ⟨y.natAbs, by omega⟩
      rw [Int.tmod_neg, Int.natAbs_neg]; rfl
    · rw [show ((y.natAbs : Nat) : Int) = y by omega]
  rw [hy]
  by_cases h1 : x < 0
  · obtain ⟨a, rfl⟩ : ∃ a : Nat, x = -(a : Int) := ⟨x.natAbs, by omega⟩
    rw [decide_eq_true h1, if_pos rfl, Int.natAbs_neg, Int.neg_tmod]; rfl
  · obtain ⟨a, rfl⟩ : ∃ a : Nat, x = (a : Int) := ⟨x.natAbs, by omega⟩
    rw [decide_eq_false h1, if_neg (by decide)]; rfl
theorem RowP.take {w : World} {S : Nat → Prop} {a : Option Addr} {len cap : Nat} {zs : List Int} (h : RowP w S a len cap zs) (k : Nat) (hk : k ≤ len) : RowP w S a k cap (zs.take k) := by
  obtain ⟨h1, h2, h3, h4⟩ := h
  refine ⟨by rw [List.length_take]; omega, by omega, h3, ?_⟩
  rcases h4 with h4 | ⟨b, o, ha, hs, hl, hc⟩
  · left; rw [h4]; simp
  · right
    refine ⟨b, o, ha, hs, hl, fun i z hz => hc i z ?_⟩
    rw [List.getElem?_take] at hz
    split at hz
    · exact hz
    · cases hz
theorem trim_P (S : Nat → Prop) (neg : Bool) (a : Option Addr) (len cap : Nat) (zs : List Int) (n : Int) (w : World) (hr : RowP w S a len cap zs) (hd : Dg zs) (hn : vl zs = n) :
    Calls Tryd.prog 61 #[.agg #[.bool neg, .slice a len cap]] w fun e w' => ∃ v, e = .returned v ∧ NumP w' S v (if neg then -n else n) ∧ Below w.heap.size w w' := by
  refine (trim_any w.heap.size 0 neg a len cap zs w (hr.old 0)).mono ?_
  rintro e w' ⟨k, rfl, ht, hk, hb⟩
  have h0 : 0 ≤ n := hn ▸ vl_nonneg hd
  have hz : digs (if neg then -n else n).natAbs = tr zs := by
    rw [tr_digs hd, hn]
    congr 1
    split <;> omega
  refine ⟨_, rfl, ⟨a, k, cap, ?_, ?_⟩, hb⟩
  · congr 4
    by_cases e : n = 0
    · have : tr zs = [] := by rw [tr_digs hd, hn, e]; exact digs_zero
      rw [this, e]; simp
    · have : (tr zs).isEmpty = false := by
        rw [tr_digs hd, hn]
        cases h : digs n.toNat with
        | nil => have := digs_nil h; omega
        | cons _ _ => rfl
      rw [this]
      cases neg <;> simp <;> omega
  · rw [hz, ht]
    exact (hr.take k hk).keep hb
theorem zero_num (w : World) (S : Nat → Prop) : NumP w S (.agg #[.bool false, .slice none 0 0]) ((0 : Nat) : Int) := by
  refine ⟨none, 0, 0, rfl, ?_⟩
  rw [show ((0 : Nat) : Int).natAbs = 0 from rfl, digs_zero]
  exact ⟨rfl, Nat.le_refl _, Nat.zero_le _, .inl rfl⟩
/-- the rows of a row: doubled numbers -/
def RowsP (w : World) (v : Value) (B k : Nat) (xs : List Value) : Prop := ∀ i, i < k → ∃ a l c, xs[i]? = some (.slice a l c) ∧ RowP w (fun b => v.ownBlock ≠ some b) a l c (digs (B * 2 ^ i))
theorem RowsP.keep {w w' : World} {v : Value} {B k : Nat} {xs : List Value} (h : RowsP w v B k xs) (hb : Below w.heap.size w w') : RowsP w' v B k xs := fun i hi => by
  obtain ⟨a, l, c, h1, h2⟩ := h i hi
  exact ⟨a, l, c, h1, h2.keep hb⟩
/-- a row of digits behind an append to another row -/
theorem RowP.up {W w1 : World} {v v' : Value} {a : Option Addr} {l c : Nat} {zs : List Int} (h : RowP W (fun b => v.ownBlock ≠ some b) a l c zs) (hg : W.grownBy w1 v.ownBlock) (hat : v'.ownBlock = v.ownBlock ∨ v'.ownBlock = some W.heap.size) : RowP w1 (fun b => v'.ownBlock ≠ some b) a l c zs := by
  have h2 : RowP W (fun b => v.ownBlock ≠ some b ∧ v'.ownBlock ≠ some b) a l c zs := h.mono fun b hb hs => by
    refine ⟨hs, ?_⟩
    rcases hat with e | e
    · rw [e]; exact hs
    · rw [e]; intro e2; cases e2; omega
  exact (h2.grown hg fun b hs => hs.1).mono fun b _ hs => hs.2
/-- one row more -/
theorem RowsP.push {W w1 : World} {v v' : Value} {B k : Nat} {xs : List Value} {a : Option Addr} {l c : Nat} (h : RowsP W v B k xs) (hx : xs.length = k) (hd : RowP W (fun b => v.ownBlock ≠ some b) a l c (digs (B * 2 ^ k)))
    (hg : W.grownBy w1 v.ownBlock) (hat : v'.ownBlock = v.ownBlock ∨ v'.ownBlock = some W.heap.size) : RowsP w1 v' B (k + 1) (xs ++ [.slice a l c]) := fun i hi => by
  by_cases e : i = k
  · subst e
    exact ⟨a, l, c, by rw [List.getElem?_append_right (by omega), hx]; simp, hd.up hg hat⟩
  · obtain ⟨a', l', c', h1, h2⟩ := h i (by omega)
    exact ⟨a', l', c', by rw [List.getElem?_append_left (by omega)]; exact h1, h2.up hg hat⟩
theorem row_one (w : World) (v : Value) (T : TypeId) : ∀ (j : Nat) (u : Value), ([v] : List Value)[j]? = some u → (w.alloc (.cells #[v] T)).cell? ((⟨w.heap.size, 0, none⟩ : Addr).add j) = some u := by
  intro j u hj
  match j, hj with
  | 0, hj => simp at hj; subst hj; simp [Addr.add]
theorem ownsRow_keep {w w' : World} {base : Nat} {T : TypeId} {v : Value} {k : Nat} {xs : List Value} (h : w.ownsRow base T 1 v k xs) (hb : Below w.heap.size w w') : w'.ownsRow base T 1 v k xs := by
  refine ⟨h.1, h.2.imp id ?_⟩
  rintro ⟨g, cap, cur, h1, h2, h3, h4⟩
  have hg : g < w.heap.size := (h.lt g (by rw [h1]; rfl)).2
  exact ⟨g, cap, cur, h1, h2, (hb.block g hg).trans h3, h4⟩
theorem own_lt {w : World} {base : Nat} {T : TypeId} {v : Value} {k : Nat} {xs : List Value} (h : w.ownsRow base T 1 v k xs) {b : Nat} (hb : v.ownBlock = some b) : base ≤ b ∧ b < w.heap.size := h.lt b hb
/-- what stands in the row -/
theorem row_cell {w : World} {base : Nat} {T : TypeId} {v : Value} {k : Nat} {xs : List Value} (h : w.ownsRow base T 1 v k xs) {i : Nat} (hi : i < k) {u : Value} (hu : xs[i]? = some u) : ∃ g cap, v = .slice (some ⟨g, 0, none⟩) k cap ∧ w.cell? ⟨g, i, none⟩ = some u ∧ g < w.heap.size := by
  obtain ⟨hl, h | ⟨g, cap, cur, hv, _, hh, hn, hm, hs, ht⟩⟩ := h
  · omega
  · refine ⟨g, cap, hv, ?_, ?_⟩
    · rw [← ht] at hu
      rw [List.getElem?_take] at hu
      split at hu
      · simp [World.cell?, hh]
        simpa using hu
      · cases hu
    · by_cases e : g < w.heap.size
      · exact e
      · rw [Array.getElem?_eq_none (by omega)] at hh; cases hh

set_option maxHeartbeats 32000000 in
set_option maxRecDepth 20000 in
theorem div_num (S : Nat → Prop) (Ty Cy : Nat) (v v' : Value) (x y : Int) (w : World) (hx : NumP w S v x) (hy : Num w Ty Cy v' y) (hy0 : y ≠ 0) (hlx : x.natAbs < 65536 ^ 20) (hly : y.natAbs < 65536 ^ 20) :
    Calls Tryd.prog 46 #[v, v'] w fun e w' => ∃ v1 v2, e = .returned (.tuple #[v1, v2]) ∧ NumP w' (fun b => w.heap.size ≤ b) v1 (x.tdiv y) ∧ NumP w' (fun b => (S b ∧ b < w.heap.size) ∨ w.heap.size ≤ b) v2 (x.tmod y) ∧ Below w.heap.size w w' := by
  obtain ⟨xa, xl, xc, rfl, rx⟩ := hx
  obtain ⟨ya, yl, yc, rfl, ry⟩ := hy
  obtain ⟨A, hA⟩ : ∃ A, x.natAbs = A := ⟨_, rfl⟩
  obtain ⟨B, hB⟩ : ∃ B, y.natAbs = B := ⟨_, rfl⟩
  have hB0 : 0 < B := by omega
  rw [hA] at rx hlx
  rw [hB] at ry hly
  obtain ⟨sx, hsx⟩ : ∃ s, decide (x < 0) = s := ⟨_, rfl⟩
  obtain ⟨sy, hsy⟩ : ∃ s, decide (y < 0) = s := ⟨_, rfl⟩
  have HQ := Lib.hid (show (if (sx != sy) = true then -((A / B : Nat) : Int) else ((A / B : Nat) : Int)) = x.tdiv y by
    rw [← hsx, ← hsy, ← hA, ← hB]
    exact tdiv_sg x y)
  have HR := Lib.hid (show (if sx = true then -((A % B : Nat) : Int) else ((A % B : Nat) : Int)) = x.tmod y by
    rw [← hsx, ← hA, ← hB]
    exact tmod_sg x y)
  rw [hsx, hsy]
  have RX := Lib.hid (rx.mono (S' := fun b => S b ∧ b < w.heap.size) (fun b h h' => ⟨h', h⟩))
  have RY := Lib.hid ry
  clear hsx hsy hA hB rx ry hy0
  have HLX := Lib.hid hlx
  have HLY := Lib.hid hly
  clear hlx hly
  obtain ⟨i0, hi, hz0, hz1, hz2⟩ := info_parts info_row
  go_enter Tryd.func46, Tryd.ntmps46
  go_upto_region 1 with fail
  go_name_world W0 hW0
  have OA : Own W0 w.heap.size 59 #[.bool sx, .slice xa xl xc] := hW0 ▸ (by repeat' (first | (with_reducible assumption) | (with_reducible refine Own.drawnN ?_ _) | (with_reducible refine Own.drawn ?_) | (with_reducible refine Own.made_at ?_; first | rfl | (simp; done) | omega | (simp; omega)) | (with_reducible refine Own.more ?_ _) | (with_reducible refine Own.apart ?_ ?_ _ _; rotate_left; first | omega | (simp; done) | (simp; omega)) | (refine Own.put ?_ _ _)))
  have OB : Own W0 (w.heap.size + 1) 59 #[.bool sy, .slice ya yl yc] := hW0 ▸ (by repeat' (first | (with_reducible assumption) | (with_reducible refine Own.drawnN ?_ _) | (with_reducible refine Own.drawn ?_) | (with_reducible refine Own.made_at ?_; first | rfl | (simp; done) | omega | (simp; omega)) | (with_reducible refine Own.more ?_ _) | (with_reducible refine Own.apart ?_ ?_ _ _; rotate_left; first | omega | (simp; done) | (simp; omega)) | (refine Own.put ?_ _ _)))
  have OQ : Own W0 (w.heap.size + 2) 59 #[.bool false, .slice none 0 0] := hW0 ▸ (by repeat' (first | (with_reducible assumption) | (with_reducible refine Own.drawnN ?_ _) | (with_reducible refine Own.drawn ?_) | (with_reducible refine Own.made_at ?_; first | rfl | (simp; done) | omega | (simp; omega)) | (with_reducible refine Own.more ?_ _) | (with_reducible refine Own.apart ?_ ?_ _ _; rotate_left; first | omega | (simp; done) | (simp; omega)) | (refine Own.put ?_ _ _)))
  have OR : Own W0 (w.heap.size + 3) 59 #[.bool false, .slice none 0 0] := hW0 ▸ (by repeat' (first | (with_reducible assumption) | (with_reducible refine Own.drawnN ?_ _) | (with_reducible refine Own.drawn ?_) | (with_reducible refine Own.made_at ?_; first | rfl | (simp; done) | omega | (simp; omega)) | (with_reducible refine Own.more ?_ _) | (with_reducible refine Own.apart ?_ ?_ _ _; rotate_left; first | omega | (simp; done) | (simp; omega)) | (refine Own.put ?_ _ _)))
  have hB0' : Below w.heap.size w W0 := hW0 ▸ (by repeat' (first | (with_reducible exact Below.refl _ _) | (with_reducible assumption) | (with_reducible refine below_drewN ?_ _) | (with_reducible refine Below.drew ?_) | (with_reducible refine Below.alloc ?_ ?_ _) | (with_reducible refine Below.setCell ?_ ?_ _) | (with_reducible refine then_ ?_ (by with_reducible assumption) ?_) | (with_reducible exact Nat.le_refl _) | (with_reducible exact Nat.le_succ _) | (with_reducible exact Nat.le_succ_of_le (by with_reducible assumption)) | omega | (simp; done) | (simp; omega) | (exact Nat.le_succ _) | (exact Nat.le_succ_of_le (by with_reducible assumption))))
  clear hW0
  obtain ⟨P1, P2, P3⟩ := OB.at_
  have ND := num_digits
  have TR := Lib.hid (trim_num W0.heap.size W0.heap.size false ya yl yc (digs B) B W0 ((RowP.of (RY.out.keep hB0') (S := fun _ => True) (fun _ _ _ => trivial)).old _) (Dg.digs B) (vl_digs B))
  have e3 : ¬ w.heap.size = w.heap.size + 1 := by omega
  go_wp2_with (go_at_call 61; refine TR.out.mono ?_; rintro e w1 ⟨v1, rfl, ⟨da, dl, dc, rfl, hd⟩, hb1⟩)
  have ed : (if false = true then -(B : Int) else (B : Int)).natAbs = B := by simp
  rw [ed] at hd
  have OA1 := OA.keep hb1
  have OB1 := OB.keep hb1
  have OQ1 := OQ.keep hb1
  have OR1 := OR.keep hb1
  have hB1 := then_ hB0' hb1 hB0'.size
  have HD0 : RowP w1 (fun b => (Value.slice none 0 0).ownBlock ≠ some b) da dl dc (digs (B * 2 ^ 0)) := by
    rw [Nat.pow_zero, Nat.mul_one]
    exact RowP.of hd (fun b _ _ => by simp [Value.ownBlock])
  clear TR P1 P2 P3 OA OB OQ OR hB0' hd ed hb1 RY
  go_loopg [6, 7] (A + 1 - B) (fun g rv dv wr => ∃ (k : Nat) (xs : List Value) (da : Option Addr) (dl dc : Nat), g = A + 1 - B * 2 ^ k ∧ dv = .slice da dl dc ∧ Hid (∀ i, i < k → B * 2 ^ i ≤ A) ∧ RowP wr (fun b => rv.ownBlock ≠ some b) da dl dc (digs (B * 2 ^ k)) ∧ RowsP wr rv B k xs ∧ wr.ownsRow (w.heap.size + 4) 57 1 rv k xs ∧ Own wr w.heap.size 59 #[.bool sx, .slice xa xl xc] ∧ Own wr (w.heap.size + 1) 59 #[.bool sy, .slice ya yl yc] ∧ Own wr (w.heap.size + 2) 59 #[.bool false, .slice none 0 0] ∧ Own wr (w.heap.size + 3) 59 #[.bool false, .slice none 0 0] ∧ Below w.heap.size w wr)
  case atStart =>
    exact ⟨0, [], da, dl, dc, by simp, rfl, Lib.hid (fun i hi => by omega), HD0, fun i hi => by omega, World.ownsRow_nil _ _ _ _, OA1, OB1, OQ1, OR1, hB1⟩
  case round =>
    clear HD0 OA1 OB1 OQ1 OR1 hB1
    obtain ⟨k, xs, da, dl, dc, hg, rfl, HK, HD, HRS, hown, OA, OB, OQ, OR, hB⟩ := hrel
    replace hg := Lib.hid hg
    have hlen := hown.1
    obtain ⟨D, hD⟩ : ∃ D, B * 2 ^ k = D := ⟨_, rfl⟩
    have hD1 : 1 ≤ D := hD ▸ Nat.mul_pos hB0 (Nat.pow_pos (by decide))
    have hDb : D < 65536 * 65536 ^ 20 := by
      have h1 := HLX.out
      have h2 := HLY.out
      rcases Nat.eq_zero_or_pos k with e | e
      · rw [e, Nat.pow_zero, Nat.mul_one] at hD
        generalize 65536 ^ 20 = Z at *
        omega
      · obtain ⟨j, rfl⟩ : ∃ j, k = j + 1 := ⟨k - 1, by omega⟩
        have h3 := HK.out j (by omega)
        rw [Nat.pow_succ, ← Nat.mul_assoc] at hD
        generalize 65536 ^ 20 = Z at *
        omega
    have hDn : B * 2 ^ (k + 1) = D + D := by rw [Nat.pow_succ, ← Nat.mul_assoc, hD]; omega
    have hdl : dl ≤ 21 := by
      have := HD.hlen
      rw [hD] at this
      have := short_21 hDb
      omega
    have hk320 : k ≤ 320 := by
      rcases Nat.eq_zero_or_pos k with e | e
      · omega
      · have := rounds HLX.out hB0 (HK.out (k - 1) (by omega))
        omega
    have HKD : D ≤ A → Hid (∀ i, i < k + 1 → B * 2 ^ i ≤ A) := fun h => Lib.hid fun i hi => by
      by_cases e : i = k
      · rw [e, hD]; exact h
      · exact HK.out i (by omega)
    have HD' : Hid (B * 2 ^ k = D) := Lib.hid hD
    have HN := Lib.hid hDn
    rw [hD] at HD
    have hgd : Hid (gk = A + 1 - D) := Lib.hid (hD ▸ hg.out)
    have RXk := RX.out.keep hB
    have SZ := size_num D A wr.heap.size 0 wr.heap.size 0 da xa dl xl dc xc wr (HD.old 0) (RXk.old 0)
    obtain ⟨cz, hcz⟩ : ∃ c, cmpZ (D : Int) A = c := ⟨_, rfl⟩
    have hcl : cz ≤ 0 ↔ D ≤ A := hcz ▸ cmp_le
    have hcr := cmp_range (D : Int) A
    rw [hcz] at SZ hcr
    replace SZ := Lib.hid SZ
    replace HD := Lib.hid HD
    replace HRS := Lib.hid HRS
    replace RXk := Lib.hid RXk
    obtain ⟨P1, P2, P3⟩ := OA.at_
    have hs0 := OR.in_
    clear hcz hD hDn hDb hg
    by_cases hle : D ≤ A
    · have hc0 : cz ≤ 0 := hcl.2 hle
      have HK2 := HKD hle
      replace hle := Lib.hid hle
      clear hcl HKD HK
      replace hlen := Lib.hid hlen
      go_wp2_with fail
      go_at_call 63
      refine SZ.out.mono ?_
      rintro e w0 ⟨rfl, kd, rfl⟩
      obtain ⟨W1, hW1⟩ : ∃ W1, wr.drewN kd = W1 := ⟨_, rfl⟩
      have hbd : Below wr.heap.size wr W1 := hW1 ▸ below_drewN (Below.refl _ _) kd
      have hown1 : W1.ownsRow (w.heap.size + 4) 57 1 u6 k xs := hW1 ▸ hown
      have hB1 : Below w.heap.size w W1 := then_ hB hbd hB.size
      have HD1 := Lib.hid (HD.out.keep hbd)
      have HRS1 := Lib.hid (HRS.out.keep hbd)
      replace OA := OA.keep hbd
      replace OB := OB.keep hbd
      replace OQ := OQ.keep hbd
      replace OR := OR.keep hbd
      have hs1 := OR.in_
      rw [hW1]
      clear hW1 hown hB HD HRS hbd P1 P2 P3 SZ RXk hs0
      go_wp2_with (at_builtin; refine wpList_append_own_at _ rfl _ _ 96 rfl (w.heap.size + 4) 57 i0 (.slice none 0 0) 1 24 Tryd.underlying96 hi hz0 hz1 hz2 rfl (by decide) _ k xs rfl (hown1.alloc _) ⟨W1.heap.size, 0, none⟩ 1 1 [.slice da dl dc] (by rfl) rfl (row_one _ _ _) (by intro u hu; simp at hu; subst hu; rfl) (by unfold maxLen; omega) (by omega) (by simp; omega) ?_)
      intro v' w2 hown2 hgrow _ hat
      have hba : ∀ ob, Below W1.heap.size W1 (W1.alloc ob) := fun ob => (Below.refl _ _).alloc (Nat.le_refl _) _
      have HRS2 := Lib.hid (RowsP.push (HRS1.out.keep (hba _)) (by have := hlen.out; omega) (by rw [HD'.out]; exact HD1.out.keep (hba _)) hgrow (by simpa using hat))
      have HD2 := Lib.hid (RowP.up (HD1.out.keep (hba _)) hgrow (by simpa using hat))
      have OA2 := grow_own OA hgrow hown1 (by omega)
      have OB2 := grow_own OB hgrow hown1 (by omega)
      have OQ2 := grow_own OQ hgrow hown1 (by omega)
      have OR2 := grow_own OR hgrow hown1 (by omega)
      have hB2 : Below w.heap.size w w2 := (hB1.alloc hB1.size _).grown hgrow (by simp; omega) (fun q hq => by have := (own_lt hown1 hq).1; omega)
      have PL := Lib.hid (plus_num D D _ 0 _ _ _ da da dl dl dc dc w2 (by omega) (by omega) (HD2.out.old 0) (HD2.out.old 0))
      clear hown1 hgrow hat hba HRS1 HD1 HD2 hB1 OA OB OQ OR hs1
      go_wp2_with (go_at_call 62; refine PL.out.mono ?_; rintro e w3 ⟨a', l', c', rfl, hd3, hb3⟩)
      go_roundg (A + 1 - B * 2 ^ (k + 1))
      case measure =>
        have h1 := HN.out
        have h2 := hle.out
        have h3 := hgd.out
        omega
      case rel =>
        refine ⟨k + 1, xs ++ [.slice da dl dc], a', l', c', rfl, rfl, HK2, ?_, HRS2.out.keep hb3, ownsRow_keep hown2 hb3, OA2.keep hb3, OB2.keep hb3, OQ2.keep hb3, OR2.keep hb3, then_ hB2 hb3 hB2.size⟩
        rw [HN.out]
        exact RowP.of hd3 (fun b _ hb e => by have := (own_lt hown2 e).2; omega)
    · have hc0 : ¬ cz ≤ 0 := fun h => hle (hcl.1 h)
      have hlt := Lib.hid (show A < D by omega)
      clear hle hcl HKD hgd HD HN
      go_wp2_with fail
      go_at_call 63
      refine SZ.out.mono ?_
      rintro e w0 ⟨rfl, kd, rfl⟩
      obtain ⟨W1, hW1⟩ : ∃ W1, wr.drewN kd = W1 := ⟨_, rfl⟩
      have hbd : Below wr.heap.size wr W1 := hW1 ▸ below_drewN (Below.refl _ _) kd
      have hown1 : W1.ownsRow (w.heap.size + 4) 57 1 u6 k xs := hW1 ▸ hown
      have hB1 : Below w.heap.size w W1 := then_ hB hbd hB.size
      have HRS1 := Lib.hid (HRS.out.keep hbd)
      replace OA := OA.keep hbd
      replace OB := OB.keep hbd
      replace OQ := OQ.keep hbd
      replace OR := OR.keep hbd
      have hs1 := OR.in_
      have HX1 := Lib.hid (RXk.out.keep hbd)
      rw [hW1]
      clear hW1 hown hB HRS hbd P1 P2 P3 SZ RXk hs0
      obtain ⟨ra, rc, hu6⟩ : ∃ ra rc, u6 = .slice ra k rc := by
        rcases hown1.2 with ⟨h1, h2⟩ | ⟨g, cap, cur, h1, _⟩
        · exact ⟨none, 0, by rw [h1, h2]⟩
        · exact ⟨_, cap, h1⟩
      have hka : k ≤ 9223372036854775807 := by omega
      obtain ⟨P1, P2, P3⟩ := OA.at_
      go_upto_region 8 with fail
      go_name_world W2 hW2
      have OK2 : Own W2 W1.heap.size 59 #[.bool false, .slice none 0 0] := hW2 ▸ (by
        refine Own.as (cs := #[.bool false, .slice none 0 0]) ?_ rfl
        repeat' (first | (with_reducible assumption) | (with_reducible refine Own.drawnN ?_ _) | (with_reducible refine Own.drawn ?_) | (with_reducible refine Own.made_at ?_; first | rfl | (simp; done) | omega | (simp; omega)) | (with_reducible refine Own.more ?_ _) | (with_reducible refine Own.apart ?_ ?_ _ _; rotate_left; first | omega | (simp; done) | (simp; omega)) | (refine Own.put ?_ _ _)))
      have hb12 : Below W1.heap.size W1 W2 := hW2 ▸ (by repeat' (first | (with_reducible exact Below.refl _ _) | (with_reducible assumption) | (with_reducible refine below_drewN ?_ _) | (with_reducible refine Below.drew ?_) | (with_reducible refine Below.alloc ?_ ?_ _) | (with_reducible refine Below.setCell ?_ ?_ _) | (with_reducible refine then_ ?_ (by with_reducible assumption) ?_) | (with_reducible exact Nat.le_refl _) | (with_reducible exact Nat.le_succ _) | (with_reducible exact Nat.le_succ_of_le (by with_reducible assumption)) | omega | (simp; done) | (simp; omega) | (exact Nat.le_succ _) | (exact Nat.le_succ_of_le (by with_reducible assumption))))
      have HL2 : RowP W2 (fun b => ((S b ∧ b < w.heap.size) ∨ w.heap.size + 4 ≤ b) ∧ b ≠ W1.heap.size) xa xl xc (digs A) := (HX1.out.keep hb12).mono (fun b _ h => ⟨.inl h, by have := hB1.size; omega⟩)
      clear hW2 P1 P2 P3 HX1
      subst hu6
      replace hown1 := Lib.hid hown1
      go_wp2
      go_loopg [9, 10] k (fun g lv iv wr => ∃ (Q L : Nat) (s : Bool) (qa : Option Addr) (ql qc : Nat) (la : Option Addr) (ll lc : Nat), iv = .int .i64 ((g : Int) - 1) ∧ lv = .slice la ll lc ∧ g ≤ k ∧ Hid (A = B * 2 ^ g * Q + L ∧ L < B * 2 ^ g) ∧ Own wr W1.heap.size 59 #[.bool s, .slice qa ql qc] ∧ NumP wr (fun b => w.heap.size + 4 ≤ b ∧ b ≠ W1.heap.size) (.agg #[.bool s, .slice qa ql qc]) Q ∧ RowP wr (fun b => ((S b ∧ b < w.heap.size) ∨ w.heap.size + 4 ≤ b) ∧ b ≠ W1.heap.size) la ll lc (digs L) ∧ Below W1.heap.size W1 wr)
      case atStart =>
        exact ⟨0, A, false, none, 0, 0, xa, xl, xc, rfl, rfl, Nat.le_refl _, Lib.hid ⟨by omega, by rw [HD'.out]; exact hlt.out⟩, OK2, zero_num _ _, HL2, hb12⟩
      case round =>
        clear OK2 HL2 hb12 hlt
        obtain ⟨Q, L, s, qa, ql, qc, la, ll, lc, rfl, rfl, hgk, HAL, OK, HN, HLR, hB2⟩ := hrel
        replace HN := Lib.hid HN
        replace HLR := Lib.hid HLR
        cases gk with
        | zero =>
          have hAL := HAL.out
          rw [Nat.pow_zero, Nat.mul_one] at hAL
          have hq : A / B = Q := by rw [hAL.1, Nat.add_comm, Nat.add_mul_div_left _ _ hB0, Nat.div_eq_of_lt hAL.2, Nat.zero_add]
          have hr : A % B = L := by rw [hAL.1, Nat.add_comm, Nat.add_mul_mod_self_left, Nat.mod_eq_of_lt hAL.2]
          rw [hq] at HQ
          rw [hr] at HR
          have HRQ := Lib.hid (show RowP wr (fun b => w.heap.size + 4 ≤ b ∧ b ≠ W1.heap.size) qa ql qc (digs Q) by
            obtain ⟨a', l', c', e, r⟩ := HN.out
            obtain ⟨-, rfl, rfl, rfl⟩ : s = _ ∧ qa = a' ∧ ql = l' ∧ qc = c' := by simpa using e
            simpa using r)
          have OA3 := OA.keep hB2
          have OB3 := OB.keep hB2
          have OQ3 := OQ.keep hB2
          have OR3 := OR.keep hB2
          have hB3 : Below w.heap.size w wr := then_ hB1 hB2 hB1.size
          have hz : ((0 : Nat) : Int) - 1 = -1 := rfl
          have HQ2 := Lib.hid (show (if (!(sx == sy)) = true then -(Q : Int) else (Q : Int)) = x.tdiv y from HQ.out)
          have hs4 := hB1.size
          rw [hz]
          clear hz hAL HAL hq hr HN OA OB OQ OR hB2 hgk
          go_upto_region 15 with fail
          refine wp_region_seq (fun W => Own W w.heap.size 59 #[.bool sx, .slice xa xl xc] ∧ Own W (w.heap.size + 1) 59 #[.bool sy, .slice ya yl yc] ∧ Own W W1.heap.size 59 #[.bool s, .slice qa ql qc]) (0 :: 1 :: 2 :: 3 :: 4 :: 5 :: 6 :: 7 :: 9 :: 10 :: 11 :: 12 :: []) (1 :: 3 :: 6 :: 10 :: []) (0 :: 1 :: 2 :: 3 :: 4 :: 5 :: 6 :: 7 :: 9 :: 10 :: 11 :: 12 :: 8 :: 13 :: 14 :: 15 :: []) (by kernel_rfl) (by kernel_rfl) rfl (by kernel_rfl) rfl (⟨OA3.drawn, OB3.drawn, OK.drawn⟩) (by simp only [picked, List.filterMap_cons, List.filterMap_nil, List.getElem?_cons_zero, List.getElem?_cons_succ, Option.map_some]; exact rfl) ?_
          iterate 12
            refine seq_want (v := ?_) rfl rfl (fun W hS => ?_) ?_
            rotate_left
            · first
                | (conv => lhs; simp [go_sem]
                   first | done | exact rfl)
                | (have hS := hS rfl
                   obtain ⟨q1, q2, q3⟩ := hS
                   obtain ⟨q11, q12, q13⟩ := q1.at_
                   obtain ⟨q21, q22, q23⟩ := q2.at_
                   obtain ⟨q31, q32, q33⟩ := q3.at_
                   conv => lhs; simp [go_sem, *]
                   first | done | exact rfl)
            simp only [Act.put, List.setIfInBounds_toArray, List.set_cons_zero, List.set_cons_succ]
          refine seq_on rfl rfl fun K hK => ?_
          go_wp2_with (go_at_call 61; refine (trim_P (fun b => w.heap.size + 4 ≤ b ∧ b ≠ W1.heap.size) (!(sx == sy)) qa ql qc (digs Q) Q wr.drew (HRQ.out.keep ((Below.refl _ _).drew)) (Dg.digs Q) (vl_digs Q)).mono ?_; rintro e w5 ⟨v5, rfl, hn5, hb5⟩)
          have hb5' : Below wr.heap.size wr w5 := then_ ((Below.refl _ _).drew) hb5 (Nat.le_refl _)
          refine hK _ _ ⟨OA3.keep hb5', OB3.keep hb5', OK.keep hb5'⟩ ?_
          clear hK K
          refine seq_on rfl rfl fun K hK => ?_
          go_wp2_with (go_at_call 61; refine (trim_P (fun b => ((S b ∧ b < w.heap.size) ∨ w.heap.size + 4 ≤ b) ∧ b ≠ W1.heap.size) sx la ll lc (digs L) L w5 (HLR.out.keep hb5') (Dg.digs L) (vl_digs L)).mono ?_; rintro e w6 ⟨v6, rfl, hn6, hb6⟩)
          have hb6' : Below wr.heap.size wr w6 := then_ hb5' hb6 hb5'.size
          have OA6 := OA3.keep hb6'
          have OB6 := OB3.keep hb6'
          have OQ6 := OQ3.keep hb6'
          have OR6 := OR3.keep hb6'
          have OK6 := OK.keep hb6'
          have hB6 := then_ hB3 hb6' hB3.size
          refine hK _ _ ⟨OA6, OB6, OK6⟩ ?_
          clear hK K
          rw [HQ2.out] at hn5
          rw [HR.out] at hn6
          have HN5 := Lib.hid (hn5.keep hb6)
          have HN6 := Lib.hid hn6
          obtain ⟨s5, a5, l5, c5, rfl⟩ := hn5.shape
          obtain ⟨s6, a6, l6, c6, rfl⟩ := hn6.shape
          clear hn5 hn6 hb5 hb6 hb5' hb6' OA3 OB3 OQ3 OR3 OK HLR HRQ hB3
          obtain ⟨P1, P2, P3⟩ := OQ6.at_
          refine seq_on rfl rfl fun K hK => ?_
          go_wp2
          refine hK _ _ ⟨(OA6.apart (by omega) _ _).apart (by omega) _ _, (OB6.apart (by omega) _ _).apart (by omega) _ _, (OK6.apart (by omega) _ _).apart (by omega) _ _⟩ ?_
          clear hK K
          have OR7 : Own ((w6.setCell ⟨w.heap.size + 2, 0, none⟩ (.bool s5)).setCell ⟨w.heap.size + 2, 1, none⟩ (.slice a5 l5 c5)) (w.heap.size + 3) 59 #[.bool false, .slice none 0 0] := (OR6.apart (by omega) _ _).apart (by omega) _ _
          obtain ⟨R1, R2, R3⟩ := OR7.at_
          refine seq_last rfl rfl (by kernel_rfl) rfl fun K hK => ?_
          go_wp2
          refine hK _ _ ?_
          clear hK K
          refine seq_end ?_
          go_wp2
          refine bodyPost_ret (v := .tuple #[.agg #[.bool s5, .slice a5 l5 c5], .agg #[.bool s6, .slice a6 l6 c6]]) (by simp [results, Tryd.results46, go_sem, P1, R1]) rfl ⟨_, _, rfl, ?_, ?_, ?_⟩
          · exact ((((HN5.out.put (by omega) _).put (by omega) _).put (by omega) _).put (by omega) _).mono (fun b _ h => by omega)
          · exact ((((HN6.out.put (by omega) _).put (by omega) _).put (by omega) _).put (by omega) _).mono (fun b _ h => h.1.imp id (fun h => by omega))
          · repeat' (first | (with_reducible exact Below.refl _ _) | (with_reducible assumption) | (with_reducible refine below_drewN ?_ _) | (with_reducible refine Below.drew ?_) | (with_reducible refine Below.alloc ?_ ?_ _) | (with_reducible refine Below.setCell ?_ ?_ _) | (with_reducible refine then_ ?_ (by with_reducible assumption) ?_) | (with_reducible exact Nat.le_refl _) | (with_reducible exact Nat.le_succ _) | (with_reducible exact Nat.le_succ_of_le (by with_reducible assumption)) | omega | (simp; done) | (simp; omega) | (exact Nat.le_succ _) | (exact Nat.le_succ_of_le (by with_reducible assumption)))
        | succ j =>
          obtain ⟨ja, jl, jc, hxj, hrj⟩ := HRS1.out j (by omega)
          obtain ⟨g, cap, hv, hcell, hgl⟩ := row_cell hown1.out (show j < k by omega) hxj
          obtain ⟨rfl, rfl⟩ : ra = some ⟨g, 0, none⟩ ∧ rc = cap := by simpa using hv
          have HRJ := Lib.hid hrj
          obtain ⟨R, hR⟩ : ∃ R, B * 2 ^ j = R := ⟨_, rfl⟩
          have hR2 : B * 2 ^ (j + 1) = R + R := by rw [Nat.pow_succ, ← Nat.mul_assoc, hR]; omega
          have hAL := HAL.out
          rw [hR2] at hAL
          have hR0 : 1 ≤ R := hR ▸ Nat.mul_pos hB0 (Nat.pow_pos (by decide))
          have hQA : Q ≤ A := by
            have h1 := Nat.mul_le_mul_right Q (show 1 ≤ R + R by omega)
            rw [Nat.one_mul] at h1
            omega
          have hQ20 := Nat.le_trans (short_20 (Nat.lt_of_le_of_lt hQA HLX.out)) (show 20 ≤ 100000000 by decide)
          have AD := Lib.hid (add_num 0 _ _ _ _ _ _ (Q : Int) (Q : Int) wr (Nat.zero_le _) (HN.out.old 0) (HN.out.old 0) (by simpa using hQ20) (by simpa using hQ20))
          have hcj : wr.cell? ⟨g, j, none⟩ = some (.slice ja jl jc) := by rw [hB2.cell (cell_lt hcell)]; exact hcell
          have hj : ((j + 1 : Nat) : Int) - 1 = (j : Int) := by omega
          rw [hj]
          rw [hR] at HRJ
          have HR' := Lib.hid hR
          have HAL2 := Lib.hid hAL
          have HQA := Lib.hid hQA
          have hs2 := hB2.size
          obtain ⟨P1, P2, P3⟩ := OK.at_
          clear hj hR hR2 hAL hQA hQ20 hv hxj hrj hcell HAL
          go_upto_region 12 with (go_at_call 39; refine AD.out.mono ?_; rintro e w2 ⟨v2, rfl, hn2, hb2⟩; obtain ⟨sn, na, nl, nc, rfl⟩ := hn2.shape; replace hn2 := Lib.hid hn2; have OK1 := OK.keep hb2; obtain ⟨P1, P2, P3⟩ := OK1.at_)
          go_name_world V2 hV2
          have OK2 : Own V2 W1.heap.size 59 #[.bool sn, .slice na nl nc] := hV2 ▸ (((OK1.put 0 _).put 1 _).as rfl)
          have HN2 : NumP V2 (fun b => w.heap.size + 4 ≤ b ∧ b ≠ W1.heap.size) (.agg #[.bool sn, .slice na nl nc]) ((Q : Int) + Q) := hV2 ▸ (((NumP.of hn2.out (fun b _ h => by have := hB1.size; have := OK.in_; omega)).put (by omega) _).put (by omega) _)
          have HL2 : RowP V2 (fun b => ((S b ∧ b < w.heap.size) ∨ w.heap.size + 4 ≤ b) ∧ b ≠ W1.heap.size) la ll lc (digs L) := hV2 ▸ (((HLR.out.keep hb2).put (by omega) _).put (by omega) _)
          have hBV : Below W1.heap.size W1 V2 := hV2 ▸ (((then_ hB2 hb2 hB2.size).setCell (Nat.le_refl _) _).setCell (Nat.le_refl _) _)
          have hcv : V2.cell? ⟨g, j, none⟩ = some (.slice ja jl jc) := by rw [hBV.cell (by show g < _; omega), ← hB2.cell (by show g < _; omega)]; exact hcj
          clear hV2 P1 P2 P3 AD hn2 hb2 OK1 OK HN HLR hcj hB2
          have HRV := Lib.hid (HRJ.out.keep hBV)
          replace HL2 := Lib.hid HL2
          replace HN2 := Lib.hid HN2
          obtain ⟨cz, hcz⟩ : ∃ c, cmpZ (R : Int) L = c := ⟨_, rfl⟩
          have hcl : cz ≤ 0 ↔ R ≤ L := hcz ▸ cmp_le
          have hcr := cmp_range (R : Int) L
          rw [hcz] at hcr
          have HCZ := Lib.hid hcz
          have hj0 : (0 : Int) ≤ (j : Int) := by omega
          have hj1 : (j : Int) < (k : Int) := by omega
          clear hcz HRJ
          refine wp_region_seq (fun W => W.cell? ⟨g, j, none⟩ = some (.slice ja jl jc)) (0 :: 1 :: 2 :: 3 :: 4 :: 5 :: 7 :: 9 :: []) (3 :: []) (0 :: 1 :: 2 :: 3 :: 4 :: 5 :: 6 :: 7 :: 8 :: 9 :: []) (by kernel_rfl) (by kernel_rfl) rfl (by kernel_rfl) rfl (hcv) (by simp only [picked, List.filterMap_cons, List.filterMap_nil, List.getElem?_cons_zero, List.getElem?_cons_succ, Option.map_some]; exact rfl) ?_
          iterate 6
            refine seq_want (v := ?_) rfl rfl (fun W hS => ?_) ?_
            rotate_left
            · first
                | (conv => lhs; simp [go_sem, hj0, hj1]
                   first | done | exact rfl)
                | (have hS := hS rfl
                   have q1 := hS
                   conv => lhs; simp [go_sem, *, hj0, hj1]
                   first | done | exact rfl)
            simp only [Act.put, List.setIfInBounds_toArray, List.set_cons_zero, List.set_cons_succ]
          refine seq_on rfl rfl fun K hK => ?_
          go_wp2_with (go_at_call 61; refine (trim_P (fun b => ((S b ∧ b < w.heap.size) ∨ w.heap.size + 4 ≤ b) ∧ b ≠ W1.heap.size) false la ll lc (digs L) L V2.drew (HL2.out.keep ((Below.refl _ _).drew)) (Dg.digs L) (vl_digs L)).mono ?_; rintro e w3 ⟨v3, rfl, ⟨ta, tl, tc, rfl, hd3⟩, hb3⟩)
          have hbd3 : Below V2.heap.size V2 w3 := then_ ((Below.refl _ _).drew) hb3 (Nat.le_refl _)
          have hc3 := keep hbd3 hcv
          rw [show (if false = true then -(L : Int) else (L : Int)).natAbs = L by simp] at hd3
          refine hK _ _ hc3 ?_
          clear hK K
          iterate 1
            refine seq_want (v := ?_) rfl rfl (fun W hS => ?_) ?_
            rotate_left
            · conv => lhs; simp [go_sem, num_digits]
              first | done | exact rfl
            simp only [Act.put, List.setIfInBounds_toArray, List.set_cons_zero, List.set_cons_succ]
          refine seq_on rfl rfl fun K hK => ?_
          have SZ := size_num R L w3.heap.size 0 w3.heap.size 0 ja ta jl tl jc tc w3 ((HRV.out.keep hbd3).old 0) (hd3.old 0)
          rw [HCZ.out] at SZ
          go_wp2_with (go_at_call 63; refine SZ.mono ?_; rintro e w4 ⟨rfl, kd, rfl⟩)
          have hbd4 : Below V2.heap.size V2 (w3.drewN kd) := below_drewN hbd3 kd
          refine hK _ _ (keep hbd4 hcv) ?_
          clear hK K SZ hd3 hc3 hb3 hbd3
          iterate 1
            refine seq_want (v := ?_) rfl rfl (fun W hS => ?_) ?_
            rotate_left
            · conv => lhs; simp [go_sem]
              first | done | exact rfl
            simp only [Act.put, List.setIfInBounds_toArray, List.set_cons_zero, List.set_cons_succ]
          refine seq_end ?_
          obtain ⟨W3, hW3⟩ : ∃ W3, w3.drewN kd = W3 := ⟨_, rfl⟩
          rw [hW3] at hbd4 ⊢
          clear hW3
          have hc4 := keep hbd4 hcv
          have OK3 := OK2.keep hbd4
          have HN3 := Lib.hid (HN2.out.keep hbd4)
          have HL3 := Lib.hid (HL2.out.keep hbd4)
          have HR3 := Lib.hid (HRV.out.keep hbd4)
          have hB3 : Below W1.heap.size W1 W3 := then_ hBV hbd4 hBV.size
          clear hbd4 hcv OK2 HN2 HL2 HRV hBV
          by_cases hle : cz ≤ 0
          · have hRL : R ≤ L := hcl.1 hle
            have FIN := Lib.hid (show A = B * 2 ^ j * (Q + Q + 1) + (L - R) ∧ L - R < B * 2 ^ j by
              rw [HR'.out]
              have h1 := HAL2.out.1
              have h2 := HAL2.out.2
              rw [Nat.add_mul] at h1
              rw [Nat.mul_add, Nat.mul_add, Nat.mul_one]
              omega)
            have hll : ll ≤ 100000000 := by
              have h1 := HL3.out.hlen
              have h2 : L ≤ A := by have := HAL2.out.1; omega
              have h3 := short_20 (Nat.lt_of_le_of_lt h2 HLX.out)
              omega
            have MN := Lib.hid (minus_num L R hRL W3.heap.size 0 0 W3.heap.size 0 la ja ll jl lc jc W3 hll (HL3.out.old 0) (HR3.out.old 0))
            have hs3 := OK3.in_
            have hs4 := hB1.size
            replace hle := Lib.hid hle
            have hle2 : cz ≤ 0 := hle.out
            clear hcl hll
            go_upto_region 14 with (first
              | (go_at_call 64; refine MN.out.mono ?_; rintro e w5 ⟨a5, l5, c5, zs, rfl, hd5, hg5, hv5, hb5⟩; replace hd5 := Lib.hid hd5; replace hg5 := Lib.hid hg5; replace hv5 := Lib.hid hv5)
              | (go_at_call 61; refine (trim_P (fun b => ((S b ∧ b < w.heap.size) ∨ w.heap.size + 4 ≤ b) ∧ b ≠ W1.heap.size) false a5 l5 c5 zs ((L - R : Nat) : Int) w5 (RowP.of hd5.out (fun b _ hb => by omega)) hg5.out (by have := hv5.out; omega)).mono ?_; rintro e w6 ⟨v6, rfl, ⟨ta, tl, tc, rfl, hd6⟩, hb6⟩))
            rw [show (if false = true then -((L - R : Nat) : Int) else ((L - R : Nat) : Int)).natAbs = L - R by simp] at hd6
            have hb36 : Below W3.heap.size W3 w6 := then_ hb5 hb6 hb5.size
            have OK6 := OK3.keep hb36
            have HN6 := Lib.hid (HN3.out.keep hb36)
            have HL6 := Lib.hid hd6
            have hB6 : Below W1.heap.size W1 w6 := then_ hB3 hb36 hB3.size
            have h2Q : 2 * Q ≤ A := by
              have h1 := FIN.out.1
              have h3 : 1 ≤ B * 2 ^ j := Nat.mul_pos hB0 (Nat.pow_pos (by decide))
              have h4 := Nat.mul_le_mul_right (Q + Q + 1) h3
              omega
            have hql := Nat.le_trans (short_20 (Nat.lt_of_le_of_lt h2Q HLX.out)) (show 20 ≤ 100000000 by decide)
            have hl1 : (digs ((Q : Int) + Q).natAbs).length ≤ 100000000 := by
              rw [show ((Q : Int) + Q).natAbs = 2 * Q by omega]; exact hql
            have hl2 : (digs (1 : Int).natAbs).length ≤ 100000000 := by
              rw [show (1 : Int).natAbs = 1 from rfl, digs_pos (by decide)]
              simp [digs_zero]
            have AD1 : ∀ w', Below w6.heap.size w6 w' → Own w' w6.heap.size 3 #[.int .i64 1] → Calls Tryd.prog 39 #[.agg #[.bool sn, .slice na nl nc], .agg #[.bool false, .slice (some ⟨w6.heap.size, 0, none⟩) 1 1]] w' fun e w'' => ∃ v2, e = .returned v2 ∧ Num w'' 0 w'.heap.size v2 ((Q : Int) + Q + 1) ∧ Below w'.heap.size w' w'' := fun w' hb ho =>
              add_num 0 _ _ _ _ _ _ _ _ w' (Nat.zero_le _) ((HN6.out.keep hb).old 0) ((one_num ho (S := fun _ => True) trivial).old 0) hl1 hl2
            have AD2 := Lib.hid AD1
            obtain ⟨P1, P2, P3⟩ := OK6.at_
            clear AD1 hl1 hl2 hql hd6 hb5 hb6 hd5 hg5 hv5 MN OK3 HN3 HL3 HR3 hB3 h2Q hb36 hc4
            go_wp2_with (go_at_call 39; refine (AD2.out _ (by repeat' (first | (with_reducible exact Below.refl _ _) | (with_reducible assumption) | (with_reducible refine below_drewN ?_ _) | (with_reducible refine Below.drew ?_) | (with_reducible refine Below.alloc ?_ ?_ _) | (with_reducible refine Below.setCell ?_ ?_ _) | (with_reducible refine then_ ?_ (by with_reducible assumption) ?_) | (with_reducible exact Nat.le_refl _) | (with_reducible exact Nat.le_succ _) | (with_reducible exact Nat.le_succ_of_le (by with_reducible assumption)) | omega | (simp; done) | (simp; omega) | (exact Nat.le_succ _) | (exact Nat.le_succ_of_le (by with_reducible assumption)))) (by repeat' (first | (with_reducible assumption) | (with_reducible refine Own.drawnN ?_ _) | (with_reducible refine Own.drawn ?_) | (with_reducible refine Own.made_at ?_; first | rfl | (simp; done) | omega | (simp; omega)) | (with_reducible refine Own.more ?_ _) | (with_reducible refine Own.apart ?_ ?_ _ _; rotate_left; first | omega | (simp; done) | (simp; omega)) | (refine Own.put ?_ _ _)))).mono ?_; rintro e w7 ⟨v7, rfl, hn7, hb7⟩; obtain ⟨s7, a7, l7, c7, rfl⟩ := hn7.shape; replace hn7 := Lib.hid hn7; have hb7' : Below w6.heap.size w6 w7 := then_ (by repeat' (first | (with_reducible exact Below.refl _ _) | (with_reducible assumption) | (with_reducible refine below_drewN ?_ _) | (with_reducible refine Below.drew ?_) | (with_reducible refine Below.alloc ?_ ?_ _) | (with_reducible refine Below.setCell ?_ ?_ _) | (with_reducible refine then_ ?_ (by with_reducible assumption) ?_) | (with_reducible exact Nat.le_refl _) | (with_reducible exact Nat.le_succ _) | (with_reducible exact Nat.le_succ_of_le (by with_reducible assumption)) | omega | (simp; done) | (simp; omega) | (exact Nat.le_succ _) | (exact Nat.le_succ_of_le (by with_reducible assumption)))) hb7 (by simp); have OK7 := OK6.keep hb7'; have HL7 := Lib.hid (HL6.out.keep hb7'); have hB7 := then_ hB6 hb7' hB6.size; clear P1 P2 P3; obtain ⟨P1, P2, P3⟩ := OK7.at_)
            go_roundg j
            case measure => omega
            case rel =>
              refine ⟨Q + Q + 1, L - R, s7, a7, l7, c7, ta, tl, tc, by go_num, rfl, by omega, FIN, ((OK7.put 0 _).put 1 _).as rfl, ?_, (HL7.out.put (by omega) _).put (by omega) _, (hB7.setCell (Nat.le_refl _) _).setCell (Nat.le_refl _) _⟩
              have e : (((Q + Q + 1 : Nat)) : Int) = (Q : Int) + Q + 1 := by omega
              rw [e]
              exact ((NumP.of hn7.out (fun b _ h => by have := OK6.in_; simp at h; omega)).put (by omega) _).put (by omega) _
          · have hlt2 : L < R := by
              rcases Nat.lt_or_ge L R with h | h
              · exact h
              · exact absurd (hcl.2 h) hle
            have FIN := Lib.hid (show A = B * 2 ^ j * (Q + Q) + L ∧ L < B * 2 ^ j by
              rw [HR'.out]
              refine ⟨?_, hlt2⟩
              have h1 := HAL2.out.1
              rw [Nat.add_mul] at h1
              rw [Nat.mul_add]
              exact h1)
            clear hcl
            go_wp2
            go_roundg j
            case measure => omega
            case rel =>
              refine ⟨Q + Q, L, sn, na, nl, nc, la, ll, lc, by go_num, rfl, by omega, FIN, OK3, ?_, HL3.out, hB3⟩
              have := HN3.out
              rwa [← Int.natCast_add] at this
end Go.Proofs.YtigcbgehnlilaaaDoor
end
