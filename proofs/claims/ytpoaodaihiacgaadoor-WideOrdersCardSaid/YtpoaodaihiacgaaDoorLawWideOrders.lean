/- WideOrders: signs and order of any two numbers are the document's, and which are int64; the tables start as the program's text lays them. -/
import Derived.Test.YtpoaodaihiacgaaDoorRows
import Derived.Test.YtpoaodaihiacgaaDoorBase
import Derived.Test.YtpoaodaihiacgaaDoorRefG
import Derived.Test.YtpoaodaihiacgaaDoorRefC
import Derived.Test.YtpoaodaihiacgaaDoorSeq
import Derived.Test.YtpoaodaihiacgaaDoorMemoY
import Derived.Test.YtpoaodaihiacgaaDoorAw3
import Derived.WalkKit
import Derived.ProofKit
import Derived.OpenShut
import Derived.ShutString
import Derived.ChangeOld
import Derived.Below
import Derived.SliceStrings
import Derived.Test.YtpoaodaihiacgaaDoorLaid
import Derived.Test.YtpoaodaihiacgaaDoorCards
import Derived.Test.YtpoaodaihiacgaaDoorTie
import Derived.LaidMore
import Derived.Stop.Joined
import Derived.SevenTiedAt
namespace Go.Proofs.YtpoaodaihiacgaaDoor.wideOrders
open Go.ChangeShapes Go.WideShapes Go.ChangeAt Go.RowKit
open Go.ChangeMaps (open_string shut_string)
set_option linter.unusedVariables false

theorem num_sign {w : World} {T C : Nat} {v : Value} {z : Int} (h : Num w T C v z) {s : Bool} {g : Int} (hs : decide (z < 0) = s) (hg : sgnZ z = g) :
    ∃ a len cap, v = .agg #[.bool s, .slice a len cap] ∧ ((s = true ∧ g = -1) ∨ (s = false ∧ g = 0 ∧ ((len : Int) == 0) = true) ∨ (s = false ∧ g = 1 ∧ ((len : Int) == 0) = false)) := by
  obtain ⟨a, len, cap, rfl, hr⟩ := h
  refine ⟨a, len, cap, by rw [hs], ?_⟩
  have hl := hr.hlen
  unfold sgnZ at hg
  rcases Int.lt_trichotomy z 0 with h | h | h
  · rw [if_pos h] at hg; exact .inl ⟨by rw [← hs]; simpa using h, hg.symm⟩
  · subst h
    rw [if_neg (by omega), if_pos rfl] at hg
    rw [show (0 : Int).natAbs = 0 from rfl, digs_zero] at hl
    simp at hl
    exact .inr (.inl ⟨hs.symm, hg.symm, by rw [← hl]; rfl⟩)
  · rw [if_neg (by omega), if_neg (by omega)] at hg
    have : digs z.natAbs ≠ [] := fun e => by have := digs_nil e; omega
    have hp := List.length_pos_iff.2 this
    exact .inr (.inr ⟨by rw [← hs]; simp; omega, hg.symm, by simp; omega⟩)
theorem cmp_eq {a b : Int} : decide (a = b) = (cmpZ a b == 0) := by
  unfold cmpZ
  by_cases h1 : a < b
  · rw [if_pos h1]; simp; omega
  · by_cases h2 : b < a
    · rw [if_neg h1, if_pos h2]; simp; omega
    · rw [if_neg h1, if_neg h2]; simp; omega
theorem small_case (z : Int) (fz : Fit z) : ∃ (sv : Int) (ok : Bool), (-9223372036854775808 ≤ sv ∧ sv ≤ 9223372036854775807) ∧ (∀ w, Calls Tryd.prog 27 #[.agg #[.int .u64 (L0 z), .int .u64 (L1 z), .int .u64 (L2 z), .int .u64 (L3 z)]] w fun e w' => e = .returned (.tuple #[.int .i64 sv, .bool ok]) ∧ Below w.heap.size w w') ∧
    (∀ w, (Op.equalIn 10000 24 (.agg #[.int .u64 (L0 sv), .int .u64 (L1 sv), .int .u64 (L2 sv), .int .u64 (L3 sv)]) (.agg #[.int .u64 (L0 z), .int .u64 (L1 z), .int .u64 (L2 z), .int .u64 (L3 z)])).run Tryd.prog w = .ok ok w) ∧ (ok = true ∨ (ok = false ∧ (sv == 0) = true)) := by
  obtain ⟨r0, r1⟩ := lowZ_range z
  have h := Small_any z fz
  by_cases e : lowZ z = z
  · rw [e] at r0 r1
    simp only [if_pos e] at h
    exact ⟨z, true, ⟨r0, r1⟩, h, fun w => by rw [eq_fit fz fz w]; simp, .inl rfl⟩
  · simp only [if_neg e] at h
    exact ⟨0, false, by decide, h, fun w => by
      rw [eq_fit fit0 fz w]
      have : ¬ (0 : Int) = z := by rintro rfl; exact e (lowZ_same (by decide) (by decide))
      simp [this], .inr ⟨rfl, rfl⟩⟩

theorem own : ownKnob Tryd.prog.godebug = none := by kernel_rfl
theorem laidOut : laidOutB Tryd.prog = true := by kernel_rfl

set_option maxHeartbeats 16000000 in
set_option maxRecDepth 20000 in
theorem walk (z0 : Int) (z1 : Int) (a2 : Int) (w : World) (f0 : Fit z0) (f1 : Fit z1) (w2 : (Lit.int .i64 a2).wf = true) (hp : Pow10 w) :
    Calls Tryd.prog 7 #[.agg #[.int .u64 (L0 z0), .int .u64 (L1 z0), .int .u64 (L2 z0), .int .u64 (L3 z0)], .agg #[.int .u64 (L0 z1), .int .u64 (L1 z1), .int .u64 (L2 z1), .int .u64 (L3 z1)], .int .i64 a2] w fun e w' => e = .returned (.bool true) ∧ Below w.heap.size w w' := by
  obtain ⟨h0, h1⟩ := of_wf64 w2
  have f2 : Fit a2 := Fit.of64 h0 h1
  have F0 := Lib.hid (fun T w h => from_num T z0 f0 w h)
  have F1 := Lib.hid (fun T w h => from_num T z1 f1 w h)
  have CM1 := fun w => Cmp_any z0 z1 f0 f1 w
  have CN1 := fun v v' T C T' C' w h h' => cmp_num v v' z0 z1 T C T' C' w h h'
  have EQ1 := fun w => eq_fit f0 f1 w
  rw [cmp_eq] at EQ1
  obtain ⟨cz, hcz⟩ : ∃ c, cmpZ z0 z1 = c := ⟨_, rfl⟩
  rw [hcz] at CM1 CN1 EQ1
  obtain ⟨eb, heb⟩ : ∃ eb, (cz == 0) = eb := ⟨_, rfl⟩
  rw [heb] at EQ1
  obtain ⟨sv, ok, ⟨s0l, s0h⟩, SM1, EQ2, HOK⟩ := small_case z0 f0
  have OS := Lib.hid (fun w => of_b sv s0l s0h w)
  have O2 := Lib.hid (fun w => of_b a2 h0 h1 w)
  have SM21 : ∀ w, Calls Tryd.prog 27 #[.agg #[.int .u64 (L0 a2), .int .u64 (L1 a2), .int .u64 (L2 a2), .int .u64 (L3 a2)]] w fun e w' => e = .returned (.tuple #[.int .i64 a2, .bool true]) ∧ Below w.heap.size w w' := fun w => by
    have h := Small_any a2 f2 w
    rw [if_pos (lowZ_same h0 h1)] at h
    exact h
  have SG1 := fun w => sign_b z0 f0 w
  obtain ⟨g, hg⟩ : ∃ g, sgnZ z0 = g := ⟨_, rfl⟩
  obtain ⟨s, hs⟩ : ∃ s, decide (z0 < 0) = s := ⟨_, rfl⟩
  rw [hg] at SG1
  have CM := Lib.hid CM1
  have CN := Lib.hid CN1
  have SM := Lib.hid SM1
  have SM2 := Lib.hid SM21
  have SG := Lib.hid SG1
  have HG := Lib.hid hg
  have HS := Lib.hid hs
  replace HOK := Lib.hid HOK
  clear CM1 CN1 SM1 SM21 SG1 hg hs hcz f2 f0 f1 h0 h1 w2 s0l s0h
  go_enter Tryd.func7, Tryd.ntmps7
  go_upto_region 1 with fail
  go_name_world W0 hW0e
  have OA : Own W0 w.heap.size 24 #[.int .u64 (L0 z0), .int .u64 (L1 z0), .int .u64 (L2 z0), .int .u64 (L3 z0)] := hW0e ▸ (by repeat' (first | (with_reducible assumption) | (with_reducible refine Own.drawnN ?_ _) | (with_reducible refine Own.drawn ?_) | (with_reducible refine Own.made_at ?_; first | rfl | (simp; done) | omega | (simp; omega)) | (with_reducible refine Own.more ?_ _) | (with_reducible refine Own.apart ?_ ?_ _ _; rotate_left; first | omega | (simp; done) | (simp; omega)) | (refine Own.put ?_ _ _)))
  have OB : Own W0 (w.heap.size + 1) 24 #[.int .u64 (L0 z1), .int .u64 (L1 z1), .int .u64 (L2 z1), .int .u64 (L3 z1)] := hW0e ▸ (by repeat' (first | (with_reducible assumption) | (with_reducible refine Own.drawnN ?_ _) | (with_reducible refine Own.drawn ?_) | (with_reducible refine Own.made_at ?_; first | rfl | (simp; done) | omega | (simp; omega)) | (with_reducible refine Own.more ?_ _) | (with_reducible refine Own.apart ?_ ?_ _ _; rotate_left; first | omega | (simp; done) | (simp; omega)) | (refine Own.put ?_ _ _)))
  have hW0 : Below w.heap.size w W0 := hW0e ▸ (by repeat' (first | (with_reducible exact Below.refl _ _) | (with_reducible assumption) | (with_reducible refine below_drewN ?_ _) | (with_reducible refine Below.drew ?_) | (with_reducible refine Below.alloc ?_ ?_ _) | (with_reducible refine Below.setCell ?_ ?_ _) | (with_reducible refine then_ ?_ (by with_reducible assumption) ?_) | (with_reducible exact Nat.le_refl _) | (with_reducible exact Nat.le_succ _) | (with_reducible exact Nat.le_succ_of_le (by with_reducible assumption)) | omega | (simp; done) | (simp; omega) | (exact Nat.le_succ _) | (exact Nat.le_succ_of_le (by with_reducible assumption))))
  clear hW0e
  obtain ⟨P1, P2, P3⟩ := OA.at_
  go_wp2_with fail
  refine (F0.out W0.heap.size W0 (Nat.le_refl _)).mono ?_
  rintro e w1 ⟨v, rfl, hn, hb1⟩
  obtain ⟨na, nl, nc, rfl, hsg⟩ := num_sign hn HS.out HG.out
  have z1s := hb1.size
  have z0s := OA.in_
  replace OA := OA.keep hb1
  replace OB := OB.keep hb1
  replace hsg := Lib.hid hsg
  have hn1 := Lib.hid hn
  have B1 : Below w.heap.size w w1 := then_ hW0 hb1 hW0.size
  clear hn P1 P2 P3 hb1 F0
  go_upto_region 2 with fail
  go_name_world W1 hW1e
  have OX : Own W1 w1.heap.size 27 #[.bool s, .slice na nl nc] := hW1e ▸ (by
    refine Own.as (cs := #[.bool s, .slice na nl nc]) ?_ rfl
    repeat' (first | (with_reducible assumption) | (with_reducible refine Own.drawnN ?_ _) | (with_reducible refine Own.drawn ?_) | (with_reducible refine Own.made_at ?_; first | rfl | (simp; done) | omega | (simp; omega)) | (with_reducible refine Own.more ?_ _) | (with_reducible refine Own.apart ?_ ?_ _ _; rotate_left; first | omega | (simp; done) | (simp; omega)) | (refine Own.put ?_ _ _)))
  have hb1' : Below w1.heap.size w1 W1 := hW1e ▸ (by repeat' (first | (with_reducible exact Below.refl _ _) | (with_reducible assumption) | (with_reducible refine below_drewN ?_ _) | (with_reducible refine Below.drew ?_) | (with_reducible refine Below.alloc ?_ ?_ _) | (with_reducible refine Below.setCell ?_ ?_ _) | (with_reducible refine then_ ?_ (by with_reducible assumption) ?_) | (with_reducible exact Nat.le_refl _) | (with_reducible exact Nat.le_succ _) | (with_reducible exact Nat.le_succ_of_le (by with_reducible assumption)) | omega | (simp; done) | (simp; omega) | (exact Nat.le_succ _) | (exact Nat.le_succ_of_le (by with_reducible assumption))))
  replace OA := OA.keep hb1'
  replace OB := OB.keep hb1'
  have hW1 := then_ B1 hb1' B1.size
  have hn2 := Lib.hid (hn1.out.keep hb1')
  clear hW1e hb1' B1 hn1
  refine wp_region_seq (fun W => Own W (w.heap.size + 1) 24 #[.int .u64 (L0 z1), .int .u64 (L1 z1), .int .u64 (L2 z1), .int .u64 (L3 z1)] ∧ Own W w1.heap.size 27 #[.bool s, .slice na nl nc]) (0 :: 1 :: 4 :: []) (0 :: 1 :: []) (0 :: 1 :: 2 :: 3 :: 4 :: []) (by kernel_rfl) (by kernel_rfl) rfl (by kernel_rfl) rfl (⟨OB.drawn, OX.drawn⟩) (by simp only [picked, List.filterMap_cons, List.filterMap_nil, List.getElem?_cons_zero, List.getElem?_cons_succ, Option.map_some]; exact rfl) ?_
  iterate 2
    refine seq_want (v := ?_) rfl rfl (fun W hS => ?_) ?_
    rotate_left
    · first
        | (conv => lhs; simp [go_sem]
           first | done | exact rfl)
        | (have hS := hS rfl
           obtain ⟨q1, q2⟩ := hS
           obtain ⟨q11, q12, q13⟩ := q1.at_
           obtain ⟨q21, q22, q23⟩ := q2.at_
           conv => lhs; simp [go_sem, *]
           first | done | exact rfl)
    simp only [Act.put, List.setIfInBounds_toArray, List.set_cons_zero, List.set_cons_succ]
  · refine seq_on rfl rfl fun K hK => ?_
    go_wp2_with (go_at_call 12; refine (F1.out W1.drew.heap.size W1.drew (Nat.le_refl _)).mono ?_; rintro e w2 ⟨v', rfl, hn', hb2⟩)
    refine hK _ _ ⟨OB.drawn.keep hb2, OX.drawn.keep hb2⟩ ?_
    clear hK K
    refine seq_on rfl rfl fun K hK => ?_
    go_wp2_with (go_at_call 26; refine (CN.out _ _ _ _ _ _ w2 ((hn2.out.keep (below_drewN (Below.refl _ _) 1)).keep hb2) hn').mono ?_; rintro e w3 ⟨rfl, hb3⟩)
    have hb13 : Below W1.drew.heap.size W1.drew w3 := then_ hb2 hb3 hb2.size
    refine hK _ _ ⟨OB.drawn.keep hb13, OX.drawn.keep hb13⟩ ?_
    clear hK K
    iterate 1
      refine seq_want (v := ?_) rfl rfl (fun W hS => ?_) ?_
      rotate_left
      · conv => lhs; simp [go_sem]
        first | done | exact rfl
      simp only [Act.put, List.setIfInBounds_toArray, List.set_cons_zero, List.set_cons_succ]
    refine seq_end ?_
    replace OA := OA.drawn.keep hb13
    replace OB := OB.drawn.keep hb13
    replace OX := OX.drawn.keep hb13
    have B3 : Below w.heap.size w w3 := then_ hW1.drew hb13 hW1.size
    clear hb2 hb3 hb13 hn' hn2 hW1 F1 CN
    obtain ⟨P1, P2, P3⟩ := OA.at_
    go_wp2_with fail
    refine (SM.out _).mono ?_
    rintro e w4 ⟨rfl, hb4⟩
    replace OA := OA.keep hb4
    replace OB := OB.keep hb4
    replace OX := OX.keep hb4
    have B4 : Below w.heap.size w w4 := then_ B3 hb4 B3.size
    clear B3 hb4 P1 P2 P3
    go_wp2_with fail
    refine (O2.out _).mono ?_
    rintro e w5 ⟨rfl, hb5⟩
    replace OA := OA.keep hb5
    replace OB := OB.keep hb5
    replace OX := OX.keep hb5
    have B5 : Below w.heap.size w w5 := then_ B4 hb5 B4.size
    clear B4 hb5
    go_wp2_with fail
    refine (SM2.out _).mono ?_
    rintro e w6 ⟨rfl, hb6⟩
    replace OA := OA.keep hb6
    replace OB := OB.keep hb6
    replace OX := OX.keep hb6
    have B6 : Below w.heap.size w w6 := then_ B5 hb6 B5.size
    have HP : Pow10 w6.drew := hp.keep B6.drew
    clear B5 hb6 hp
    obtain ⟨Q1, Q2, Q3⟩ := OX.at_
    replace HS := HS.out
    rcases hsg.out with ⟨rfl, rfl⟩ | ⟨rfl, rfl, e0⟩ | ⟨rfl, rfl, e0⟩
    all_goals
      clear HS HG hsg
      go_upto_region 10 with fail
      clear Q1 Q2 Q3 OX
      rcases HOK.out with rfl | ⟨rfl, ez⟩
    all_goals
      clear HOK
      refine wp_region_seq (fun W => Own W w.heap.size 24 #[.int .u64 (L0 z0), .int .u64 (L1 z0), .int .u64 (L2 z0), .int .u64 (L3 z0)] ∧ Own W (w.heap.size + 1) 24 #[.int .u64 (L0 z1), .int .u64 (L1 z1), .int .u64 (L2 z1), .int .u64 (L3 z1)]) (1 :: 2 :: 3 :: 5 :: 6 :: 7 :: 8 :: 9 :: 10 :: 11 :: 12 :: 13 :: 14 :: 15 :: 16 :: 17 :: 19 :: 20 :: 21 :: 22 :: 23 :: 24 :: 26 :: 27 :: 28 :: 29 :: 30 :: 31 :: 32 :: 33 :: 34 :: 35 :: 36 :: 37 :: 38 :: 39 :: 40 :: 41 :: 42 :: 43 :: 44 :: 45 :: []) (2 :: 3 :: 9 :: 10 :: 17 :: 26 :: []) (0 :: 1 :: 2 :: 3 :: 5 :: 4 :: 6 :: 7 :: 8 :: 9 :: 10 :: 11 :: 12 :: 13 :: 14 :: 15 :: 16 :: 17 :: 19 :: 18 :: 20 :: 21 :: 22 :: 23 :: 24 :: 26 :: 25 :: 27 :: 28 :: 29 :: 30 :: 31 :: 32 :: 33 :: 34 :: 35 :: 36 :: 37 :: 38 :: 39 :: 40 :: 41 :: 42 :: 43 :: 44 :: 45 :: []) (by kernel_rfl) (by kernel_rfl) rfl (by kernel_rfl) rfl (⟨OA.drawn, OB.drawn⟩) (by simp only [picked, List.filterMap_cons, List.filterMap_nil, List.getElem?_cons_zero, List.getElem?_cons_succ, Option.map_some]; exact rfl) ?_
      refine seq_on rfl rfl fun K hK => ?_
      go_wp2_with (go_at_call 16; refine (awake_any _ HP).mono ?_; rintro e w7 ⟨rfl, hb7⟩)
      replace OA := OA.drawn.keep hb7
      replace OB := OB.drawn.keep hb7
      have B7 : Below w.heap.size w w7 := then_ B6.drew hb7 B6.size
      refine hK _ _ ⟨OA, OB⟩ ?_
      clear hK K B6 hb7 HP
      iterate 4
        refine seq_want (v := ?_) rfl rfl (fun W hS => ?_) ?_
        rotate_left
        · first
            | (conv => lhs; simp [go_sem]
               first | done | exact rfl)
            | (have hS := hS rfl
               obtain ⟨q1, q2⟩ := hS
               obtain ⟨q11, q12, q13⟩ := q1.at_
               obtain ⟨q21, q22, q23⟩ := q2.at_
               conv => lhs; simp [go_sem, *]
               first | done | exact rfl)
        simp only [Act.put, List.setIfInBounds_toArray, List.set_cons_zero, List.set_cons_succ]
      refine seq_on rfl rfl fun K hK => ?_
      go_wp2_with (go_at_call 29; refine (CM.out _).mono ?_; rintro e w8 ⟨rfl, hb8⟩)
      replace OA := OA.keep hb8
      replace OB := OB.keep hb8
      have B8 : Below w.heap.size w w8 := then_ B7 hb8 B7.size
      refine hK _ _ ⟨OA, OB⟩ ?_
      clear hK K B7 hb8
      iterate 13
        refine seq_want (v := ?_) rfl rfl (fun W hS => ?_) ?_
        rotate_left
        · first
            | (conv => lhs; simp [go_sem, heb, EQ1]
               first | done | exact rfl)
            | (have hS := hS rfl
               obtain ⟨q1, q2⟩ := hS
               obtain ⟨q11, q12, q13⟩ := q1.at_
               obtain ⟨q21, q22, q23⟩ := q2.at_
               conv => lhs; simp [go_sem, *, heb, EQ1]
               first | done | exact rfl)
        simp only [Act.put, List.setIfInBounds_toArray, List.set_cons_zero, List.set_cons_succ]
      refine seq_on rfl rfl fun K hK => ?_
      go_wp2_with (go_at_call 30; refine (SG.out _).mono ?_; rintro e w9 ⟨rfl, hb9⟩)
      replace OA := OA.keep hb9
      replace OB := OB.keep hb9
      have B9 : Below w.heap.size w w9 := then_ B8 hb9 B8.size
      refine hK _ _ ⟨OA, OB⟩ ?_
      clear hK K B8 hb9
      iterate 6
        refine seq_want (v := ?_) rfl rfl (fun W hS => ?_) ?_
        rotate_left
        · first
            | (conv => lhs; simp [go_sem]
               first | done | exact rfl)
            | (have hS := hS rfl
               obtain ⟨q1, q2⟩ := hS
               obtain ⟨q11, q12, q13⟩ := q1.at_
               obtain ⟨q21, q22, q23⟩ := q2.at_
               conv => lhs; simp [go_sem, *]
               first | done | exact rfl)
        simp only [Act.put, List.setIfInBounds_toArray, List.set_cons_zero, List.set_cons_succ]
      refine seq_on rfl rfl fun K hK => ?_
      go_wp2_with (go_at_call 28; refine (OS.out _).mono ?_; rintro e wa ⟨rfl, hba⟩)
      replace OA := OA.keep hba
      replace OB := OB.keep hba
      have Ba : Below w.heap.size w wa := then_ B9 hba B9.size
      refine hK _ _ ⟨OA, OB⟩ ?_
      clear hK K B9 hba
      iterate 6
        refine seq_want (v := ?_) rfl rfl (fun W hS => ?_) ?_
        rotate_left
        · first
            | (conv => lhs; simp [go_sem, EQ2]
               first | done | exact rfl)
            | (have hS := hS rfl
               obtain ⟨q1, q2⟩ := hS
               obtain ⟨q11, q12, q13⟩ := q1.at_
               obtain ⟨q21, q22, q23⟩ := q2.at_
               conv => lhs; simp [go_sem, *, EQ2]
               first | done | exact rfl)
        simp only [Act.put, List.setIfInBounds_toArray, List.set_cons_zero, List.set_cons_succ]
      first
      | refine seq_skip rfl rfl ?_
        simp only [Act.put, List.setIfInBounds_toArray, List.set_cons_zero, List.set_cons_succ]
        refine seq_skip rfl rfl ?_
        simp only [Act.put, List.setIfInBounds_toArray, List.set_cons_zero, List.set_cons_succ]
      | skip
        iterate 2
          refine seq_want (v := ?_) rfl rfl (fun W hS => ?_) ?_
          rotate_left
          · conv => lhs; simp [go_sem, ez]
            first | done | exact rfl
          simp only [Act.put, List.setIfInBounds_toArray, List.set_cons_zero, List.set_cons_succ]
      iterate 11
        refine seq_want (v := ?_) rfl rfl (fun W hS => ?_) ?_
        rotate_left
        · conv => lhs; simp [go_sem]
          first | done | exact rfl
        simp only [Act.put, List.setIfInBounds_toArray, List.set_cons_zero, List.set_cons_succ]
      refine seq_end ?_
      go_wp2
      go_ret
      exact ⟨rfl, Ba⟩

set_option maxRecDepth 100000 in
theorem lifted (os : Os) (started : os.Started) (H : Type) (enc : TypeId × Value → H) :
    ReturnsInHanded {} Tryd.checked os 7 .any (fun w args => (Rows.wideOrdersSpec.pre enc Tryd.prog Tryd.f7 [] false w args ∧ laidMetH Tryd.prog lay3 w) ∧ sizedMet enc Tryd.prog Tryd.f7 (OpenSpec.ofChange Rows.wideOrdersSpec) false w args) (Rows.wideOrdersSpec.post enc Tryd.prog Tryd.f7 false true false false) := by
  refine returnsInHanded_of_change_and (C := Tryd.checked) (X := fun w _ => laidMetH Tryd.prog lay3 w) (fun _ _ _ hh h => h.of_heap hh) own started (by kernel_rfl) Tryd.func7
    (ChangeSpec.witness_shaped (enc := enc) (C := Tryd.checked) (os := os) (X := fun w _ => laidMetH Tryd.prog lay3 w) false (World.doorLaid Tryd.prog 400 os) #[.agg #[.int .u64 0, .int .u64 0, .int .u64 0, .int .u64 0], .agg #[.int .u64 0, .int .u64 0, .int .u64 0, .int .u64 0], .int .i64 0] 8 rfl (World.shaped_of_RefB (by kernel_rfl) (by kernel_rfl)) (by kernel_rfl) (by kernel_rfl) (by kernel_rfl) (door_met os _)) ?_
  intro W base args ds gs before hval0 hW _ _ hL _
  have hval : ∀ (j : Nat) t v, Tryd.f7.params[j]? = some t → args[j]? = some v → Value.okWide Tryd.prog W .any base t v := hval0
  have hW' := hW
  obtain ⟨p, q, hA0, hV, rfl, hfz, hnd⟩ := hW
  have hA : DataW.TrodAll enc Tryd.prog W 0 (fun _ => true) true Tryd.f7.params.toList args.toList ds p := hA0
  rw [Tryd.params7] at hA hval
  obtain ⟨v0, vs0, d0, ds0, p0, q0, hargs, rfl, rfl, h0, r0⟩ := trodAll_cons hA
  obtain ⟨v1, vs1, d1, ds1, p1, q1, rfl, rfl, rfl, h1, r1⟩ := trodAll_cons r0
  obtain ⟨v2, vs2, d2, ds2, p2, q2, rfl, rfl, rfl, h2, r2⟩ := trodAll_cons r1
  obtain ⟨rfl, rfl, rfl⟩ := trodAll_nil r2
  obtain rfl : args = #[v0, v1, v2] := by cases args; simp_all
  obtain ⟨rfl, rfl⟩ := trodVars_none hV
  obtain ⟨z0, rfl, rfl, rfl, f0⟩ := open_i4 (hval 0 24 v0 rfl rfl) h0
  obtain ⟨z1, rfl, rfl, rfl, f1⟩ := open_i4 (hval 1 24 v1 rfl rfl) h1
  obtain ⟨a2, rfl, rfl, rfl, w2⟩ := open_int Tryd.underlying2 (hval 2 2 v2 rfl rfl) h2
  clear hA0 hval0
  refine (walk z0 z1 a2 W f0 f1 w2 (pow_of hL)).mono fun e W' ⟨he, bel⟩ => ?_
  subst he
  exact ⟨_, rfl, _, _, _, [], _, [], hW', trodAll_mk1 (shut_bool Tryd.underlying4 _), (trodAll_cons_mk (shut_i4 _) (trodAll_cons_mk (shut_i4 _) (trodAll_cons_mk (shut_int Tryd.underlying2 w2) trodAll_mk0))), rfl, bel.frame _, fun h => by cases h⟩

theorem over : Rows.WideOrdersSaid :=
  OpenClaim.holds_of_wide 7 Tryd.f7 rfl rfl rfl rfl rfl rfl rfl ⟨rfl, rfl, rfl, rfl, rfl⟩ rfl rfl rfl rfl rfl (by kernel_rfl) Tryd.func7 (by kernel_rfl)
    (of_decide_eq_true (by kernel_rfl)) (by unfold Func.isWrapper; first | (rw [if_pos (by decide +kernel)]; kernel_rfl) | (rw [if_neg (by decide +kernel)]; exact ⟨rfl, rfl⟩))
    (fun os started H enc _ => lifted os started H enc)

/-- THE STATEMENT -/
theorem proved : Rows.WideOrdersCardSaid :=
  Claim7.holds_tied_plain_at .later [] [.data, .data, .data] true (true, "7c622db037fdc4ff25274987a64071f584d7c93a343983fca2f4ed33564cf7b6") false
    over (fun _ h => by cases h) (by kernel_rfl) (fun _ h => by cases h) wideOrders_row_tie rfl ⟨rfl, rfl⟩ (by kernel_rfl) rfl
    (fun f fn hf hfn => by
      obtain rfl : f = 7 := Option.some.inj ((show Tryd.prog.funcNamed "croft/croftlaw03.WideOrders" = some 7 by kernel_rfl).symm.trans hf) |>.symm
      obtain rfl : fn = Tryd.f7 := (Option.some.inj (Tryd.func7.symm.trans hfn)).symm
      exact ⟨by kernel_rfl, fun j t ht => by
        rw [Tryd.params7] at ht
        have hm : t ∈ [24, 24, 2] := by simpa using Array.mem_of_getElem? ht
        have hall : ([24, 24, 2].all fun u => !Tryd.prog.wantsStandIn u) = true := by kernel_rfl
        exact (show Tryd.prog.wantsStandIn t = false by simpa using List.all_eq_true.1 hall t hm)⟩)
    (by kernel_rfl)
#print axioms proved
end Go.Proofs.YtpoaodaihiacgaaDoor.wideOrders
