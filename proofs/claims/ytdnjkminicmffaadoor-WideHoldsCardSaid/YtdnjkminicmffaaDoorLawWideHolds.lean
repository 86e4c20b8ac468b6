/- WideHolds: which of two products is greater, however great they are, is the document's; the tables start as the program's text lays them. -/
import Derived.Test.YtdnjkminicmffaaDoorRows
import Derived.Test.YtdnjkminicmffaaDoorBase
import Derived.Test.YtdnjkminicmffaaDoorRefG
import Derived.Test.YtdnjkminicmffaaDoorRefC
import Derived.Test.YtdnjkminicmffaaDoorMulA
import Derived.Test.YtdnjkminicmffaaDoorSeq
import Derived.Test.YtdnjkminicmffaaDoorAw3
import Derived.Test.YtdnjkminicmffaaDoorMemoZ
import Derived.WalkKit
import Derived.ProofKit
import Derived.OpenShut
import Derived.ShutString
import Derived.ChangeOld
import Derived.Below
import Derived.SliceStrings
import Derived.Test.YtdnjkminicmffaaDoorLaid
import Derived.Test.YtdnjkminicmffaaDoorCards
import Derived.Test.YtdnjkminicmffaaDoorTie
import Derived.LaidMore
import Derived.Stop.Joined
import Derived.SevenTiedAt
namespace Go.Proofs.YtdnjkminicmffaaDoor.wideHolds
open Go.ChangeShapes Go.WideShapes Go.ChangeAt Go.RowKit
open Go.ChangeMaps (open_string shut_string)
set_option linter.unusedVariables false

theorem digs_short {n k : Nat} (h : (n : Int) < 65536 ^ k) : (digs n).length ≤ k := by
  rcases Nat.lt_or_ge k (digs n).length with hk | hk
  · exfalso
    have hn : n ≠ 0 := by rintro rfl; rw [digs_zero] at hk; simp at hk
    obtain ⟨h1, _⟩ := digs_len hn
    have h2 : (65536 : Int) ^ k ≤ 65536 ^ ((digs n).length - 1) := by
      obtain ⟨t, ht⟩ : ∃ t, (digs n).length - 1 = k + t := ⟨(digs n).length - 1 - k, by omega⟩
      rw [ht, Int.pow_add]
      have h4 : (0 : Int) < 65536 ^ k := Int.pow_pos (by decide)
      have h5 : (0 : Int) < 65536 ^ t := Int.pow_pos (by decide)
      have := Int.mul_le_mul_of_nonneg_left (show (1 : Int) ≤ 65536 ^ t by omega) (show (0 : Int) ≤ 65536 ^ k by omega)
      omega
    omega
  · exact hk
theorem fit_short {z : Int} (h : Fit z) : (digs z.natAbs).length ≤ 16 := by
  refine digs_short ?_
  obtain ⟨h1, h2⟩ := h
  rw [show (65536 : Int) ^ 16 = 115792089237316195423570985008687907853269984665640564039457584007913129639936 by decide]
  omega

theorem own : ownKnob Tryd.prog.godebug = none := by kernel_rfl
theorem laidOut : laidOutB Tryd.prog = true := by kernel_rfl

set_option maxHeartbeats 16000000 in
set_option maxRecDepth 20000 in
theorem walk (z0 : Int) (z1 : Int) (z2 : Int) (z3 : Int) (w : World) (f0 : Fit z0) (f1 : Fit z1) (f2 : Fit z2) (f3 : Fit z3) (hp : Pow10 w) :
    Calls Tryd.prog 8 #[.agg #[.int .u64 (L0 z0), .int .u64 (L1 z0), .int .u64 (L2 z0), .int .u64 (L3 z0)], .agg #[.int .u64 (L0 z1), .int .u64 (L1 z1), .int .u64 (L2 z1), .int .u64 (L3 z1)], .agg #[.int .u64 (L0 z2), .int .u64 (L1 z2), .int .u64 (L2 z2), .int .u64 (L3 z2)], .agg #[.int .u64 (L0 z3), .int .u64 (L1 z3), .int .u64 (L2 z3), .int .u64 (L3 z3)]] w fun e w' => e = .returned (.bool true) ∧ Below w.heap.size w w' := by
  have F0 := Lib.hid (fun T w h => from_num T z0 f0 w h)
  have S0 := Lib.hid (fit_short f0)
  have F1 := Lib.hid (fun T w h => from_num T z1 f1 w h)
  have S1 := Lib.hid (fit_short f1)
  have F2 := Lib.hid (fun T w h => from_num T z2 f2 w h)
  have S2 := Lib.hid (fit_short f2)
  have F3 := Lib.hid (fun T w h => from_num T z3 f3 w h)
  have S3 := Lib.hid (fit_short f3)
  have AB1 := fun w => Above_walk z0 z1 z2 z3 f0 f1 f2 f3 _ rfl w
  have CN1 := fun v v' T C T' C' w h h' => cmp_num v v' (z0 * z1) (z2 * z3) T C T' C' w h h'
  obtain ⟨cz, hcz⟩ : ∃ c, cmpZ (z0 * z1) (z2 * z3) = c := ⟨_, rfl⟩
  rw [hcz] at AB1 CN1
  have AB := Lib.hid AB1
  have CN := Lib.hid CN1
  clear AB1 CN1 hcz f0 f1 f2 f3
  go_enter Tryd.func8, Tryd.ntmps8
  go_upto_region 1 with fail
  go_name_world W0 hW0e
  have OA : Own W0 w.heap.size 24 #[.int .u64 (L0 z0), .int .u64 (L1 z0), .int .u64 (L2 z0), .int .u64 (L3 z0)] := hW0e ▸ (by repeat' (first | (with_reducible assumption) | (with_reducible refine Own.drawnN ?_ _) | (with_reducible refine Own.drawn ?_) | (with_reducible refine Own.made_at ?_; first | rfl | (simp; done) | omega | (simp; omega)) | (with_reducible refine Own.more ?_ _) | (with_reducible refine Own.apart ?_ ?_ _ _; rotate_left; first | omega | (simp; done) | (simp; omega)) | (refine Own.put ?_ _ _)))
  have OB : Own W0 (w.heap.size + 1) 24 #[.int .u64 (L0 z1), .int .u64 (L1 z1), .int .u64 (L2 z1), .int .u64 (L3 z1)] := hW0e ▸ (by repeat' (first | (with_reducible assumption) | (with_reducible refine Own.drawnN ?_ _) | (with_reducible refine Own.drawn ?_) | (with_reducible refine Own.made_at ?_; first | rfl | (simp; done) | omega | (simp; omega)) | (with_reducible refine Own.more ?_ _) | (with_reducible refine Own.apart ?_ ?_ _ _; rotate_left; first | omega | (simp; done) | (simp; omega)) | (refine Own.put ?_ _ _)))
  have OC : Own W0 (w.heap.size + 2) 24 #[.int .u64 (L0 z2), .int .u64 (L1 z2), .int .u64 (L2 z2), .int .u64 (L3 z2)] := hW0e ▸ (by repeat' (first | (with_reducible assumption) | (with_reducible refine Own.drawnN ?_ _) | (with_reducible refine Own.drawn ?_) | (with_reducible refine Own.made_at ?_; first | rfl | (simp; done) | omega | (simp; omega)) | (with_reducible refine Own.more ?_ _) | (with_reducible refine Own.apart ?_ ?_ _ _; rotate_left; first | omega | (simp; done) | (simp; omega)) | (refine Own.put ?_ _ _)))
  have OD : Own W0 (w.heap.size + 3) 24 #[.int .u64 (L0 z3), .int .u64 (L1 z3), .int .u64 (L2 z3), .int .u64 (L3 z3)] := hW0e ▸ (by repeat' (first | (with_reducible assumption) | (with_reducible refine Own.drawnN ?_ _) | (with_reducible refine Own.drawn ?_) | (with_reducible refine Own.made_at ?_; first | rfl | (simp; done) | omega | (simp; omega)) | (with_reducible refine Own.more ?_ _) | (with_reducible refine Own.apart ?_ ?_ _ _; rotate_left; first | omega | (simp; done) | (simp; omega)) | (refine Own.put ?_ _ _)))
  have B0 : Below w.heap.size w W0 := hW0e ▸ (by repeat' (first | (with_reducible exact Below.refl _ _) | (with_reducible assumption) | (with_reducible refine below_drewN ?_ _) | (with_reducible refine Below.drew ?_) | (with_reducible refine Below.alloc ?_ ?_ _) | (with_reducible refine Below.setCell ?_ ?_ _) | (with_reducible refine then_ ?_ (by with_reducible assumption) ?_) | (with_reducible exact Nat.le_refl _) | (with_reducible exact Nat.le_succ _) | (with_reducible exact Nat.le_succ_of_le (by with_reducible assumption)) | omega | (simp; done) | (simp; omega) | (exact Nat.le_succ _) | (exact Nat.le_succ_of_le (by with_reducible assumption))))
  have HP : Pow10 W0.drew := hp.keep B0.drew
  clear hW0e hp
  refine wp_region_seq (fun W => Own W w.heap.size 24 #[.int .u64 (L0 z0), .int .u64 (L1 z0), .int .u64 (L2 z0), .int .u64 (L3 z0)] ∧ Own W (w.heap.size + 1) 24 #[.int .u64 (L0 z1), .int .u64 (L1 z1), .int .u64 (L2 z1), .int .u64 (L3 z1)] ∧ Own W (w.heap.size + 2) 24 #[.int .u64 (L0 z2), .int .u64 (L1 z2), .int .u64 (L2 z2), .int .u64 (L3 z2)] ∧ Own W (w.heap.size + 3) 24 #[.int .u64 (L0 z3), .int .u64 (L1 z3), .int .u64 (L2 z3), .int .u64 (L3 z3)]) (1 :: 2 :: 3 :: 4 :: 5 :: 7 :: 9 :: 12 :: 14 :: 18 :: 19 :: 20 :: []) (2 :: 3 :: 4 :: 5 :: 7 :: 9 :: 12 :: 14 :: []) (0 :: 1 :: 2 :: 3 :: 4 :: 5 :: 7 :: 9 :: 12 :: 14 :: 6 :: 8 :: 10 :: 11 :: 13 :: 15 :: 16 :: 17 :: 18 :: 19 :: 20 :: []) (by kernel_rfl) (by kernel_rfl) rfl (by kernel_rfl) rfl (⟨OA.drawn, OB.drawn, OC.drawn, OD.drawn⟩) (by simp only [picked, List.filterMap_cons, List.filterMap_nil, List.getElem?_cons_zero, List.getElem?_cons_succ, Option.map_some]; exact rfl) ?_
  refine seq_on rfl rfl fun K hK => ?_
  go_wp2_with (go_at_call 14; refine (awake_any _ HP).mono ?_; rintro e w1 ⟨rfl, hb⟩)
  replace OA := OA.drawn.keep hb
  replace OB := OB.drawn.keep hb
  replace OC := OC.drawn.keep hb
  replace OD := OD.drawn.keep hb
  have B1 : Below w.heap.size w w1 := then_ B0.drew hb B0.size
  refine hK _ _ ⟨OA, OB, OC, OD⟩ ?_
  clear hK K B0 hb
  iterate 9
    refine seq_want (v := ?_) rfl rfl (fun W hS => ?_) ?_
    rotate_left
    · first
        | (conv => lhs; simp [go_sem]
           first | done | exact rfl)
        | (have hS := hS rfl
           obtain ⟨q1, q2, q3, q4⟩ := hS
           obtain ⟨q11, q12, q13⟩ := q1.at_
           obtain ⟨q21, q22, q23⟩ := q2.at_
           obtain ⟨q31, q32, q33⟩ := q3.at_
           obtain ⟨q41, q42, q43⟩ := q4.at_
           conv => lhs; simp [go_sem, *]
           first | done | exact rfl)
    simp only [Act.put, List.setIfInBounds_toArray, List.set_cons_zero, List.set_cons_succ]
  refine seq_on rfl rfl fun K hK => ?_
  go_wp2_with (go_at_call 29; refine (AB.out w1).mono ?_; rintro e w2 ⟨rfl, hb⟩)
  replace OA := OA.keep hb
  replace OB := OB.keep hb
  replace OC := OC.keep hb
  replace OD := OD.keep hb
  have B2 : Below w.heap.size w w2 := then_ B1 hb B1.size
  refine hK _ _ ⟨OA, OB, OC, OD⟩ ?_
  clear hK K B1 hb
  refine seq_on rfl rfl fun K hK => ?_
  go_wp2_with (go_at_call 10; refine (F0.out w2.heap.size w2 (Nat.le_refl _)).mono ?_; rintro e w3 ⟨v0, rfl, n0, hb⟩)
  replace OA := OA.keep hb
  replace OB := OB.keep hb
  replace OC := OC.keep hb
  replace OD := OD.keep hb
  have B3 : Below w.heap.size w w3 := then_ B2 hb B2.size
  replace n0 := Lib.hid n0
  refine hK _ _ ⟨OA, OB, OC, OD⟩ ?_
  clear hK K B2 hb
  refine seq_on rfl rfl fun K hK => ?_
  go_wp2_with (go_at_call 10; refine (F1.out w3.heap.size w3 (Nat.le_refl _)).mono ?_; rintro e w4 ⟨v1, rfl, n1, hb⟩)
  replace OA := OA.keep hb
  replace OB := OB.keep hb
  replace OC := OC.keep hb
  replace OD := OD.keep hb
  have B4 : Below w.heap.size w w4 := then_ B3 hb B3.size
  replace n0 := Lib.hid (n0.out.keep hb)
  replace n1 := Lib.hid n1
  refine hK _ _ ⟨OA, OB, OC, OD⟩ ?_
  clear hK K B3 hb
  refine seq_on rfl rfl fun K hK => ?_
  go_wp2_with (go_at_call 19; refine (mul_num w4.heap.size _ _ _ _ v0 v1 z0 z1 w4 (Nat.le_refl _) n0.out n1.out (Nat.le_trans S0.out (by decide)) (Nat.le_trans S1.out (by decide))).mono ?_; rintro e w5 ⟨p, rfl, np, hb⟩)
  replace OA := OA.keep hb
  replace OB := OB.keep hb
  replace OC := OC.keep hb
  replace OD := OD.keep hb
  have B5 : Below w.heap.size w w5 := then_ B4 hb B4.size
  replace np := Lib.hid np
  clear n0 n1
  refine hK _ _ ⟨OA, OB, OC, OD⟩ ?_
  clear hK K B4 hb
  refine seq_on rfl rfl fun K hK => ?_
  go_wp2_with (go_at_call 10; refine (F2.out w5.heap.size w5 (Nat.le_refl _)).mono ?_; rintro e w6 ⟨v2, rfl, n2, hb⟩)
  replace OA := OA.keep hb
  replace OB := OB.keep hb
  replace OC := OC.keep hb
  replace OD := OD.keep hb
  have B6 : Below w.heap.size w w6 := then_ B5 hb B5.size
  replace np := Lib.hid (np.out.keep hb)
  replace n2 := Lib.hid n2
  refine hK _ _ ⟨OA, OB, OC, OD⟩ ?_
  clear hK K B5 hb
  refine seq_on rfl rfl fun K hK => ?_
  go_wp2_with (go_at_call 10; refine (F3.out w6.heap.size w6 (Nat.le_refl _)).mono ?_; rintro e w7 ⟨v3, rfl, n3, hb⟩)
  replace OA := OA.keep hb
  replace OB := OB.keep hb
  replace OC := OC.keep hb
  replace OD := OD.keep hb
  have B7 : Below w.heap.size w w7 := then_ B6 hb B6.size
  replace np := Lib.hid (np.out.keep hb)
  replace n2 := Lib.hid (n2.out.keep hb)
  replace n3 := Lib.hid n3
  refine hK _ _ ⟨OA, OB, OC, OD⟩ ?_
  clear hK K B6 hb
  refine seq_on rfl rfl fun K hK => ?_
  go_wp2_with (go_at_call 19; refine (mul_num w7.heap.size _ _ _ _ v2 v3 z2 z3 w7 (Nat.le_refl _) n2.out n3.out (Nat.le_trans S2.out (by decide)) (Nat.le_trans S3.out (by decide))).mono ?_; rintro e w8 ⟨q, rfl, nq, hb⟩)
  replace OA := OA.keep hb
  replace OB := OB.keep hb
  replace OC := OC.keep hb
  replace OD := OD.keep hb
  have B8 : Below w.heap.size w w8 := then_ B7 hb B7.size
  replace np := Lib.hid (np.out.keep hb)
  replace nq := Lib.hid nq
  clear n2 n3
  refine hK _ _ ⟨OA, OB, OC, OD⟩ ?_
  clear hK K B7 hb
  refine seq_on rfl rfl fun K hK => ?_
  go_wp2_with (go_at_call 30; refine (CN.out _ _ _ _ _ _ w8 np.out nq.out).mono ?_; rintro e w9 ⟨rfl, hb⟩)
  replace OA := OA.keep hb
  replace OB := OB.keep hb
  replace OC := OC.keep hb
  replace OD := OD.keep hb
  have B9 : Below w.heap.size w w9 := then_ B8 hb B8.size
  clear np nq
  refine hK _ _ ⟨OA, OB, OC, OD⟩ ?_
  clear hK K B8 hb
  iterate 3
    refine seq_want (v := ?_) rfl rfl (fun W hS => ?_) ?_
    rotate_left
    · conv => lhs; simp [go_sem]
      first | done | exact rfl
    simp only [Act.put, List.setIfInBounds_toArray, List.set_cons_zero, List.set_cons_succ]
  refine seq_end ?_
  go_wp2
  go_ret
  exact ⟨rfl, B9⟩

set_option maxRecDepth 100000 in
theorem lifted (os : Os) (started : os.Started) (H : Type) (enc : TypeId × Value → H) :
    ReturnsInHanded {} Tryd.checked os 8 .any (fun w args => (Rows.wideHoldsSpec.pre enc Tryd.prog Tryd.f8 [] false w args ∧ laidMetH Tryd.prog lay3 w) ∧ sizedMet enc Tryd.prog Tryd.f8 (OpenSpec.ofChange Rows.wideHoldsSpec) false w args) (Rows.wideHoldsSpec.post enc Tryd.prog Tryd.f8 false true false false) := by
  refine returnsInHanded_of_change_and (C := Tryd.checked) (X := fun w _ => laidMetH Tryd.prog lay3 w) (fun _ _ _ hh h => h.of_heap hh) own started (by kernel_rfl) Tryd.func8
    (ChangeSpec.witness_shaped (enc := enc) (C := Tryd.checked) (os := os) (X := fun w _ => laidMetH Tryd.prog lay3 w) false (World.doorLaid Tryd.prog 400 os) #[.agg #[.int .u64 0, .int .u64 0, .int .u64 0, .int .u64 0], .agg #[.int .u64 0, .int .u64 0, .int .u64 0, .int .u64 0], .agg #[.int .u64 0, .int .u64 0, .int .u64 0, .int .u64 0], .agg #[.int .u64 0, .int .u64 0, .int .u64 0, .int .u64 0]] 8 rfl (World.shaped_of_RefB (by kernel_rfl) (by kernel_rfl)) (by kernel_rfl) (by kernel_rfl) (by kernel_rfl) (door_met os _)) ?_
  intro W base args ds gs before hval0 hW _ _ hL _
  have hval : ∀ (j : Nat) t v, Tryd.f8.params[j]? = some t → args[j]? = some v → Value.okWide Tryd.prog W .any base t v := hval0
  have hW' := hW
  obtain ⟨p, q, hA0, hV, rfl, hfz, hnd⟩ := hW
  have hA : DataW.TrodAll enc Tryd.prog W 0 (fun _ => true) true Tryd.f8.params.toList args.toList ds p := hA0
  rw [Tryd.params8] at hA hval
  obtain ⟨v0, vs0, d0, ds0, p0, q0, hargs, rfl, rfl, h0, r0⟩ := trodAll_cons hA
  obtain ⟨v1, vs1, d1, ds1, p1, q1, rfl, rfl, rfl, h1, r1⟩ := trodAll_cons r0
  obtain ⟨v2, vs2, d2, ds2, p2, q2, rfl, rfl, rfl, h2, r2⟩ := trodAll_cons r1
  obtain ⟨v3, vs3, d3, ds3, p3, q3, rfl, rfl, rfl, h3, r3⟩ := trodAll_cons r2
  obtain ⟨rfl, rfl, rfl⟩ := trodAll_nil r3
  obtain rfl : args = #[v0, v1, v2, v3] := by cases args; simp_all
  obtain ⟨rfl, rfl⟩ := trodVars_none hV
  obtain ⟨z0, rfl, rfl, rfl, f0⟩ := open_i4 (hval 0 24 v0 rfl rfl) h0
  obtain ⟨z1, rfl, rfl, rfl, f1⟩ := open_i4 (hval 1 24 v1 rfl rfl) h1
  obtain ⟨z2, rfl, rfl, rfl, f2⟩ := open_i4 (hval 2 24 v2 rfl rfl) h2
  obtain ⟨z3, rfl, rfl, rfl, f3⟩ := open_i4 (hval 3 24 v3 rfl rfl) h3
  clear hA0 hval0
  refine (walk z0 z1 z2 z3 W f0 f1 f2 f3 (pow_of hL)).mono fun e W' ⟨he, bel⟩ => ?_
  subst he
  exact ⟨_, rfl, _, _, _, [], _, [], hW', trodAll_mk1 (shut_bool Tryd.underlying4 _), (trodAll_cons_mk (shut_i4 _) (trodAll_cons_mk (shut_i4 _) (trodAll_cons_mk (shut_i4 _) (trodAll_cons_mk (shut_i4 _) trodAll_mk0)))), rfl, bel.frame _, fun h => by cases h⟩

theorem over : Rows.WideHoldsSaid :=
  OpenClaim.holds_of_wide 8 Tryd.f8 rfl rfl rfl rfl rfl rfl rfl ⟨rfl, rfl, rfl, rfl, rfl⟩ rfl rfl rfl rfl rfl (by kernel_rfl) Tryd.func8 (by kernel_rfl)
    (of_decide_eq_true (by kernel_rfl)) (by unfold Func.isWrapper; first | (rw [if_pos (by decide +kernel)]; kernel_rfl) | (rw [if_neg (by decide +kernel)]; exact ⟨rfl, rfl⟩))
    (fun os started H enc _ => lifted os started H enc)

/-- THE STATEMENT -/
theorem proved : Rows.WideHoldsCardSaid :=
  Claim7.holds_tied_plain_at .later [] [.data, .data, .data] true (true, "967dca3fa14bcff598b7a8224b9eaf3b9bea7657f4d3a184d0d0e975bb1324a6") false
    over (fun _ h => by cases h) (by kernel_rfl) (fun _ h => by cases h) wideHolds_row_tie rfl ⟨rfl, rfl⟩ (by kernel_rfl) rfl
    (fun f fn hf hfn => by
      obtain rfl : f = 8 := Option.some.inj ((show Tryd.prog.funcNamed "croft/croftlaw03.WideHolds" = some 8 by kernel_rfl).symm.trans hf) |>.symm
      obtain rfl : fn = Tryd.f8 := (Option.some.inj (Tryd.func8.symm.trans hfn)).symm
      exact ⟨by kernel_rfl, fun j t ht => by
        rw [Tryd.params8] at ht
        have hm : t ∈ [24, 24, 24, 24] := by simpa using Array.mem_of_getElem? ht
        have hall : ([24, 24, 24, 24].all fun u => !Tryd.prog.wantsStandIn u) = true := by kernel_rfl
        exact (show Tryd.prog.wantsStandIn t = false by simpa using List.all_eq_true.1 hall t hm)⟩)
    (by kernel_rfl)
#print axioms proved
end Go.Proofs.YtdnjkminicmffaaDoor.wideHolds
