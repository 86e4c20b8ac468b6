/- WideGcds: the greatest number that divides any two is the document's, or doesn't fit; the tables start as the program's text lays them. -/
import Derived.Test.YtdnjkminicmffaaDoorRows
import Derived.Test.YtdnjkminicmffaaDoorBase
import Derived.Test.YtdnjkminicmffaaDoorRefW
import Derived.Test.YtdnjkminicmffaaDoorGcdA
import Derived.Test.YtdnjkminicmffaaDoorSeq
import Derived.Test.YtdnjkminicmffaaDoorAw3
import Derived.Test.YtdnjkminicmffaaDoorMemoZ
import Derived.WalkKit
import Derived.ProofKit
import Derived.OpenShut
import Derived.ShutString
import Derived.ChangeOld
import Derived.Below
import Derived.SliceStrings
import Derived.Test.YtdnjkminicmffaaDoorLaid
import Derived.Test.YtdnjkminicmffaaDoorCards
import Derived.Test.YtdnjkminicmffaaDoorTie
import Derived.LaidMore
import Derived.Stop.Joined
import Derived.SevenTiedAt
namespace Go.Proofs.YtdnjkminicmffaaDoor.wideGcds
open Go.ChangeShapes Go.WideShapes Go.ChangeAt Go.RowKit
open Go.ChangeMaps (open_string shut_string)
set_option linter.unusedVariables false

theorem digs_short {n k : Nat} (h : (n : Int) < 65536 ^ k) : (digs n).length ≤ k := by
  rcases Nat.lt_or_ge k (digs n).length with hk | hk
  · exfalso
    have hn : n ≠ 0 := by rintro rfl; rw [digs_zero] at hk; simp at hk
    obtain ⟨h1, _⟩ := digs_len hn
    have h2 : (65536 : Int) ^ k ≤ 65536 ^ ((digs n).length - 1) := by
      obtain ⟨t, ht⟩ : ∃ t, (digs n).length - 1 = k + t := ⟨(digs n).length - 1 - k, by omega⟩
      rw [ht, Int.pow_add]
      have h4 : (0 : Int) < 65536 ^ k := Int.pow_pos (by decide)
      have h5 : (0 : Int) < 65536 ^ t := Int.pow_pos (by decide)
      have := Int.mul_le_mul_of_nonneg_left (show (1 : Int) ≤ 65536 ^ t by omega) (show (0 : Int) ≤ 65536 ^ k by omega)
      omega
    omega
  · exact hk
theorem fit_short {z : Int} (h : Fit z) : (digs z.natAbs).length ≤ 16 := by
  refine digs_short ?_
  obtain ⟨h1, h2⟩ := h
  rw [show (65536 : Int) ^ 16 = 115792089237316195423570985008687907853269984665640564039457584007913129639936 by decide]
  omega
theorem gcd_case (x y : Int) (hx : Fit x) (hy : Fit y) : ∃ r er, (∀ w, Calls Tryd.prog 22 #[.agg #[.int .u64 (L0 x), .int .u64 (L1 x), .int .u64 (L2 x), .int .u64 (L3 x)], .agg #[.int .u64 (L0 y), .int .u64 (L1 y), .int .u64 (L2 y), .int .u64 (L3 y)]] w fun e w' => e = .returned (.tuple #[.agg #[.int .u64 (L0 r), .int .u64 (L1 r), .int .u64 (L2 r), .int .u64 (L3 r)], .int .i64 er]) ∧ Below w.heap.size w w') ∧ Ans ((Nat.gcd x.natAbs y.natAbs : Nat) : Int) r er := by
  obtain ⟨r, er, h1, h0, h2⟩ := gcd_all x y hx hy
  refine ⟨r, er, h1, ?_⟩
  rcases h2 with ⟨a, b, c⟩ | ⟨a, b⟩
  · exact .inr ⟨c, b, a⟩
  · exact .inl ⟨b ▸ h0, b, a⟩
theorem fit_20 {z : Int} (h : Fit z) : z.natAbs < 65536 ^ 20 := by
  obtain ⟨h1, h2⟩ := h
  have : (115792089237316195423570985008687907853269984665640564039457584007913129639936 : Nat) ≤ 65536 ^ 20 := by decide
  generalize 65536 ^ 20 = Z at *
  omega

theorem own : ownKnob Tryd.prog.godebug = none := by kernel_rfl
theorem laidOut : laidOutB Tryd.prog = true := by kernel_rfl

set_option maxHeartbeats 16000000 in
set_option maxRecDepth 20000 in
theorem walk (z0 : Int) (z1 : Int) (w : World) (f0 : Fit z0) (f1 : Fit z1) (hp : Pow10 w) :
    Calls Tryd.prog 6 #[.agg #[.int .u64 (L0 z0), .int .u64 (L1 z0), .int .u64 (L2 z0), .int .u64 (L3 z0)], .agg #[.int .u64 (L0 z1), .int .u64 (L1 z1), .int .u64 (L2 z1), .int .u64 (L3 z1)]] w fun e w' => e = .returned (.bool true) ∧ Below w.heap.size w w' := by
  obtain ⟨r, er, NE1, hans⟩ := gcd_case z0 z1 f0 f1
  have F0 := Lib.hid (fun T w h => from_num T z0 f0 w h)
  have F1 := Lib.hid (fun T w h => from_num T z1 f1 w h)
  have NE := Lib.hid NE1
  have HA := Lib.hid hans
  have S0 := Lib.hid (fit_20 f0)
  have S1 := Lib.hid (fit_20 f1)
  clear NE1 hans f0 f1
  go_enter Tryd.func6, Tryd.ntmps6
  go_upto_region 1 with fail
  go_name_world W0 hW0e
  have OA : Own W0 w.heap.size 24 #[.int .u64 (L0 z0), .int .u64 (L1 z0), .int .u64 (L2 z0), .int .u64 (L3 z0)] := hW0e ▸ (by repeat' (first | (with_reducible assumption) | (with_reducible refine Own.drawnN ?_ _) | (with_reducible refine Own.drawn ?_) | (with_reducible refine Own.made_at ?_; first | rfl | (simp; done) | omega | (simp; omega)) | (with_reducible refine Own.more ?_ _) | (with_reducible refine Own.apart ?_ ?_ _ _; rotate_left; first | omega | (simp; done) | (simp; omega)) | (refine Own.put ?_ _ _)))
  have OB : Own W0 (w.heap.size + 1) 24 #[.int .u64 (L0 z1), .int .u64 (L1 z1), .int .u64 (L2 z1), .int .u64 (L3 z1)] := hW0e ▸ (by repeat' (first | (with_reducible assumption) | (with_reducible refine Own.drawnN ?_ _) | (with_reducible refine Own.drawn ?_) | (with_reducible refine Own.made_at ?_; first | rfl | (simp; done) | omega | (simp; omega)) | (with_reducible refine Own.more ?_ _) | (with_reducible refine Own.apart ?_ ?_ _ _; rotate_left; first | omega | (simp; done) | (simp; omega)) | (refine Own.put ?_ _ _)))
  have hW0 : Below w.heap.size w W0 := hW0e ▸ (by repeat' (first | (with_reducible exact Below.refl _ _) | (with_reducible assumption) | (with_reducible refine below_drewN ?_ _) | (with_reducible refine Below.drew ?_) | (with_reducible refine Below.alloc ?_ ?_ _) | (with_reducible refine Below.setCell ?_ ?_ _) | (with_reducible refine then_ ?_ (by with_reducible assumption) ?_) | (with_reducible exact Nat.le_refl _) | (with_reducible exact Nat.le_succ _) | (with_reducible exact Nat.le_succ_of_le (by with_reducible assumption)) | omega | (simp; done) | (simp; omega) | (exact Nat.le_succ _) | (exact Nat.le_succ_of_le (by with_reducible assumption))))
  clear hW0e
  obtain ⟨P1, P2, P3⟩ := OA.at_
  obtain ⟨P4, P5, P6⟩ := OB.at_
  go_wp2_with fail
  refine (NE.out _).mono ?_
  rintro e w1 ⟨rfl, hb1⟩
  replace OA := OA.keep hb1
  replace OB := OB.keep hb1
  have B1 : Below w.heap.size w w1 := then_ hW0 hb1 hW0.size
  clear P1 P2 P3 P4 P5 P6 hb1 NE hW0
  go_upto_region 2 with fail
  go_name_world W1 hW1e
  have OY : Own W1 w1.heap.size 24 #[.int .u64 (L0 r), .int .u64 (L1 r), .int .u64 (L2 r), .int .u64 (L3 r)] := hW1e ▸ (by repeat' (first | (with_reducible assumption) | (with_reducible refine Own.drawnN ?_ _) | (with_reducible refine Own.drawn ?_) | (with_reducible refine Own.made_at ?_; first | rfl | (simp; done) | omega | (simp; omega)) | (with_reducible refine Own.more ?_ _) | (with_reducible refine Own.apart ?_ ?_ _ _; rotate_left; first | omega | (simp; done) | (simp; omega)) | (refine Own.put ?_ _ _)))
  have hb1' : Below w1.heap.size w1 W1 := hW1e ▸ (by repeat' (first | (with_reducible exact Below.refl _ _) | (with_reducible assumption) | (with_reducible refine below_drewN ?_ _) | (with_reducible refine Below.drew ?_) | (with_reducible refine Below.alloc ?_ ?_ _) | (with_reducible refine Below.setCell ?_ ?_ _) | (with_reducible refine then_ ?_ (by with_reducible assumption) ?_) | (with_reducible exact Nat.le_refl _) | (with_reducible exact Nat.le_succ _) | (with_reducible exact Nat.le_succ_of_le (by with_reducible assumption)) | omega | (simp; done) | (simp; omega) | (exact Nat.le_succ _) | (exact Nat.le_succ_of_le (by with_reducible assumption))))
  replace OA := OA.keep hb1'
  replace OB := OB.keep hb1'
  have B0 : Below w.heap.size w W1 := then_ B1 hb1' B1.size
  have HP : Pow10 W1.drew := hp.keep B0.drew
  clear hW1e hb1' B1 hp
  refine wp_region_seq (fun W => Own W w.heap.size 24 #[.int .u64 (L0 z0), .int .u64 (L1 z0), .int .u64 (L2 z0), .int .u64 (L3 z0)] ∧ Own W (w.heap.size + 1) 24 #[.int .u64 (L0 z1), .int .u64 (L1 z1), .int .u64 (L2 z1), .int .u64 (L3 z1)] ∧ Own W w1.heap.size 24 #[.int .u64 (L0 r), .int .u64 (L1 r), .int .u64 (L2 r), .int .u64 (L3 r)]) (1 :: 2 :: 3 :: 4 :: 6 :: 10 :: 11 :: []) (2 :: 4 :: 6 :: []) (0 :: 1 :: 2 :: 3 :: 4 :: 6 :: 5 :: 7 :: 8 :: 9 :: 10 :: 11 :: []) (by kernel_rfl) (by kernel_rfl) rfl (by kernel_rfl) rfl (⟨OA.drawn, OB.drawn, OY.drawn⟩) (by simp only [picked, List.filterMap_cons, List.filterMap_nil, List.getElem?_cons_zero, List.getElem?_cons_succ, Option.map_some]; exact rfl) ?_
  refine seq_on rfl rfl fun K hK => ?_
  go_wp2_with (go_at_call 14; refine (awake_any _ HP).mono ?_; rintro e w2 ⟨rfl, hb⟩)
  replace OA := OA.drawn.keep hb
  replace OB := OB.drawn.keep hb
  replace OY := OY.drawn.keep hb
  have B1 : Below w.heap.size w w2 := then_ B0.drew hb B0.size
  refine hK _ _ ⟨OA, OB, OY⟩ ?_
  clear hK K B0 hb
  iterate 5
    refine seq_want (v := ?_) rfl rfl (fun W hS => ?_) ?_
    rotate_left
    · first
        | (conv => lhs; simp [go_sem]
           first | done | exact rfl)
        | (have hS := hS rfl
           obtain ⟨q1, q2, q3⟩ := hS
           obtain ⟨q11, q12, q13⟩ := q1.at_
           obtain ⟨q21, q22, q23⟩ := q2.at_
           obtain ⟨q31, q32, q33⟩ := q3.at_
           conv => lhs; simp [go_sem, *]
           first | done | exact rfl)
    simp only [Act.put, List.setIfInBounds_toArray, List.set_cons_zero, List.set_cons_succ]
  refine seq_on rfl rfl fun K hK => ?_
  go_wp2_with (go_at_call 10; refine (F0.out w2.heap.size w2 (Nat.le_refl _)).mono ?_; rintro e w3 ⟨v, rfl, hn, hb⟩)
  replace OA := OA.keep hb
  replace OB := OB.keep hb
  replace OY := OY.keep hb
  have B2 : Below w.heap.size w w3 := then_ B1 hb B1.size
  replace hn := Lib.hid hn
  refine hK _ _ ⟨OA, OB, OY⟩ ?_
  clear hK K B1 hb
  refine seq_on rfl rfl fun K hK => ?_
  go_wp2_with (go_at_call 10; refine (F1.out w3.heap.size w3 (Nat.le_refl _)).mono ?_; rintro e w4 ⟨v', rfl, hm, hb⟩)
  replace OA := OA.keep hb
  replace OB := OB.keep hb
  replace OY := OY.keep hb
  have B3 : Below w.heap.size w w4 := then_ B2 hb B2.size
  replace hn := Lib.hid (hn.out.keep hb)
  replace hm := Lib.hid hm
  refine hK _ _ ⟨OA, OB, OY⟩ ?_
  clear hK K B2 hb
  refine seq_on rfl rfl fun K hK => ?_
  go_wp2_with (go_at_call 23; refine (gcd_num (fun _ => True) v v' z0 z1 w4 (NumP.of hn.out (fun _ _ _ => trivial)) (NumP.of hm.out (fun _ _ _ => trivial)) S0.out S1.out).mono ?_; rintro e w5 ⟨v2, rfl, hv, hb⟩)
  replace OA := OA.keep hb
  replace OB := OB.keep hb
  replace OY := OY.keep hb
  have B4 : Below w.heap.size w w5 := then_ B3 hb B3.size
  replace hv := Lib.hid hv
  clear hn hm
  refine hK _ _ ⟨OA, OB, OY⟩ ?_
  clear hK K B3 hb
  refine seq_on rfl rfl fun K hK => ?_
  go_wp2_with (go_at_call 15; refine (is_num _ _ v2 _ r er w5 (hv.out.old 0) HA.out).mono ?_; rintro e w6 ⟨rfl, hb⟩)
  replace OA := OA.keep hb
  replace OB := OB.keep hb
  replace OY := OY.keep hb
  have B5 : Below w.heap.size w w6 := then_ B4 hb B4.size
  clear hv
  refine hK _ _ ⟨OA, OB, OY⟩ ?_
  clear hK K B4 hb
  iterate 2
    refine seq_want (v := ?_) rfl rfl (fun W hS => ?_) ?_
    rotate_left
    · conv => lhs; simp [go_sem]
      first | done | exact rfl
    simp only [Act.put, List.setIfInBounds_toArray, List.set_cons_zero, List.set_cons_succ]
  refine seq_end ?_
  go_wp2
  go_ret
  exact ⟨rfl, B5⟩

set_option maxRecDepth 100000 in
theorem lifted (os : Os) (started : os.Started) (H : Type) (enc : TypeId × Value → H) :
    ReturnsInHanded {} Tryd.checked os 6 .any (fun w args => (Rows.wideGcdsSpec.pre enc Tryd.prog Tryd.f6 [] false w args ∧ laidMetH Tryd.prog lay3 w) ∧ sizedMet enc Tryd.prog Tryd.f6 (OpenSpec.ofChange Rows.wideGcdsSpec) false w args) (Rows.wideGcdsSpec.post enc Tryd.prog Tryd.f6 false true false false) := by
  refine returnsInHanded_of_change_and (C := Tryd.checked) (X := fun w _ => laidMetH Tryd.prog lay3 w) (fun _ _ _ hh h => h.of_heap hh) own started (by kernel_rfl) Tryd.func6
    (ChangeSpec.witness_shaped (enc := enc) (C := Tryd.checked) (os := os) (X := fun w _ => laidMetH Tryd.prog lay3 w) false (World.doorLaid Tryd.prog 400 os) #[.agg #[.int .u64 0, .int .u64 0, .int .u64 0, .int .u64 0], .agg #[.int .u64 0, .int .u64 0, .int .u64 0, .int .u64 0]] 8 rfl (World.shaped_of_RefB (by kernel_rfl) (by kernel_rfl)) (by kernel_rfl) (by kernel_rfl) (by kernel_rfl) (door_met os _)) ?_
  intro W base args ds gs before hval0 hW _ _ hL _
  have hval : ∀ (j : Nat) t v, Tryd.f6.params[j]? = some t → args[j]? = some v → Value.okWide Tryd.prog W .any base t v := hval0
  have hW' := hW
  obtain ⟨p, q, hA0, hV, rfl, hfz, hnd⟩ := hW
  have hA : DataW.TrodAll enc Tryd.prog W 0 (fun _ => true) true Tryd.f6.params.toList args.toList ds p := hA0
  rw [Tryd.params6] at hA hval
  obtain ⟨v0, vs0, d0, ds0, p0, q0, hargs, rfl, rfl, h0, r0⟩ := trodAll_cons hA
  obtain ⟨v1, vs1, d1, ds1, p1, q1, rfl, rfl, rfl, h1, r1⟩ := trodAll_cons r0
  obtain ⟨rfl, rfl, rfl⟩ := trodAll_nil r1
  obtain rfl : args = #[v0, v1] := by cases args; simp_all
  obtain ⟨rfl, rfl⟩ := trodVars_none hV
  obtain ⟨z0, rfl, rfl, rfl, f0⟩ := open_i4 (hval 0 24 v0 rfl rfl) h0
  obtain ⟨z1, rfl, rfl, rfl, f1⟩ := open_i4 (hval 1 24 v1 rfl rfl) h1
  clear hA0 hval0
  refine (walk z0 z1 W f0 f1 (pow_of hL)).mono fun e W' ⟨he, bel⟩ => ?_
  subst he
  exact ⟨_, rfl, _, _, _, [], _, [], hW', trodAll_mk1 (shut_bool Tryd.underlying4 _), (trodAll_cons_mk (shut_i4 _) (trodAll_cons_mk (shut_i4 _) trodAll_mk0)), rfl, bel.frame _, fun h => by cases h⟩

theorem over : Rows.WideGcdsSaid :=
  OpenClaim.holds_of_wide 6 Tryd.f6 rfl rfl rfl rfl rfl rfl rfl ⟨rfl, rfl, rfl, rfl, rfl⟩ rfl rfl rfl rfl rfl (by kernel_rfl) Tryd.func6 (by kernel_rfl)
    (of_decide_eq_true (by kernel_rfl)) (by unfold Func.isWrapper; first | (rw [if_pos (by decide +kernel)]; kernel_rfl) | (rw [if_neg (by decide +kernel)]; exact ⟨rfl, rfl⟩))
    (fun os started H enc _ => lifted os started H enc)

/-- THE STATEMENT -/
theorem proved : Rows.WideGcdsCardSaid :=
  Claim7.holds_tied_plain_at .later [] [.data, .data, .data] true (true, "967dca3fa14bcff598b7a8224b9eaf3b9bea7657f4d3a184d0d0e975bb1324a6") false
    over (fun _ h => by cases h) (by kernel_rfl) (fun _ h => by cases h) wideGcds_row_tie rfl ⟨rfl, rfl⟩ (by kernel_rfl) rfl
    (fun f fn hf hfn => by
      obtain rfl : f = 6 := Option.some.inj ((show Tryd.prog.funcNamed "croft/croftlaw03.WideGcds" = some 6 by kernel_rfl).symm.trans hf) |>.symm
      obtain rfl : fn = Tryd.f6 := (Option.some.inj (Tryd.func6.symm.trans hfn)).symm
      exact ⟨by kernel_rfl, fun j t ht => by
        rw [Tryd.params6] at ht
        have hm : t ∈ [24, 24] := by simpa using Array.mem_of_getElem? ht
        have hall : ([24, 24].all fun u => !Tryd.prog.wantsStandIn u) = true := by kernel_rfl
        exact (show Tryd.prog.wantsStandIn t = false by simpa using List.all_eq_true.1 hall t hm)⟩)
    (by kernel_rfl)
#print axioms proved
end Go.Proofs.YtdnjkminicmffaaDoor.wideGcds
