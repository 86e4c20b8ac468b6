/- WideNegs: the negative of any number is the document's, or doesn't fit; the tables start as the program's text lays them. -/
import Derived.Test.YtpoaodaihiacgaaDoorRows
import Derived.Test.YtpoaodaihiacgaaDoorBase
import Derived.Test.YtpoaodaihiacgaaDoorRefW
import Derived.Test.YtpoaodaihiacgaaDoorSeq
import Derived.Test.YtpoaodaihiacgaaDoorAw3
import Derived.Test.YtpoaodaihiacgaaDoorWideJ
import Derived.WalkKit
import Derived.ProofKit
import Derived.OpenShut
import Derived.ShutString
import Derived.ChangeOld
import Derived.Below
import Derived.SliceStrings
import Derived.Test.YtpoaodaihiacgaaDoorLaid
import Derived.Test.YtpoaodaihiacgaaDoorCards
import Derived.Test.YtpoaodaihiacgaaDoorTie
import Derived.LaidMore
import Derived.Stop.Joined
import Derived.SevenTiedAt
namespace Go.Proofs.YtpoaodaihiacgaaDoor.wideNegs
open Go.ChangeShapes Go.WideShapes Go.ChangeAt Go.RowKit
open Go.ChangeMaps (open_string shut_string)
set_option linter.unusedVariables false

theorem neg_case (z : Int) (fz : Fit z) : ∃ r er, (∀ w, Calls Tryd.prog 15 #[.agg #[.int .u64 (L0 z), .int .u64 (L1 z), .int .u64 (L2 z), .int .u64 (L3 z)]] w fun e w' => e = .returned (.tuple #[.agg #[.int .u64 (L0 r), .int .u64 (L1 r), .int .u64 (L2 r), .int .u64 (L3 r)], .int .i64 er]) ∧ Below w.heap.size w w') ∧ Ans (-z) r er := by
  by_cases h : Fit (0 - z)
  · exact ⟨0 - z, 0, neg_fit z fz h, .inl ⟨by rw [← Int.zero_sub]; exact h, by omega, rfl⟩⟩
  · exact ⟨0, 3, fun w => neg_large z fz h w, .inr ⟨by rw [← Int.zero_sub]; exact h, rfl, rfl⟩⟩
theorem Num.all {w : World} {T C C' : Nat} {v : Value} {z : Int} (h : Num w T C v z) : Num w w.heap.size C' v z := by
  obtain ⟨a, len, cap, h1, h2, h3, h4, h5⟩ := h
  refine ⟨a, len, cap, h1, h2, h3, h4, ?_⟩
  rcases h5 with h5 | ⟨b, o, ha, ht, hc⟩
  · exact .inl h5
  · by_cases e : digs z.natAbs = []
    · exact .inl e
    · obtain ⟨d, r, hd⟩ := List.exists_cons_of_ne_nil e
      have := cell_lt (hc 0 d (by rw [hd]; rfl))
      exact .inr ⟨b, o, ha, .inl this, hc⟩

theorem own : ownKnob Tryd.prog.godebug = none := by kernel_rfl
theorem laidOut : laidOutB Tryd.prog = true := by kernel_rfl

set_option maxHeartbeats 16000000 in
set_option maxRecDepth 20000 in
theorem walk (z0 : Int) (w : World) (f0 : Fit z0) (hp : Pow10 w) :
    Calls Tryd.prog 11 #[.agg #[.int .u64 (L0 z0), .int .u64 (L1 z0), .int .u64 (L2 z0), .int .u64 (L3 z0)]] w fun e w' => e = .returned (.bool true) ∧ Below w.heap.size w w' := by
  obtain ⟨r, er, NE1, hans⟩ := neg_case z0 f0
  have F0 := Lib.hid (fun T w h => from_num T z0 f0 w h)
  have NE := Lib.hid NE1
  have HA := Lib.hid hans
  clear NE1 hans f0
  go_enter Tryd.func11, Tryd.ntmps11
  go_upto_region 1 with fail
  go_name_world W0 hW0e
  have OA : Own W0 w.heap.size 24 #[.int .u64 (L0 z0), .int .u64 (L1 z0), .int .u64 (L2 z0), .int .u64 (L3 z0)] := hW0e ▸ (by repeat' (first | (with_reducible assumption) | (with_reducible refine Own.drawnN ?_ _) | (with_reducible refine Own.drawn ?_) | (with_reducible refine Own.made_at ?_; first | rfl | (simp; done) | omega | (simp; omega)) | (with_reducible refine Own.more ?_ _) | (with_reducible refine Own.apart ?_ ?_ _ _; rotate_left; first | omega | (simp; done) | (simp; omega)) | (refine Own.put ?_ _ _)))
  have hW0 : Below w.heap.size w W0 := hW0e ▸ (by repeat' (first | (with_reducible exact Below.refl _ _) | (with_reducible assumption) | (with_reducible refine below_drewN ?_ _) | (with_reducible refine Below.drew ?_) | (with_reducible refine Below.alloc ?_ ?_ _) | (with_reducible refine Below.setCell ?_ ?_ _) | (with_reducible refine then_ ?_ (by with_reducible assumption) ?_) | (with_reducible exact Nat.le_refl _) | (with_reducible exact Nat.le_succ _) | (with_reducible exact Nat.le_succ_of_le (by with_reducible assumption)) | omega | (simp; done) | (simp; omega) | (exact Nat.le_succ _) | (exact Nat.le_succ_of_le (by with_reducible assumption))))
  clear hW0e
  obtain ⟨P1, P2, P3⟩ := OA.at_
  go_wp2_with fail
  refine (NE.out _).mono ?_
  rintro e w1 ⟨rfl, hb1⟩
  replace OA := OA.keep hb1
  have B1 : Below w.heap.size w w1 := then_ hW0 hb1 hW0.size
  clear P1 P2 P3 hb1 NE hW0
  go_upto_region 2 with fail
  go_name_world W1 hW1e
  have OY : Own W1 w1.heap.size 24 #[.int .u64 (L0 r), .int .u64 (L1 r), .int .u64 (L2 r), .int .u64 (L3 r)] := hW1e ▸ (by repeat' (first | (with_reducible assumption) | (with_reducible refine Own.drawnN ?_ _) | (with_reducible refine Own.drawn ?_) | (with_reducible refine Own.made_at ?_; first | rfl | (simp; done) | omega | (simp; omega)) | (with_reducible refine Own.more ?_ _) | (with_reducible refine Own.apart ?_ ?_ _ _; rotate_left; first | omega | (simp; done) | (simp; omega)) | (refine Own.put ?_ _ _)))
  have hb1' : Below w1.heap.size w1 W1 := hW1e ▸ (by repeat' (first | (with_reducible exact Below.refl _ _) | (with_reducible assumption) | (with_reducible refine below_drewN ?_ _) | (with_reducible refine Below.drew ?_) | (with_reducible refine Below.alloc ?_ ?_ _) | (with_reducible refine Below.setCell ?_ ?_ _) | (with_reducible refine then_ ?_ (by with_reducible assumption) ?_) | (with_reducible exact Nat.le_refl _) | (with_reducible exact Nat.le_succ _) | (with_reducible exact Nat.le_succ_of_le (by with_reducible assumption)) | omega | (simp; done) | (simp; omega) | (exact Nat.le_succ _) | (exact Nat.le_succ_of_le (by with_reducible assumption))))
  replace OA := OA.keep hb1'
  have B2 : Below w.heap.size w W1 := then_ B1 hb1' B1.size
  have HP : Pow10 W1.drew := hp.keep B2.drew
  clear hW1e hb1' B1 hp
  refine wp_region_seq (fun W => Own W w.heap.size 24 #[.int .u64 (L0 z0), .int .u64 (L1 z0), .int .u64 (L2 z0), .int .u64 (L3 z0)] ∧ Own W w1.heap.size 24 #[.int .u64 (L0 r), .int .u64 (L1 r), .int .u64 (L2 r), .int .u64 (L3 r)]) (1 :: 2 :: 3 :: 4 :: 8 :: 9 :: []) (2 :: 4 :: []) (0 :: 1 :: 2 :: 3 :: 4 :: 5 :: 6 :: 7 :: 8 :: 9 :: []) (by kernel_rfl) (by kernel_rfl) rfl (by kernel_rfl) rfl (⟨OA.drawn, OY.drawn⟩) (by simp only [picked, List.filterMap_cons, List.filterMap_nil, List.getElem?_cons_zero, List.getElem?_cons_succ, Option.map_some]; exact rfl) ?_
  refine seq_on rfl rfl fun K hK => ?_
  go_wp2_with (go_at_call 16; refine (awake_any _ HP).mono ?_; rintro e w2 ⟨rfl, hb2⟩)
  replace OA := OA.drawn.keep hb2
  replace OY := OY.drawn.keep hb2
  have B3 : Below w.heap.size w w2 := then_ B2.drew hb2 B2.size
  refine hK _ _ ⟨OA, OY⟩ ?_
  clear hK K B2 hb2 HP
  iterate 4
    refine seq_want (v := ?_) rfl rfl (fun W hS => ?_) ?_
    rotate_left
    · first
        | (conv => lhs; simp [go_sem]
           first | done | exact rfl)
        | (have hS := hS rfl
           obtain ⟨q1, q2⟩ := hS
           obtain ⟨q11, q12, q13⟩ := q1.at_
           obtain ⟨q21, q22, q23⟩ := q2.at_
           conv => lhs; simp [go_sem, *]
           first | done | exact rfl)
    simp only [Act.put, List.setIfInBounds_toArray, List.set_cons_zero, List.set_cons_succ]
  refine seq_on rfl rfl fun K hK => ?_
  go_wp2_with (go_at_call 12; refine (F0.out w2.heap.size w2 (Nat.le_refl _)).mono ?_; rintro e w3 ⟨v, rfl, hn, hb3⟩)
  replace OA := OA.keep hb3
  replace OY := OY.keep hb3
  have B4 : Below w.heap.size w w3 := then_ B3 hb3 B3.size
  have hn2 := Lib.hid (Num.all (C' := w3.heap.size) hn)
  refine hK _ _ ⟨OA, OY⟩ ?_
  clear hK K B3 hb3 F0 hn
  refine seq_on rfl rfl fun K hK => ?_
  go_wp2_with (go_at_call 19; refine (neg_num w3.heap.size v z0 w3 (Nat.le_refl _) hn2.out).mono ?_; rintro e w4 ⟨v', rfl, hn', hb4⟩)
  replace OA := OA.keep hb4
  replace OY := OY.keep hb4
  have B5 : Below w.heap.size w w4 := then_ B4 hb4 B4.size
  refine hK _ _ ⟨OA, OY⟩ ?_
  clear hK K B4 hb4 hn2
  refine seq_on rfl rfl fun K hK => ?_
  go_wp2_with (go_at_call 17; refine (is_num _ _ v' (-z0) r er w4 hn' HA.out).mono ?_; rintro e w5 ⟨rfl, hb5⟩)
  replace OA := OA.keep hb5
  replace OY := OY.keep hb5
  have B6 : Below w.heap.size w w5 := then_ B5 hb5 B5.size
  refine hK _ _ ⟨OA, OY⟩ ?_
  clear hK K B5 hb5 hn'
  iterate 2
    refine seq_want (v := ?_) rfl rfl (fun W hS => ?_) ?_
    rotate_left
    · conv => lhs; simp [go_sem]
      first | done | exact rfl
    simp only [Act.put, List.setIfInBounds_toArray, List.set_cons_zero, List.set_cons_succ]
  refine seq_end ?_
  go_wp2
  go_ret
  exact ⟨rfl, B6⟩

set_option maxRecDepth 100000 in
theorem lifted (os : Os) (started : os.Started) (H : Type) (enc : TypeId × Value → H) :
    ReturnsInHanded {} Tryd.checked os 11 .any (fun w args => (Rows.wideNegsSpec.pre enc Tryd.prog Tryd.f11 [] false w args ∧ laidMetH Tryd.prog lay3 w) ∧ sizedMet enc Tryd.prog Tryd.f11 (OpenSpec.ofChange Rows.wideNegsSpec) false w args) (Rows.wideNegsSpec.post enc Tryd.prog Tryd.f11 false true false false) := by
  refine returnsInHanded_of_change_and (C := Tryd.checked) (X := fun w _ => laidMetH Tryd.prog lay3 w) (fun _ _ _ hh h => h.of_heap hh) own started (by kernel_rfl) Tryd.func11
    (ChangeSpec.witness_shaped (enc := enc) (C := Tryd.checked) (os := os) (X := fun w _ => laidMetH Tryd.prog lay3 w) false (World.doorLaid Tryd.prog 400 os) #[.agg #[.int .u64 0, .int .u64 0, .int .u64 0, .int .u64 0]] 8 rfl (World.shaped_of_RefB (by kernel_rfl) (by kernel_rfl)) (by kernel_rfl) (by kernel_rfl) (by kernel_rfl) (door_met os _)) ?_
  intro W base args ds gs before hval0 hW _ _ hL _
  have hval : ∀ (j : Nat) t v, Tryd.f11.params[j]? = some t → args[j]? = some v → Value.okWide Tryd.prog W .any base t v := hval0
  have hW' := hW
  obtain ⟨p, q, hA0, hV, rfl, hfz, hnd⟩ := hW
  have hA : DataW.TrodAll enc Tryd.prog W 0 (fun _ => true) true Tryd.f11.params.toList args.toList ds p := hA0
  rw [Tryd.params11] at hA hval
  obtain ⟨v0, vs0, d0, ds0, p0, q0, hargs, rfl, rfl, h0, r0⟩ := trodAll_cons hA
  obtain ⟨rfl, rfl, rfl⟩ := trodAll_nil r0
  obtain rfl : args = #[v0] := by cases args; simp_all
  obtain ⟨rfl, rfl⟩ := trodVars_none hV
  obtain ⟨z0, rfl, rfl, rfl, f0⟩ := open_i4 (hval 0 24 v0 rfl rfl) h0
  clear hA0 hval0
  refine (walk z0 W f0 (pow_of hL)).mono fun e W' ⟨he, bel⟩ => ?_
  subst he
  exact ⟨_, rfl, _, _, _, [], _, [], hW', trodAll_mk1 (shut_bool Tryd.underlying4 _), (trodAll_cons_mk (shut_i4 _) trodAll_mk0), rfl, bel.frame _, fun h => by cases h⟩

theorem over : Rows.WideNegsSaid :=
  OpenClaim.holds_of_wide 11 Tryd.f11 rfl rfl rfl rfl rfl rfl rfl ⟨rfl, rfl, rfl, rfl, rfl⟩ rfl rfl rfl rfl rfl (by kernel_rfl) Tryd.func11 (by kernel_rfl)
    (of_decide_eq_true (by kernel_rfl)) (by unfold Func.isWrapper; first | (rw [if_pos (by decide +kernel)]; kernel_rfl) | (rw [if_neg (by decide +kernel)]; exact ⟨rfl, rfl⟩))
    (fun os started H enc _ => lifted os started H enc)

/-- THE STATEMENT -/
theorem proved : Rows.WideNegsCardSaid :=
  Claim7.holds_tied_plain_at .later [] [.data, .data, .data] true (true, "7c622db037fdc4ff25274987a64071f584d7c93a343983fca2f4ed33564cf7b6") false
    over (fun _ h => by cases h) (by kernel_rfl) (fun _ h => by cases h) wideNegs_row_tie rfl ⟨rfl, rfl⟩ (by kernel_rfl) rfl
    (fun f fn hf hfn => by
      obtain rfl : f = 11 := Option.some.inj ((show Tryd.prog.funcNamed "croft/croftlaw03.WideNegs" = some 11 by kernel_rfl).symm.trans hf) |>.symm
      obtain rfl : fn = Tryd.f11 := (Option.some.inj (Tryd.func11.symm.trans hfn)).symm
      exact ⟨by kernel_rfl, fun j t ht => by
        rw [Tryd.params11] at ht
        have hm : t ∈ [24] := by simpa using Array.mem_of_getElem? ht
        have hall : ([24].all fun u => !Tryd.prog.wantsStandIn u) = true := by kernel_rfl
        exact (show Tryd.prog.wantsStandIn t = false by simpa using List.all_eq_true.1 hall t hm)⟩)
    (by kernel_rfl)
#print axioms proved
end Go.Proofs.YtpoaodaihiacgaaDoor.wideNegs
