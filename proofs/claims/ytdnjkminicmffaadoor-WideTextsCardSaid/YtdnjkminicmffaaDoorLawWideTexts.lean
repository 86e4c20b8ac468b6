/- WideTexts: any number in decimal is the document's; the tables start as the program's text lays them. -/
import Derived.Test.YtdnjkminicmffaaDoorRows
import Derived.Test.YtdnjkminicmffaaDoorBase
import Derived.Test.YtdnjkminicmffaaDoorRefG
import Derived.Test.YtdnjkminicmffaaDoorTexA
import Derived.Test.YtdnjkminicmffaaDoorSeq
import Derived.Test.YtdnjkminicmffaaDoorAw3
import Derived.Test.YtdnjkminicmffaaDoorMemoZ
import Derived.WalkKit
import Derived.ProofKit
import Derived.OpenShut
import Derived.ShutString
import Derived.ChangeOld
import Derived.Below
import Derived.SliceStrings
import Derived.Test.YtdnjkminicmffaaDoorLaid
import Derived.Test.YtdnjkminicmffaaDoorCards
import Derived.Test.YtdnjkminicmffaaDoorTie
import Derived.LaidMore
import Derived.Stop.Joined
import Derived.SevenTiedAt
namespace Go.Proofs.YtdnjkminicmffaaDoor.wideTexts
open Go.ChangeShapes Go.WideShapes Go.ChangeAt Go.RowKit
open Go.ChangeMaps (open_string shut_string)
set_option linter.unusedVariables false

theorem digs_short {n k : Nat} (h : (n : Int) < 65536 ^ k) : (digs n).length ≤ k := by
  rcases Nat.lt_or_ge k (digs n).length with hk | hk
  · exfalso
    have hn : n ≠ 0 := by rintro rfl; rw [digs_zero] at hk; simp at hk
    obtain ⟨h1, _⟩ := digs_len hn
    have h2 : (65536 : Int) ^ k ≤ 65536 ^ ((digs n).length - 1) := by
      obtain ⟨t, ht⟩ : ∃ t, (digs n).length - 1 = k + t := ⟨(digs n).length - 1 - k, by omega⟩
      rw [ht, Int.pow_add]
      have h4 : (0 : Int) < 65536 ^ k := Int.pow_pos (by decide)
      have h5 : (0 : Int) < 65536 ^ t := Int.pow_pos (by decide)
      have := Int.mul_le_mul_of_nonneg_left (show (1 : Int) ≤ 65536 ^ t by omega) (show (0 : Int) ≤ 65536 ^ k by omega)
      omega
    omega
  · exact hk
theorem fit_short {z : Int} (h : Fit z) : (digs z.natAbs).length ≤ 16 := by
  refine digs_short ?_
  obtain ⟨h1, h2⟩ := h
  rw [show (65536 : Int) ^ 16 = 115792089237316195423570985008687907853269984665640564039457584007913129639936 by decide]
  omega
theorem itoa_eq (z : Int) : (if z < 0 then ([45] : List UInt8) else []) ++ Lib.decDigits z.natAbs = Lib.itoa z := by
  unfold Lib.itoa
  by_cases h : z < 0
  · simp [h]
  · simp [h]
    congr 1
    omega

theorem own : ownKnob Tryd.prog.godebug = none := by kernel_rfl
theorem laidOut : laidOutB Tryd.prog = true := by kernel_rfl

set_option maxHeartbeats 16000000 in
set_option maxRecDepth 20000 in
theorem walk (z0 : Int) (w : World) (f0 : Fit z0) (hp : Pow10 w) :
    Calls Tryd.prog 9 #[.agg #[.int .u64 (L0 z0), .int .u64 (L1 z0), .int .u64 (L2 z0), .int .u64 (L3 z0)]] w fun e w' => e = .returned (.bool true) ∧ Below w.heap.size w w' := by
  have F0 := Lib.hid (fun T w h => from_num T z0 f0 w h)
  have S0 := Lib.hid (fit_short f0)
  have TX1 := fun w h => Text_any z0 f0 w h
  have TN1 := fun T C v w (hv : Num w T C v z0) => text_num T C v z0 w hv (Nat.le_trans S0.out (by decide)) (Nat.le_trans (dec_len 77 z0.natAbs (by
    obtain ⟨h1, h2⟩ := f0
    rw [show (10 : Nat) ^ (77 + 1) = 1000000000000000000000000000000000000000000000000000000000000000000000000000000 by decide]
    omega)) (by decide))
  rw [itoa_eq] at TN1
  obtain ⟨X, hX⟩ : ∃ X : ByteArray, X = ⟨(Lib.itoa z0).toArray⟩ := ⟨_, rfl⟩
  rw [← hX] at TX1 TN1
  have TX := Lib.hid TX1
  have TN := Lib.hid TN1
  replace hp := Lib.hid hp
  clear TX1 TN1 hX f0
  go_enter Tryd.func9, Tryd.ntmps9
  go_upto_region 1 with fail
  go_name_world W0 hW0e
  have OA : Own W0 w.heap.size 24 #[.int .u64 (L0 z0), .int .u64 (L1 z0), .int .u64 (L2 z0), .int .u64 (L3 z0)] := hW0e ▸ (by repeat' (first | (with_reducible assumption) | (with_reducible refine Own.drawnN ?_ _) | (with_reducible refine Own.drawn ?_) | (with_reducible refine Own.made_at ?_; first | rfl | (simp; done) | omega | (simp; omega)) | (with_reducible refine Own.more ?_ _) | (with_reducible refine Own.apart ?_ ?_ _ _; rotate_left; first | omega | (simp; done) | (simp; omega)) | (refine Own.put ?_ _ _)))
  have B0 : Below w.heap.size w W0 := hW0e ▸ (by repeat' (first | (with_reducible exact Below.refl _ _) | (with_reducible assumption) | (with_reducible refine below_drewN ?_ _) | (with_reducible refine Below.drew ?_) | (with_reducible refine Below.alloc ?_ ?_ _) | (with_reducible refine Below.setCell ?_ ?_ _) | (with_reducible refine then_ ?_ (by with_reducible assumption) ?_) | (with_reducible exact Nat.le_refl _) | (with_reducible exact Nat.le_succ _) | (with_reducible exact Nat.le_succ_of_le (by with_reducible assumption)) | omega | (simp; done) | (simp; omega) | (exact Nat.le_succ _) | (exact Nat.le_succ_of_le (by with_reducible assumption))))
  have HP : Pow10 W0.drew := hp.out.keep B0.drew
  clear hW0e
  refine wp_region_seq (fun W => Own W w.heap.size 24 #[.int .u64 (L0 z0), .int .u64 (L1 z0), .int .u64 (L2 z0), .int .u64 (L3 z0)]) (1 :: 2 :: 4 :: 7 :: 8 :: 9 :: []) (2 :: 4 :: []) (0 :: 1 :: 2 :: 4 :: 3 :: 5 :: 6 :: 7 :: 8 :: 9 :: []) (by kernel_rfl) (by kernel_rfl) rfl (by kernel_rfl) rfl (OA.drawn) (by simp only [picked, List.filterMap_cons, List.filterMap_nil, List.getElem?_cons_zero, List.getElem?_cons_succ, Option.map_some]; exact rfl) ?_
  refine seq_on rfl rfl fun K hK => ?_
  go_wp2_with (go_at_call 14; refine (awake_any _ HP).mono ?_; rintro e w1 ⟨rfl, hb⟩)
  replace OA := OA.drawn.keep hb
  have B1 : Below w.heap.size w w1 := then_ B0.drew hb B0.size
  refine hK _ _ OA ?_
  clear hK K B0 hb
  iterate 3
    refine seq_want (v := ?_) rfl rfl (fun W hS => ?_) ?_
    rotate_left
    · first
        | (conv => lhs; simp [go_sem]
           first | done | exact rfl)
        | (have hS := hS rfl
           have q1 := hS
           obtain ⟨q11, q12, q13⟩ := q1.at_
           conv => lhs; simp [go_sem, *]
           first | done | exact rfl)
    simp only [Act.put, List.setIfInBounds_toArray, List.set_cons_zero, List.set_cons_succ]
  have HP1 : Pow10 w1 := hp.out.keep B1
  refine seq_on rfl rfl fun K hK => ?_
  go_wp2_with (go_at_call 31; refine (TX.out w1 HP1).mono ?_; rintro e w2 ⟨rfl, hb⟩)
  replace OA := OA.keep hb
  have B2 : Below w.heap.size w w2 := then_ B1 hb B1.size
  refine hK _ _ OA ?_
  clear hK K B1 hb
  refine seq_on rfl rfl fun K hK => ?_
  go_wp2_with (go_at_call 10; refine (F0.out w2.heap.size w2 (Nat.le_refl _)).mono ?_; rintro e w3 ⟨v0, rfl, n0, hb⟩)
  replace OA := OA.keep hb
  have B3 : Below w.heap.size w w3 := then_ B2 hb B2.size
  replace n0 := Lib.hid n0
  refine hK _ _ OA ?_
  clear hK K B2 hb
  refine seq_on rfl rfl fun K hK => ?_
  go_wp2_with (go_at_call 32; refine (TN.out _ _ v0 w3 n0.out).mono ?_; rintro e w4 ⟨rfl, hb⟩)
  replace OA := OA.keep hb
  have B4 : Below w.heap.size w w4 := then_ B3 hb B3.size
  clear n0
  refine hK _ _ OA ?_
  clear hK K B3 hb
  iterate 3
    refine seq_want (v := ?_) rfl rfl (fun W hS => ?_) ?_
    rotate_left
    · conv => lhs; simp [go_sem]
      first | done | exact rfl
    simp only [Act.put, List.setIfInBounds_toArray, List.set_cons_zero, List.set_cons_succ]
  refine seq_end ?_
  go_wp2
  go_ret
  exact ⟨rfl, B4⟩

set_option maxRecDepth 100000 in
theorem lifted (os : Os) (started : os.Started) (H : Type) (enc : TypeId × Value → H) :
    ReturnsInHanded {} Tryd.checked os 9 .any (fun w args => (Rows.wideTextsSpec.pre enc Tryd.prog Tryd.f9 [] false w args ∧ laidMetH Tryd.prog lay3 w) ∧ sizedMet enc Tryd.prog Tryd.f9 (OpenSpec.ofChange Rows.wideTextsSpec) false w args) (Rows.wideTextsSpec.post enc Tryd.prog Tryd.f9 false true false false) := by
  refine returnsInHanded_of_change_and (C := Tryd.checked) (X := fun w _ => laidMetH Tryd.prog lay3 w) (fun _ _ _ hh h => h.of_heap hh) own started (by kernel_rfl) Tryd.func9
    (ChangeSpec.witness_shaped (enc := enc) (C := Tryd.checked) (os := os) (X := fun w _ => laidMetH Tryd.prog lay3 w) false (World.doorLaid Tryd.prog 400 os) #[.agg #[.int .u64 0, .int .u64 0, .int .u64 0, .int .u64 0]] 8 rfl (World.shaped_of_RefB (by kernel_rfl) (by kernel_rfl)) (by kernel_rfl) (by kernel_rfl) (by kernel_rfl) (door_met os _)) ?_
  intro W base args ds gs before hval0 hW _ _ hL _
  have hval : ∀ (j : Nat) t v, Tryd.f9.params[j]? = some t → args[j]? = some v → Value.okWide Tryd.prog W .any base t v := hval0
  have hW' := hW
  obtain ⟨p, q, hA0, hV, rfl, hfz, hnd⟩ := hW
  have hA : DataW.TrodAll enc Tryd.prog W 0 (fun _ => true) true Tryd.f9.params.toList args.toList ds p := hA0
  rw [Tryd.params9] at hA hval
  obtain ⟨v0, vs0, d0, ds0, p0, q0, hargs, rfl, rfl, h0, r0⟩ := trodAll_cons hA
  obtain ⟨rfl, rfl, rfl⟩ := trodAll_nil r0
  obtain rfl : args = #[v0] := by cases args; simp_all
  obtain ⟨rfl, rfl⟩ := trodVars_none hV
  obtain ⟨z0, rfl, rfl, rfl, f0⟩ := open_i4 (hval 0 24 v0 rfl rfl) h0
  clear hA0 hval0
  refine (walk z0 W f0 (pow_of hL)).mono fun e W' ⟨he, bel⟩ => ?_
  subst he
  exact ⟨_, rfl, _, _, _, [], _, [], hW', trodAll_mk1 (shut_bool Tryd.underlying4 _), (trodAll_cons_mk (shut_i4 _) trodAll_mk0), rfl, bel.frame _, fun h => by cases h⟩

theorem over : Rows.WideTextsSaid :=
  OpenClaim.holds_of_wide 9 Tryd.f9 rfl rfl rfl rfl rfl rfl rfl ⟨rfl, rfl, rfl, rfl, rfl⟩ rfl rfl rfl rfl rfl (by kernel_rfl) Tryd.func9 (by kernel_rfl)
    (of_decide_eq_true (by kernel_rfl)) (by unfold Func.isWrapper; first | (rw [if_pos (by decide +kernel)]; kernel_rfl) | (rw [if_neg (by decide +kernel)]; exact ⟨rfl, rfl⟩))
    (fun os started H enc _ => lifted os started H enc)

/-- THE STATEMENT -/
theorem proved : Rows.WideTextsCardSaid :=
  Claim7.holds_tied_plain_at .later [] [.data, .data, .data] true (true, "967dca3fa14bcff598b7a8224b9eaf3b9bea7657f4d3a184d0d0e975bb1324a6") false
    over (fun _ h => by cases h) (by kernel_rfl) (fun _ h => by cases h) wideTexts_row_tie rfl ⟨rfl, rfl⟩ (by kernel_rfl) rfl
    (fun f fn hf hfn => by
      obtain rfl : f = 9 := Option.some.inj ((show Tryd.prog.funcNamed "croft/croftlaw03.WideTexts" = some 9 by kernel_rfl).symm.trans hf) |>.symm
      obtain rfl : fn = Tryd.f9 := (Option.some.inj (Tryd.func9.symm.trans hfn)).symm
      exact ⟨by kernel_rfl, fun j t ht => by
        rw [Tryd.params9] at ht
        have hm : t ∈ [24] := by simpa using Array.mem_of_getElem? ht
        have hall : ([24].all fun u => !Tryd.prog.wantsStandIn u) = true := by kernel_rfl
        exact (show Tryd.prog.wantsStandIn t = false by simpa using List.all_eq_true.1 hall t hm)⟩)
    (by kernel_rfl)
#print axioms proved
end Go.Proofs.YtdnjkminicmffaaDoor.wideTexts
