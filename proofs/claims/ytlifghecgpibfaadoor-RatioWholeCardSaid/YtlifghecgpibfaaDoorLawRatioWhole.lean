/- RatioWhole: a whole number is itself through 1: for every int64; the tables start as the program's text lays them. -/
import Derived.Test.YtlifghecgpibfaaDoorRows
import Derived.Test.YtlifghecgpibfaaDoorBase
import Derived.Test.YtlifghecgpibfaaDoorRatF
import Derived.WalkKit
import Derived.ProofKit
import Derived.OpenShut
import Derived.ShutString
import Derived.ChangeOld
import Derived.Below
import Derived.SliceStrings
import Derived.Test.YtlifghecgpibfaaDoorLaid
import Derived.Test.YtlifghecgpibfaaDoorCards
import Derived.Test.YtlifghecgpibfaaDoorTie
import Derived.LaidMore
import Derived.Stop.Joined
import Derived.SevenTiedAt
namespace Go.Proofs.YtlifghecgpibfaaDoor.ratioWhole
open Go.ChangeShapes Go.WideShapes Go.ChangeAt Go.RowKit
open Go.ChangeMaps (open_string shut_string)
set_option linter.unusedVariables false

set_option linter.unusedSimpArgs false

theorem own : ownKnob Tryd.prog.godebug = none := by kernel_rfl
theorem laidOut : laidOutB Tryd.prog = true := by kernel_rfl

set_option maxHeartbeats 16000000 in
set_option maxRecDepth 20000 in
theorem walk (a0 : Int) (w : World) (w0 : (Lit.int .i64 a0).wf = true) (hp : Pow10 w) :
    Calls Tryd.prog 9 #[.int .i64 a0] w fun e w' => e = .returned (.bool true) ∧ Below w.heap.size w w' := by
  obtain ⟨h0, h1⟩ := of_wf64 w0
  have fz : Fit a0 := Fit.of64 h0 h1
  have SM1 : ∀ w, Calls Tryd.prog 30 #[.agg #[.int .u64 (L0 a0), .int .u64 (L1 a0), .int .u64 (L2 a0), .int .u64 (L3 a0)]] w fun e w' => e = .returned (.tuple #[.int .i64 a0, .bool true]) ∧ Below w.heap.size w w' := fun w => by
    have h := Small_any a0 fz w
    rw [if_pos (lowZ_same h0 h1)] at h
    exact h
  have SM := Lib.hid SM1
  have FL1 : ∀ w, Calls Tryd.prog 23 #[.agg #[.int .u64 (L0 a0), .int .u64 (L1 a0), .int .u64 (L2 a0), .int .u64 (L3 a0), .int .u64 (L0 1), .int .u64 (L1 1), .int .u64 (L2 1), .int .u64 (L3 1)]] w fun e w' => e = .returned (.agg #[.int .u64 (L0 a0), .int .u64 (L1 a0), .int .u64 (L2 a0), .int .u64 (L3 a0)]) ∧ Below w.heap.size w w' := fun w =>
    RFloor_pos (q := a0) (r := 0) fz ⟨by decide, by decide⟩ (whole_rgt a0) fz ⟨by decide, by decide⟩ ⟨by omega, by omega⟩ (by decide) (fun w => by
      have h := div_fit a0 1 fz ⟨by decide, by decide⟩ (by decide) (by rw [Int.tdiv_one]; exact fz) w
      rw [Int.tdiv_one, Int.tmod_one] at h
      exact h) w
  have FL := Lib.hid FL1
  have E0 := Lib.hid (decide_eq_true (whole_rgt a0))
  have E1 : Hid (decide (a0 = a0) = true) := Lib.hid (by simp)
  have E2 : Hid (decide ((1 : Int) = 1) = true) := Lib.hid rfl
  clear SM1 FL1
  go_enter Tryd.func9, Tryd.ntmps9
  go_upto_region 1 with fail
  obtain ⟨W0, hW0e⟩ : ∃ W0, W0 = w := ⟨w, rfl⟩
  have hW0 : Below w.heap.size w W0 := by rw [hW0e]; exact Below.refl _ _
  first | rw [← hW0e] | skip
  go_upto_region 1 with fail
  refine region_memo_f (B := W0.heap.size) (L := .val (.int .i64 a0) :: .val (.agg #[.int .u64 (L0 a0), .int .u64 (L1 a0), .int .u64 (L2 a0), .int .u64 (L3 a0), .int .u64 (L0 1), .int .u64 (L1 1), .int .u64 (L2 1), .int .u64 (L3 1)]) :: .blk 26 8 :: .put 3 26 #[.int .u64 (L0 a0), .int .u64 (L1 a0), .int .u64 (L2 a0), .int .u64 (L3 a0), .int .u64 (L0 1), .int .u64 (L1 1), .int .u64 (L2 1), .int .u64 (L3 1)] :: []) (by kernel_rfl) (Nat.le_refl _) ((by exact trivial))
    ⟨fun a w R => mv (R.slot 0 rfl), fun a w R => cl_t (enter_at Tryd.func29) (R.val 0) (Whole_any a0 h0 h1 _), fun a w R => al_R, fun a w R => sb_R (R.dep 2) (R.val 1), trivial⟩ (fun act_ W1 I => ?_)
  obtain ⟨gb3, ew3, lw3, ow3⟩ := I.put 3 rfl rfl
  rw [I.act [(6, .int .i64 a0), (7, .agg #[.int .u64 (L0 a0), .int .u64 (L1 a0), .int .u64 (L2 a0), .int .u64 (L3 a0), .int .u64 (L0 1), .int .u64 (L1 1), .int .u64 (L2 1), .int .u64 (L3 1)]), (3, .pointer (some ⟨gb3, 0, none⟩))]
    ⟨I.val 0, I.val 1, ew3, trivial⟩ rfl]
  change W0.heap.size ≤ gb3 at lw3
  have sW1 : W0.heap.size ≤ W1.heap.size := I.below.size
  have hW1 : Below w.heap.size w W1 := then_ hW0 I.below hW0.size
  clear ew3
  clear I
  simp only [List.foldl_cons, List.foldl_nil, List.setIfInBounds_toArray, List.set_cons_zero, List.set_cons_succ]
  go_upto_region 2 with fail
  refine region_memo_f (B := W1.heap.size) (L := .val (.agg #[.int .u64 (L0 a0), .int .u64 (L1 a0), .int .u64 (L2 a0), .int .u64 (L3 a0), .int .u64 (L0 1), .int .u64 (L1 1), .int .u64 (L2 1), .int .u64 (L3 1)]) :: .val (.agg #[.int .u64 (L0 a0), .int .u64 (L1 a0), .int .u64 (L2 a0), .int .u64 (L3 a0)]) :: .val (.tuple #[.int .i64 a0, .bool true]) :: .val (.tuple #[.int .i64 a0, .bool true]) :: .val (.int .i64 a0) :: .val (.bool true) :: .val (.int .i64 a0) :: .val (.bool true) :: []) (by kernel_rfl) (Nat.le_refl _) ((by exact trivial))
    ⟨fun a w R => ld_R (R.slot 3 rfl) (R.keep ow3 trivial) rfl rfl rfl rfl rfl rfl rfl rfl, fun a w R => cl_t (enter_at Tryd.func23) (R.val 0) (FL.out _), fun a w R => cl_t (enter_at Tryd.func30) (R.val 1) (SM.out _), fun a w R => mv (R.val 2), fun a w R => ex0 (R.val 3), fun a w R => ex1 (R.val 3), fun a w R => asg (R.val 4), fun a w R => asg (R.val 5), trivial⟩ (fun act_ W2 I => ?_)
  rw [I.act [(9, .agg #[.int .u64 (L0 a0), .int .u64 (L1 a0), .int .u64 (L2 a0), .int .u64 (L3 a0), .int .u64 (L0 1), .int .u64 (L1 1), .int .u64 (L2 1), .int .u64 (L3 1)]), (10, .agg #[.int .u64 (L0 a0), .int .u64 (L1 a0), .int .u64 (L2 a0), .int .u64 (L3 a0)]), (11, .tuple #[.int .i64 a0, .bool true]), (8, .tuple #[.int .i64 a0, .bool true]), (12, .int .i64 a0), (13, .bool true), (4, .int .i64 a0), (5, .bool true)]
    ⟨I.val 0, I.val 1, I.val 2, I.val 3, I.val 4, I.val 5, I.val 6, I.val 7, trivial⟩ rfl]
  have sW2 : W1.heap.size ≤ W2.heap.size := I.below.size
  replace ow3 := I.keep ow3 trivial
  have hW2 : Below w.heap.size w W2 := then_ hW1 I.below hW1.size
  clear I
  simp only [List.foldl_cons, List.foldl_nil, List.setIfInBounds_toArray, List.set_cons_zero, List.set_cons_succ]
  go_upto_region 3 with fail
  refine region_memo (B := W2.heap.size) (L := .val (.bool true) :: .val (.bool true) :: .val (.agg #[.int .u64 (L0 a0), .int .u64 (L1 a0), .int .u64 (L2 a0), .int .u64 (L3 a0), .int .u64 (L0 1), .int .u64 (L1 1), .int .u64 (L2 1), .int .u64 (L3 1)]) :: .val (.bool true) :: .val (.bool true) :: .val (.bool true) :: .val (.pointer (some ⟨gb3, 0, none⟩)) :: .val (.agg #[.int .u64 (L0 a0), .int .u64 (L1 a0), .int .u64 (L2 a0), .int .u64 (L3 a0)]) :: .val (.int .i64 a0) :: .val (.agg #[.int .u64 (L0 a0), .int .u64 (L1 a0), .int .u64 (L2 a0), .int .u64 (L3 a0)]) :: .val (.bool true) :: .val (.bool true) :: .val (.bool true) :: .val (.pointer (some ⟨gb3, 4, none⟩)) :: .val (.agg #[.int .u64 (L0 1), .int .u64 (L1 1), .int .u64 (L2 1), .int .u64 (L3 1)]) :: .val (.agg #[.int .u64 (L0 1), .int .u64 (L1 1), .int .u64 (L2 1), .int .u64 (L3 1)]) :: .val (.bool true) :: .val (.bool true) :: .val (.bool true) :: .val (.int .i64 a0) :: .val (.int .i64 a0) :: .val (.bool true) :: .val (.bool true) :: .val (.bool true) :: .val (.bool true) :: .val (.bool true) :: .val (.bool true) :: []) (by kernel_rfl) (by kernel_rfl) (Nat.le_refl _) ((by exact trivial))
    ⟨fun a w R => cl_0 (enter_at Tryd.func12)  (awake4 _ ((hp.keep hW2.drew).keep R.below)), fun a w R => mv (R.val 0), fun a w R => ld_R (R.slot 3 rfl) (R.keep ow3.drawn trivial) rfl rfl rfl rfl rfl rfl rfl rfl, fun a w R => cl_t (enter_at Tryd.func13) (R.val 2) (Right_is fz ⟨by decide, by decide⟩ E0.out _), fun a w R => pickt (R.val 1) (R.val 3), fun a w R => mv (R.val 4), fun a w R => fa_R_0 (R.slot 3 rfl), fun a w R => ld_W (R.val 6) (R.keep ow3.drawn trivial) rfl rfl rfl rfl, fun a w R => mv (R.slot 0 rfl), fun a w R => cl_t (enter_at Tryd.func31) (R.val 8) (of_b a0 h0 h1 _), fun a w R => (e_eql_W (R.val 7) (R.val 9) (fun w => (eq_fit (a := a0) (b := a0) fz fz w).trans (by rw [E1.out]))), fun a w R => pickt (R.val 5) (R.val 10), fun a w R => mv (R.val 11), fun a w R => fa_R_1 (R.slot 3 rfl), fun a w R => ld_W (R.val 13) (R.keep ow3.drawn trivial) rfl rfl rfl rfl, fun a w R => cl_k (enter_at Tryd.func31)  (of_b 1 (by decide) (by decide) _), fun a w R => (e_eql_W (R.val 14) (R.val 15) (fun w => (eq_fit (a := 1) (b := 1) ⟨by decide, by decide⟩ ⟨by decide, by decide⟩ w).trans (by rw [E2.out]))), fun a w R => pickt (R.val 12) (R.val 16), fun a w R => mv (R.val 17), fun a w R => mv (R.slot 4 rfl), fun a w R => mv (R.slot 0 rfl), fun a w R => c_eql_tt (R.val 19) (R.val 20) (Tryd.underlying2) (by simp), fun a w R => pickt (R.val 18) (R.val 21), fun a w R => mv (R.val 22), fun a w R => mv (R.slot 5 rfl), fun a w R => pickt (R.val 23) (R.val 24), fun a w R => asg (R.val 25), trivial⟩ (fun act_ W3 I => ?_)
  rw [I.act [(14, .bool true), (15, .bool true), (16, .agg #[.int .u64 (L0 a0), .int .u64 (L1 a0), .int .u64 (L2 a0), .int .u64 (L3 a0), .int .u64 (L0 1), .int .u64 (L1 1), .int .u64 (L2 1), .int .u64 (L3 1)]), (17, .bool true), (18, .bool true), (19, .bool true), (20, .pointer (some ⟨gb3, 0, none⟩)), (21, .agg #[.int .u64 (L0 a0), .int .u64 (L1 a0), .int .u64 (L2 a0), .int .u64 (L3 a0)]), (22, .int .i64 a0), (23, .agg #[.int .u64 (L0 a0), .int .u64 (L1 a0), .int .u64 (L2 a0), .int .u64 (L3 a0)]), (24, .bool true), (25, .bool true), (26, .bool true), (27, .pointer (some ⟨gb3, 4, none⟩)), (28, .agg #[.int .u64 (L0 1), .int .u64 (L1 1), .int .u64 (L2 1), .int .u64 (L3 1)]), (29, .agg #[.int .u64 (L0 1), .int .u64 (L1 1), .int .u64 (L2 1), .int .u64 (L3 1)]), (30, .bool true), (31, .bool true), (32, .bool true), (33, .int .i64 a0), (34, .int .i64 a0), (35, .bool true), (36, .bool true), (37, .bool true), (38, .bool true), (39, .bool true), (2, .bool true)]
    ⟨I.val 0, I.val 1, I.val 2, I.val 3, I.val 4, I.val 5, I.val 6, I.val 7, I.val 8, I.val 9, I.val 10, I.val 11, I.val 12, I.val 13, I.val 14, I.val 15, I.val 16, I.val 17, I.val 18, I.val 19, I.val 20, I.val 21, I.val 22, I.val 23, I.val 24, I.val 25, I.val 26, trivial⟩ rfl]
  have sW3 : W2.heap.size ≤ W3.heap.size := I.below.size
  replace ow3 := I.keep ow3.drawn trivial
  have hW3 : Below w.heap.size w W3 := then_ hW2.drew I.below hW2.size
  clear I
  simp only [List.foldl_cons, List.foldl_nil, List.setIfInBounds_toArray, List.set_cons_zero, List.set_cons_succ]
  clear ow3
  go_wp2
  try simp only [setCell_drawn]
  refine bodyPost_ret (by first | (simp [results, Tryd.results9, go_sem]; done) | (simp [results, Tryd.results9, go_sem]; rfl)) rfl ⟨?_, hW3⟩
  rfl

set_option maxRecDepth 100000 in
theorem lifted (os : Os) (started : os.Started) (H : Type) (enc : TypeId × Value → H) :
    ReturnsInHanded {} Tryd.checked os 9 .any (fun w args => (Rows.ratioWholeSpec.pre enc Tryd.prog Tryd.f9 [] false w args ∧ laidMetH Tryd.prog lay3 w) ∧ sizedMet enc Tryd.prog Tryd.f9 (OpenSpec.ofChange Rows.ratioWholeSpec) false w args) (Rows.ratioWholeSpec.post enc Tryd.prog Tryd.f9 false true false false) := by
  refine returnsInHanded_of_change_and (C := Tryd.checked) (X := fun w _ => laidMetH Tryd.prog lay3 w) (fun _ _ _ hh h => h.of_heap hh) own started (by kernel_rfl) Tryd.func9
    (ChangeSpec.witness_shaped (enc := enc) (C := Tryd.checked) (os := os) (X := fun w _ => laidMetH Tryd.prog lay3 w) false (World.doorLaid Tryd.prog 400 os) #[.int .i64 0] 8 rfl (World.shaped_of_RefB (by kernel_rfl) (by kernel_rfl)) (by kernel_rfl) (by kernel_rfl) (by kernel_rfl) (door_met os _)) ?_
  intro W base args ds gs before hval0 hW _ _ hL _
  have hval : ∀ (j : Nat) t v, Tryd.f9.params[j]? = some t → args[j]? = some v → Value.okWide Tryd.prog W .any base t v := hval0
  have hW' := hW
  obtain ⟨p, q, hA0, hV, rfl, hfz, hnd⟩ := hW
  have hA : DataW.TrodAll enc Tryd.prog W 0 (fun _ => true) true Tryd.f9.params.toList args.toList ds p := hA0
  rw [Tryd.params9] at hA hval
  obtain ⟨v0, vs0, d0, ds0, p0, q0, hargs, rfl, rfl, h0, r0⟩ := trodAll_cons hA
  obtain ⟨rfl, rfl, rfl⟩ := trodAll_nil r0
  obtain rfl : args = #[v0] := by cases args; simp_all
  obtain ⟨rfl, rfl⟩ := trodVars_none hV
  obtain ⟨a0, rfl, rfl, rfl, w0⟩ := open_int Tryd.underlying2 (hval 0 2 v0 rfl rfl) h0
  clear hA0 hval0
  refine (walk a0 W w0 (pow_of hL)).mono fun e W' ⟨he, bel⟩ => ?_
  subst he
  exact ⟨_, rfl, _, _, _, [], _, [], hW', trodAll_mk1 (shut_bool Tryd.underlying4 _), (trodAll_cons_mk (shut_int Tryd.underlying2 w0) trodAll_mk0), rfl, bel.frame _, fun h => by cases h⟩

theorem over : Rows.RatioWholeSaid :=
  OpenClaim.holds_of_wide 9 Tryd.f9 rfl rfl rfl rfl rfl rfl rfl ⟨rfl, rfl, rfl, rfl, rfl⟩ rfl rfl rfl rfl rfl (by kernel_rfl) Tryd.func9 (by kernel_rfl)
    (of_decide_eq_true (by kernel_rfl)) (by unfold Func.isWrapper; first | (rw [if_pos (by decide +kernel)]; kernel_rfl) | (rw [if_neg (by decide +kernel)]; exact ⟨rfl, rfl⟩))
    (fun os started H enc _ => lifted os started H enc)

/-- THE STATEMENT -/
theorem proved : Rows.RatioWholeCardSaid :=
  Claim7.holds_tied_plain_at .later [] [.data, .data, .data] true (true, "8e8e378bded55fa46c75c432a5fee0f17a8b579ae3d0aa8c7842b2d29ab279a1") false
    over (fun _ h => by cases h) (by kernel_rfl) (fun _ h => by cases h) ratioWhole_row_tie rfl ⟨rfl, rfl⟩ (by kernel_rfl) rfl
    (fun f fn hf hfn => by
      obtain rfl : f = 9 := Option.some.inj ((show Tryd.prog.funcNamed "croft/croftlaw04.RatioWhole" = some 9 by kernel_rfl).symm.trans hf) |>.symm
      obtain rfl : fn = Tryd.f9 := (Option.some.inj (Tryd.func9.symm.trans hfn)).symm
      exact ⟨by kernel_rfl, fun j t ht => by
        rw [Tryd.params9] at ht
        have hm : t ∈ [2] := by simpa using Array.mem_of_getElem? ht
        have hall : ([2].all fun u => !Tryd.prog.wantsStandIn u) = true := by kernel_rfl
        exact (show Tryd.prog.wantsStandIn t = false by simpa using List.all_eq_true.1 hall t hm)⟩)
    (by kernel_rfl)
#print axioms proved
end Go.Proofs.YtlifghecgpibfaaDoor.ratioWhole
