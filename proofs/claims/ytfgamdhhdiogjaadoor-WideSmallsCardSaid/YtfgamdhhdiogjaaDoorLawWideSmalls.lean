/- WideSmalls: an int64 is itself again, and has its sign: for every int64; the tables start as the program's text lays them. -/
import Derived.Test.YtfgamdhhdiogjaaDoorRows
import Derived.Test.YtfgamdhhdiogjaaDoorBase
import Derived.Test.YtfgamdhhdiogjaaDoorAw3
import Derived.Test.YtfgamdhhdiogjaaDoorWideI
import Derived.WalkKit
import Derived.ProofKit
import Derived.OpenShut
import Derived.ShutString
import Derived.ChangeOld
import Derived.Below
import Derived.SliceStrings
import Derived.Test.YtfgamdhhdiogjaaDoorLaid
import Derived.Test.YtfgamdhhdiogjaaDoorCards
import Derived.Test.YtfgamdhhdiogjaaDoorTie
import Derived.LaidMore
import Derived.Stop.Joined
import Derived.SevenTiedAt
namespace Go.Proofs.YtfgamdhhdiogjaaDoor.wideSmalls
open Go.ChangeShapes Go.WideShapes Go.ChangeAt Go.RowKit
open Go.ChangeMaps (open_string shut_string)
set_option linter.unusedVariables false

theorem own : ownKnob Tryd.prog.godebug = none := by kernel_rfl
theorem laidOut : laidOutB Tryd.prog = true := by kernel_rfl

set_option maxRecDepth 20000 in
theorem walk (a0 : Int) (w : World) (w0 : (Lit.int .i64 a0).wf = true) (hp : Pow10 w) :
    Calls Tryd.prog 15 #[.int .i64 a0] w fun e w' => e = .returned (.bool true) ∧ Below w.heap.size w w' := by
  obtain ⟨h0, h1⟩ := of_wf64 w0
  have fz : Fit a0 := Fit.of64 h0 h1
  have SM1 : ∀ w, Calls Tryd.prog 34 #[.agg #[.int .u64 (L0 a0), .int .u64 (L1 a0), .int .u64 (L2 a0), .int .u64 (L3 a0)]] w fun e w' => e = .returned (.tuple #[.int .i64 a0, .bool true]) ∧ Below w.heap.size w w' := fun w => by
    have h := Small_any a0 fz w
    rw [if_pos (lowZ_same h0 h1)] at h
    exact h
  have SM := Lib.hid SM1
  have OF := Lib.hid (fun w => of_b a0 h0 h1 w)
  obtain ⟨g, hg⟩ : ∃ g, sgnZ a0 = g := ⟨_, rfl⟩
  have SG1 := fun w => sign_b a0 fz w
  rw [hg] at SG1
  have SG := Lib.hid SG1
  clear SM1 SG1 fz h0 h1 w0
  have b0 := Below.refl w.heap.size w
  rcases Int.lt_trichotomy a0 0 with h | h | h
  · have e1 : g = -1 := by rw [← hg]; unfold sgnZ; rw [if_pos h]
    subst e1
    have t1 : (decide (0 < a0)) = false := by simp; omega
    have t2 : (decide (a0 < 0)) = true := by simp; omega
    clear hg h
    go_enter Tryd.func15, Tryd.ntmps15
    go_wp2_with fail
    go_at_call 21
    refine (OF.out _).mono ?_
    rintro e w1 ⟨rfl, b1⟩
    have B1 := then_ b0 b1 b0.size
    go_wp2_with fail
    go_at_call 34
    refine (SM.out _).mono ?_
    rintro e w2 ⟨rfl, b2⟩
    have B2 := then_ B1 b2 B1.size
    go_wp2_with fail
    go_at_call 18
    refine (awake_any _ (hp.keep B2)).mono ?_
    rintro e w3 ⟨rfl, b3⟩
    have B3 := then_ B2 b3 B2.size
    go_wp2_with fail
    go_at_call 21
    refine (OF.out _).mono ?_
    rintro e w4 ⟨rfl, b4⟩
    have B4 := then_ B3 b4 B3.size
    go_wp2_with fail
    go_at_call 22
    refine (SG.out _).mono ?_
    rintro e w5 ⟨rfl, b5⟩
    have B5 := then_ B4 b5 B4.size
    go_wp2
    go_ret
    exact ⟨rfl, B5⟩
  · have e1 : g = 0 := by rw [← hg]; unfold sgnZ; rw [if_neg (by omega), if_pos h]
    subst e1
    have t1 : (decide (0 < a0)) = false := by simp; omega
    have t2 : (decide (a0 < 0)) = false := by simp; omega
    clear hg h
    go_enter Tryd.func15, Tryd.ntmps15
    go_wp2_with fail
    go_at_call 21
    refine (OF.out _).mono ?_
    rintro e w1 ⟨rfl, b1⟩
    have B1 := then_ b0 b1 b0.size
    go_wp2_with fail
    go_at_call 34
    refine (SM.out _).mono ?_
    rintro e w2 ⟨rfl, b2⟩
    have B2 := then_ B1 b2 B1.size
    go_wp2_with fail
    go_at_call 18
    refine (awake_any _ (hp.keep B2)).mono ?_
    rintro e w3 ⟨rfl, b3⟩
    have B3 := then_ B2 b3 B2.size
    go_wp2_with fail
    go_at_call 21
    refine (OF.out _).mono ?_
    rintro e w4 ⟨rfl, b4⟩
    have B4 := then_ B3 b4 B3.size
    go_wp2_with fail
    go_at_call 22
    refine (SG.out _).mono ?_
    rintro e w5 ⟨rfl, b5⟩
    have B5 := then_ B4 b5 B4.size
    go_wp2
    go_ret
    exact ⟨rfl, B5⟩
  · have e1 : g = 1 := by rw [← hg]; unfold sgnZ; rw [if_neg (by omega), if_neg (by omega)]
    subst e1
    have t1 : (decide (0 < a0)) = true := by simp; omega
    have t2 : (decide (a0 < 0)) = false := by simp; omega
    clear hg h
    go_enter Tryd.func15, Tryd.ntmps15
    go_wp2_with fail
    go_at_call 21
    refine (OF.out _).mono ?_
    rintro e w1 ⟨rfl, b1⟩
    have B1 := then_ b0 b1 b0.size
    go_wp2_with fail
    go_at_call 34
    refine (SM.out _).mono ?_
    rintro e w2 ⟨rfl, b2⟩
    have B2 := then_ B1 b2 B1.size
    go_wp2_with fail
    go_at_call 18
    refine (awake_any _ (hp.keep B2)).mono ?_
    rintro e w3 ⟨rfl, b3⟩
    have B3 := then_ B2 b3 B2.size
    go_wp2_with fail
    go_at_call 21
    refine (OF.out _).mono ?_
    rintro e w4 ⟨rfl, b4⟩
    have B4 := then_ B3 b4 B3.size
    go_wp2_with fail
    go_at_call 22
    refine (SG.out _).mono ?_
    rintro e w5 ⟨rfl, b5⟩
    have B5 := then_ B4 b5 B4.size
    go_wp2
    go_ret
    exact ⟨rfl, B5⟩

set_option maxRecDepth 100000 in
theorem lifted (os : Os) (started : os.Started) (H : Type) (enc : TypeId × Value → H) :
    ReturnsInHanded {} Tryd.checked os 15 .any (fun w args => (Rows.wideSmallsSpec.pre enc Tryd.prog Tryd.f15 [] false w args ∧ laidMetH Tryd.prog lay3 w) ∧ sizedMet enc Tryd.prog Tryd.f15 (OpenSpec.ofChange Rows.wideSmallsSpec) false w args) (Rows.wideSmallsSpec.post enc Tryd.prog Tryd.f15 false true false false) := by
  refine returnsInHanded_of_change_and (C := Tryd.checked) (X := fun w _ => laidMetH Tryd.prog lay3 w) (fun _ _ _ hh h => h.of_heap hh) own started (by kernel_rfl) Tryd.func15
    (ChangeSpec.witness_shaped (enc := enc) (C := Tryd.checked) (os := os) (X := fun w _ => laidMetH Tryd.prog lay3 w) false (World.doorLaid Tryd.prog 400 os) #[.int .i64 0] 8 rfl (World.shaped_of_RefB (by kernel_rfl) (by kernel_rfl)) (by kernel_rfl) (by kernel_rfl) (by kernel_rfl) (door_met os _)) ?_
  intro W base args ds gs before hval0 hW _ _ hL _
  have hval : ∀ (j : Nat) t v, Tryd.f15.params[j]? = some t → args[j]? = some v → Value.okWide Tryd.prog W .any base t v := hval0
  have hW' := hW
  obtain ⟨p, q, hA0, hV, rfl, hfz, hnd⟩ := hW
  have hA : DataW.TrodAll enc Tryd.prog W 0 (fun _ => true) true Tryd.f15.params.toList args.toList ds p := hA0
  rw [Tryd.params15] at hA hval
  obtain ⟨v0, vs0, d0, ds0, p0, q0, hargs, rfl, rfl, h0, r0⟩ := trodAll_cons hA
  obtain ⟨rfl, rfl, rfl⟩ := trodAll_nil r0
  obtain rfl : args = #[v0] := by cases args; simp_all
  obtain ⟨rfl, rfl⟩ := trodVars_none hV
  obtain ⟨a0, rfl, rfl, rfl, w0⟩ := open_int Tryd.underlying2 (hval 0 2 v0 rfl rfl) h0
  clear hA0 hval0
  refine (walk a0 W w0 (pow_of hL)).mono fun e W' ⟨he, bel⟩ => ?_
  subst he
  exact ⟨_, rfl, _, _, _, [], _, [], hW', trodAll_mk1 (shut_bool Tryd.underlying4 _), (trodAll_cons_mk (shut_int Tryd.underlying2 w0) trodAll_mk0), rfl, bel.frame _, fun h => by cases h⟩

theorem over : Rows.WideSmallsSaid :=
  OpenClaim.holds_of_wide 15 Tryd.f15 rfl rfl rfl rfl rfl rfl rfl ⟨rfl, rfl, rfl, rfl, rfl⟩ rfl rfl rfl rfl rfl (by kernel_rfl) Tryd.func15 (by kernel_rfl)
    (of_decide_eq_true (by kernel_rfl)) (by unfold Func.isWrapper; first | (rw [if_pos (by decide +kernel)]; kernel_rfl) | (rw [if_neg (by decide +kernel)]; exact ⟨rfl, rfl⟩))
    (fun os started H enc _ => lifted os started H enc)

/-- THE STATEMENT -/
theorem proved : Rows.WideSmallsCardSaid :=
  Claim7.holds_tied_plain_at .later [] [.data, .data, .data] true (true, "47736ff30275cea319144992b9be9eacce67dcf5cce1ba0c7c9b132f2de78be1") false
    over (fun _ h => by cases h) (by kernel_rfl) (fun _ h => by cases h) wideSmalls_row_tie rfl ⟨rfl, rfl⟩ (by kernel_rfl) rfl
    (fun f fn hf hfn => by
      obtain rfl : f = 15 := Option.some.inj ((show Tryd.prog.funcNamed "croft/croftlaw03.WideSmalls" = some 15 by kernel_rfl).symm.trans hf) |>.symm
      obtain rfl : fn = Tryd.f15 := (Option.some.inj (Tryd.func15.symm.trans hfn)).symm
      exact ⟨by kernel_rfl, fun j t ht => by
        rw [Tryd.params15] at ht
        have hm : t ∈ [2] := by simpa using Array.mem_of_getElem? ht
        have hall : ([2].all fun u => !Tryd.prog.wantsStandIn u) = true := by kernel_rfl
        exact (show Tryd.prog.wantsStandIn t = false by simpa using List.all_eq_true.1 hall t hm)⟩)
    (by kernel_rfl)
#print axioms proved
end Go.Proofs.YtfgamdhhdiogjaaDoor.wideSmalls
