/- -/
import Derived.Test.YthakafnecddliaaRows
import Derived.Test.YthakafnecddliaaEq
import Derived.Test.YthakafnecddliaaSpnT
import Derived.Test.YthakafnecddliaaSpnJ
import Derived.Test.YthakafnecddliaaSpnAct
import Derived.Test.YthakafnecddliaaPlnU
import Derived.WalkKit
import Derived.ProofKit
import Derived.OpenShut
import Derived.ShutString
import Derived.ChangeOld
import Derived.Below
import Derived.SliceStrings
namespace Go.Proofs.Ythakafnecddliaa.spinOut
open Go.ChangeShapes Go.WideShapes Go.ChangeAt Go.RowKit
open Go.ChangeMaps (open_string shut_string)
set_option linter.unusedVariables false

open Pl
set_option maxRecDepth 10000
set_option maxHeartbeats 1000000

theorem own : ownKnob Try.prog.godebug = none := by kernel_rfl
theorem laidOut : laidOutB Try.prog = true := by kernel_rfl

theorem walk (v e : Value) (vs : List Pl.Vx) (es : List Pl.Eg) (a1 : Int) (w : World) (hv : Pl.VIn w v vs) (he : Pl.EIn w e es) (w1 : (Lit.int .i64 a1).wf = true) :
    Calls Try.prog 5 #[.agg #[v, e], .int .i64 a1] w fun e w' => e = .returned (.bool true) ∧ Below w.heap.size w w' := by
  have FW := Lib.hid (fun (W : World) (hW : Below w.heap.size w W) => sfew_any (TIn.below hv hW) (TIn.below he hW))
  have PL := Lib.hid (fun (W : World) (hW : Below w.heap.size w W) => splain_any (TIn.below hv hW) (TIn.below he hW))
  have AW := Lib.hid sawake_any
  cases hf : fewS vs es with
  | false =>
    rw [hf] at FW
    obtain ⟨a, c, rfl⟩ := hv.sl
    obtain ⟨a', c', rfl⟩ := he.sl
    have BB := Lib.hid (bx1 w 25 #[.slice a vs.length c, .slice a' es.length c'])
    have PO := Lib.hid (Own.made w 25 #[.slice a vs.length c, .slice a' es.length c'])
    clear hf hv he PL
    generalize vs.length = n at *
    generalize es.length = m at *
    go_enter Try.func5, Try.ntmps5
    go_wp2_with (first
      | (go_at_call 9; refine (AW.out _).mono ?_; rintro e w3 ⟨rfl, b3⟩; have B3 := Lib.hid (then_ B2.out b3 B2.out.size); clear b3)
      | (go_at_call 10; refine (FW.out _ BB.out).mono ?_; rintro e w2 ⟨rfl, b2⟩; have B2 := Lib.hid (then_ BB.out b2 BB.out.size); clear b2))
    go_ret
    exact ⟨rfl, B3.out⟩
  | true =>
    obtain ⟨n40, m40⟩ := fewS_yes hf
    rw [hf] at FW
    have OU := Lib.hid (fun (W : World) (hW : Below w.heap.size w W) => out_any (TIn.below hv hW) (TIn.below he hW) (by omega) (by omega) a1)
    have RR := Lib.hid (fun (W : World) (hW : Below w.heap.size w W) => rright_any (TIn.below hv hW) (TIn.below he hW) (by omega) (by omega))
    by_cases hr : Rt vs es
    · rw [rtB_iff.2 hr] at RR
      rw [(pvs_yes hr).1, (pvs_yes hr).2] at OU
      have RO := Lib.hid (fun (W : World) (hW : Below w.heap.size w W) => rout_any (TIn.below hv hW) (TIn.below he hW) (rt_iff.1 hr).1 (rt_iff.1 hr).2 (by omega) (by omega) a1)
      have LN : Hid ((ot vs es a1).length ≤ 100000) := Lib.hid (by have := lv_len (es := es) a1; rw [(ot_perm a1).length_eq]; omega)
      have SM := Lib.hid (fun (W : World) (x y : Value) (hx : HIn W x (ot vs es a1)) (hy : HIn W y (ot vs es a1)) => rsame_any hx hy LN.out LN.out)
      rw [decide_eq_true rfl] at SM
      obtain ⟨a, c, rfl⟩ := hv.sl
      obtain ⟨a', c', rfl⟩ := he.sl
      have BB := Lib.hid (bx1 w 25 #[.slice a vs.length c, .slice a' es.length c'])
      have PO := Lib.hid (Own.made w 25 #[.slice a vs.length c, .slice a' es.length c'])
      clear hf hv he n40 m40 hr LN
      generalize ot vs es a1 = L at *
      generalize vs.length = n at *
      generalize es.length = m at *
      go_enter Try.func5, Try.ntmps5
      obtain ⟨p1, p2⟩ := half_at PO.out
      go_upto_region 3 with (go_at_call 10; refine (FW.out _ BB.out).mono ?_; rintro e w2 ⟨rfl, b2⟩; have B2 := Lib.hid (then_ BB.out b2 BB.out.size); have P2 := Lib.hid (PO.out.keep b2); clear b2)
      clear p1 p2
      obtain ⟨p1, p2⟩ := half_at P2.out
      go_upto_region 4 with (first
        | (go_at_call 20; refine (OU.out _ B3.out).mono ?_; rintro e w4 ⟨u, rfl, ho, b4⟩; have HO := Lib.hid ho; have B4 := Lib.hid (then_ B3.out b4 B3.out.size); have P4 := Lib.hid (P3.out.keep b4); clear ho b4)
        | (go_at_call 12; refine (PL.out _ B2.out).mono ?_; rintro e w3 ⟨rfl, b3⟩; have B3 := Lib.hid (then_ B2.out b3 B2.out.size); have P3 := Lib.hid (P2.out.keep b3); clear b3))
      clear p1 p2
      obtain ⟨p1, p2⟩ := half_at P4.out
      go_upto_region 6 with (go_at_call 21; refine (RR.out _ B4.out).mono ?_; rintro e w5 ⟨rfl, b5⟩; have B5 := Lib.hid (then_ B4.out b5 B4.out.size); have P5 := Lib.hid (P4.out.keep b5); have HO5 := Lib.hid (HO.out.below b5); clear b5)
      clear p1 p2
      go_wp2_with (first
        | (go_at_call 22; refine (SM.out _ _ _ (HO7.out.in_) (HR7.out.in_)).mono ?_; rintro e w8 ⟨rfl, b8⟩; have B8 := Lib.hid (then_ B7.out b8 B7.out.size); clear b8)
        | (go_at_call 23; refine (RO.out _ B6.out).mono ?_; rintro e w7 ⟨u2, rfl, ho, b7⟩; have HR7 := Lib.hid ho; have B7 := Lib.hid (then_ B6.out b7 B6.out.size); have HO7 := Lib.hid (HO6.out.below b7); clear b7)
        | (go_at_call 9; refine (AW.out _).mono ?_; rintro e w6 ⟨rfl, b6⟩; have B6 := Lib.hid (then_ B5.out b6 B5.out.size); have HO6 := Lib.hid (HO5.out.below b6); obtain ⟨p1, p2⟩ := half_at (P5.out.keep b6); clear b6))
      go_ret
      exact ⟨rfl, B8.out⟩
    · rw [rtB_not hr] at RR
      rw [(pvs_no hr).1, (pvs_no hr).2] at OU
      have LN : ot [] [] a1 = [] := rfl
      rw [LN] at OU
      obtain ⟨a, c, rfl⟩ := hv.sl
      obtain ⟨a', c', rfl⟩ := he.sl
      have BB := Lib.hid (bx1 w 25 #[.slice a vs.length c, .slice a' es.length c'])
      have PO := Lib.hid (Own.made w 25 #[.slice a vs.length c, .slice a' es.length c'])
      clear hf hv he n40 m40 hr LN
      generalize vs.length = n at *
      generalize es.length = m at *
      go_enter Try.func5, Try.ntmps5
      obtain ⟨p1, p2⟩ := half_at PO.out
      go_upto_region 3 with (go_at_call 10; refine (FW.out _ BB.out).mono ?_; rintro e w2 ⟨rfl, b2⟩; have B2 := Lib.hid (then_ BB.out b2 BB.out.size); have P2 := Lib.hid (PO.out.keep b2); clear b2)
      clear p1 p2
      obtain ⟨p1, p2⟩ := half_at P2.out
      go_upto_region 4 with (first
        | (go_at_call 20; refine (OU.out _ B3.out).mono ?_; rintro e w4 ⟨u, rfl, ho, b4⟩; have HO := Lib.hid ho; have B4 := Lib.hid (then_ B3.out b4 B3.out.size); have P4 := Lib.hid (P3.out.keep b4); clear ho b4)
        | (go_at_call 12; refine (PL.out _ B2.out).mono ?_; rintro e w3 ⟨rfl, b3⟩; have B3 := Lib.hid (then_ B2.out b3 B2.out.size); have P3 := Lib.hid (P2.out.keep b3); clear b3))
      clear p1 p2
      obtain ⟨p1, p2⟩ := half_at P4.out
      obtain ⟨a9, c9, hsh⟩ := HO.out.shape
      subst hsh
      rw [List.length_nil]
      clear HO
      go_upto_region 5 with (go_at_call 21; refine (RR.out _ B4.out).mono ?_; rintro e w5 ⟨rfl, b5⟩; have B5 := Lib.hid (then_ B4.out b5 B4.out.size); clear b5)
      clear p1 p2
      go_wp2_with (go_at_call 9; refine (AW.out _).mono ?_; rintro e w6 ⟨rfl, b6⟩; have B6 := Lib.hid (then_ B5.out b6 B5.out.size); clear b6)
      go_ret
      exact ⟨rfl, B6.out⟩

set_option maxRecDepth 100000 in
theorem lifted (os : Os) (started : os.Started) (H : Type) (enc : TypeId × Value → H) :
    ReturnsInHanded {} Try.checked os 5 .any (Rows.spinOutSpec.pre6 enc Try.prog Try.f5 Rows.spinOutRow.domain false) (Rows.spinOutSpec.post enc Try.prog Try.f5 false true false false) := by
  refine returnsInHanded_of_change (C := Try.checked) own started (by kernel_rfl) Try.func5
    (ChangeSpec.witness6 (enc := enc) (C := Try.checked) false ⟨#[], #[.agg #[.slice none 0 0, .slice none 0 0], .int .i64 0], []⟩ 8 (by kernel_rfl) (by kernel_rfl) (by kernel_rfl) (by kernel_rfl)) ?_
  intro W base args ds gs before hval0 hW hcnd _
  have hval : ∀ (j : Nat) t v, Try.f5.params[j]? = some t → args[j]? = some v → Value.okWide Try.prog W .any base t v := hval0
  have hW' := hW
  obtain ⟨p, q, hA0, hV, rfl, hfz, hnd⟩ := hW
  have hA : DataW.TrodAll enc Try.prog W 0 (fun _ => true) true Try.f5.params.toList args.toList ds p := hA0
  rw [Try.params5] at hA hval
  obtain ⟨v0, vs0, d0, ds0, p0, q0, hargs, rfl, rfl, h0, r0⟩ := trodAll_cons hA
  obtain ⟨v1, vs1, d1, ds1, p1, q1, rfl, rfl, rfl, h1, r1⟩ := trodAll_cons r0
  obtain ⟨rfl, rfl, rfl⟩ := trodAll_nil r1
  obtain rfl : args = #[v0, v1] := by cases args; simp_all
  obtain ⟨rfl, rfl⟩ := trodVars_none hV
  have k0 := h0
  have lt0 : ∀ x ∈ p0, x.block < W.heap.size := by obtain ⟨m, hm⟩ := k0; exact DataW.trod_lt m _ _ _ hm
  obtain ⟨v, e, vs, es, rfl, hv, he⟩ := Pl.open_plan (hval 0 25 v0 rfl rfl) h0
  obtain ⟨a1, rfl, rfl, rfl, w1⟩ := open_int Try.underlying3 (hval 1 3 v1 rfl rfl) h1
  clear hA0 hval0
  refine (walk v e vs es a1 W hv he w1).mono fun e W' ⟨he, bel⟩ => ?_
  subst he
  exact ⟨_, rfl, _, _, _, [], _, [], hW', trodAll_mk1 (shut_bool Try.underlying4 _), (trodAll_cons_mk (Below.trod laidOut (by kernel_rfl) (of_decide_eq_true (by kernel_rfl)) k0 bel lt0) (trodAll_cons_mk (shut_int Try.underlying3 w1) trodAll_mk0)), rfl, bel.frame _, fun h => by cases h⟩

theorem over : Rows.spinOutRow.holds Try.pinned (OpenSpec.ofChange Rows.spinOutSpec) :=
  OpenClaim.holds_of_wide 5 Try.f5 rfl rfl rfl rfl rfl rfl rfl ⟨rfl, rfl, rfl, rfl, rfl⟩ rfl rfl rfl rfl rfl (by kernel_rfl) Try.func5 (by kernel_rfl)
    (of_decide_eq_true (by kernel_rfl)) (by unfold Func.isWrapper; first | (rw [if_pos (by decide +kernel)]; kernel_rfl) | (rw [if_neg (by decide +kernel)]; exact ⟨rfl, rfl⟩))
    (fun os started H enc _ => lifted os started H enc)

/-- THE STATEMENT -/
theorem proved : Rows.SpinOutSaid := over
#print axioms proved
end Go.Proofs.Ythakafnecddliaa.spinOut
