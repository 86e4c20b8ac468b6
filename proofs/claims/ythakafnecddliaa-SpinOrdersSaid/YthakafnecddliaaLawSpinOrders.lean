/- THE LAW SpinOrders: halves the other way, and their order, are the document's. No condition: whatever the halves are. -/
import Derived.Test.YthakafnecddliaaRows
import Derived.Test.YthakafnecddliaaEq
import Derived.Test.YthakafnecddliaaSpnJ
import Derived.Test.YthakafnecddliaaSpnAct
import Derived.WalkKit
import Derived.ProofKit
import Derived.OpenShut
import Derived.ShutString
import Derived.ChangeOld
import Derived.Below
import Derived.SliceStrings
namespace Go.Proofs.Ythakafnecddliaa.spinOrders
open Go.ChangeShapes Go.WideShapes Go.ChangeAt Go.RowKit
open Go.ChangeMaps (open_string shut_string)
set_option linter.unusedVariables false

open Pl
set_option maxRecDepth 10000
set_option maxHeartbeats 1000000

theorem own : ownKnob Try.prog.godebug = none := by kernel_rfl
theorem laidOut : laidOutB Try.prog = true := by kernel_rfl

theorem walk (h0' : Pl.Hf) (h1' : Pl.Hf) (w : World) (w0 : (Lit.int .i64 h0'.1).wf = true) (w1 : (Lit.int .i64 h1'.1).wf = true) :
    Calls Try.prog 8 #[.agg #[.int .i64 h0'.1, .bool h0'.2], .agg #[.int .i64 h1'.1, .bool h1'.2]] w fun e w' => e = .returned (.bool true) ∧ Below w.heap.size w w' := by
  have AW := Lib.hid sawake_any
  have T1 := Lib.hid (fun W => twin_any h0' W)
  have T2 := Lib.hid (fun W => rtwin_any h0' W)
  have L1 := Lib.hid (fun W => less_any h0' h1' W)
  have L2 := Lib.hid (fun W => rless_any h0' h1' W)
  unfold hV at T1 T2 L1 L2
  generalize lsH h0' h1' = lb at *
  generalize tw h0' = t at *
  obtain ⟨te, tb⟩ := t
  obtain ⟨ae, ab⟩ := h0'
  obtain ⟨be, bb⟩ := h1'
  simp only at T1 T2 L1 L2 ⊢
  have EK : ∀ W, (Op.equalIn 10000 42 (.agg #[.int .i64 te, .bool tb]) (.agg #[.int .i64 te, .bool tb])).run Try.prog W = .ok true W := fun W => by
    have := eq_Half te te tb tb W
    rwa [decide_eq_true ⟨rfl, rfl⟩] at this
  clear w0 w1
  have B0 : Hid (Below w.heap.size w ((w.alloc (.cells #[.int .i64 ae, .bool ab] 42)).alloc (.cells #[.int .i64 be, .bool bb] 42))) := Lib.hid (by repeat' (first | (with_reducible exact Below.refl _ _) | (with_reducible assumption) | (with_reducible refine below_drewN ?_ _) | (with_reducible refine Below.drew ?_) | (with_reducible refine Below.alloc ?_ ?_ _) | (with_reducible refine Below.setCell ?_ ?_ _) | (with_reducible refine then_ ?_ (by with_reducible assumption) ?_) | (with_reducible exact Nat.le_refl _) | (with_reducible exact Nat.le_succ _) | (with_reducible exact Nat.le_succ_of_le (by with_reducible assumption)) | omega | (simp; done) | (simp; omega) | (exact Nat.le_succ _) | (exact Nat.le_succ_of_le (by with_reducible assumption))))
  have O0 : Hid (Own ((w.alloc (.cells #[.int .i64 ae, .bool ab] 42)).alloc (.cells #[.int .i64 be, .bool bb] 42)) w.heap.size 42 #[.int .i64 ae, .bool ab]) := Lib.hid ((Own.made _ _ _).more _)
  have P0 : Hid (Own ((w.alloc (.cells #[.int .i64 ae, .bool ab] 42)).alloc (.cells #[.int .i64 be, .bool bb] 42)) (w.heap.size + 1) 42 #[.int .i64 be, .bool bb]) := Lib.hid (Own.made_at (by simp))
  go_enter Try.func8, Try.ntmps8
  go_upto_region 1 with fail
  generalize hW0 : (w.alloc (.cells #[.int .i64 ae, .bool ab] 42)).alloc (.cells #[.int .i64 be, .bool bb] 42) = W0 at B0 O0 P0 ⊢
  clear hW0
  have D0 := B0.out.drew
  refine wp_region_seq (fun W => Below w.heap.size w W ∧ Own W w.heap.size 42 #[.int .i64 ae, .bool ab] ∧ Own W (w.heap.size + 1) 42 #[.int .i64 be, .bool bb]) (1 :: 2 :: 4 :: 6 :: 7 :: 8 :: 9 :: 10 :: 12 :: 13 :: 15 :: 16 :: 17 :: []) (2 :: 4 :: 9 :: 10 :: 12 :: 13 :: []) (0 :: 1 :: 2 :: 4 :: 3 :: 5 :: 6 :: 7 :: 8 :: 9 :: 10 :: 12 :: 13 :: 11 :: 14 :: 15 :: 16 :: 17 :: []) (by kernel_rfl) (by kernel_rfl) rfl (by kernel_rfl) rfl (⟨D0, O0.out, P0.out⟩) (by simp only [picked, List.filterMap_cons, List.filterMap_nil, List.getElem?_cons_zero, List.getElem?_cons_succ, Option.map_some]; exact rfl) ?_
  refine seq_on rfl rfl fun K hK => ?_
  go_wp2_with (go_at_call 9; refine (AW.out _).mono ?_; rintro e y1' ⟨rfl, c1⟩)
  have Y1 := Lib.hid (then_ D0 c1 D0.size)
  have O1 := Lib.hid (O0.out.drawn.keep c1)
  have P1 := Lib.hid (P0.out.drawn.keep c1)
  refine hK _ _ (⟨Y1.out, O1.out, P1.out⟩) ?_
  clear hK K c1
  iterate 3
    refine seq_want (v := ?_) rfl rfl (fun W hS => ?_) ?_
    rotate_left
    · first
        | (conv => lhs; simp [go_sem, EK]
           first | done | exact rfl)
        | (have hS := hS rfl
           obtain ⟨q0, q1⟩ := half_at hS.2.1
           obtain ⟨g0, g1⟩ := half_at hS.2.2
           conv => lhs; simp [go_sem, *, EK]
           first | done | exact rfl)
    simp only [Act.put, List.setIfInBounds_toArray, List.set_cons_zero, List.set_cons_succ]
  refine seq_on rfl rfl fun K hK => ?_
  go_wp2_with (go_at_call 30; refine (T1.out _).mono ?_; rintro e y2' ⟨rfl, c2⟩)
  have Y2 := Lib.hid (then_ Y1.out c2 Y1.out.size)
  have O2 := Lib.hid (O1.out.keep c2)
  have P2 := Lib.hid (P1.out.keep c2)
  refine hK _ _ (⟨Y2.out, O2.out, P2.out⟩) ?_
  clear hK K c2
  refine seq_on rfl rfl fun K hK => ?_
  go_wp2_with (go_at_call 27; refine (T2.out _).mono ?_; rintro e y3' ⟨rfl, c3⟩)
  have Y3 := Lib.hid (then_ Y2.out c3 Y2.out.size)
  have O3 := Lib.hid (O2.out.keep c3)
  have P3 := Lib.hid (P2.out.keep c3)
  refine hK _ _ (⟨Y3.out, O3.out, P3.out⟩) ?_
  clear hK K c3
  iterate 7
    refine seq_want (v := ?_) rfl rfl (fun W hS => ?_) ?_
    rotate_left
    · first
        | (conv => lhs; simp [go_sem, EK]
           first | done | exact rfl)
        | (have hS := hS rfl
           obtain ⟨q0, q1⟩ := half_at hS.2.1
           obtain ⟨g0, g1⟩ := half_at hS.2.2
           conv => lhs; simp [go_sem, *, EK]
           first | done | exact rfl)
    simp only [Act.put, List.setIfInBounds_toArray, List.set_cons_zero, List.set_cons_succ]
  refine seq_on rfl rfl fun K hK => ?_
  go_wp2_with (go_at_call 19; refine (L1.out _).mono ?_; rintro e y4' ⟨rfl, c4⟩)
  have Y4 := Lib.hid (then_ Y3.out c4 Y3.out.size)
  have O4 := Lib.hid (O3.out.keep c4)
  have P4 := Lib.hid (P3.out.keep c4)
  refine hK _ _ (⟨Y4.out, O4.out, P4.out⟩) ?_
  clear hK K c4
  refine seq_on rfl rfl fun K hK => ?_
  go_wp2_with (go_at_call 31; refine (L2.out _).mono ?_; rintro e y5' ⟨rfl, c5⟩)
  have Y5 := Lib.hid (then_ Y4.out c5 Y4.out.size)
  have O5 := Lib.hid (O4.out.keep c5)
  have P5 := Lib.hid (P4.out.keep c5)
  refine hK _ _ (⟨Y5.out, O5.out, P5.out⟩) ?_
  clear hK K c5
  iterate 3
    refine seq_want (v := ?_) rfl rfl (fun W hS => ?_) ?_
    rotate_left
    · first
        | (conv => lhs; simp [go_sem, EK]
           first | done | exact rfl)
        | (have hS := hS rfl
           obtain ⟨q0, q1⟩ := half_at hS.2.1
           obtain ⟨g0, g1⟩ := half_at hS.2.2
           conv => lhs; simp [go_sem, *, EK]
           first | done | exact rfl)
    simp only [Act.put, List.setIfInBounds_toArray, List.set_cons_zero, List.set_cons_succ]
  refine seq_end ?_
  go_wp2
  go_ret
  exact ⟨rfl, Y5.out⟩

set_option maxRecDepth 100000 in
theorem lifted (os : Os) (started : os.Started) (H : Type) (enc : TypeId × Value → H) :
    ReturnsInHanded {} Try.checked os 8 .any (Rows.spinOrdersSpec.pre6 enc Try.prog Try.f8 Rows.spinOrdersRow.domain false) (Rows.spinOrdersSpec.post enc Try.prog Try.f8 false true false false) := by
  refine returnsInHanded_of_change (C := Try.checked) own started (by kernel_rfl) Try.func8
    (ChangeSpec.witness6 (enc := enc) (C := Try.checked) false ⟨#[], #[.agg #[.int .i64 0, .bool false], .agg #[.int .i64 0, .bool false]], []⟩ 8 (by kernel_rfl) (by kernel_rfl) (by kernel_rfl) (by kernel_rfl)) ?_
  intro W base args ds gs before hval0 hW hcnd _
  have hval : ∀ (j : Nat) t v, Try.f8.params[j]? = some t → args[j]? = some v → Value.okWide Try.prog W .any base t v := hval0
  have hW' := hW
  obtain ⟨p, q, hA0, hV, rfl, hfz, hnd⟩ := hW
  have hA : DataW.TrodAll enc Try.prog W 0 (fun _ => true) true Try.f8.params.toList args.toList ds p := hA0
  rw [Try.params8] at hA hval
  obtain ⟨v0, vs0, d0, ds0, p0, q0, hargs, rfl, rfl, h0, r0⟩ := trodAll_cons hA
  obtain ⟨v1, vs1, d1, ds1, p1, q1, rfl, rfl, rfl, h1, r1⟩ := trodAll_cons r0
  obtain ⟨rfl, rfl, rfl⟩ := trodAll_nil r1
  obtain rfl : args = #[v0, v1] := by cases args; simp_all
  obtain ⟨rfl, rfl⟩ := trodVars_none hV
  obtain ⟨g0, rfl, rfl, w0⟩ := Pl.open_half (hval 0 42 v0 rfl rfl) h0
  obtain ⟨g1, rfl, rfl, w1⟩ := Pl.open_half (hval 1 42 v1 rfl rfl) h1
  clear hA0 hval0
  refine (walk g0 g1 W w0 w1).mono fun e W' ⟨he, bel⟩ => ?_
  subst he
  exact ⟨_, rfl, _, _, _, [], _, [], hW', trodAll_mk1 (shut_bool Try.underlying4 _), (trodAll_cons_mk (Below.trod laidOut (by kernel_rfl) (of_decide_eq_true (by kernel_rfl)) h0 bel (fun x hx => by cases hx)) (trodAll_cons_mk (Below.trod laidOut (by kernel_rfl) (of_decide_eq_true (by kernel_rfl)) h1 bel (fun x hx => by cases hx)) trodAll_mk0)), rfl, bel.frame _, fun h => by cases h⟩

theorem over : Rows.spinOrdersRow.holds Try.pinned (OpenSpec.ofChange Rows.spinOrdersSpec) :=
  OpenClaim.holds_of_wide 8 Try.f8 rfl rfl rfl rfl rfl rfl rfl ⟨rfl, rfl, rfl, rfl, rfl⟩ rfl rfl rfl rfl rfl (by kernel_rfl) Try.func8 (by kernel_rfl)
    (of_decide_eq_true (by kernel_rfl)) (by unfold Func.isWrapper; first | (rw [if_pos (by decide +kernel)]; kernel_rfl) | (rw [if_neg (by decide +kernel)]; exact ⟨rfl, rfl⟩))
    (fun os started H enc _ => lifted os started H enc)

/-- THE STATEMENT -/
theorem proved : Rows.SpinOrdersSaid := over
#print axioms proved
end Go.Proofs.Ythakafnecddliaa.spinOrders
