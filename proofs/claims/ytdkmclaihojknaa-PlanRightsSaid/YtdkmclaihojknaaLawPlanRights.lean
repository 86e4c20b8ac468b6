/- THE LAW PlanRights: whether any plan is right is the document's. No condition: whatever the plan and the numbers are. -/
import Derived.Test.YtdkmclaihojknaaRows
import Derived.Test.YtdkmclaihojknaaBytes
import Derived.Test.YtdkmclaihojknaaPlnL
import Derived.Test.YtdkmclaihojknaaPlnI
import Derived.Test.YtdkmclaihojknaaPlnV
import Derived.Test.YtdkmclaihojknaaPlnW
import Derived.Test.YtdkmclaihojknaaPlnX
import Derived.Test.YtdkmclaihojknaaPlnAct
import Derived.WalkKit
import Derived.ProofKit
import Derived.OpenShut
import Derived.ShutString
import Derived.ChangeOld
import Derived.Below
import Derived.SliceStrings
namespace Go.Proofs.Ytdkmclaihojknaa.planRights
open Go.ChangeShapes Go.WideShapes Go.ChangeAt Go.RowKit
open Go.ChangeMaps (open_string shut_string)
set_option linter.unusedVariables false

open Pl
set_option maxRecDepth 10000
set_option maxHeartbeats 2000000

theorem own : ownKnob Try.prog.godebug = none := by kernel_rfl
theorem laidOut : laidOutB Try.prog = true := by kernel_rfl

theorem walk (v e : Value) (vs : List Pl.Vx) (es : List Pl.Eg) (w : World) (hv : Pl.VIn w v vs) (he : Pl.EIn w e es) :
    Calls Try.prog 4 #[.agg #[v, e]] w fun e w' => e = .returned (.bool true) ∧ Below w.heap.size w w' := by
  have HV : Hid (∀ W, Below w.heap.size w W → VIn W v vs) := Lib.hid fun W hW => TIn.below hv hW
  have HE : Hid (∀ W, Below w.heap.size w W → EIn W e es) := Lib.hid fun W hW => TIn.below he hW
  have FW := Lib.hid (fun W (hW : Below w.heap.size w W) => few_any (HV.out W hW) (HE.out W hW))
  have PL := Lib.hid (fun W (hW : Below w.heap.size w W) => plain_any (HV.out W hW) (HE.out W hW))
  have AW := Lib.hid awake_any
  cases hf : fewB vs es with
  | false =>
    rw [hf] at FW
    obtain ⟨a, c, rfl⟩ := hv.sl
    obtain ⟨a', c', rfl⟩ := he.sl
    clear hf hv he HV HE PL AW
    generalize vs.length = n at *
    generalize es.length = m at *
    go_enter Try.func4, Try.ntmps4
    go_upto_region 1 with fail
    have B0 : Hid (Below w.heap.size w (w.alloc (.cells #[.slice a n c, .slice a' m c'] 25))) := Lib.hid (by repeat' (first | (with_reducible exact Below.refl _ _) | (with_reducible assumption) | (with_reducible refine below_drewN ?_ _) | (with_reducible refine Below.drew ?_) | (with_reducible refine Below.alloc ?_ ?_ _) | (with_reducible refine Below.setCell ?_ ?_ _) | (with_reducible refine then_ ?_ (by with_reducible assumption) ?_) | (with_reducible exact Nat.le_refl _) | (with_reducible exact Nat.le_succ _) | (with_reducible exact Nat.le_succ_of_le (by with_reducible assumption)) | omega | (simp; done) | (simp; omega) | (exact Nat.le_succ _) | (exact Nat.le_succ_of_le (by with_reducible assumption))))
    have O0 : Hid (Own (w.alloc (.cells #[.slice a n c, .slice a' m c'] 25)) w.heap.size 25 #[.slice a n c, .slice a' m c']) := Lib.hid (Own.made _ _ _)
    generalize hW0 : w.alloc (.cells #[.slice a n c, .slice a' m c'] 25) = W0 at B0 O0 ⊢
    clear hW0
    have D0 := B0.out.drew
    refine wp_region_seq (fun W => Below w.heap.size w W ∧ Own W w.heap.size 25 #[.slice a n c, .slice a' m c']) (0 :: 2 :: 3 :: 4 :: 5 :: 6 :: 7 :: 8 :: 9 :: 10 :: 11 :: 12 :: 13 :: 14 :: []) (0 :: []) (0 :: 1 :: 2 :: 3 :: 4 :: 5 :: 6 :: 7 :: 8 :: 9 :: 10 :: 11 :: 12 :: 13 :: 14 :: []) (by kernel_rfl) (by kernel_rfl) rfl (by kernel_rfl) rfl (⟨D0, O0.out⟩) (by simp only [picked, List.filterMap_cons, List.filterMap_nil, List.getElem?_cons_zero, List.getElem?_cons_succ, Option.map_some]; exact rfl) ?_
    iterate 1
      refine seq_want (v := ?_) rfl rfl (fun W hS => ?_) ?_
      rotate_left
      · first
          | (conv => lhs; simp [go_sem]
             first | done | exact rfl)
          | (have hS := hS rfl
             obtain ⟨q0, q1⟩ := pl_two hS.2
             conv => lhs; simp [go_sem, *]
             first | done | exact rfl)
      simp only [Act.put, List.setIfInBounds_toArray, List.set_cons_zero, List.set_cons_succ]
    refine seq_on rfl rfl fun K hK => ?_
    go_wp2_with (go_at_call 12; refine (FW.out _ D0).mono ?_; rintro e y1' ⟨rfl, c1⟩)
    have Y1 := Lib.hid (then_ D0 c1 D0.size)
    have O1 := Lib.hid (O0.out.drawn.keep c1)
    refine hK _ _ (⟨Y1.out, O1.out⟩) ?_
    clear hK K c1
    iterate 2
      refine seq_want (v := ?_) rfl rfl (fun W hS => ?_) ?_
      rotate_left
      · first
          | (conv => lhs; simp [go_sem]
             first | done | exact rfl)
          | (have hS := hS rfl
             obtain ⟨q0, q1⟩ := pl_two hS.2
             conv => lhs; simp [go_sem, *]
             first | done | exact rfl)
      simp only [Act.put, List.setIfInBounds_toArray, List.set_cons_zero, List.set_cons_succ]
    refine seq_skip rfl rfl ?_
    simp only [Act.put, List.setIfInBounds_toArray, List.set_cons_zero, List.set_cons_succ]
    refine seq_skip rfl rfl ?_
    simp only [Act.put, List.setIfInBounds_toArray, List.set_cons_zero, List.set_cons_succ]
    refine seq_skip rfl rfl ?_
    simp only [Act.put, List.setIfInBounds_toArray, List.set_cons_zero, List.set_cons_succ]
    refine seq_skip rfl rfl ?_
    simp only [Act.put, List.setIfInBounds_toArray, List.set_cons_zero, List.set_cons_succ]
    refine seq_skip rfl rfl ?_
    simp only [Act.put, List.setIfInBounds_toArray, List.set_cons_zero, List.set_cons_succ]
    refine seq_skip rfl rfl ?_
    simp only [Act.put, List.setIfInBounds_toArray, List.set_cons_zero, List.set_cons_succ]
    refine seq_skip rfl rfl ?_
    simp only [Act.put, List.setIfInBounds_toArray, List.set_cons_zero, List.set_cons_succ]
    refine seq_skip rfl rfl ?_
    simp only [Act.put, List.setIfInBounds_toArray, List.set_cons_zero, List.set_cons_succ]
    refine seq_skip rfl rfl ?_
    simp only [Act.put, List.setIfInBounds_toArray, List.set_cons_zero, List.set_cons_succ]
    iterate 2
      refine seq_want (v := ?_) rfl rfl (fun W hS => ?_) ?_
      rotate_left
      · first
          | (conv => lhs; simp [go_sem]
             first | done | exact rfl)
          | (have hS := hS rfl
             obtain ⟨q0, q1⟩ := pl_two hS.2
             conv => lhs; simp [go_sem, *]
             first | done | exact rfl)
      simp only [Act.put, List.setIfInBounds_toArray, List.set_cons_zero, List.set_cons_succ]
    refine seq_end ?_
    go_wp2
    go_ret
    exact ⟨rfl, Y1.out⟩
  | true =>
    obtain ⟨n60, m60⟩ := fewB_yes hf
    rw [hf] at FW
    have X0 := Lib.hid (fun W (hW : Below w.heap.size w W) => right_any (HV.out W hW) (HE.out W hW) (by omega) (by omega))
    have Z0 := Lib.hid (fun W (hW : Below w.heap.size w W) => rright_any (HV.out W hW) (HE.out W hW) (by omega) (by omega))
    generalize rtB vs es = r0 at X0 Z0
    obtain ⟨a, c, rfl⟩ := hv.sl
    obtain ⟨a', c', rfl⟩ := he.sl
    clear hf hv he HV HE n60 m60
    generalize vs.length = n at *
    generalize es.length = m at *
    go_enter Try.func4, Try.ntmps4
    go_upto_region 1 with fail
    have B0 : Hid (Below w.heap.size w (w.alloc (.cells #[.slice a n c, .slice a' m c'] 25))) := Lib.hid (by repeat' (first | (with_reducible exact Below.refl _ _) | (with_reducible assumption) | (with_reducible refine below_drewN ?_ _) | (with_reducible refine Below.drew ?_) | (with_reducible refine Below.alloc ?_ ?_ _) | (with_reducible refine Below.setCell ?_ ?_ _) | (with_reducible refine then_ ?_ (by with_reducible assumption) ?_) | (with_reducible exact Nat.le_refl _) | (with_reducible exact Nat.le_succ _) | (with_reducible exact Nat.le_succ_of_le (by with_reducible assumption)) | omega | (simp; done) | (simp; omega) | (exact Nat.le_succ _) | (exact Nat.le_succ_of_le (by with_reducible assumption))))
    have O0 : Hid (Own (w.alloc (.cells #[.slice a n c, .slice a' m c'] 25)) w.heap.size 25 #[.slice a n c, .slice a' m c']) := Lib.hid (Own.made _ _ _)
    generalize hW0 : w.alloc (.cells #[.slice a n c, .slice a' m c'] 25) = W0 at B0 O0 ⊢
    clear hW0
    have D0 := B0.out.drew
    refine wp_region_seq (fun W => Below w.heap.size w W ∧ Own W w.heap.size 25 #[.slice a n c, .slice a' m c']) (0 :: 2 :: 3 :: 5 :: 6 :: 9 :: 11 :: 12 :: 13 :: 14 :: []) (0 :: 6 :: 9 :: []) (0 :: 1 :: 2 :: 3 :: 4 :: 5 :: 6 :: 9 :: 7 :: 8 :: 10 :: 11 :: 12 :: 13 :: 14 :: []) (by kernel_rfl) (by kernel_rfl) rfl (by kernel_rfl) rfl (⟨D0, O0.out⟩) (by simp only [picked, List.filterMap_cons, List.filterMap_nil, List.getElem?_cons_zero, List.getElem?_cons_succ, Option.map_some]; exact rfl) ?_
    iterate 1
      refine seq_want (v := ?_) rfl rfl (fun W hS => ?_) ?_
      rotate_left
      · first
          | (conv => lhs; simp [go_sem]
             first | done | exact rfl)
          | (have hS := hS rfl
             obtain ⟨q0, q1⟩ := pl_two hS.2
             conv => lhs; simp [go_sem, *]
             first | done | exact rfl)
      simp only [Act.put, List.setIfInBounds_toArray, List.set_cons_zero, List.set_cons_succ]
    refine seq_on rfl rfl fun K hK => ?_
    go_wp2_with (go_at_call 12; refine (FW.out _ D0).mono ?_; rintro e y1' ⟨rfl, c1⟩)
    have Y1 := Lib.hid (then_ D0 c1 D0.size)
    have O1 := Lib.hid (O0.out.drawn.keep c1)
    refine hK _ _ (⟨Y1.out, O1.out⟩) ?_
    clear hK K c1
    iterate 2
      refine seq_want (v := ?_) rfl rfl (fun W hS => ?_) ?_
      rotate_left
      · first
          | (conv => lhs; simp [go_sem]
             first | done | exact rfl)
          | (have hS := hS rfl
             obtain ⟨q0, q1⟩ := pl_two hS.2
             conv => lhs; simp [go_sem, *]
             first | done | exact rfl)
      simp only [Act.put, List.setIfInBounds_toArray, List.set_cons_zero, List.set_cons_succ]
    refine seq_on rfl rfl fun K hK => ?_
    go_wp2_with (go_at_call 11; refine (AW.out _).mono ?_; rintro e y2' ⟨rfl, c2⟩)
    have Y2 := Lib.hid (then_ Y1.out c2 Y1.out.size)
    have O2 := Lib.hid (O1.out.keep c2)
    refine hK _ _ (⟨Y2.out, O2.out⟩) ?_
    clear hK K c2
    iterate 3
      refine seq_want (v := ?_) rfl rfl (fun W hS => ?_) ?_
      rotate_left
      · first
          | (conv => lhs; simp [go_sem]
             first | done | exact rfl)
          | (have hS := hS rfl
             obtain ⟨q0, q1⟩ := pl_two hS.2
             conv => lhs; simp [go_sem, *]
             first | done | exact rfl)
      simp only [Act.put, List.setIfInBounds_toArray, List.set_cons_zero, List.set_cons_succ]
    refine seq_on rfl rfl fun K hK => ?_
    go_wp2_with (go_at_call 14; refine (PL.out _ Y2.out).mono ?_; rintro e y3' ⟨rfl, c3⟩)
    have Y3 := Lib.hid (then_ Y2.out c3 Y2.out.size)
    have O3 := Lib.hid (O2.out.keep c3)
    refine hK _ _ (⟨Y3.out, O3.out⟩) ?_
    clear hK K c3
    refine seq_on rfl rfl fun K hK => ?_
    go_wp2_with (go_at_call 13; refine (X0.out _ Y3.out).mono ?_; rintro e y4' ⟨rfl, c4⟩)
    have Y4 := Lib.hid (then_ Y3.out c4 Y3.out.size)
    have O4 := Lib.hid (O3.out.keep c4)
    refine hK _ _ (⟨Y4.out, O4.out⟩) ?_
    clear hK K c4
    refine seq_on rfl rfl fun K hK => ?_
    go_wp2_with (go_at_call 24; refine (Z0.out _ Y4.out).mono ?_; rintro e y5' ⟨rfl, c5⟩)
    have Y5 := Lib.hid (then_ Y4.out c5 Y4.out.size)
    have O5 := Lib.hid (O4.out.keep c5)
    refine hK _ _ (⟨Y5.out, O5.out⟩) ?_
    clear hK K c5
    iterate 4
      refine seq_want (v := ?_) rfl rfl (fun W hS => ?_) ?_
      rotate_left
      · first
          | (conv => lhs; simp [go_sem]
             first | done | exact rfl)
          | (have hS := hS rfl
             obtain ⟨q0, q1⟩ := pl_two hS.2
             conv => lhs; simp [go_sem, *]
             first | done | exact rfl)
      simp only [Act.put, List.setIfInBounds_toArray, List.set_cons_zero, List.set_cons_succ]
    refine seq_end ?_
    go_wp2
    go_ret
    exact ⟨rfl, Y5.out⟩

set_option maxRecDepth 100000 in
theorem lifted (os : Os) (started : os.Started) (H : Type) (enc : TypeId × Value → H) :
    ReturnsInHanded {} Try.checked os 4 .any (Rows.planRightsSpec.pre6 enc Try.prog Try.f4 Rows.planRightsRow.domain false) (Rows.planRightsSpec.post enc Try.prog Try.f4 false true false false) := by
  refine returnsInHanded_of_change (C := Try.checked) own started (by kernel_rfl) Try.func4
    (ChangeSpec.witness6 (enc := enc) (C := Try.checked) false ⟨#[], #[.agg #[.slice none 0 0, .slice none 0 0]], []⟩ 8 (by kernel_rfl) (by kernel_rfl) (by kernel_rfl) (by kernel_rfl)) ?_
  intro W base args ds gs before hval0 hW hcnd _
  have hval : ∀ (j : Nat) t v, Try.f4.params[j]? = some t → args[j]? = some v → Value.okWide Try.prog W .any base t v := hval0
  have hW' := hW
  obtain ⟨p, q, hA0, hV, rfl, hfz, hnd⟩ := hW
  have hA : DataW.TrodAll enc Try.prog W 0 (fun _ => true) true Try.f4.params.toList args.toList ds p := hA0
  rw [Try.params4] at hA hval
  obtain ⟨v0, vs0, d0, ds0, p0, q0, hargs, rfl, rfl, h0, r0⟩ := trodAll_cons hA
  obtain ⟨rfl, rfl, rfl⟩ := trodAll_nil r0
  obtain rfl : args = #[v0] := by cases args; simp_all
  obtain ⟨rfl, rfl⟩ := trodVars_none hV
  have k0 := h0
  have lt0 : ∀ x ∈ p0, x.block < W.heap.size := by obtain ⟨m, hm⟩ := k0; exact DataW.trod_lt m _ _ _ hm
  obtain ⟨v, e, vs, es, rfl, hv, he⟩ := Pl.open_plan (hval 0 25 v0 rfl rfl) h0
  clear hA0 hval0
  refine (walk v e vs es W hv he).mono fun e W' ⟨he, bel⟩ => ?_
  subst he
  exact ⟨_, rfl, _, _, _, [], _, [], hW', trodAll_mk1 (shut_bool Try.underlying4 _), (trodAll_cons_mk (Below.trod laidOut (by kernel_rfl) (of_decide_eq_true (by kernel_rfl)) k0 bel lt0) trodAll_mk0), rfl, bel.frame _, fun h => by cases h⟩

theorem over : Rows.planRightsRow.holds Try.pinned (OpenSpec.ofChange Rows.planRightsSpec) :=
  OpenClaim.holds_of_wide 4 Try.f4 rfl rfl rfl rfl rfl rfl rfl ⟨rfl, rfl, rfl, rfl, rfl⟩ rfl rfl rfl rfl rfl (by kernel_rfl) Try.func4 (by kernel_rfl)
    (of_decide_eq_true (by kernel_rfl)) (by unfold Func.isWrapper; first | (rw [if_pos (by decide +kernel)]; kernel_rfl) | (rw [if_neg (by decide +kernel)]; exact ⟨rfl, rfl⟩))
    (fun os started H enc _ => lifted os started H enc)

/-- THE STATEMENT -/
theorem proved : Rows.PlanRightsSaid := over
#print axioms proved
end Go.Proofs.Ytdkmclaihojknaa.planRights
