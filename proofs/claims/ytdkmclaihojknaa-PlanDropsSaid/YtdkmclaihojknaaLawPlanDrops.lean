/- THE LAW PlanDrops: whether a vertex, or an edge, of any plan may go is the document's. No condition: whatever the plan and the numbers are. -/
import Derived.Test.YtdkmclaihojknaaRows
import Derived.Test.YtdkmclaihojknaaBytes
import Derived.Test.YtdkmclaihojknaaPlnL
import Derived.Test.YtdkmclaihojknaaPlnI
import Derived.Test.YtdkmclaihojknaaPlnV
import Derived.Test.YtdkmclaihojknaaPlnW
import Derived.Test.YtdkmclaihojknaaPlnX
import Derived.Test.YtdkmclaihojknaaPlnAct
import Derived.WalkKit
import Derived.ProofKit
import Derived.OpenShut
import Derived.ShutString
import Derived.ChangeOld
import Derived.Below
import Derived.SliceStrings
namespace Go.Proofs.Ytdkmclaihojknaa.planDrops
open Go.ChangeShapes Go.WideShapes Go.ChangeAt Go.RowKit
open Go.ChangeMaps (open_string shut_string)
set_option linter.unusedVariables false

open Pl
set_option maxRecDepth 10000
set_option maxHeartbeats 2000000

theorem own : ownKnob Try.prog.godebug = none := by kernel_rfl
theorem laidOut : laidOutB Try.prog = true := by kernel_rfl

theorem walk (v e : Value) (vs : List Pl.Vx) (es : List Pl.Eg) (a1 : Int) (w : World) (hv : Pl.VIn w v vs) (he : Pl.EIn w e es) (w1 : (Lit.int .i64 a1).wf = true) :
    Calls Try.prog 9 #[.agg #[v, e], .int .i64 a1] w fun e w' => e = .returned (.bool true) ∧ Below w.heap.size w w' := by
  have HV : Hid (∀ W, Below w.heap.size w W → VIn W v vs) := Lib.hid fun W hW => TIn.below hv hW
  have HE : Hid (∀ W, Below w.heap.size w W → EIn W e es) := Lib.hid fun W hW => TIn.below he hW
  have FW := Lib.hid (fun W (hW : Below w.heap.size w W) => few_any (HV.out W hW) (HE.out W hW))
  have PL := Lib.hid (fun W (hW : Below w.heap.size w W) => plain_any (HV.out W hW) (HE.out W hW))
  have AW := Lib.hid awake_any
  cases hf : fewB vs es with
  | false =>
    rw [hf] at FW
    obtain ⟨a, c, rfl⟩ := hv.sl
    obtain ⟨a', c', rfl⟩ := he.sl
    clear hf hv he HV HE PL AW
    generalize vs.length = n at *
    generalize es.length = m at *
    go_enter Try.func9, Try.ntmps9
    go_upto_region 1 with fail
    have B0 : Hid (Below w.heap.size w (w.alloc (.cells #[.slice a n c, .slice a' m c'] 25))) := Lib.hid (by repeat' (first | (with_reducible exact Below.refl _ _) | (with_reducible assumption) | (with_reducible refine below_drewN ?_ _) | (with_reducible refine Below.drew ?_) | (with_reducible refine Below.alloc ?_ ?_ _) | (with_reducible refine Below.setCell ?_ ?_ _) | (with_reducible refine then_ ?_ (by with_reducible assumption) ?_) | (with_reducible exact Nat.le_refl _) | (with_reducible exact Nat.le_succ _) | (with_reducible exact Nat.le_succ_of_le (by with_reducible assumption)) | omega | (simp; done) | (simp; omega) | (exact Nat.le_succ _) | (exact Nat.le_succ_of_le (by with_reducible assumption))))
    have O0 : Hid (Own (w.alloc (.cells #[.slice a n c, .slice a' m c'] 25)) w.heap.size 25 #[.slice a n c, .slice a' m c']) := Lib.hid (Own.made _ _ _)
    generalize hW0 : w.alloc (.cells #[.slice a n c, .slice a' m c'] 25) = W0 at B0 O0 ⊢
    clear hW0
    have D0 := B0.out.drew
    refine wp_region_seq (fun W => Below w.heap.size w W ∧ Own W w.heap.size 25 #[.slice a n c, .slice a' m c']) (0 :: 2 :: 3 :: 4 :: 5 :: 6 :: 7 :: 8 :: 9 :: 10 :: 11 :: 12 :: 13 :: 14 :: 15 :: 16 :: 17 :: 18 :: 19 :: 20 :: 21 :: 22 :: 23 :: 24 :: 25 :: 26 :: []) (0 :: []) (0 :: 1 :: 2 :: 3 :: 4 :: 5 :: 6 :: 7 :: 8 :: 9 :: 10 :: 11 :: 12 :: 13 :: 14 :: 15 :: 16 :: 17 :: 18 :: 19 :: 20 :: 21 :: 22 :: 23 :: 24 :: 25 :: 26 :: []) (by kernel_rfl) (by kernel_rfl) rfl (by kernel_rfl) rfl (⟨D0, O0.out⟩) (by simp only [picked, List.filterMap_cons, List.filterMap_nil, List.getElem?_cons_zero, List.getElem?_cons_succ, Option.map_some]; exact rfl) ?_
    iterate 1
      refine seq_want (v := ?_) rfl rfl (fun W hS => ?_) ?_
      rotate_left
      · first
          | (conv => lhs; simp [go_sem]
             first | done | exact rfl)
          | (have hS := hS rfl
             obtain ⟨q0, q1⟩ := pl_two hS.2
             conv => lhs; simp [go_sem, *]
             first | done | exact rfl)
      simp only [Act.put, List.setIfInBounds_toArray, List.set_cons_zero, List.set_cons_succ]
    refine seq_on rfl rfl fun K hK => ?_
    go_wp2_with (go_at_call 12; refine (FW.out _ D0).mono ?_; rintro e y1' ⟨rfl, c1⟩)
    have Y1 := Lib.hid (then_ D0 c1 D0.size)
    have O1 := Lib.hid (O0.out.drawn.keep c1)
    refine hK _ _ (⟨Y1.out, O1.out⟩) ?_
    clear hK K c1
    iterate 2
      refine seq_want (v := ?_) rfl rfl (fun W hS => ?_) ?_
      rotate_left
      · first
          | (conv => lhs; simp [go_sem]
             first | done | exact rfl)
          | (have hS := hS rfl
             obtain ⟨q0, q1⟩ := pl_two hS.2
             conv => lhs; simp [go_sem, *]
             first | done | exact rfl)
      simp only [Act.put, List.setIfInBounds_toArray, List.set_cons_zero, List.set_cons_succ]
    refine seq_skip rfl rfl ?_
    simp only [Act.put, List.setIfInBounds_toArray, List.set_cons_zero, List.set_cons_succ]
    refine seq_skip rfl rfl ?_
    simp only [Act.put, List.setIfInBounds_toArray, List.set_cons_zero, List.set_cons_succ]
    refine seq_skip rfl rfl ?_
    simp only [Act.put, List.setIfInBounds_toArray, List.set_cons_zero, List.set_cons_succ]
    refine seq_skip rfl rfl ?_
    simp only [Act.put, List.setIfInBounds_toArray, List.set_cons_zero, List.set_cons_succ]
    refine seq_skip rfl rfl ?_
    simp only [Act.put, List.setIfInBounds_toArray, List.set_cons_zero, List.set_cons_succ]
    refine seq_skip rfl rfl ?_
    simp only [Act.put, List.setIfInBounds_toArray, List.set_cons_zero, List.set_cons_succ]
    refine seq_skip rfl rfl ?_
    simp only [Act.put, List.setIfInBounds_toArray, List.set_cons_zero, List.set_cons_succ]
    refine seq_skip rfl rfl ?_
    simp only [Act.put, List.setIfInBounds_toArray, List.set_cons_zero, List.set_cons_succ]
    refine seq_skip rfl rfl ?_
    simp only [Act.put, List.setIfInBounds_toArray, List.set_cons_zero, List.set_cons_succ]
    refine seq_skip rfl rfl ?_
    simp only [Act.put, List.setIfInBounds_toArray, List.set_cons_zero, List.set_cons_succ]
    refine seq_skip rfl rfl ?_
    simp only [Act.put, List.setIfInBounds_toArray, List.set_cons_zero, List.set_cons_succ]
    refine seq_skip rfl rfl ?_
    simp only [Act.put, List.setIfInBounds_toArray, List.set_cons_zero, List.set_cons_succ]
    refine seq_skip rfl rfl ?_
    simp only [Act.put, List.setIfInBounds_toArray, List.set_cons_zero, List.set_cons_succ]
    refine seq_skip rfl rfl ?_
    simp only [Act.put, List.setIfInBounds_toArray, List.set_cons_zero, List.set_cons_succ]
    refine seq_skip rfl rfl ?_
    simp only [Act.put, List.setIfInBounds_toArray, List.set_cons_zero, List.set_cons_succ]
    refine seq_skip rfl rfl ?_
    simp only [Act.put, List.setIfInBounds_toArray, List.set_cons_zero, List.set_cons_succ]
    refine seq_skip rfl rfl ?_
    simp only [Act.put, List.setIfInBounds_toArray, List.set_cons_zero, List.set_cons_succ]
    refine seq_skip rfl rfl ?_
    simp only [Act.put, List.setIfInBounds_toArray, List.set_cons_zero, List.set_cons_succ]
    refine seq_skip rfl rfl ?_
    simp only [Act.put, List.setIfInBounds_toArray, List.set_cons_zero, List.set_cons_succ]
    refine seq_skip rfl rfl ?_
    simp only [Act.put, List.setIfInBounds_toArray, List.set_cons_zero, List.set_cons_succ]
    refine seq_skip rfl rfl ?_
    simp only [Act.put, List.setIfInBounds_toArray, List.set_cons_zero, List.set_cons_succ]
    iterate 2
      refine seq_want (v := ?_) rfl rfl (fun W hS => ?_) ?_
      rotate_left
      · first
          | (conv => lhs; simp [go_sem]
             first | done | exact rfl)
          | (have hS := hS rfl
             obtain ⟨q0, q1⟩ := pl_two hS.2
             conv => lhs; simp [go_sem, *]
             first | done | exact rfl)
      simp only [Act.put, List.setIfInBounds_toArray, List.set_cons_zero, List.set_cons_succ]
    refine seq_end ?_
    go_wp2
    go_ret
    exact ⟨rfl, Y1.out⟩
  | true =>
    obtain ⟨n60, m60⟩ := fewB_yes hf
    rw [hf] at FW
    have X0 := Lib.hid (fun W (hW : Below w.heap.size w W) => pcanDrop_any a1 (HV.out W hW) (HE.out W hW) (by omega) (by omega))
    have Z0 := Lib.hid (fun W (hW : Below w.heap.size w W) => rcanDrop_any a1 (HV.out W hW) (HE.out W hW) (by omega) (by omega))
    generalize orArg vs es (cDrop vs es a1) = r0 at X0 Z0
    have X1 := Lib.hid (fun W (hW : Below w.heap.size w W) => pcanCut_any a1 (HV.out W hW) (HE.out W hW) (by omega) (by omega))
    have Z1 := Lib.hid (fun W (hW : Below w.heap.size w W) => rcanCut_any a1 (HV.out W hW) (HE.out W hW) (by omega) (by omega))
    generalize orArg vs es (cCut es a1) = r1 at X1 Z1
    obtain ⟨a, c, rfl⟩ := hv.sl
    obtain ⟨a', c', rfl⟩ := he.sl
    clear hf hv he HV HE n60 m60
    generalize vs.length = n at *
    generalize es.length = m at *
    go_enter Try.func9, Try.ntmps9
    go_upto_region 1 with fail
    have B0 : Hid (Below w.heap.size w (w.alloc (.cells #[.slice a n c, .slice a' m c'] 25))) := Lib.hid (by repeat' (first | (with_reducible exact Below.refl _ _) | (with_reducible assumption) | (with_reducible refine below_drewN ?_ _) | (with_reducible refine Below.drew ?_) | (with_reducible refine Below.alloc ?_ ?_ _) | (with_reducible refine Below.setCell ?_ ?_ _) | (with_reducible refine then_ ?_ (by with_reducible assumption) ?_) | (with_reducible exact Nat.le_refl _) | (with_reducible exact Nat.le_succ _) | (with_reducible exact Nat.le_succ_of_le (by with_reducible assumption)) | omega | (simp; done) | (simp; omega) | (exact Nat.le_succ _) | (exact Nat.le_succ_of_le (by with_reducible assumption))))
    have O0 : Hid (Own (w.alloc (.cells #[.slice a n c, .slice a' m c'] 25)) w.heap.size 25 #[.slice a n c, .slice a' m c']) := Lib.hid (Own.made _ _ _)
    generalize hW0 : w.alloc (.cells #[.slice a n c, .slice a' m c'] 25) = W0 at B0 O0 ⊢
    clear hW0
    have D0 := B0.out.drew
    refine wp_region_seq (fun W => Below w.heap.size w W ∧ Own W w.heap.size 25 #[.slice a n c, .slice a' m c']) (0 :: 2 :: 3 :: 5 :: 6 :: 8 :: 10 :: 11 :: 13 :: 14 :: 15 :: 16 :: 18 :: 20 :: 21 :: 23 :: 24 :: 25 :: 26 :: []) (0 :: 6 :: 10 :: 16 :: 20 :: []) (0 :: 1 :: 2 :: 3 :: 4 :: 5 :: 6 :: 8 :: 10 :: 11 :: 7 :: 9 :: 12 :: 13 :: 14 :: 15 :: 16 :: 18 :: 20 :: 21 :: 17 :: 19 :: 22 :: 23 :: 24 :: 25 :: 26 :: []) (by kernel_rfl) (by kernel_rfl) rfl (by kernel_rfl) rfl (⟨D0, O0.out⟩) (by simp only [picked, List.filterMap_cons, List.filterMap_nil, List.getElem?_cons_zero, List.getElem?_cons_succ, Option.map_some]; exact rfl) ?_
    iterate 1
      refine seq_want (v := ?_) rfl rfl (fun W hS => ?_) ?_
      rotate_left
      · first
          | (conv => lhs; simp [go_sem]
             first | done | exact rfl)
          | (have hS := hS rfl
             obtain ⟨q0, q1⟩ := pl_two hS.2
             conv => lhs; simp [go_sem, *]
             first | done | exact rfl)
      simp only [Act.put, List.setIfInBounds_toArray, List.set_cons_zero, List.set_cons_succ]
    refine seq_on rfl rfl fun K hK => ?_
    go_wp2_with (go_at_call 12; refine (FW.out _ D0).mono ?_; rintro e y1' ⟨rfl, c1⟩)
    have Y1 := Lib.hid (then_ D0 c1 D0.size)
    have O1 := Lib.hid (O0.out.drawn.keep c1)
    refine hK _ _ (⟨Y1.out, O1.out⟩) ?_
    clear hK K c1
    iterate 2
      refine seq_want (v := ?_) rfl rfl (fun W hS => ?_) ?_
      rotate_left
      · first
          | (conv => lhs; simp [go_sem]
             first | done | exact rfl)
          | (have hS := hS rfl
             obtain ⟨q0, q1⟩ := pl_two hS.2
             conv => lhs; simp [go_sem, *]
             first | done | exact rfl)
      simp only [Act.put, List.setIfInBounds_toArray, List.set_cons_zero, List.set_cons_succ]
    refine seq_on rfl rfl fun K hK => ?_
    go_wp2_with (go_at_call 11; refine (AW.out _).mono ?_; rintro e y2' ⟨rfl, c2⟩)
    have Y2 := Lib.hid (then_ Y1.out c2 Y1.out.size)
    have O2 := Lib.hid (O1.out.keep c2)
    refine hK _ _ (⟨Y2.out, O2.out⟩) ?_
    clear hK K c2
    iterate 5
      refine seq_want (v := ?_) rfl rfl (fun W hS => ?_) ?_
      rotate_left
      · first
          | (conv => lhs; simp [go_sem]
             first | done | exact rfl)
          | (have hS := hS rfl
             obtain ⟨q0, q1⟩ := pl_two hS.2
             conv => lhs; simp [go_sem, *]
             first | done | exact rfl)
      simp only [Act.put, List.setIfInBounds_toArray, List.set_cons_zero, List.set_cons_succ]
    refine seq_on rfl rfl fun K hK => ?_
    go_wp2_with (go_at_call 14; refine (PL.out _ Y2.out).mono ?_; rintro e y3' ⟨rfl, c3⟩)
    have Y3 := Lib.hid (then_ Y2.out c3 Y2.out.size)
    have O3 := Lib.hid (O2.out.keep c3)
    refine hK _ _ (⟨Y3.out, O3.out⟩) ?_
    clear hK K c3
    refine seq_on rfl rfl fun K hK => ?_
    go_wp2_with (go_at_call 17; refine (X0.out _ Y3.out).mono ?_; rintro e y4' ⟨rfl, c4⟩)
    have Y4 := Lib.hid (then_ Y3.out c4 Y3.out.size)
    have O4 := Lib.hid (O3.out.keep c4)
    refine hK _ _ (⟨Y4.out, O4.out⟩) ?_
    clear hK K c4
    refine seq_on rfl rfl fun K hK => ?_
    go_wp2_with (go_at_call 34; refine (Z0.out _ Y4.out).mono ?_; rintro e y5' ⟨rfl, c5⟩)
    have Y5 := Lib.hid (then_ Y4.out c5 Y4.out.size)
    have O5 := Lib.hid (O4.out.keep c5)
    refine hK _ _ (⟨Y5.out, O5.out⟩) ?_
    clear hK K c5
    iterate 7
      refine seq_want (v := ?_) rfl rfl (fun W hS => ?_) ?_
      rotate_left
      · first
          | (conv => lhs; simp [go_sem]
             first | done | exact rfl)
          | (have hS := hS rfl
             obtain ⟨q0, q1⟩ := pl_two hS.2
             conv => lhs; simp [go_sem, *]
             first | done | exact rfl)
      simp only [Act.put, List.setIfInBounds_toArray, List.set_cons_zero, List.set_cons_succ]
    refine seq_on rfl rfl fun K hK => ?_
    go_wp2_with (go_at_call 14; refine (PL.out _ Y5.out).mono ?_; rintro e y6' ⟨rfl, c6⟩)
    have Y6 := Lib.hid (then_ Y5.out c6 Y5.out.size)
    have O6 := Lib.hid (O5.out.keep c6)
    refine hK _ _ (⟨Y6.out, O6.out⟩) ?_
    clear hK K c6
    refine seq_on rfl rfl fun K hK => ?_
    go_wp2_with (go_at_call 18; refine (X1.out _ Y6.out).mono ?_; rintro e y7' ⟨rfl, c7⟩)
    have Y7 := Lib.hid (then_ Y6.out c7 Y6.out.size)
    have O7 := Lib.hid (O6.out.keep c7)
    refine hK _ _ (⟨Y7.out, O7.out⟩) ?_
    clear hK K c7
    refine seq_on rfl rfl fun K hK => ?_
    go_wp2_with (go_at_call 35; refine (Z1.out _ Y7.out).mono ?_; rintro e y8' ⟨rfl, c8⟩)
    have Y8 := Lib.hid (then_ Y7.out c8 Y7.out.size)
    have O8 := Lib.hid (O7.out.keep c8)
    refine hK _ _ (⟨Y8.out, O8.out⟩) ?_
    clear hK K c8
    iterate 4
      refine seq_want (v := ?_) rfl rfl (fun W hS => ?_) ?_
      rotate_left
      · first
          | (conv => lhs; simp [go_sem]
             first | done | exact rfl)
          | (have hS := hS rfl
             obtain ⟨q0, q1⟩ := pl_two hS.2
             conv => lhs; simp [go_sem, *]
             first | done | exact rfl)
      simp only [Act.put, List.setIfInBounds_toArray, List.set_cons_zero, List.set_cons_succ]
    refine seq_end ?_
    go_wp2
    go_ret
    exact ⟨rfl, Y8.out⟩

set_option maxRecDepth 100000 in
theorem lifted (os : Os) (started : os.Started) (H : Type) (enc : TypeId × Value → H) :
    ReturnsInHanded {} Try.checked os 9 .any (Rows.planDropsSpec.pre6 enc Try.prog Try.f9 Rows.planDropsRow.domain false) (Rows.planDropsSpec.post enc Try.prog Try.f9 false true false false) := by
  refine returnsInHanded_of_change (C := Try.checked) own started (by kernel_rfl) Try.func9
    (ChangeSpec.witness6 (enc := enc) (C := Try.checked) false ⟨#[], #[.agg #[.slice none 0 0, .slice none 0 0], .int .i64 0], []⟩ 8 (by kernel_rfl) (by kernel_rfl) (by kernel_rfl) (by kernel_rfl)) ?_
  intro W base args ds gs before hval0 hW hcnd _
  have hval : ∀ (j : Nat) t v, Try.f9.params[j]? = some t → args[j]? = some v → Value.okWide Try.prog W .any base t v := hval0
  have hW' := hW
  obtain ⟨p, q, hA0, hV, rfl, hfz, hnd⟩ := hW
  have hA : DataW.TrodAll enc Try.prog W 0 (fun _ => true) true Try.f9.params.toList args.toList ds p := hA0
  rw [Try.params9] at hA hval
  obtain ⟨v0, vs0, d0, ds0, p0, q0, hargs, rfl, rfl, h0, r0⟩ := trodAll_cons hA
  obtain ⟨v1, vs1, d1, ds1, p1, q1, rfl, rfl, rfl, h1, r1⟩ := trodAll_cons r0
  obtain ⟨rfl, rfl, rfl⟩ := trodAll_nil r1
  obtain rfl : args = #[v0, v1] := by cases args; simp_all
  obtain ⟨rfl, rfl⟩ := trodVars_none hV
  have k0 := h0
  have lt0 : ∀ x ∈ p0, x.block < W.heap.size := by obtain ⟨m, hm⟩ := k0; exact DataW.trod_lt m _ _ _ hm
  obtain ⟨v, e, vs, es, rfl, hv, he⟩ := Pl.open_plan (hval 0 25 v0 rfl rfl) h0
  obtain ⟨a1, rfl, rfl, rfl, w1⟩ := open_int Try.underlying3 (hval 1 3 v1 rfl rfl) h1
  clear hA0 hval0
  refine (walk v e vs es a1 W hv he w1).mono fun e W' ⟨he, bel⟩ => ?_
  subst he
  exact ⟨_, rfl, _, _, _, [], _, [], hW', trodAll_mk1 (shut_bool Try.underlying4 _), (trodAll_cons_mk (Below.trod laidOut (by kernel_rfl) (of_decide_eq_true (by kernel_rfl)) k0 bel lt0) (trodAll_cons_mk (shut_int Try.underlying3 w1) trodAll_mk0)), rfl, bel.frame _, fun h => by cases h⟩

theorem over : Rows.planDropsRow.holds Try.pinned (OpenSpec.ofChange Rows.planDropsSpec) :=
  OpenClaim.holds_of_wide 9 Try.f9 rfl rfl rfl rfl rfl rfl rfl ⟨rfl, rfl, rfl, rfl, rfl⟩ rfl rfl rfl rfl rfl (by kernel_rfl) Try.func9 (by kernel_rfl)
    (of_decide_eq_true (by kernel_rfl)) (by unfold Func.isWrapper; first | (rw [if_pos (by decide +kernel)]; kernel_rfl) | (rw [if_neg (by decide +kernel)]; exact ⟨rfl, rfl⟩))
    (fun os started H enc _ => lifted os started H enc)

/-- THE STATEMENT -/
theorem proved : Rows.PlanDropsSaid := over
#print axioms proved
end Go.Proofs.Ytdkmclaihojknaa.planDrops
