/- THE LAW PlanDegrees: how many edges end at any vertex of any plan is the document's, and all together they are twice the edges of a right one. No condition: whatever the plan and the number are. -/
import Derived.Test.YtdkmclaihojknaaRows
import Derived.Test.YtdkmclaihojknaaBytes
import Derived.Test.YtdkmclaihojknaaPlnL
import Derived.Test.YtdkmclaihojknaaPlnU
import Derived.Test.YtdkmclaihojknaaPlnT
import Derived.Test.YtdkmclaihojknaaPlnAct
import Derived.WalkKit
import Derived.ProofKit
import Derived.OpenShut
import Derived.ShutString
import Derived.ChangeOld
import Derived.Below
import Derived.SliceStrings
namespace Go.Proofs.Ytdkmclaihojknaa.planDegrees
open Go.ChangeShapes Go.WideShapes Go.ChangeAt Go.RowKit
open Go.ChangeMaps (open_string shut_string)
set_option linter.unusedVariables false

open Pl
set_option maxRecDepth 10000
set_option maxHeartbeats 2000000
theorem deg_le (es : List Eg) (i : Int) : deg es i ≤ 2 * es.length := by
  induction es with
  | nil => exact Nat.le_refl _
  | cons e r ih =>
    rw [deg_cons, List.length_cons]
    have : dg e i ≤ 2 := by unfold dg; split <;> split <;> omega
    omega
def sumN (vs : List Vx) (es : List Eg) (k : Nat) : Nat := ((vs.take k).map fun v => deg es v.id).sum
theorem sumN_up (vs : List Vx) (es : List Eg) (k : Nat) (hk : k < vs.length) : sumN vs es (k + 1) = sumN vs es k + deg es (vs[k]'hk).id := by
  unfold sumN
  rw [List.take_add_one, List.getElem?_eq_getElem hk, List.map_append, List.sum_append]
  simp only [Option.toList_some, List.map_cons, List.map_nil, List.sum_cons, List.sum_nil, Nat.add_zero]
theorem sumN_all {vs : List Vx} {es : List Eg} (h : Rt vs es) : sumN vs es vs.length = 2 * es.length := by
  unfold sumN
  rw [List.take_length]
  exact deg_sum (rt_iff.1 h).1.rise fun e he => ((rt_iff.1 h).2.ends e he).2

theorem own : ownKnob Try.prog.godebug = none := by kernel_rfl
theorem laidOut : laidOutB Try.prog = true := by kernel_rfl

theorem walk (v e : Value) (vs : List Pl.Vx) (es : List Pl.Eg) (a1 : Int) (w : World) (hv : Pl.VIn w v vs) (he : Pl.EIn w e es) (w1 : (Lit.int .i64 a1).wf = true) :
    Calls Try.prog 10 #[.agg #[v, e], .int .i64 a1] w fun e w' => e = .returned (.bool true) ∧ Below w.heap.size w w' := by
  have HV : Hid (∀ W, Below w.heap.size w W → VIn W v vs) := Lib.hid fun W hW => TIn.below hv hW
  have HE : Hid (∀ W, Below w.heap.size w W → EIn W e es) := Lib.hid fun W hW => TIn.below he hW
  have FW := Lib.hid (fun W (hW : Below w.heap.size w W) => few_any (HV.out W hW) (HE.out W hW))
  have PL := Lib.hid (fun W (hW : Below w.heap.size w W) => plain_any (HV.out W hW) (HE.out W hW))
  have AW := Lib.hid awake_any
  have RG0 := fun (n60 : vs.length ≤ 100000) (m60 : es.length ≤ 100000) => Lib.hid (fun W (hW : Below w.heap.size w W) => rright_any (HV.out W hW) (HE.out W hW) n60 m60)
  obtain ⟨a, cap, hvs, hc1, hc2, -, hcl0⟩ := TIn.open_ hv
  obtain ⟨a', c', hes⟩ := he.sl
  have DG0 := fun (m60 : es.length ≤ 1000000) => Lib.hid (fun W (hW : Below w.heap.size w W) i => degree_any v e es i W (HE.out W hW) ⟨a, vs.length, cap, hvs⟩ m60)
  have RD0 := fun (m60 : es.length ≤ 100000) => Lib.hid (fun W (hW : Below w.heap.size w W) i => rdegree_any v e es i W (HE.out W hW) ⟨a, vs.length, cap, hvs⟩ m60)
  have HC := Lib.hid hcl0
  clear hcl0
  subst hvs hes
  cases hf : fewB vs es with
  | false =>
    rw [hf] at FW
    clear hf hv he HV HE PL RG0 DG0 RD0 HC hc1 hc2
    generalize vs.length = n at *
    generalize es.length = m at *
    go_enter Try.func10, Try.ntmps10
    go_upto_region 1 with fail
    have B0 : Hid (Below w.heap.size w (w.alloc (.cells #[.slice a n cap, .slice a' m c'] 25))) := Lib.hid (by repeat' (first | (with_reducible exact Below.refl _ _) | (with_reducible assumption) | (with_reducible refine below_drewN ?_ _) | (with_reducible refine Below.drew ?_) | (with_reducible refine Below.alloc ?_ ?_ _) | (with_reducible refine Below.setCell ?_ ?_ _) | (with_reducible refine then_ ?_ (by with_reducible assumption) ?_) | (with_reducible exact Nat.le_refl _) | (with_reducible exact Nat.le_succ _) | (with_reducible exact Nat.le_succ_of_le (by with_reducible assumption)) | omega | (simp; done) | (simp; omega) | (exact Nat.le_succ _) | (exact Nat.le_succ_of_le (by with_reducible assumption))))
    have O0 : Hid (Own (w.alloc (.cells #[.slice a n cap, .slice a' m c'] 25)) w.heap.size 25 #[.slice a n cap, .slice a' m c']) := Lib.hid (Own.made _ _ _)
    generalize hW0 : w.alloc (.cells #[.slice a n cap, .slice a' m c'] 25) = W0 at B0 O0 ⊢
    clear hW0
    obtain ⟨q0, q1⟩ := pl_two O0.out
    go_wp2_with (first | (go_at_call 12; refine (FW.out _ B0.out).mono ?_; rintro e y1' ⟨rfl, c1⟩; have Y1 := Lib.hid (then_ B0.out c1 B0.out.size); clear c1) | (go_at_call 11; refine (AW.out _).mono ?_; rintro e y2' ⟨rfl, c2⟩; have Y2 := Lib.hid (then_ Y1.out c2 Y1.out.size); clear c2))
    go_ret
    exact ⟨rfl, Y2.out⟩
  | true =>
    obtain ⟨n60, m60⟩ := fewB_yes hf
    rw [hf] at FW
    have RG := RG0 (by omega) (by omega)
    have DG := DG0 (by omega)
    have RD := RD0 (by omega)
    have X0 := Lib.hid (fun W hW => DG.out W hW a1)
    have Z0 := Lib.hid (fun W hW => RD.out W hW a1)
    generalize ((deg es a1 : Nat) : Int) = r0 at X0 Z0
    have LE := Lib.hid (fun i => deg_le es i)
    have SM := Lib.hid (fun h => sumN_all (rtB_iff.1 h) : rtB vs es = true → sumN vs es vs.length = 2 * es.length)
    clear hf hv he HV HE RG0 DG0 RD0 RD hc1 hc2
    obtain ⟨n, hn⟩ : ∃ n, n = vs.length := ⟨_, rfl⟩
    obtain ⟨m, hm⟩ : ∃ m, m = es.length := ⟨_, rfl⟩
    rw [← hn] at FW PL RG DG X0 Z0 n60 SM ⊢
    rw [← hm] at FW PL RG DG X0 Z0 m60 SM LE ⊢
    have HN := Lib.hid hn
    clear hn hm
    go_enter Try.func10, Try.ntmps10
    go_upto_region 1 with fail
    have B0 : Hid (Below w.heap.size w (w.alloc (.cells #[.slice a n cap, .slice a' m c'] 25))) := Lib.hid (by repeat' (first | (with_reducible exact Below.refl _ _) | (with_reducible assumption) | (with_reducible refine below_drewN ?_ _) | (with_reducible refine Below.drew ?_) | (with_reducible refine Below.alloc ?_ ?_ _) | (with_reducible refine Below.setCell ?_ ?_ _) | (with_reducible refine then_ ?_ (by with_reducible assumption) ?_) | (with_reducible exact Nat.le_refl _) | (with_reducible exact Nat.le_succ _) | (with_reducible exact Nat.le_succ_of_le (by with_reducible assumption)) | omega | (simp; done) | (simp; omega) | (exact Nat.le_succ _) | (exact Nat.le_succ_of_le (by with_reducible assumption))))
    have O0 : Hid (Own (w.alloc (.cells #[.slice a n cap, .slice a' m c'] 25)) w.heap.size 25 #[.slice a n cap, .slice a' m c']) := Lib.hid (Own.made _ _ _)
    generalize hW0 : w.alloc (.cells #[.slice a n cap, .slice a' m c'] 25) = W0 at B0 O0 ⊢
    clear hW0
    have KB : Hid (∀ W, Below W0.heap.size W0 W → Below w.heap.size w W ∧ Own W w.heap.size 25 #[.slice a n cap, .slice a' m c']) := Lib.hid fun W hW => ⟨then_ B0.out hW B0.out.size, O0.out.keep hW⟩
    obtain ⟨q0, q1⟩ := pl_two O0.out
    go_upto_region 3 with (go_at_call 12; refine (FW.out _ B0.out).mono ?_; rintro e y1' ⟨rfl, c1⟩; have Y1 := Lib.hid (then_ (Below.refl W0.heap.size W0) c1 (Nat.le_refl _)); clear c1)
    have D1 := Y1.out.drew
    clear q0 q1
    refine wp_region_seq (fun W => Below W0.heap.size W0 W) (0 :: 2 :: 4 :: 5 :: 7 :: []) (0 :: 4 :: []) (0 :: 2 :: 4 :: 5 :: 1 :: 3 :: 6 :: 7 :: []) (by kernel_rfl) (by kernel_rfl) rfl (by kernel_rfl) rfl (D1) (by simp only [picked, List.filterMap_cons, List.filterMap_nil, List.getElem?_cons_zero, List.getElem?_cons_succ, Option.map_some]; exact rfl) ?_
    iterate 4
      refine seq_want (v := ?_) rfl rfl (fun W hS => ?_) ?_
      rotate_left
      · first
          | (conv => lhs; simp [go_sem]
             first | done | exact rfl)
          | (have hS := hS rfl
             obtain ⟨hbw, h1⟩ := KB.out _ hS
             obtain ⟨q0, q1⟩ := pl_two h1
             conv => lhs; simp [go_sem, *]
             first | done | exact rfl)
      simp only [Act.put, List.setIfInBounds_toArray, List.set_cons_zero, List.set_cons_succ]
    refine seq_on rfl rfl fun K hK => ?_
    go_wp2_with (go_at_call 14; refine (PL.out _ (KB.out _ D1).1).mono ?_; rintro e y2' ⟨rfl, c2⟩)
    have Y2 := Lib.hid (then_ D1 c2 D1.size)
    refine hK _ _ Y2.out ?_
    clear hK K c2
    refine seq_on rfl rfl fun K hK => ?_
    go_wp2_with (go_at_call 29; refine (X0.out _ (KB.out _ Y2.out).1).mono ?_; rintro e y3' ⟨rfl, c3⟩)
    have Y3 := Lib.hid (then_ Y2.out c3 Y2.out.size)
    refine hK _ _ Y3.out ?_
    clear hK K c3
    refine seq_on rfl rfl fun K hK => ?_
    go_wp2_with (go_at_call 30; refine (Z0.out _ (KB.out _ Y3.out).1).mono ?_; rintro e y4' ⟨rfl, c4⟩)
    have Y4 := Lib.hid (then_ Y3.out c4 Y3.out.size)
    refine hK _ _ Y4.out ?_
    clear hK K c4
    iterate 1
      refine seq_want (v := ?_) rfl rfl (fun W hS => ?_) ?_
      rotate_left
      · first
          | (conv => lhs; simp [go_sem]
             first | done | exact rfl)
          | (have hS := hS rfl
             obtain ⟨hbw, h1⟩ := KB.out _ hS
             obtain ⟨q0, q1⟩ := pl_two h1
             conv => lhs; simp [go_sem, *]
             first | done | exact rfl)
      simp only [Act.put, List.setIfInBounds_toArray, List.set_cons_zero, List.set_cons_succ]
    refine seq_end ?_
    obtain ⟨q0, q1⟩ := pl_two (KB.out _ Y4.out).2
    cases hr : rtB vs es with
    | false =>
      rw [hr] at RG
      clear SM
      go_wp2_with (first | (go_at_call 24; refine (RG.out _ (KB.out _ Y4.out).1).mono ?_; rintro e y5' ⟨rfl, c5⟩; have Y5 := Lib.hid (then_ Y4.out c5 Y4.out.size); clear c5) | (go_at_call 11; refine (AW.out _).mono ?_; rintro e y6' ⟨rfl, c6⟩; have Y6 := Lib.hid (then_ Y5.out c6 Y5.out.size); clear c6))
      go_ret
      exact ⟨rfl, (KB.out _ Y6.out).1⟩
    | true =>
      rw [hr] at RG
      have SM2 := Lib.hid (SM.out hr)
      clear SM hr
      go_wp2_with (go_at_call 24; refine (RG.out _ (KB.out _ Y4.out).1).mono ?_; rintro e y5' ⟨rfl, c5⟩; have Y5 := Lib.hid (then_ Y4.out c5 Y4.out.size); clear c5)
      go_loopw [5, 6] (fun t j wr => ∃ k d : Nat, k ≤ n ∧ d ≤ 120 * k ∧ j = .int .i64 (k : Int) ∧ t = .int .i64 (d : Int) ∧ Hid (d = sumN vs es k) ∧ Hid (Below W0.heap.size W0 wr)) (fun t j wr => n - (intOf j).toNat)
      case atStart => exact ⟨0, 0, by omega, by omega, rfl, rfl, Lib.hid rfl, Y5⟩
      case round =>
        clear q0 q1
        obtain ⟨k, d, hk, hd, rfl, rfl, HD, HQ⟩ := hrel
        obtain ⟨q0, q1⟩ := pl_two (KB.out _ HQ.out).2
        by_cases hlk : k < n
        · have hkl : k < vs.length := by rw [← HN.out]; exact hlk
          obtain ⟨b7, o7, rfl, hb7, hc7⟩ := HC.out k hkl
          have H7 := Lib.hid hc7
          have HS := Lib.hid (sumN_up vs es k hkl)
          obtain ⟨y0, hy⟩ : ∃ y0, y0 = vs[k]'hkl := ⟨_, rfl⟩
          rw [← hy] at H7 HS
          clear hy hc7 hkl
          obtain ⟨y1, y2, y3⟩ := y0
          simp only at H7 HS
          have X9 := Lib.hid (fun W hW => DG.out W hW y1)
          have L9 := LE.out y1
          obtain ⟨r9, hr9⟩ : ∃ r9, r9 = deg es y1 := ⟨_, rfl⟩
          rw [← hr9] at X9 HS L9
          clear hr9
          have k9 : (k : Int) < (n : Int) := by omega
          have x9 : IntKind.i64.wrap ((d : Int) + (r9 : Int)) = ((d + r9 : Nat) : Int) := by rw [IntKind.wrap_i64] <;> omega
          have E2 : Below W0.heap.size W0 wr.drew := HQ.out.drew
          go_upto_region 11 with fail
          clear q0 q1
          refine wp_region_seq (fun W => Below W0.heap.size W0 W) (0 :: 1 :: 3 :: 4 :: 5 :: 6 :: 7 :: 8 :: 10 :: 11 :: []) (1 :: 4 :: 8 :: []) (0 :: 1 :: 3 :: 4 :: 5 :: 6 :: 7 :: 8 :: 2 :: 9 :: 10 :: 11 :: []) (by kernel_rfl) (by kernel_rfl) rfl (by kernel_rfl) rfl (E2) (by simp only [picked, List.filterMap_cons, List.filterMap_nil, List.getElem?_cons_zero, List.getElem?_cons_succ, Option.map_some]; exact rfl) ?_
          iterate 8
            refine seq_want (v := ?_) rfl rfl (fun W hS => ?_) ?_
            rotate_left
            · first
                | (conv => lhs; simp [go_sem, k9, x9]
                   first | done | exact rfl)
                | (have hS := hS rfl
                   obtain ⟨hbw, h1⟩ := KB.out _ hS
                   obtain ⟨q0, q1⟩ := pl_two h1
                   obtain ⟨f1, f2, f3⟩ := H7.out _ hbw
                   conv => lhs; simp [go_sem, *, k9, x9]
                   first | done | exact rfl)
            simp only [Act.put, List.setIfInBounds_toArray, List.set_cons_zero, List.set_cons_succ]
          refine seq_on rfl rfl fun K hK => ?_
          go_wp2_with (go_at_call 14; refine (PL.out _ (KB.out _ E2).1).mono ?_; rintro e y6' ⟨rfl, c6⟩)
          have Y6 := Lib.hid (then_ E2 c6 E2.size)
          refine hK _ _ Y6.out ?_
          clear hK K c6
          refine seq_on rfl rfl fun K hK => ?_
          go_wp2_with (go_at_call 29; refine (X9.out _ (KB.out _ Y6.out).1).mono ?_; rintro e y7' ⟨rfl, c7⟩)
          have Y7 := Lib.hid (then_ Y6.out c7 Y6.out.size)
          refine hK _ _ Y7.out ?_
          clear hK K c7
          iterate 2
            refine seq_want (v := ?_) rfl rfl (fun W hS => ?_) ?_
            rotate_left
            · first
                | (conv => lhs; simp [go_sem, k9, x9]
                   first | done | exact rfl)
                | (have hS := hS rfl
                   obtain ⟨hbw, h1⟩ := KB.out _ hS
                   obtain ⟨q0, q1⟩ := pl_two h1
                   obtain ⟨f1, f2, f3⟩ := H7.out _ hbw
                   conv => lhs; simp [go_sem, *, k9, x9]
                   first | done | exact rfl)
            simp only [Act.put, List.setIfInBounds_toArray, List.set_cons_zero, List.set_cons_succ]
          refine seq_end ?_
          go_wp2
          go_roundw
          case rel => exact ⟨k + 1, d + r9, by omega, by omega, by go_num, by go_num, Lib.hid (by rw [HS.out, ← HD.out]), Y7⟩
          case measure => simp [intOf] <;> omega
        · have e9 : d = 2 * m := by
            rw [HD.out, ← SM2.out]
            congr 1
            omega
          subst e9
          have x9 : IntKind.i64.wrap (2 * (m : Int)) = ((2 * m : Nat) : Int) := by rw [IntKind.wrap_i64] <;> omega
          clear HD SM2 LE
          go_wp2_with (go_at_call 11; refine (AW.out _).mono ?_; rintro e y8' ⟨rfl, c8⟩; have Y8 := Lib.hid (then_ HQ.out c8 HQ.out.size); clear c8; have q := pl_two (KB.out _ Y8.out).2; obtain ⟨q0, q1⟩ := q)
          go_ret
          exact ⟨rfl, (KB.out _ Y8.out).1⟩

set_option maxRecDepth 100000 in
theorem lifted (os : Os) (started : os.Started) (H : Type) (enc : TypeId × Value → H) :
    ReturnsInHanded {} Try.checked os 10 .any (Rows.planDegreesSpec.pre6 enc Try.prog Try.f10 Rows.planDegreesRow.domain false) (Rows.planDegreesSpec.post enc Try.prog Try.f10 false true false false) := by
  refine returnsInHanded_of_change (C := Try.checked) own started (by kernel_rfl) Try.func10
    (ChangeSpec.witness6 (enc := enc) (C := Try.checked) false ⟨#[], #[.agg #[.slice none 0 0, .slice none 0 0], .int .i64 0], []⟩ 8 (by kernel_rfl) (by kernel_rfl) (by kernel_rfl) (by kernel_rfl)) ?_
  intro W base args ds gs before hval0 hW hcnd _
  have hval : ∀ (j : Nat) t v, Try.f10.params[j]? = some t → args[j]? = some v → Value.okWide Try.prog W .any base t v := hval0
  have hW' := hW
  obtain ⟨p, q, hA0, hV, rfl, hfz, hnd⟩ := hW
  have hA : DataW.TrodAll enc Try.prog W 0 (fun _ => true) true Try.f10.params.toList args.toList ds p := hA0
  rw [Try.params10] at hA hval
  obtain ⟨v0, vs0, d0, ds0, p0, q0, hargs, rfl, rfl, h0, r0⟩ := trodAll_cons hA
  obtain ⟨v1, vs1, d1, ds1, p1, q1, rfl, rfl, rfl, h1, r1⟩ := trodAll_cons r0
  obtain ⟨rfl, rfl, rfl⟩ := trodAll_nil r1
  obtain rfl : args = #[v0, v1] := by cases args; simp_all
  obtain ⟨rfl, rfl⟩ := trodVars_none hV
  have k0 := h0
  have lt0 : ∀ x ∈ p0, x.block < W.heap.size := by obtain ⟨m, hm⟩ := k0; exact DataW.trod_lt m _ _ _ hm
  obtain ⟨v, e, vs, es, rfl, hv, he⟩ := Pl.open_plan (hval 0 25 v0 rfl rfl) h0
  obtain ⟨a1, rfl, rfl, rfl, w1⟩ := open_int Try.underlying3 (hval 1 3 v1 rfl rfl) h1
  clear hA0 hval0
  refine (walk v e vs es a1 W hv he w1).mono fun e W' ⟨he, bel⟩ => ?_
  subst he
  exact ⟨_, rfl, _, _, _, [], _, [], hW', trodAll_mk1 (shut_bool Try.underlying4 _), (trodAll_cons_mk (Below.trod laidOut (by kernel_rfl) (of_decide_eq_true (by kernel_rfl)) k0 bel lt0) (trodAll_cons_mk (shut_int Try.underlying3 w1) trodAll_mk0)), rfl, bel.frame _, fun h => by cases h⟩

theorem over : Rows.planDegreesRow.holds Try.pinned (OpenSpec.ofChange Rows.planDegreesSpec) :=
  OpenClaim.holds_of_wide 10 Try.f10 rfl rfl rfl rfl rfl rfl rfl ⟨rfl, rfl, rfl, rfl, rfl⟩ rfl rfl rfl rfl rfl (by kernel_rfl) Try.func10 (by kernel_rfl)
    (of_decide_eq_true (by kernel_rfl)) (by unfold Func.isWrapper; first | (rw [if_pos (by decide +kernel)]; kernel_rfl) | (rw [if_neg (by decide +kernel)]; exact ⟨rfl, rfl⟩))
    (fun os started H enc _ => lifted os started H enc)

/-- THE STATEMENT -/
theorem proved : Rows.PlanDegreesSaid := over
#print axioms proved
end Go.Proofs.Ytdkmclaihojknaa.planDegrees
