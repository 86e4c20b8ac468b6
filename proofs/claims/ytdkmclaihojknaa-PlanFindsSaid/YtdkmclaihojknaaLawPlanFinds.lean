/- THE LAW PlanFinds: vertices and edges by their numbers, and how many edges end at one, are the document's. No condition: whatever the plan and the number are. -/
import Derived.Test.YtdkmclaihojknaaRows
import Derived.Test.YtdkmclaihojknaaBytes
import Derived.Test.YtdkmclaihojknaaPlnL
import Derived.Test.YtdkmclaihojknaaPlnR
import Derived.Test.YtdkmclaihojknaaPlnT
import Derived.Test.YtdkmclaihojknaaPlnAct
import Derived.WalkKit
import Derived.ProofKit
import Derived.OpenShut
import Derived.ShutString
import Derived.ChangeOld
import Derived.Below
import Derived.SliceStrings
namespace Go.Proofs.Ytdkmclaihojknaa.planFinds
open Go.ChangeShapes Go.WideShapes Go.ChangeAt Go.RowKit
open Go.ChangeMaps (open_string shut_string)
set_option linter.unusedVariables false

open Pl
set_option maxRecDepth 10000
set_option maxHeartbeats 2000000
theorem eq_Vx (a1 a2 a3 : Int) (w : World) : (Op.equalIn 10000 31 (.agg #[.int .i64 a1, .int .i64 a2, .int .i64 a3]) (.agg #[.int .i64 a1, .int .i64 a2, .int .i64 a3])).run Try.prog w = .ok true w := by
  have u3 := Try.underlying3
  have a3' := Try.isAgg3
  have z3 := Try.sizeOf3
  have a4 := Try.isAgg27
  have z4 := Try.sizeOf27
  rw [show (10000 : Nat) = 9999 + 1 from rfl, run_equalIn_struct w 9999 31 _ _ (by simp [Program.fieldsOf, Try.underlying31]) (by kernel_rfl)]
  simp only [Program.fieldsOf, Try.underlying31]
  simp [Op.eqFields, go_sem, part, u3, a3', z3, a4, z4]
theorem eq_Eg (a1 a2 a3 : Int) (w : World) : (Op.equalIn 10000 33 (.agg #[.int .i64 a1, .int .i64 a2, .int .i64 a3]) (.agg #[.int .i64 a1, .int .i64 a2, .int .i64 a3])).run Try.prog w = .ok true w := by
  have u3 := Try.underlying3
  have a3' := Try.isAgg3
  have z3 := Try.sizeOf3
  rw [show (10000 : Nat) = 9999 + 1 from rfl, run_equalIn_struct w 9999 33 _ _ (by simp [Program.fieldsOf, Try.underlying33]) (by kernel_rfl)]
  simp only [Program.fieldsOf, Try.underlying33]
  simp [Op.eqFields, go_sem, part, u3, a3', z3]
/-- what is found at a number: three numbers, is it there, the place -/
def At3 (w : World) (a : Option Addr) (n : Nat) (is : Bool) (p1 p2 p3 ix : Int) : Prop := (is = true ∧ ∃ (k : Nat) (b o : Nat), ix = (k : Int) ∧ k < n ∧ a = some ⟨b, o, none⟩ ∧ b < w.heap.size ∧ ∀ W, Below w.heap.size w W → W.cell? ⟨b, o + k * 3, none⟩ = some (.int .i64 p1) ∧ W.cell? ⟨b, o + k * 3 + 1, none⟩ = some (.int .i64 p2) ∧ W.cell? ⟨b, o + k * 3 + 2, none⟩ = some (.int .i64 p3)) ∨ (is = false ∧ ix = -1 ∧ p1 = 0 ∧ p2 = 0 ∧ p3 = 0)

theorem own : ownKnob Try.prog.godebug = none := by kernel_rfl
theorem laidOut : laidOutB Try.prog = true := by kernel_rfl

theorem walk (v e : Value) (vs : List Pl.Vx) (es : List Pl.Eg) (a1 : Int) (w : World) (hv : Pl.VIn w v vs) (he : Pl.EIn w e es) (w1 : (Lit.int .i64 a1).wf = true) :
    Calls Try.prog 5 #[.agg #[v, e], .int .i64 a1] w fun e w' => e = .returned (.bool true) ∧ Below w.heap.size w w' := by
  have HV : Hid (∀ W, Below w.heap.size w W → VIn W v vs) := Lib.hid fun W hW => TIn.below hv hW
  have HE : Hid (∀ W, Below w.heap.size w W → EIn W e es) := Lib.hid fun W hW => TIn.below he hW
  have FW := Lib.hid (fun W (hW : Below w.heap.size w W) => few_any (HV.out W hW) (HE.out W hW))
  have PL := Lib.hid (fun W (hW : Below w.heap.size w W) => plain_any (HV.out W hW) (HE.out W hW))
  have AW := Lib.hid awake_any
  obtain ⟨a, cap, hvs, hc1, hc2, -, hcl⟩ := TIn.open_ hv
  obtain ⟨a', cap', hes, hc1', hc2', -, hcl'⟩ := TIn.open_ he
  cases hf : fewB vs es with
  | false =>
    rw [hf] at FW
    subst hvs hes
    clear hf hv he HV HE PL hcl hcl' hc1 hc2 hc1' hc2'
    generalize vs.length = n at *
    generalize es.length = m at *
    go_enter Try.func5, Try.ntmps5
    go_upto_region 1 with fail
    have B0 : Hid (Below w.heap.size w (w.alloc (.cells #[.slice a n cap, .slice a' m cap'] 25))) := Lib.hid (by repeat' (first | (with_reducible exact Below.refl _ _) | (with_reducible assumption) | (with_reducible refine below_drewN ?_ _) | (with_reducible refine Below.drew ?_) | (with_reducible refine Below.alloc ?_ ?_ _) | (with_reducible refine Below.setCell ?_ ?_ _) | (with_reducible refine then_ ?_ (by with_reducible assumption) ?_) | (with_reducible exact Nat.le_refl _) | (with_reducible exact Nat.le_succ _) | (with_reducible exact Nat.le_succ_of_le (by with_reducible assumption)) | omega | (simp; done) | (simp; omega) | (exact Nat.le_succ _) | (exact Nat.le_succ_of_le (by with_reducible assumption))))
    have O0 : Hid (Own (w.alloc (.cells #[.slice a n cap, .slice a' m cap'] 25)) w.heap.size 25 #[.slice a n cap, .slice a' m cap']) := Lib.hid (Own.made _ _ _)
    generalize hW0 : w.alloc (.cells #[.slice a n cap, .slice a' m cap'] 25) = W0 at B0 O0 ⊢
    clear hW0
    obtain ⟨q0, q1⟩ := pl_two O0.out
    go_wp2_with (first | (go_at_call 12; refine (FW.out _ B0.out).mono ?_; rintro e y1' ⟨rfl, c1⟩; have Y1 := Lib.hid (then_ B0.out c1 B0.out.size); clear c1) | (go_at_call 11; refine (AW.out _).mono ?_; rintro e y2' ⟨rfl, c2⟩; have Y2 := Lib.hid (then_ Y1.out c2 Y1.out.size); clear c2))
    go_ret
    exact ⟨rfl, Y2.out⟩
  | true =>
    obtain ⟨n60, m60⟩ := fewB_yes hf
    rw [hf] at FW
    have X0 := Lib.hid (fun W (hW : Below w.heap.size w W) => vertex_any v e vs a1 W (HV.out W hW) ⟨a', es.length, cap', hes⟩ (by omega))
    have X1 := Lib.hid (fun W (hW : Below w.heap.size w W) => edge_any v e es a1 W (HE.out W hW) ⟨a, vs.length, cap, hvs⟩ (by omega))
    have X2 := Lib.hid (fun W (hW : Below w.heap.size w W) => rvertex_any v e vs a1 W (HV.out W hW) ⟨a', es.length, cap', hes⟩ (by omega))
    have X3 := Lib.hid (fun W (hW : Below w.heap.size w W) => redge_any v e es a1 W (HE.out W hW) ⟨a, vs.length, cap, hvs⟩ (by omega))
    have X4 := Lib.hid (fun W (hW : Below w.heap.size w W) => degree_any v e es a1 W (HE.out W hW) ⟨a, vs.length, cap, hvs⟩ (by omega))
    have X5 := Lib.hid (fun W (hW : Below w.heap.size w W) => rdegree_any v e es a1 W (HE.out W hW) ⟨a, vs.length, cap, hvs⟩ (by omega))
    generalize ((deg es a1 : Nat) : Int) = r0 at X4 X5
    have FV : ∃ p1 p2 p3, vxO (fV vs a1) = .agg #[.int .i64 p1, .int .i64 p2, .int .i64 p3] ∧ At3 w a vs.length (hasV vs a1) p1 p2 p3 (vIx vs a1) := by
      cases h : hasV vs a1 with
      | false =>
        refine ⟨0, 0, 0, ?_, .inr ⟨rfl, vIx_no h, rfl, rfl, rfl⟩⟩
        unfold hasV at h
        rw [Option.isSome_eq_false_iff, Option.isNone_iff_eq_none] at h
        rw [h]; rfl
      | true =>
        obtain ⟨k, hk, e1, e2⟩ := vIx_yes h
        obtain ⟨b, o, hb, hb2, hc⟩ := hcl k hk
        rw [e2]
        exact ⟨_, _, _, rfl, .inl ⟨rfl, k, b, o, e1, hk, hb, hb2, hc⟩⟩
    have FE : ∃ p1 p2 p3, egO (fE es a1) = .agg #[.int .i64 p1, .int .i64 p2, .int .i64 p3] ∧ At3 w a' es.length (hasE es a1) p1 p2 p3 (eIx es a1) := by
      cases h : hasE es a1 with
      | false =>
        refine ⟨0, 0, 0, ?_, .inr ⟨rfl, eIx_no h, rfl, rfl, rfl⟩⟩
        unfold hasE at h
        rw [Option.isSome_eq_false_iff, Option.isNone_iff_eq_none] at h
        rw [h]; rfl
      | true =>
        obtain ⟨k, hk, e1, e2⟩ := eIx_yes h
        obtain ⟨b, o, hb, hb2, hc⟩ := hcl' k hk
        rw [e2]
        exact ⟨_, _, _, rfl, .inl ⟨rfl, k, b, o, e1, hk, hb, hb2, hc⟩⟩
    obtain ⟨p1, p2, p3, ev, fv⟩ := FV
    obtain ⟨g1, g2, g3, ee, fe⟩ := FE
    rw [ev] at X0
    rw [ee] at X1
    clear ev ee
    subst hvs hes
    generalize hasV vs a1 = isV at X0 fv
    generalize hasE es a1 = isE at X1 fe
    generalize vIx vs a1 = ixV at X2 fv
    generalize eIx es a1 = ixE at X3 fe
    have GV := Lib.hid fv
    have GE := Lib.hid fe
    clear hf hv he HV HE hcl hcl' hc1 hc2 hc1' hc2' fv fe
    generalize vs.length = n at *
    generalize es.length = m at *
    go_enter Try.func5, Try.ntmps5
    go_upto_region 1 with fail
    have B0 : Hid (Below w.heap.size w (w.alloc (.cells #[.slice a n cap, .slice a' m cap'] 25))) := Lib.hid (by repeat' (first | (with_reducible exact Below.refl _ _) | (with_reducible assumption) | (with_reducible refine below_drewN ?_ _) | (with_reducible refine Below.drew ?_) | (with_reducible refine Below.alloc ?_ ?_ _) | (with_reducible refine Below.setCell ?_ ?_ _) | (with_reducible refine then_ ?_ (by with_reducible assumption) ?_) | (with_reducible exact Nat.le_refl _) | (with_reducible exact Nat.le_succ _) | (with_reducible exact Nat.le_succ_of_le (by with_reducible assumption)) | omega | (simp; done) | (simp; omega) | (exact Nat.le_succ _) | (exact Nat.le_succ_of_le (by with_reducible assumption))))
    have O0 : Hid (Own (w.alloc (.cells #[.slice a n cap, .slice a' m cap'] 25)) w.heap.size 25 #[.slice a n cap, .slice a' m cap']) := Lib.hid (Own.made _ _ _)
    generalize hW0 : w.alloc (.cells #[.slice a n cap, .slice a' m cap'] 25) = W0 at B0 O0 ⊢
    clear hW0
    obtain ⟨q0, q1⟩ := pl_two O0.out
    go_upto_region 3 with (go_at_call 12; refine (FW.out _ B0.out).mono ?_; rintro e y1' ⟨rfl, c1⟩; have Y1 := Lib.hid (then_ B0.out c1 B0.out.size); have O1 := Lib.hid (O0.out.keep c1); clear c1)
    clear q0 q1
    obtain ⟨q0, q1⟩ := pl_two O1.out
    go_upto_region 4 with (first | (go_at_call 14; refine (PL.out _ Y1.out).mono ?_; rintro e y2' ⟨rfl, c2⟩; have Y2 := Lib.hid (then_ Y1.out c2 Y1.out.size); have O2 := Lib.hid (O1.out.keep c2); clear c2) | (go_at_call 25; refine (X0.out _ Y2.out).mono ?_; rintro e y3' ⟨rfl, c3⟩; have Y3 := Lib.hid (then_ Y2.out c3 Y2.out.size); have O3 := Lib.hid (O2.out.keep c3); clear c3))
    have B4 := Lib.hid (then_ Y3.out (bx1 y3' 31 #[.int .i64 p1, .int .i64 p2, .int .i64 p3]) Y3.out.size)
    have O4 := Lib.hid (O3.out.keep (bx1 y3' 31 #[.int .i64 p1, .int .i64 p2, .int .i64 p3]))
    have P4 := Lib.hid (Own.made y3' 31 #[.int .i64 p1, .int .i64 p2, .int .i64 p3])
    obtain ⟨gv, hgv⟩ : ∃ g, g = y3'.heap.size := ⟨_, rfl⟩
    generalize hW4 : y3'.alloc (.cells #[.int .i64 p1, .int .i64 p2, .int .i64 p3] 31) = W4 at B4 O4 P4 ⊢
    rw [← hgv] at P4 ⊢
    clear hW4 hgv q0 q1 Y1 O1 Y2 O2 Y3 O3 B0 O0
    obtain ⟨q0, q1⟩ := pl_two O4.out
    go_upto_region 5 with (first | (go_at_call 14; refine (PL.out _ B4.out).mono ?_; rintro e y5' ⟨rfl, c5⟩; have Y5 := Lib.hid (then_ B4.out c5 B4.out.size); have O5 := Lib.hid (O4.out.keep c5); have P5 := Lib.hid (P4.out.keep c5); clear c5) | (go_at_call 26; refine (X1.out _ Y5.out).mono ?_; rintro e y6' ⟨rfl, c6⟩; have Y6 := Lib.hid (then_ Y5.out c6 Y5.out.size); have O6 := Lib.hid (O5.out.keep c6); have P6 := Lib.hid (P5.out.keep c6); clear c6))
    have B7 := Lib.hid (then_ Y6.out (bx1 y6' 33 #[.int .i64 g1, .int .i64 g2, .int .i64 g3]) Y6.out.size)
    have O7 := Lib.hid (O6.out.keep (bx1 y6' 33 #[.int .i64 g1, .int .i64 g2, .int .i64 g3]))
    have P7 := Lib.hid (P6.out.keep (bx1 y6' 33 #[.int .i64 g1, .int .i64 g2, .int .i64 g3]))
    have Q7 := Lib.hid (Own.made y6' 33 #[.int .i64 g1, .int .i64 g2, .int .i64 g3])
    obtain ⟨ge, hge⟩ : ∃ g, g = y6'.heap.size := ⟨_, rfl⟩
    generalize hW5 : y6'.alloc (.cells #[.int .i64 g1, .int .i64 g2, .int .i64 g3] 33) = W5 at B7 O7 P7 Q7 ⊢
    rw [← hge] at Q7 ⊢
    clear hW5 hge q0 q1 Y5 O5 P5 Y6 O6 P6 B4 O4 P4
    have KB : Hid (∀ W, Below W5.heap.size W5 W → Below w.heap.size w W ∧ Own W w.heap.size 25 #[.slice a n cap, .slice a' m cap'] ∧ Own W gv 31 #[.int .i64 p1, .int .i64 p2, .int .i64 p3] ∧ Own W ge 33 #[.int .i64 g1, .int .i64 g2, .int .i64 g3]) := Lib.hid fun W hW => ⟨then_ B7.out hW B7.out.size, O7.out.keep hW, P7.out.keep hW, Q7.out.keep hW⟩
    clear O7 P7 Q7 B7
    have D := (Below.refl W5.heap.size W5).drew
    refine wp_region_seq (fun W => Below W5.heap.size W5 W) (0 :: 1 :: 3 :: 4 :: 6 :: 7 :: []) (0 :: 3 :: []) (0 :: 1 :: 3 :: 4 :: 2 :: 5 :: 6 :: 7 :: []) (by kernel_rfl) (by kernel_rfl) rfl (by kernel_rfl) rfl (D) (by simp only [picked, List.filterMap_cons, List.filterMap_nil, List.getElem?_cons_zero, List.getElem?_cons_succ, Option.map_some]; exact rfl) ?_
    iterate 4
      refine seq_want (v := ?_) rfl rfl (fun W hS => ?_) ?_
      rotate_left
      · first
          | (conv => lhs; simp [go_sem]
             first | done | exact rfl)
          | (have hS := hS rfl
             obtain ⟨hbw, h1, h2, h3⟩ := KB.out _ hS
             obtain ⟨q0, q1⟩ := pl_two h1
             obtain ⟨r0, r1, r2⟩ := three_at h2
             obtain ⟨s0, s1, s2⟩ := three_at h3
             conv => lhs; simp [go_sem, *]
             first | done | exact rfl)
      simp only [Act.put, List.setIfInBounds_toArray, List.set_cons_zero, List.set_cons_succ]
    refine seq_on rfl rfl fun K hK => ?_
    go_wp2_with (go_at_call 27; refine (X2.out _ (KB.out _ D).1).mono ?_; rintro e y8' ⟨rfl, c8⟩)
    have Y8 := Lib.hid (then_ D c8 D.size)
    refine hK _ _ Y8.out ?_
    clear hK K c8
    refine seq_on rfl rfl fun K hK => ?_
    go_wp2_with (go_at_call 28; refine (X3.out _ (KB.out _ Y8.out).1).mono ?_; rintro e y9' ⟨rfl, c9⟩)
    have Y9 := Lib.hid (then_ Y8.out c9 Y8.out.size)
    refine hK _ _ Y9.out ?_
    clear hK K c9
    iterate 2
      refine seq_want (v := ?_) rfl rfl (fun W hS => ?_) ?_
      rotate_left
      · first
          | (conv => lhs; simp [go_sem]
             first | done | exact rfl)
          | (have hS := hS rfl
             obtain ⟨hbw, h1, h2, h3⟩ := KB.out _ hS
             obtain ⟨q0, q1⟩ := pl_two h1
             obtain ⟨r0, r1, r2⟩ := three_at h2
             obtain ⟨s0, s1, s2⟩ := three_at h3
             conv => lhs; simp [go_sem, *]
             first | done | exact rfl)
      simp only [Act.put, List.setIfInBounds_toArray, List.set_cons_zero, List.set_cons_succ]
    refine seq_end ?_
    go_upto_region 6 with fail
    have D6 := Y9.out.drew
    rcases GV.out with ⟨rfl, k, b, o, rfl, hk, rfl, hb, hc⟩ | ⟨rfl, rfl, rfl, rfl, rfl⟩
    · have CV := Lib.hid hc
      have kv0 : (0 : Int) ≤ (k : Int) := by omega
      have kv9 : (k : Int) < (n : Int) := by omega
      clear hc GV
      rcases GE.out with ⟨rfl, i, b', o', rfl, hi, rfl, hb', hc'⟩ | ⟨rfl, rfl, rfl, rfl, rfl⟩
      · have CE := Lib.hid hc'
        have ke0 : (0 : Int) ≤ (i : Int) := by omega
        have ke9 : (i : Int) < (m : Int) := by omega
        clear hc' GE
        refine wp_region_seq (fun W => Below W5.heap.size W5 W) (0 :: 1 :: 2 :: 3 :: 4 :: 5 :: 6 :: 7 :: 8 :: 9 :: 10 :: 11 :: 12 :: 13 :: 14 :: 15 :: 16 :: 17 :: 18 :: 19 :: 20 :: 21 :: 22 :: 23 :: 24 :: 25 :: 26 :: 27 :: 28 :: 29 :: 30 :: 31 :: 32 :: 33 :: 34 :: 35 :: 36 :: 37 :: 38 :: 39 :: 40 :: 41 :: 42 :: 43 :: 44 :: 45 :: 46 :: 47 :: 48 :: 49 :: 50 :: 51 :: []) (13 :: 15 :: 18 :: 34 :: 36 :: 39 :: []) (0 :: 1 :: 2 :: 3 :: 4 :: 5 :: 6 :: 7 :: 8 :: 9 :: 10 :: 11 :: 12 :: 13 :: 14 :: 15 :: 16 :: 17 :: 18 :: 19 :: 20 :: 21 :: 22 :: 23 :: 24 :: 25 :: 26 :: 27 :: 28 :: 29 :: 30 :: 31 :: 32 :: 33 :: 34 :: 35 :: 36 :: 37 :: 38 :: 39 :: 40 :: 41 :: 42 :: 43 :: 44 :: 45 :: 46 :: 47 :: 48 :: 49 :: 50 :: 51 :: []) (by kernel_rfl) (by kernel_rfl) rfl (by kernel_rfl) rfl (D6) (by simp only [picked, List.filterMap_cons, List.filterMap_nil, List.getElem?_cons_zero, List.getElem?_cons_succ, Option.map_some]; exact rfl) ?_
        iterate 26
          refine seq_want (v := ?_) rfl rfl (fun W hS => ?_) ?_
          rotate_left
          · first
              | (conv => lhs; simp [go_sem, eq_Vx, eq_Eg, kv0, kv9, ke0, ke9]
                 first | done | exact rfl)
              | (have hS := hS rfl
                 obtain ⟨hbw, h1, h2, h3⟩ := KB.out _ hS
                 obtain ⟨q0, q1⟩ := pl_two h1
                 obtain ⟨r0, r1, r2⟩ := three_at h2
                 obtain ⟨s0, s1, s2⟩ := three_at h3
                 obtain ⟨f0, f1, f2⟩ := CV.out _ hbw
                 obtain ⟨h0, h1', h2'⟩ := CE.out _ hbw
                 conv => lhs; simp [go_sem, *, eq_Vx, eq_Eg, kv0, kv9, ke0, ke9]
                 first | done | exact rfl)
          simp only [Act.put, List.setIfInBounds_toArray, List.set_cons_zero, List.set_cons_succ]
        refine seq_skip rfl rfl ?_
        simp only [Act.put, List.setIfInBounds_toArray, List.set_cons_zero, List.set_cons_succ]
        refine seq_skip rfl rfl ?_
        simp only [Act.put, List.setIfInBounds_toArray, List.set_cons_zero, List.set_cons_succ]
        refine seq_skip rfl rfl ?_
        simp only [Act.put, List.setIfInBounds_toArray, List.set_cons_zero, List.set_cons_succ]
        iterate 18
          refine seq_want (v := ?_) rfl rfl (fun W hS => ?_) ?_
          rotate_left
          · first
              | (conv => lhs; simp [go_sem, eq_Vx, eq_Eg, kv0, kv9, ke0, ke9]
                 first | done | exact rfl)
              | (have hS := hS rfl
                 obtain ⟨hbw, h1, h2, h3⟩ := KB.out _ hS
                 obtain ⟨q0, q1⟩ := pl_two h1
                 obtain ⟨r0, r1, r2⟩ := three_at h2
                 obtain ⟨s0, s1, s2⟩ := three_at h3
                 obtain ⟨f0, f1, f2⟩ := CV.out _ hbw
                 obtain ⟨h0, h1', h2'⟩ := CE.out _ hbw
                 conv => lhs; simp [go_sem, *, eq_Vx, eq_Eg, kv0, kv9, ke0, ke9]
                 first | done | exact rfl)
          simp only [Act.put, List.setIfInBounds_toArray, List.set_cons_zero, List.set_cons_succ]
        refine seq_skip rfl rfl ?_
        simp only [Act.put, List.setIfInBounds_toArray, List.set_cons_zero, List.set_cons_succ]
        refine seq_skip rfl rfl ?_
        simp only [Act.put, List.setIfInBounds_toArray, List.set_cons_zero, List.set_cons_succ]
        refine seq_skip rfl rfl ?_
        simp only [Act.put, List.setIfInBounds_toArray, List.set_cons_zero, List.set_cons_succ]
        iterate 2
          refine seq_want (v := ?_) rfl rfl (fun W hS => ?_) ?_
          rotate_left
          · first
              | (conv => lhs; simp [go_sem, eq_Vx, eq_Eg, kv0, kv9, ke0, ke9]
                 first | done | exact rfl)
              | (have hS := hS rfl
                 obtain ⟨hbw, h1, h2, h3⟩ := KB.out _ hS
                 obtain ⟨q0, q1⟩ := pl_two h1
                 obtain ⟨r0, r1, r2⟩ := three_at h2
                 obtain ⟨s0, s1, s2⟩ := three_at h3
                 obtain ⟨f0, f1, f2⟩ := CV.out _ hbw
                 obtain ⟨h0, h1', h2'⟩ := CE.out _ hbw
                 conv => lhs; simp [go_sem, *, eq_Vx, eq_Eg, kv0, kv9, ke0, ke9]
                 first | done | exact rfl)
          simp only [Act.put, List.setIfInBounds_toArray, List.set_cons_zero, List.set_cons_succ]
        refine seq_end ?_
        go_upto_region 8 with fail
        have D8 := Y9.out.drew.drew
        refine wp_region_seq (fun W => Below W5.heap.size W5 W) (1 :: 2 :: 4 :: 6 :: 7 :: 9 :: 10 :: 11 :: []) (2 :: 6 :: []) (0 :: 1 :: 2 :: 4 :: 6 :: 7 :: 3 :: 5 :: 8 :: 9 :: 10 :: 11 :: []) (by kernel_rfl) (by kernel_rfl) rfl (by kernel_rfl) rfl (D8) (by simp only [picked, List.filterMap_cons, List.filterMap_nil, List.getElem?_cons_zero, List.getElem?_cons_succ, Option.map_some]; exact rfl) ?_
        refine seq_on rfl rfl fun K hK => ?_
        go_wp2_with (go_at_call 11; refine (AW.out _).mono ?_; rintro e y11' ⟨rfl, c11⟩)
        have Y11 := Lib.hid (then_ D8 c11 D8.size)
        refine hK _ _ Y11.out ?_
        clear hK K c11
        iterate 5
          refine seq_want (v := ?_) rfl rfl (fun W hS => ?_) ?_
          rotate_left
          · first
              | (conv => lhs; simp [go_sem]
                 first | done | exact rfl)
              | (have hS := hS rfl
                 obtain ⟨hbw, h1, h2, h3⟩ := KB.out _ hS
                 obtain ⟨q0, q1⟩ := pl_two h1
                 obtain ⟨r0, r1, r2⟩ := three_at h2
                 obtain ⟨s0, s1, s2⟩ := three_at h3
                 conv => lhs; simp [go_sem, *]
                 first | done | exact rfl)
          simp only [Act.put, List.setIfInBounds_toArray, List.set_cons_zero, List.set_cons_succ]
        refine seq_on rfl rfl fun K hK => ?_
        go_wp2_with (go_at_call 14; refine (PL.out _ (KB.out _ Y11.out).1).mono ?_; rintro e y12' ⟨rfl, c12⟩)
        have Y12 := Lib.hid (then_ Y11.out c12 Y11.out.size)
        refine hK _ _ Y12.out ?_
        clear hK K c12
        refine seq_on rfl rfl fun K hK => ?_
        go_wp2_with (go_at_call 29; refine (X4.out _ (KB.out _ Y12.out).1).mono ?_; rintro e y13' ⟨rfl, c13⟩)
        have Y13 := Lib.hid (then_ Y12.out c13 Y12.out.size)
        refine hK _ _ Y13.out ?_
        clear hK K c13
        refine seq_on rfl rfl fun K hK => ?_
        go_wp2_with (go_at_call 30; refine (X5.out _ (KB.out _ Y13.out).1).mono ?_; rintro e y14' ⟨rfl, c14⟩)
        have Y14 := Lib.hid (then_ Y13.out c14 Y13.out.size)
        refine hK _ _ Y14.out ?_
        clear hK K c14
        iterate 3
          refine seq_want (v := ?_) rfl rfl (fun W hS => ?_) ?_
          rotate_left
          · first
              | (conv => lhs; simp [go_sem]
                 first | done | exact rfl)
              | (have hS := hS rfl
                 obtain ⟨hbw, h1, h2, h3⟩ := KB.out _ hS
                 obtain ⟨q0, q1⟩ := pl_two h1
                 obtain ⟨r0, r1, r2⟩ := three_at h2
                 obtain ⟨s0, s1, s2⟩ := three_at h3
                 conv => lhs; simp [go_sem, *]
                 first | done | exact rfl)
          simp only [Act.put, List.setIfInBounds_toArray, List.set_cons_zero, List.set_cons_succ]
        refine seq_end ?_
        go_wp2
        go_ret
        exact ⟨rfl, (KB.out _ Y14.out).1⟩
      · clear GE
        refine wp_region_seq (fun W => Below W5.heap.size W5 W) (0 :: 1 :: 2 :: 3 :: 4 :: 5 :: 6 :: 7 :: 8 :: 9 :: 10 :: 11 :: 12 :: 13 :: 14 :: 15 :: 16 :: 17 :: 18 :: 19 :: 20 :: 21 :: 22 :: 23 :: 24 :: 25 :: 26 :: 27 :: 28 :: 29 :: 30 :: 31 :: 32 :: 33 :: 34 :: 35 :: 36 :: 37 :: 38 :: 39 :: 40 :: 41 :: 42 :: 43 :: 44 :: 45 :: 46 :: 47 :: 48 :: 49 :: 50 :: 51 :: []) (13 :: 15 :: 18 :: 47 :: []) (0 :: 1 :: 2 :: 3 :: 4 :: 5 :: 6 :: 7 :: 8 :: 9 :: 10 :: 11 :: 12 :: 13 :: 14 :: 15 :: 16 :: 17 :: 18 :: 19 :: 20 :: 21 :: 22 :: 23 :: 24 :: 25 :: 26 :: 27 :: 28 :: 29 :: 30 :: 31 :: 32 :: 33 :: 34 :: 35 :: 36 :: 37 :: 38 :: 39 :: 40 :: 41 :: 42 :: 43 :: 44 :: 45 :: 46 :: 47 :: 48 :: 49 :: 50 :: 51 :: []) (by kernel_rfl) (by kernel_rfl) rfl (by kernel_rfl) rfl (D6) (by simp only [picked, List.filterMap_cons, List.filterMap_nil, List.getElem?_cons_zero, List.getElem?_cons_succ, Option.map_some]; exact rfl) ?_
        iterate 26
          refine seq_want (v := ?_) rfl rfl (fun W hS => ?_) ?_
          rotate_left
          · first
              | (conv => lhs; simp [go_sem, eq_Vx, eq_Eg, kv0, kv9]
                 first | done | exact rfl)
              | (have hS := hS rfl
                 obtain ⟨hbw, h1, h2, h3⟩ := KB.out _ hS
                 obtain ⟨q0, q1⟩ := pl_two h1
                 obtain ⟨r0, r1, r2⟩ := three_at h2
                 obtain ⟨s0, s1, s2⟩ := three_at h3
                 obtain ⟨f0, f1, f2⟩ := CV.out _ hbw
                 conv => lhs; simp [go_sem, *, eq_Vx, eq_Eg, kv0, kv9]
                 first | done | exact rfl)
          simp only [Act.put, List.setIfInBounds_toArray, List.set_cons_zero, List.set_cons_succ]
        refine seq_skip rfl rfl ?_
        simp only [Act.put, List.setIfInBounds_toArray, List.set_cons_zero, List.set_cons_succ]
        refine seq_skip rfl rfl ?_
        simp only [Act.put, List.setIfInBounds_toArray, List.set_cons_zero, List.set_cons_succ]
        refine seq_skip rfl rfl ?_
        simp only [Act.put, List.setIfInBounds_toArray, List.set_cons_zero, List.set_cons_succ]
        iterate 5
          refine seq_want (v := ?_) rfl rfl (fun W hS => ?_) ?_
          rotate_left
          · first
              | (conv => lhs; simp [go_sem, eq_Vx, eq_Eg, kv0, kv9]
                 first | done | exact rfl)
              | (have hS := hS rfl
                 obtain ⟨hbw, h1, h2, h3⟩ := KB.out _ hS
                 obtain ⟨q0, q1⟩ := pl_two h1
                 obtain ⟨r0, r1, r2⟩ := three_at h2
                 obtain ⟨s0, s1, s2⟩ := three_at h3
                 obtain ⟨f0, f1, f2⟩ := CV.out _ hbw
                 conv => lhs; simp [go_sem, *, eq_Vx, eq_Eg, kv0, kv9]
                 first | done | exact rfl)
          simp only [Act.put, List.setIfInBounds_toArray, List.set_cons_zero, List.set_cons_succ]
        refine seq_skip rfl rfl ?_
        simp only [Act.put, List.setIfInBounds_toArray, List.set_cons_zero, List.set_cons_succ]
        refine seq_skip rfl rfl ?_
        simp only [Act.put, List.setIfInBounds_toArray, List.set_cons_zero, List.set_cons_succ]
        refine seq_skip rfl rfl ?_
        simp only [Act.put, List.setIfInBounds_toArray, List.set_cons_zero, List.set_cons_succ]
        refine seq_skip rfl rfl ?_
        simp only [Act.put, List.setIfInBounds_toArray, List.set_cons_zero, List.set_cons_succ]
        refine seq_skip rfl rfl ?_
        simp only [Act.put, List.setIfInBounds_toArray, List.set_cons_zero, List.set_cons_succ]
        refine seq_skip rfl rfl ?_
        simp only [Act.put, List.setIfInBounds_toArray, List.set_cons_zero, List.set_cons_succ]
        refine seq_skip rfl rfl ?_
        simp only [Act.put, List.setIfInBounds_toArray, List.set_cons_zero, List.set_cons_succ]
        iterate 11
          refine seq_want (v := ?_) rfl rfl (fun W hS => ?_) ?_
          rotate_left
          · first
              | (conv => lhs; simp [go_sem, eq_Vx, eq_Eg, kv0, kv9]
                 first | done | exact rfl)
              | (have hS := hS rfl
                 obtain ⟨hbw, h1, h2, h3⟩ := KB.out _ hS
                 obtain ⟨q0, q1⟩ := pl_two h1
                 obtain ⟨r0, r1, r2⟩ := three_at h2
                 obtain ⟨s0, s1, s2⟩ := three_at h3
                 obtain ⟨f0, f1, f2⟩ := CV.out _ hbw
                 conv => lhs; simp [go_sem, *, eq_Vx, eq_Eg, kv0, kv9]
                 first | done | exact rfl)
          simp only [Act.put, List.setIfInBounds_toArray, List.set_cons_zero, List.set_cons_succ]
        refine seq_end ?_
        go_upto_region 8 with fail
        have D8 := Y9.out.drew.drew
        refine wp_region_seq (fun W => Below W5.heap.size W5 W) (1 :: 2 :: 4 :: 6 :: 7 :: 9 :: 10 :: 11 :: []) (2 :: 6 :: []) (0 :: 1 :: 2 :: 4 :: 6 :: 7 :: 3 :: 5 :: 8 :: 9 :: 10 :: 11 :: []) (by kernel_rfl) (by kernel_rfl) rfl (by kernel_rfl) rfl (D8) (by simp only [picked, List.filterMap_cons, List.filterMap_nil, List.getElem?_cons_zero, List.getElem?_cons_succ, Option.map_some]; exact rfl) ?_
        refine seq_on rfl rfl fun K hK => ?_
        go_wp2_with (go_at_call 11; refine (AW.out _).mono ?_; rintro e y11' ⟨rfl, c11⟩)
        have Y11 := Lib.hid (then_ D8 c11 D8.size)
        refine hK _ _ Y11.out ?_
        clear hK K c11
        iterate 5
          refine seq_want (v := ?_) rfl rfl (fun W hS => ?_) ?_
          rotate_left
          · first
              | (conv => lhs; simp [go_sem]
                 first | done | exact rfl)
              | (have hS := hS rfl
                 obtain ⟨hbw, h1, h2, h3⟩ := KB.out _ hS
                 obtain ⟨q0, q1⟩ := pl_two h1
                 obtain ⟨r0, r1, r2⟩ := three_at h2
                 obtain ⟨s0, s1, s2⟩ := three_at h3
                 conv => lhs; simp [go_sem, *]
                 first | done | exact rfl)
          simp only [Act.put, List.setIfInBounds_toArray, List.set_cons_zero, List.set_cons_succ]
        refine seq_on rfl rfl fun K hK => ?_
        go_wp2_with (go_at_call 14; refine (PL.out _ (KB.out _ Y11.out).1).mono ?_; rintro e y12' ⟨rfl, c12⟩)
        have Y12 := Lib.hid (then_ Y11.out c12 Y11.out.size)
        refine hK _ _ Y12.out ?_
        clear hK K c12
        refine seq_on rfl rfl fun K hK => ?_
        go_wp2_with (go_at_call 29; refine (X4.out _ (KB.out _ Y12.out).1).mono ?_; rintro e y13' ⟨rfl, c13⟩)
        have Y13 := Lib.hid (then_ Y12.out c13 Y12.out.size)
        refine hK _ _ Y13.out ?_
        clear hK K c13
        refine seq_on rfl rfl fun K hK => ?_
        go_wp2_with (go_at_call 30; refine (X5.out _ (KB.out _ Y13.out).1).mono ?_; rintro e y14' ⟨rfl, c14⟩)
        have Y14 := Lib.hid (then_ Y13.out c14 Y13.out.size)
        refine hK _ _ Y14.out ?_
        clear hK K c14
        iterate 3
          refine seq_want (v := ?_) rfl rfl (fun W hS => ?_) ?_
          rotate_left
          · first
              | (conv => lhs; simp [go_sem]
                 first | done | exact rfl)
              | (have hS := hS rfl
                 obtain ⟨hbw, h1, h2, h3⟩ := KB.out _ hS
                 obtain ⟨q0, q1⟩ := pl_two h1
                 obtain ⟨r0, r1, r2⟩ := three_at h2
                 obtain ⟨s0, s1, s2⟩ := three_at h3
                 conv => lhs; simp [go_sem, *]
                 first | done | exact rfl)
          simp only [Act.put, List.setIfInBounds_toArray, List.set_cons_zero, List.set_cons_succ]
        refine seq_end ?_
        go_wp2
        go_ret
        exact ⟨rfl, (KB.out _ Y14.out).1⟩
    · clear GV
      rcases GE.out with ⟨rfl, i, b', o', rfl, hi, rfl, hb', hc'⟩ | ⟨rfl, rfl, rfl, rfl, rfl⟩
      · have CE := Lib.hid hc'
        have ke0 : (0 : Int) ≤ (i : Int) := by omega
        have ke9 : (i : Int) < (m : Int) := by omega
        clear hc' GE
        refine wp_region_seq (fun W => Below W5.heap.size W5 W) (0 :: 1 :: 2 :: 3 :: 4 :: 5 :: 6 :: 7 :: 8 :: 9 :: 10 :: 11 :: 12 :: 13 :: 14 :: 15 :: 16 :: 17 :: 18 :: 19 :: 20 :: 21 :: 22 :: 23 :: 24 :: 25 :: 26 :: 27 :: 28 :: 29 :: 30 :: 31 :: 32 :: 33 :: 34 :: 35 :: 36 :: 37 :: 38 :: 39 :: 40 :: 41 :: 42 :: 43 :: 44 :: 45 :: 46 :: 47 :: 48 :: 49 :: 50 :: 51 :: []) (26 :: 34 :: 36 :: 39 :: []) (0 :: 1 :: 2 :: 3 :: 4 :: 5 :: 6 :: 7 :: 8 :: 9 :: 10 :: 11 :: 12 :: 13 :: 14 :: 15 :: 16 :: 17 :: 18 :: 19 :: 20 :: 21 :: 22 :: 23 :: 24 :: 25 :: 26 :: 27 :: 28 :: 29 :: 30 :: 31 :: 32 :: 33 :: 34 :: 35 :: 36 :: 37 :: 38 :: 39 :: 40 :: 41 :: 42 :: 43 :: 44 :: 45 :: 46 :: 47 :: 48 :: 49 :: 50 :: 51 :: []) (by kernel_rfl) (by kernel_rfl) rfl (by kernel_rfl) rfl (D6) (by simp only [picked, List.filterMap_cons, List.filterMap_nil, List.getElem?_cons_zero, List.getElem?_cons_succ, Option.map_some]; exact rfl) ?_
        iterate 13
          refine seq_want (v := ?_) rfl rfl (fun W hS => ?_) ?_
          rotate_left
          · first
              | (conv => lhs; simp [go_sem, eq_Vx, eq_Eg, ke0, ke9]
                 first | done | exact rfl)
              | (have hS := hS rfl
                 obtain ⟨hbw, h1, h2, h3⟩ := KB.out _ hS
                 obtain ⟨q0, q1⟩ := pl_two h1
                 obtain ⟨r0, r1, r2⟩ := three_at h2
                 obtain ⟨s0, s1, s2⟩ := three_at h3
                 obtain ⟨h0, h1', h2'⟩ := CE.out _ hbw
                 conv => lhs; simp [go_sem, *, eq_Vx, eq_Eg, ke0, ke9]
                 first | done | exact rfl)
          simp only [Act.put, List.setIfInBounds_toArray, List.set_cons_zero, List.set_cons_succ]
        refine seq_skip rfl rfl ?_
        simp only [Act.put, List.setIfInBounds_toArray, List.set_cons_zero, List.set_cons_succ]
        refine seq_skip rfl rfl ?_
        simp only [Act.put, List.setIfInBounds_toArray, List.set_cons_zero, List.set_cons_succ]
        refine seq_skip rfl rfl ?_
        simp only [Act.put, List.setIfInBounds_toArray, List.set_cons_zero, List.set_cons_succ]
        refine seq_skip rfl rfl ?_
        simp only [Act.put, List.setIfInBounds_toArray, List.set_cons_zero, List.set_cons_succ]
        refine seq_skip rfl rfl ?_
        simp only [Act.put, List.setIfInBounds_toArray, List.set_cons_zero, List.set_cons_succ]
        refine seq_skip rfl rfl ?_
        simp only [Act.put, List.setIfInBounds_toArray, List.set_cons_zero, List.set_cons_succ]
        refine seq_skip rfl rfl ?_
        simp only [Act.put, List.setIfInBounds_toArray, List.set_cons_zero, List.set_cons_succ]
        iterate 27
          refine seq_want (v := ?_) rfl rfl (fun W hS => ?_) ?_
          rotate_left
          · first
              | (conv => lhs; simp [go_sem, eq_Vx, eq_Eg, ke0, ke9]
                 first | done | exact rfl)
              | (have hS := hS rfl
                 obtain ⟨hbw, h1, h2, h3⟩ := KB.out _ hS
                 obtain ⟨q0, q1⟩ := pl_two h1
                 obtain ⟨r0, r1, r2⟩ := three_at h2
                 obtain ⟨s0, s1, s2⟩ := three_at h3
                 obtain ⟨h0, h1', h2'⟩ := CE.out _ hbw
                 conv => lhs; simp [go_sem, *, eq_Vx, eq_Eg, ke0, ke9]
                 first | done | exact rfl)
          simp only [Act.put, List.setIfInBounds_toArray, List.set_cons_zero, List.set_cons_succ]
        refine seq_skip rfl rfl ?_
        simp only [Act.put, List.setIfInBounds_toArray, List.set_cons_zero, List.set_cons_succ]
        refine seq_skip rfl rfl ?_
        simp only [Act.put, List.setIfInBounds_toArray, List.set_cons_zero, List.set_cons_succ]
        refine seq_skip rfl rfl ?_
        simp only [Act.put, List.setIfInBounds_toArray, List.set_cons_zero, List.set_cons_succ]
        iterate 2
          refine seq_want (v := ?_) rfl rfl (fun W hS => ?_) ?_
          rotate_left
          · first
              | (conv => lhs; simp [go_sem, eq_Vx, eq_Eg, ke0, ke9]
                 first | done | exact rfl)
              | (have hS := hS rfl
                 obtain ⟨hbw, h1, h2, h3⟩ := KB.out _ hS
                 obtain ⟨q0, q1⟩ := pl_two h1
                 obtain ⟨r0, r1, r2⟩ := three_at h2
                 obtain ⟨s0, s1, s2⟩ := three_at h3
                 obtain ⟨h0, h1', h2'⟩ := CE.out _ hbw
                 conv => lhs; simp [go_sem, *, eq_Vx, eq_Eg, ke0, ke9]
                 first | done | exact rfl)
          simp only [Act.put, List.setIfInBounds_toArray, List.set_cons_zero, List.set_cons_succ]
        refine seq_end ?_
        go_upto_region 8 with fail
        have D8 := Y9.out.drew.drew
        refine wp_region_seq (fun W => Below W5.heap.size W5 W) (1 :: 2 :: 4 :: 6 :: 7 :: 9 :: 10 :: 11 :: []) (2 :: 6 :: []) (0 :: 1 :: 2 :: 4 :: 6 :: 7 :: 3 :: 5 :: 8 :: 9 :: 10 :: 11 :: []) (by kernel_rfl) (by kernel_rfl) rfl (by kernel_rfl) rfl (D8) (by simp only [picked, List.filterMap_cons, List.filterMap_nil, List.getElem?_cons_zero, List.getElem?_cons_succ, Option.map_some]; exact rfl) ?_
        refine seq_on rfl rfl fun K hK => ?_
        go_wp2_with (go_at_call 11; refine (AW.out _).mono ?_; rintro e y11' ⟨rfl, c11⟩)
        have Y11 := Lib.hid (then_ D8 c11 D8.size)
        refine hK _ _ Y11.out ?_
        clear hK K c11
        iterate 5
          refine seq_want (v := ?_) rfl rfl (fun W hS => ?_) ?_
          rotate_left
          · first
              | (conv => lhs; simp [go_sem]
                 first | done | exact rfl)
              | (have hS := hS rfl
                 obtain ⟨hbw, h1, h2, h3⟩ := KB.out _ hS
                 obtain ⟨q0, q1⟩ := pl_two h1
                 obtain ⟨r0, r1, r2⟩ := three_at h2
                 obtain ⟨s0, s1, s2⟩ := three_at h3
                 conv => lhs; simp [go_sem, *]
                 first | done | exact rfl)
          simp only [Act.put, List.setIfInBounds_toArray, List.set_cons_zero, List.set_cons_succ]
        refine seq_on rfl rfl fun K hK => ?_
        go_wp2_with (go_at_call 14; refine (PL.out _ (KB.out _ Y11.out).1).mono ?_; rintro e y12' ⟨rfl, c12⟩)
        have Y12 := Lib.hid (then_ Y11.out c12 Y11.out.size)
        refine hK _ _ Y12.out ?_
        clear hK K c12
        refine seq_on rfl rfl fun K hK => ?_
        go_wp2_with (go_at_call 29; refine (X4.out _ (KB.out _ Y12.out).1).mono ?_; rintro e y13' ⟨rfl, c13⟩)
        have Y13 := Lib.hid (then_ Y12.out c13 Y12.out.size)
        refine hK _ _ Y13.out ?_
        clear hK K c13
        refine seq_on rfl rfl fun K hK => ?_
        go_wp2_with (go_at_call 30; refine (X5.out _ (KB.out _ Y13.out).1).mono ?_; rintro e y14' ⟨rfl, c14⟩)
        have Y14 := Lib.hid (then_ Y13.out c14 Y13.out.size)
        refine hK _ _ Y14.out ?_
        clear hK K c14
        iterate 3
          refine seq_want (v := ?_) rfl rfl (fun W hS => ?_) ?_
          rotate_left
          · first
              | (conv => lhs; simp [go_sem]
                 first | done | exact rfl)
              | (have hS := hS rfl
                 obtain ⟨hbw, h1, h2, h3⟩ := KB.out _ hS
                 obtain ⟨q0, q1⟩ := pl_two h1
                 obtain ⟨r0, r1, r2⟩ := three_at h2
                 obtain ⟨s0, s1, s2⟩ := three_at h3
                 conv => lhs; simp [go_sem, *]
                 first | done | exact rfl)
          simp only [Act.put, List.setIfInBounds_toArray, List.set_cons_zero, List.set_cons_succ]
        refine seq_end ?_
        go_wp2
        go_ret
        exact ⟨rfl, (KB.out _ Y14.out).1⟩
      · clear GE
        refine wp_region_seq (fun W => Below W5.heap.size W5 W) (0 :: 1 :: 2 :: 3 :: 4 :: 5 :: 6 :: 7 :: 8 :: 9 :: 10 :: 11 :: 12 :: 13 :: 14 :: 15 :: 16 :: 17 :: 18 :: 19 :: 20 :: 21 :: 22 :: 23 :: 24 :: 25 :: 26 :: 27 :: 28 :: 29 :: 30 :: 31 :: 32 :: 33 :: 34 :: 35 :: 36 :: 37 :: 38 :: 39 :: 40 :: 41 :: 42 :: 43 :: 44 :: 45 :: 46 :: 47 :: 48 :: 49 :: 50 :: 51 :: []) (26 :: 47 :: []) (0 :: 1 :: 2 :: 3 :: 4 :: 5 :: 6 :: 7 :: 8 :: 9 :: 10 :: 11 :: 12 :: 13 :: 14 :: 15 :: 16 :: 17 :: 18 :: 19 :: 20 :: 21 :: 22 :: 23 :: 24 :: 25 :: 26 :: 27 :: 28 :: 29 :: 30 :: 31 :: 32 :: 33 :: 34 :: 35 :: 36 :: 37 :: 38 :: 39 :: 40 :: 41 :: 42 :: 43 :: 44 :: 45 :: 46 :: 47 :: 48 :: 49 :: 50 :: 51 :: []) (by kernel_rfl) (by kernel_rfl) rfl (by kernel_rfl) rfl (D6) (by simp only [picked, List.filterMap_cons, List.filterMap_nil, List.getElem?_cons_zero, List.getElem?_cons_succ, Option.map_some]; exact rfl) ?_
        iterate 13
          refine seq_want (v := ?_) rfl rfl (fun W hS => ?_) ?_
          rotate_left
          · first
              | (conv => lhs; simp [go_sem, eq_Vx, eq_Eg]
                 first | done | exact rfl)
              | (have hS := hS rfl
                 obtain ⟨hbw, h1, h2, h3⟩ := KB.out _ hS
                 obtain ⟨q0, q1⟩ := pl_two h1
                 obtain ⟨r0, r1, r2⟩ := three_at h2
                 obtain ⟨s0, s1, s2⟩ := three_at h3
                 conv => lhs; simp [go_sem, *, eq_Vx, eq_Eg]
                 first | done | exact rfl)
          simp only [Act.put, List.setIfInBounds_toArray, List.set_cons_zero, List.set_cons_succ]
        refine seq_skip rfl rfl ?_
        simp only [Act.put, List.setIfInBounds_toArray, List.set_cons_zero, List.set_cons_succ]
        refine seq_skip rfl rfl ?_
        simp only [Act.put, List.setIfInBounds_toArray, List.set_cons_zero, List.set_cons_succ]
        refine seq_skip rfl rfl ?_
        simp only [Act.put, List.setIfInBounds_toArray, List.set_cons_zero, List.set_cons_succ]
        refine seq_skip rfl rfl ?_
        simp only [Act.put, List.setIfInBounds_toArray, List.set_cons_zero, List.set_cons_succ]
        refine seq_skip rfl rfl ?_
        simp only [Act.put, List.setIfInBounds_toArray, List.set_cons_zero, List.set_cons_succ]
        refine seq_skip rfl rfl ?_
        simp only [Act.put, List.setIfInBounds_toArray, List.set_cons_zero, List.set_cons_succ]
        refine seq_skip rfl rfl ?_
        simp only [Act.put, List.setIfInBounds_toArray, List.set_cons_zero, List.set_cons_succ]
        iterate 14
          refine seq_want (v := ?_) rfl rfl (fun W hS => ?_) ?_
          rotate_left
          · first
              | (conv => lhs; simp [go_sem, eq_Vx, eq_Eg]
                 first | done | exact rfl)
              | (have hS := hS rfl
                 obtain ⟨hbw, h1, h2, h3⟩ := KB.out _ hS
                 obtain ⟨q0, q1⟩ := pl_two h1
                 obtain ⟨r0, r1, r2⟩ := three_at h2
                 obtain ⟨s0, s1, s2⟩ := three_at h3
                 conv => lhs; simp [go_sem, *, eq_Vx, eq_Eg]
                 first | done | exact rfl)
          simp only [Act.put, List.setIfInBounds_toArray, List.set_cons_zero, List.set_cons_succ]
        refine seq_skip rfl rfl ?_
        simp only [Act.put, List.setIfInBounds_toArray, List.set_cons_zero, List.set_cons_succ]
        refine seq_skip rfl rfl ?_
        simp only [Act.put, List.setIfInBounds_toArray, List.set_cons_zero, List.set_cons_succ]
        refine seq_skip rfl rfl ?_
        simp only [Act.put, List.setIfInBounds_toArray, List.set_cons_zero, List.set_cons_succ]
        refine seq_skip rfl rfl ?_
        simp only [Act.put, List.setIfInBounds_toArray, List.set_cons_zero, List.set_cons_succ]
        refine seq_skip rfl rfl ?_
        simp only [Act.put, List.setIfInBounds_toArray, List.set_cons_zero, List.set_cons_succ]
        refine seq_skip rfl rfl ?_
        simp only [Act.put, List.setIfInBounds_toArray, List.set_cons_zero, List.set_cons_succ]
        refine seq_skip rfl rfl ?_
        simp only [Act.put, List.setIfInBounds_toArray, List.set_cons_zero, List.set_cons_succ]
        iterate 11
          refine seq_want (v := ?_) rfl rfl (fun W hS => ?_) ?_
          rotate_left
          · first
              | (conv => lhs; simp [go_sem, eq_Vx, eq_Eg]
                 first | done | exact rfl)
              | (have hS := hS rfl
                 obtain ⟨hbw, h1, h2, h3⟩ := KB.out _ hS
                 obtain ⟨q0, q1⟩ := pl_two h1
                 obtain ⟨r0, r1, r2⟩ := three_at h2
                 obtain ⟨s0, s1, s2⟩ := three_at h3
                 conv => lhs; simp [go_sem, *, eq_Vx, eq_Eg]
                 first | done | exact rfl)
          simp only [Act.put, List.setIfInBounds_toArray, List.set_cons_zero, List.set_cons_succ]
        refine seq_end ?_
        go_upto_region 8 with fail
        have D8 := Y9.out.drew.drew
        refine wp_region_seq (fun W => Below W5.heap.size W5 W) (1 :: 2 :: 4 :: 6 :: 7 :: 9 :: 10 :: 11 :: []) (2 :: 6 :: []) (0 :: 1 :: 2 :: 4 :: 6 :: 7 :: 3 :: 5 :: 8 :: 9 :: 10 :: 11 :: []) (by kernel_rfl) (by kernel_rfl) rfl (by kernel_rfl) rfl (D8) (by simp only [picked, List.filterMap_cons, List.filterMap_nil, List.getElem?_cons_zero, List.getElem?_cons_succ, Option.map_some]; exact rfl) ?_
        refine seq_on rfl rfl fun K hK => ?_
        go_wp2_with (go_at_call 11; refine (AW.out _).mono ?_; rintro e y11' ⟨rfl, c11⟩)
        have Y11 := Lib.hid (then_ D8 c11 D8.size)
        refine hK _ _ Y11.out ?_
        clear hK K c11
        iterate 5
          refine seq_want (v := ?_) rfl rfl (fun W hS => ?_) ?_
          rotate_left
          · first
              | (conv => lhs; simp [go_sem]
                 first | done | exact rfl)
              | (have hS := hS rfl
                 obtain ⟨hbw, h1, h2, h3⟩ := KB.out _ hS
                 obtain ⟨q0, q1⟩ := pl_two h1
                 obtain ⟨r0, r1, r2⟩ := three_at h2
                 obtain ⟨s0, s1, s2⟩ := three_at h3
                 conv => lhs; simp [go_sem, *]
                 first | done | exact rfl)
          simp only [Act.put, List.setIfInBounds_toArray, List.set_cons_zero, List.set_cons_succ]
        refine seq_on rfl rfl fun K hK => ?_
        go_wp2_with (go_at_call 14; refine (PL.out _ (KB.out _ Y11.out).1).mono ?_; rintro e y12' ⟨rfl, c12⟩)
        have Y12 := Lib.hid (then_ Y11.out c12 Y11.out.size)
        refine hK _ _ Y12.out ?_
        clear hK K c12
        refine seq_on rfl rfl fun K hK => ?_
        go_wp2_with (go_at_call 29; refine (X4.out _ (KB.out _ Y12.out).1).mono ?_; rintro e y13' ⟨rfl, c13⟩)
        have Y13 := Lib.hid (then_ Y12.out c13 Y12.out.size)
        refine hK _ _ Y13.out ?_
        clear hK K c13
        refine seq_on rfl rfl fun K hK => ?_
        go_wp2_with (go_at_call 30; refine (X5.out _ (KB.out _ Y13.out).1).mono ?_; rintro e y14' ⟨rfl, c14⟩)
        have Y14 := Lib.hid (then_ Y13.out c14 Y13.out.size)
        refine hK _ _ Y14.out ?_
        clear hK K c14
        iterate 3
          refine seq_want (v := ?_) rfl rfl (fun W hS => ?_) ?_
          rotate_left
          · first
              | (conv => lhs; simp [go_sem]
                 first | done | exact rfl)
              | (have hS := hS rfl
                 obtain ⟨hbw, h1, h2, h3⟩ := KB.out _ hS
                 obtain ⟨q0, q1⟩ := pl_two h1
                 obtain ⟨r0, r1, r2⟩ := three_at h2
                 obtain ⟨s0, s1, s2⟩ := three_at h3
                 conv => lhs; simp [go_sem, *]
                 first | done | exact rfl)
          simp only [Act.put, List.setIfInBounds_toArray, List.set_cons_zero, List.set_cons_succ]
        refine seq_end ?_
        go_wp2
        go_ret
        exact ⟨rfl, (KB.out _ Y14.out).1⟩

set_option maxRecDepth 100000 in
theorem lifted (os : Os) (started : os.Started) (H : Type) (enc : TypeId × Value → H) :
    ReturnsInHanded {} Try.checked os 5 .any (Rows.planFindsSpec.pre6 enc Try.prog Try.f5 Rows.planFindsRow.domain false) (Rows.planFindsSpec.post enc Try.prog Try.f5 false true false false) := by
  refine returnsInHanded_of_change (C := Try.checked) own started (by kernel_rfl) Try.func5
    (ChangeSpec.witness6 (enc := enc) (C := Try.checked) false ⟨#[], #[.agg #[.slice none 0 0, .slice none 0 0], .int .i64 0], []⟩ 8 (by kernel_rfl) (by kernel_rfl) (by kernel_rfl) (by kernel_rfl)) ?_
  intro W base args ds gs before hval0 hW hcnd _
  have hval : ∀ (j : Nat) t v, Try.f5.params[j]? = some t → args[j]? = some v → Value.okWide Try.prog W .any base t v := hval0
  have hW' := hW
  obtain ⟨p, q, hA0, hV, rfl, hfz, hnd⟩ := hW
  have hA : DataW.TrodAll enc Try.prog W 0 (fun _ => true) true Try.f5.params.toList args.toList ds p := hA0
  rw [Try.params5] at hA hval
  obtain ⟨v0, vs0, d0, ds0, p0, q0, hargs, rfl, rfl, h0, r0⟩ := trodAll_cons hA
  obtain ⟨v1, vs1, d1, ds1, p1, q1, rfl, rfl, rfl, h1, r1⟩ := trodAll_cons r0
  obtain ⟨rfl, rfl, rfl⟩ := trodAll_nil r1
  obtain rfl : args = #[v0, v1] := by cases args; simp_all
  obtain ⟨rfl, rfl⟩ := trodVars_none hV
  have k0 := h0
  have lt0 : ∀ x ∈ p0, x.block < W.heap.size := by obtain ⟨m, hm⟩ := k0; exact DataW.trod_lt m _ _ _ hm
  obtain ⟨v, e, vs, es, rfl, hv, he⟩ := Pl.open_plan (hval 0 25 v0 rfl rfl) h0
  obtain ⟨a1, rfl, rfl, rfl, w1⟩ := open_int Try.underlying3 (hval 1 3 v1 rfl rfl) h1
  clear hA0 hval0
  refine (walk v e vs es a1 W hv he w1).mono fun e W' ⟨he, bel⟩ => ?_
  subst he
  exact ⟨_, rfl, _, _, _, [], _, [], hW', trodAll_mk1 (shut_bool Try.underlying4 _), (trodAll_cons_mk (Below.trod laidOut (by kernel_rfl) (of_decide_eq_true (by kernel_rfl)) k0 bel lt0) (trodAll_cons_mk (shut_int Try.underlying3 w1) trodAll_mk0)), rfl, bel.frame _, fun h => by cases h⟩

theorem over : Rows.planFindsRow.holds Try.pinned (OpenSpec.ofChange Rows.planFindsSpec) :=
  OpenClaim.holds_of_wide 5 Try.f5 rfl rfl rfl rfl rfl rfl rfl ⟨rfl, rfl, rfl, rfl, rfl⟩ rfl rfl rfl rfl rfl (by kernel_rfl) Try.func5 (by kernel_rfl)
    (of_decide_eq_true (by kernel_rfl)) (by unfold Func.isWrapper; first | (rw [if_pos (by decide +kernel)]; kernel_rfl) | (rw [if_neg (by decide +kernel)]; exact ⟨rfl, rfl⟩))
    (fun os started H enc _ => lifted os started H enc)

/-- THE STATEMENT -/
theorem proved : Rows.PlanFindsSaid := over
#print axioms proved
end Go.Proofs.Ytdkmclaihojknaa.planFinds
