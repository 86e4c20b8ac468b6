/- merged: The closures of ratio's sums, products and quotients, whether each step fits or not. Conditions: those that each theorem names. The closures of ratio's products and quotients, whether each step fits or not; written by gen_rath.py. Conditions: those that each theorem names. reckon of ratio in general: what it answers of two fractions and a closure that tells Num, Den and the first error; written by auto_reckon.py. Conditions: those that each theorem names. -/
import Derived.Test.YtjmojddnedngaaaDoorRatA
import Derived.Test.YtjmojddnedngaaaDoorRatB
import Derived.Test.YtjmojddnedngaaaDoorSeq
import Derived.Test.YtjmojddnedngaaaDoorQatB
section
namespace Go.Proofs.YtjmojddnedngaaaDoor
open Go.ChangeShapes Go.WideShapes Go.ChangeAt Go.RowKit
set_option linter.unusedVariables false
set_option linter.unusedSimpArgs false

/-- the first error -/
def fst_ (a b : Int) : Int := if a = 0 then b else a
/-- what a step does: it answers r, and 'first' holds er if it held none -/
def DoC (f : Nat) (x y r er : Int) (p : Nat) : Prop := ∀ (W : World) (x0 : Int), Own W p 27 #[.int .i64 x0] →
  Calls Tryd.prog 45 #[.func (.func f) #[] #[], .agg #[.int .u64 (L0 x), .int .u64 (L1 x), .int .u64 (L2 x), .int .u64 (L3 x)], .agg #[.int .u64 (L0 y), .int .u64 (L1 y), .int .u64 (L2 y), .int .u64 (L3 y)], .pointer (some ⟨p, 0, none⟩)] W fun e w' => e = .returned (.agg #[.int .u64 (L0 r), .int .u64 (L1 r), .int .u64 (L2 r), .int .u64 (L3 r)]) ∧ But p W w' ∧ Own w' p 27 #[.int .i64 (fst_ x0 er)]
theorem doC_Mul {x y r er : Int} {p : Nat} (hF : ∀ w, Calls Tryd.prog 26 #[.agg #[.int .u64 (L0 x), .int .u64 (L1 x), .int .u64 (L2 x), .int .u64 (L3 x)], .agg #[.int .u64 (L0 y), .int .u64 (L1 y), .int .u64 (L2 y), .int .u64 (L3 y)]] w fun e w' => e = .returned (.tuple #[.agg #[.int .u64 (L0 r), .int .u64 (L1 r), .int .u64 (L2 r), .int .u64 (L3 r)], .int .i64 er]) ∧ Below w.heap.size w w') : DoC 26 x y r er p :=
  fun W x0 ho => do_Mul hF ho (fun h => by unfold fst_; rw [if_pos h]) (fun h => by unfold fst_; rw [if_neg h])
theorem doC_Add {x y r er : Int} {p : Nat} (hF : ∀ w, Calls Tryd.prog 10 #[.agg #[.int .u64 (L0 x), .int .u64 (L1 x), .int .u64 (L2 x), .int .u64 (L3 x)], .agg #[.int .u64 (L0 y), .int .u64 (L1 y), .int .u64 (L2 y), .int .u64 (L3 y)]] w fun e w' => e = .returned (.tuple #[.agg #[.int .u64 (L0 r), .int .u64 (L1 r), .int .u64 (L2 r), .int .u64 (L3 r)], .int .i64 er]) ∧ Below w.heap.size w w') : DoC 10 x y r er p :=
  fun W x0 ho => do_Add hF ho (fun h => by unfold fst_; rw [if_pos h]) (fun h => by unfold fst_; rw [if_neg h])
theorem doC_Sub {x y r er : Int} {p : Nat} (hF : ∀ w, Calls Tryd.prog 11 #[.agg #[.int .u64 (L0 x), .int .u64 (L1 x), .int .u64 (L2 x), .int .u64 (L3 x)], .agg #[.int .u64 (L0 y), .int .u64 (L1 y), .int .u64 (L2 y), .int .u64 (L3 y)]] w fun e w' => e = .returned (.tuple #[.agg #[.int .u64 (L0 r), .int .u64 (L1 r), .int .u64 (L2 r), .int .u64 (L3 r)], .int .i64 er]) ∧ Below w.heap.size w w') : DoC 11 x y r er p :=
  fun W x0 ho => do_Sub hF ho (fun h => by unfold fst_; rw [if_pos h]) (fun h => by unfold fst_; rw [if_neg h])
theorem pair_ret {f : Func} (i j : Nat) (hf : f.results = #[.cell i 24, .cell j 24]) (tmps : Array Value) (w : World) (p q : Nat) (x0 x1 x2 x3 y0 y1 y2 y3 : Value) (h4 : tmps[i]? = some (.pointer (some ⟨p, 0, none⟩))) (h5 : tmps[j]? = some (.pointer (some ⟨q, 0, none⟩))) (hO : Own w p 24 #[x0, x1, x2, x3]) (hQ : Own w q 24 #[y0, y1, y2, y3]) :
    (results f tmps).run Tryd.prog w = .ok (.tuple #[.agg #[x0, x1, x2, x3], .agg #[y0, y1, y2, y3]]) w := by
  obtain ⟨c, _, _⟩ := hO.at_
  obtain ⟨c2, _, _⟩ := hQ.at_
  simp [results, hf, go_sem, h4, h5, c, c2]

set_option maxHeartbeats 8000000 in
set_option maxRecDepth 20000 in
theorem totc_any {an ad bn bd r1 r2 r3 r4 e1 e2 e3 e4 : Int} {pf ph pa pb how : Nat} {w : World} (H1 : DoC 26 an bd r1 e1 pf) (H2 : DoC 26 bn ad r2 e2 pf) (H3 : DoC how r1 r2 r3 e3 pf) (H4 : DoC 26 ad bd r4 e4 pf)
    (of_ : Own w pf 27 #[.int .i64 0]) (oh_ : Own w ph 53 #[.func (.func how) #[] #[]])
    (oa_ : Own w pa 26 #[.int .u64 (L0 an), .int .u64 (L1 an), .int .u64 (L2 an), .int .u64 (L3 an), .int .u64 (L0 ad), .int .u64 (L1 ad), .int .u64 (L2 ad), .int .u64 (L3 ad)])
    (ob_ : Own w pb 26 #[.int .u64 (L0 bn), .int .u64 (L1 bn), .int .u64 (L2 bn), .int .u64 (L3 bn), .int .u64 (L0 bd), .int .u64 (L1 bd), .int .u64 (L2 bd), .int .u64 (L3 bd)])
    (nh : ph ≠ pf) (na : pa ≠ pf) (nb : pb ≠ pf) :
    Calls Tryd.prog 25 #[.func (.func 45) #[] #[.pointer (some ⟨pf, 0, none⟩)], .pointer (some ⟨ph, 0, none⟩), .pointer (some ⟨pa, 0, none⟩), .pointer (some ⟨pb, 0, none⟩)] w fun e w' => e = .returned (.tuple #[.agg #[.int .u64 (L0 r3), .int .u64 (L1 r3), .int .u64 (L2 r3), .int .u64 (L3 r3)], .agg #[.int .u64 (L0 r4), .int .u64 (L1 r4), .int .u64 (L2 r4), .int .u64 (L3 r4)]]) ∧ But pf w w' ∧ Own w' pf 27 #[.int .i64 (fst_ (fst_ (fst_ (fst_ 0 e1) e2) e3) e4)] := by
  have zf := of_.in_
  have za := oa_.in_
  have zb := ob_.in_
  have zh := oh_.in_
  replace H1 := Lib.hid H1
  replace H2 := Lib.hid H2
  replace H3 := Lib.hid H3
  replace H4 := Lib.hid H4
  go_enter Tryd.func25, Tryd.ntmps25
  go_upto_region 1 with fail
  go_name_world W0 hW0
  have O5 : Own W0 w.heap.size 24 #[.int .u64 0, .int .u64 0, .int .u64 0, .int .u64 0] := hW0 ▸ (by repeat' (first | (with_reducible assumption) | (with_reducible refine Own.drawnN ?_ _) | (with_reducible refine Own.drawn ?_) | (with_reducible refine Own.made_at ?_; first | rfl | (simp; done) | omega | (simp; omega)) | (with_reducible refine Own.more ?_ _) | (with_reducible refine Own.apart ?_ ?_ _ _; rotate_left; first | omega | (simp; done) | (simp; omega)) | (refine Own.put ?_ _ _)))
  have O6 : Own W0 (w.heap.size + 1) 24 #[.int .u64 0, .int .u64 0, .int .u64 0, .int .u64 0] := hW0 ▸ (by repeat' (first | (with_reducible assumption) | (with_reducible refine Own.drawnN ?_ _) | (with_reducible refine Own.drawn ?_) | (with_reducible refine Own.made_at ?_; first | rfl | (simp; done) | omega | (simp; omega)) | (with_reducible refine Own.more ?_ _) | (with_reducible refine Own.apart ?_ ?_ _ _; rotate_left; first | omega | (simp; done) | (simp; omega)) | (refine Own.put ?_ _ _)))
  have hB : Below w.heap.size w W0 := hW0 ▸ (by repeat' (first | (with_reducible exact Below.refl _ _) | (with_reducible assumption) | (with_reducible refine below_drewN ?_ _) | (with_reducible refine Below.drew ?_) | (with_reducible refine Below.alloc ?_ ?_ _) | (with_reducible refine Below.setCell ?_ ?_ _) | (with_reducible refine then_ ?_ (by with_reducible assumption) ?_) | (with_reducible exact Nat.le_refl _) | (with_reducible exact Nat.le_succ _) | (with_reducible exact Nat.le_succ_of_le (by with_reducible assumption)) | omega | (simp; done) | (simp; omega) | (exact Nat.le_succ _) | (exact Nat.le_succ_of_le (by with_reducible assumption))))
  clear hW0
  replace oh_ := oh_.keep hB
  replace oa_ := oa_.keep hB
  replace ob_ := ob_.keep hB
  replace of_ := of_.keep hB
  have B0 := But.of (p := pf) hB
  clear hB
  have sz := O6.in_
  refine wp_region_seq (fun W => Own W ph 53 #[.func (.func how) #[] #[]] ∧ Own W pa 26 #[.int .u64 (L0 an), .int .u64 (L1 an), .int .u64 (L2 an), .int .u64 (L3 an), .int .u64 (L0 ad), .int .u64 (L1 ad), .int .u64 (L2 ad), .int .u64 (L3 ad)] ∧ Own W pb 26 #[.int .u64 (L0 bn), .int .u64 (L1 bn), .int .u64 (L2 bn), .int .u64 (L3 bn), .int .u64 (L0 bd), .int .u64 (L1 bd), .int .u64 (L2 bd), .int .u64 (L3 bd)]) (0 :: 1 :: 2 :: 3 :: 4 :: 5 :: 6 :: 8 :: 9 :: 10 :: 11 :: 12 :: []) (1 :: 4 :: 6 :: 10 :: 12 :: []) (0 :: 1 :: 2 :: 3 :: 4 :: 5 :: 6 :: 8 :: 9 :: 10 :: 11 :: 12 :: 7 :: 13 :: 14 :: 15 :: []) (by kernel_rfl) (by kernel_rfl) rfl (by kernel_rfl) rfl (⟨oh_.drawn, oa_.drawn, ob_.drawn⟩) (by simp only [picked, List.filterMap_cons, List.filterMap_nil, List.getElem?_cons_zero, List.getElem?_cons_succ, Option.map_some]; exact rfl) ?_
  iterate 12
    refine seq_want (v := ?_) rfl rfl (fun W hS => ?_) ?_
    rotate_left
    · first
        | (conv => lhs; simp [go_sem]
           first | done | exact rfl)
        | (have hS := hS rfl
           obtain ⟨q1, q2, q3⟩ := hS
           obtain ⟨q4, q5, q6⟩ := q1.at_
           obtain ⟨q7, q8, q9⟩ := q2.at_
           obtain ⟨q10, q11, q12⟩ := q3.at_
           conv => lhs; simp [go_sem, *]
           first | done | exact rfl)
    simp only [Act.put, List.setIfInBounds_toArray, List.set_cons_zero, List.set_cons_succ]
  have B1 : But pf w W0.drew := ⟨B0.os, B0.tape, B0.output, B0.size, B0.block⟩
  refine seq_on rfl rfl fun K hK => ?_
  go_wp2_with (refine (H1.out _ _ (of_.drawn)).mono ?_; rintro e w2 ⟨rfl, b2, of2⟩)
  have oh2 := b2.own (oh_.drawn) (nh)
  have oa2 := b2.own (oa_.drawn) (na)
  have ob2 := b2.own (ob_.drawn) (nb)
  have O52 := b2.own (O5.drawn) (by omega)
  have O62 := b2.own (O6.drawn) (by omega)
  have B2 := B1.trans b2
  refine hK _ _ ⟨oh2, oa2, ob2⟩ ?_
  clear hK K b2
  refine seq_on rfl rfl fun K hK => ?_
  go_wp2_with (refine (H2.out _ _ (of2)).mono ?_; rintro e w3 ⟨rfl, b3, of3⟩)
  have oh3 := b3.own (oh2) (nh)
  have oa3 := b3.own (oa2) (na)
  have ob3 := b3.own (ob2) (nb)
  have O53 := b3.own (O52) (by omega)
  have O63 := b3.own (O62) (by omega)
  have B3 := B2.trans b3
  refine hK _ _ ⟨oh3, oa3, ob3⟩ ?_
  clear hK K b3 oh2 oa2 ob2 O52 O62 of2
  refine seq_on rfl rfl fun K hK => ?_
  go_wp2_with (refine (H3.out _ _ (of3)).mono ?_; rintro e w4 ⟨rfl, b4, of4⟩)
  have oh4 := b4.own (oh3) (nh)
  have oa4 := b4.own (oa3) (na)
  have ob4 := b4.own (ob3) (nb)
  have O54 := b4.own (O53) (by omega)
  have O64 := b4.own (O63) (by omega)
  have B4 := B3.trans b4
  refine hK _ _ ⟨oh4, oa4, ob4⟩ ?_
  clear hK K b4 oh3 oa3 ob3 O53 O63 of3
  refine seq_last rfl rfl (by kernel_rfl) rfl fun K hK => ?_
  obtain ⟨s1, s2, s3⟩ := O54.at_
  go_wp2
  refine hK _ _ ?_
  clear hK K s1 s2 s3
  refine seq_end ?_
  go_upto_region 2 with fail
  go_name_world W5 h5
  have O5b := only_W (w0 := w) (v0 := .int .u64 (L0 r3)) (v1 := .int .u64 (L1 r3)) (v2 := .int .u64 (L2 r3)) (v3 := .int .u64 (L3 r3)) O54 rfl
  have O5c : Own W5 w.heap.size 24 #[.int .u64 (L0 r3), .int .u64 (L1 r3), .int .u64 (L2 r3), .int .u64 (L3 r3)] := h5 ▸ O5b.1
  have O6c : Own W5 (w.heap.size + 1) 24 #[.int .u64 0, .int .u64 0, .int .u64 0, .int .u64 0] := h5 ▸ ((((O64.apart (by omega) 0 _).apart (by omega) 1 _).apart (by omega) 2 _).apart (by omega) 3 _)
  have oac : Own W5 pa 26 #[.int .u64 (L0 an), .int .u64 (L1 an), .int .u64 (L2 an), .int .u64 (L3 an), .int .u64 (L0 ad), .int .u64 (L1 ad), .int .u64 (L2 ad), .int .u64 (L3 ad)] := h5 ▸ ((((oa4.apart (by omega) 0 _).apart (by omega) 1 _).apart (by omega) 2 _).apart (by omega) 3 _)
  have obc : Own W5 pb 26 #[.int .u64 (L0 bn), .int .u64 (L1 bn), .int .u64 (L2 bn), .int .u64 (L3 bn), .int .u64 (L0 bd), .int .u64 (L1 bd), .int .u64 (L2 bd), .int .u64 (L3 bd)] := h5 ▸ ((((ob4.apart (by omega) 0 _).apart (by omega) 1 _).apart (by omega) 2 _).apart (by omega) 3 _)
  have ofc : Own W5 pf 27 #[.int .i64 (fst_ (fst_ (fst_ 0 e1) e2) e3)] := h5 ▸ ((((of4.apart (by omega) 0 _).apart (by omega) 1 _).apart (by omega) 2 _).apart (by omega) 3 _)
  have Bc : But pf w W5 := h5 ▸ ((((B4.far (Nat.le_refl _) 0 _).far (Nat.le_refl _) 1 _).far (Nat.le_refl _) 2 _).far (Nat.le_refl _) 3 _)
  clear O5b h5 O54 O64 oa4 ob4 of4 oh4 B4 B3 B2 B1 B0 O5 O6 oa_ ob_ of_ oh_
  refine wp_region_seq (fun W => Own W w.heap.size 24 #[.int .u64 (L0 r3), .int .u64 (L1 r3), .int .u64 (L2 r3), .int .u64 (L3 r3)] ∧ Own W pa 26 #[.int .u64 (L0 an), .int .u64 (L1 an), .int .u64 (L2 an), .int .u64 (L3 an), .int .u64 (L0 ad), .int .u64 (L1 ad), .int .u64 (L2 ad), .int .u64 (L3 ad)] ∧ Own W pb 26 #[.int .u64 (L0 bn), .int .u64 (L1 bn), .int .u64 (L2 bn), .int .u64 (L3 bn), .int .u64 (L0 bd), .int .u64 (L1 bd), .int .u64 (L2 bd), .int .u64 (L3 bd)]) (0 :: 1 :: 2 :: 3 :: 4 :: 5 :: []) (0 :: 3 :: 5 :: []) (0 :: 1 :: 2 :: 3 :: 4 :: 5 :: 6 :: 7 :: 8 :: []) (by kernel_rfl) (by kernel_rfl) rfl (by kernel_rfl) rfl (⟨O5c.drawn, oac.drawn, obc.drawn⟩) (by simp only [picked, List.filterMap_cons, List.filterMap_nil, List.getElem?_cons_zero, List.getElem?_cons_succ, Option.map_some]; exact rfl) ?_
  iterate 6
    refine seq_want (v := ?_) rfl rfl (fun W hS => ?_) ?_
    rotate_left
    · first
        | (conv => lhs; simp [go_sem]
           first | done | exact rfl)
        | (have hS := hS rfl
           obtain ⟨q1, q2, q3⟩ := hS
           obtain ⟨q4, q5, q6⟩ := q1.at_
           obtain ⟨q7, q8, q9⟩ := q2.at_
           obtain ⟨q10, q11, q12⟩ := q3.at_
           conv => lhs; simp [go_sem, *]
           first | done | exact rfl)
    simp only [Act.put, List.setIfInBounds_toArray, List.set_cons_zero, List.set_cons_succ]
  have Bd : But pf w W5.drew := ⟨Bc.os, Bc.tape, Bc.output, Bc.size, Bc.block⟩
  refine seq_on rfl rfl fun K hK => ?_
  go_wp2_with (refine (H4.out _ _ (ofc.drawn)).mono ?_; rintro e w6 ⟨rfl, b6, of6⟩)
  have oa6 := b6.own oac.drawn na
  have ob6 := b6.own obc.drawn nb
  have O56 := b6.own O5c.drawn (by omega)
  have O66 := b6.own O6c.drawn (by omega)
  have B6 := Bd.trans b6
  refine hK _ _ ⟨O56, oa6, ob6⟩ ?_
  clear hK K b6 O5c O6c oac obc ofc Bc Bd
  refine seq_on rfl rfl fun K hK => ?_
  have O67 := ((((O66.apart (q := w.heap.size) (by omega) 0 (.int .u64 (L0 r3))).apart (q := w.heap.size) (by omega) 1 (.int .u64 (L1 r3))).apart (q := w.heap.size) (by omega) 2 (.int .u64 (L2 r3))).apart (q := w.heap.size) (by omega) 3 (.int .u64 (L3 r3)))
  have O57 := (only_W (w0 := w) (v0 := .int .u64 (L0 r3)) (v1 := .int .u64 (L1 r3)) (v2 := .int .u64 (L2 r3)) (v3 := .int .u64 (L3 r3)) O56 rfl).1
  have of7 := ((((of6.apart (q := w.heap.size) (by omega) 0 (.int .u64 (L0 r3))).apart (q := w.heap.size) (by omega) 1 (.int .u64 (L1 r3))).apart (q := w.heap.size) (by omega) 2 (.int .u64 (L2 r3))).apart (q := w.heap.size) (by omega) 3 (.int .u64 (L3 r3)))
  have oa7 := ((((oa6.apart (q := w.heap.size) (by omega) 0 (.int .u64 (L0 r3))).apart (q := w.heap.size) (by omega) 1 (.int .u64 (L1 r3))).apart (q := w.heap.size) (by omega) 2 (.int .u64 (L2 r3))).apart (q := w.heap.size) (by omega) 3 (.int .u64 (L3 r3)))
  have ob7 := ((((ob6.apart (q := w.heap.size) (by omega) 0 (.int .u64 (L0 r3))).apart (q := w.heap.size) (by omega) 1 (.int .u64 (L1 r3))).apart (q := w.heap.size) (by omega) 2 (.int .u64 (L2 r3))).apart (q := w.heap.size) (by omega) 3 (.int .u64 (L3 r3)))
  have B7 := ((((B6.far (g := w.heap.size) (Nat.le_refl _) 0 (.int .u64 (L0 r3))).far (g := w.heap.size) (Nat.le_refl _) 1 (.int .u64 (L1 r3))).far (g := w.heap.size) (Nat.le_refl _) 2 (.int .u64 (L2 r3))).far (g := w.heap.size) (Nat.le_refl _) 3 (.int .u64 (L3 r3)))
  obtain ⟨s1, s2, s3⟩ := O56.at_
  go_wp2
  refine hK _ _ ⟨O57, oa7, ob7⟩ ?_
  clear hK K s1 s2 s3
  refine seq_on rfl rfl fun K hK => ?_
  have O68 := (only_W (w0 := w) (v0 := .int .u64 (L0 r4)) (v1 := .int .u64 (L1 r4)) (v2 := .int .u64 (L2 r4)) (v3 := .int .u64 (L3 r4)) O67 rfl).1
  have O58 := ((((O57.apart (q := w.heap.size + 1) (by omega) 0 (.int .u64 (L0 r4))).apart (q := w.heap.size + 1) (by omega) 1 (.int .u64 (L1 r4))).apart (q := w.heap.size + 1) (by omega) 2 (.int .u64 (L2 r4))).apart (q := w.heap.size + 1) (by omega) 3 (.int .u64 (L3 r4)))
  have of8 := ((((of7.apart (q := w.heap.size + 1) (by omega) 0 (.int .u64 (L0 r4))).apart (q := w.heap.size + 1) (by omega) 1 (.int .u64 (L1 r4))).apart (q := w.heap.size + 1) (by omega) 2 (.int .u64 (L2 r4))).apart (q := w.heap.size + 1) (by omega) 3 (.int .u64 (L3 r4)))
  have oa8 := ((((oa7.apart (q := w.heap.size + 1) (by omega) 0 (.int .u64 (L0 r4))).apart (q := w.heap.size + 1) (by omega) 1 (.int .u64 (L1 r4))).apart (q := w.heap.size + 1) (by omega) 2 (.int .u64 (L2 r4))).apart (q := w.heap.size + 1) (by omega) 3 (.int .u64 (L3 r4)))
  have ob8 := ((((ob7.apart (q := w.heap.size + 1) (by omega) 0 (.int .u64 (L0 r4))).apart (q := w.heap.size + 1) (by omega) 1 (.int .u64 (L1 r4))).apart (q := w.heap.size + 1) (by omega) 2 (.int .u64 (L2 r4))).apart (q := w.heap.size + 1) (by omega) 3 (.int .u64 (L3 r4)))
  have B8 := ((((B7.far (g := w.heap.size + 1) (Nat.le_succ _) 0 (.int .u64 (L0 r4))).far (g := w.heap.size + 1) (Nat.le_succ _) 1 (.int .u64 (L1 r4))).far (g := w.heap.size + 1) (Nat.le_succ _) 2 (.int .u64 (L2 r4))).far (g := w.heap.size + 1) (Nat.le_succ _) 3 (.int .u64 (L3 r4)))
  obtain ⟨s1, s2, s3⟩ := O67.at_
  go_wp2
  refine hK _ _ ⟨O58, oa8, ob8⟩ ?_
  clear hK K s1 s2 s3
  refine seq_end ?_
  go_wp2
  refine bodyPost_ret (pair_ret 5 6 rfl _ _ _ _ _ _ _ _ _ _ _ _ rfl rfl O58 O68) rfl ⟨rfl, B8, of8⟩
end Go.Proofs.YtjmojddnedngaaaDoor
end
section
namespace Go.Proofs.YtjmojddnedngaaaDoor
open Go.ChangeShapes Go.WideShapes Go.ChangeAt Go.RowKit
set_option linter.unusedVariables false
set_option linter.unusedSimpArgs false

end Go.Proofs.YtjmojddnedngaaaDoor
end
section
namespace Go.Proofs.YtjmojddnedngaaaDoor
open Go.ChangeShapes Go.WideShapes Go.ChangeAt Go.RowKit
set_option linter.unusedVariables false
set_option linter.unusedSimpArgs false
/-- what reckon answers -/
def rkV (an ad bn bd N D EE : Int) : Value := if decide (Rgt an ad) then (if decide (Rgt bn bd) then (if (EE == 0) then .tuple #[.agg #[.int .u64 (L0 (mkP N D)), .int .u64 (L1 (mkP N D)), .int .u64 (L2 (mkP N D)), .int .u64 (L3 (mkP N D)), .int .u64 (L0 (mkQ N D)), .int .u64 (L1 (mkQ N D)), .int .u64 (L2 (mkQ N D)), .int .u64 (L3 (mkQ N D))], .int .i64 (mkR N D)] else .tuple #[.agg #[.int .u64 (L0 0), .int .u64 (L1 0), .int .u64 (L2 0), .int .u64 (L3 0), .int .u64 (L0 0), .int .u64 (L1 0), .int .u64 (L2 0), .int .u64 (L3 0)], .int .i64 EE]) else .tuple #[.agg #[.int .u64 (L0 0), .int .u64 (L1 0), .int .u64 (L2 0), .int .u64 (L3 0), .int .u64 (L0 0), .int .u64 (L1 0), .int .u64 (L2 0), .int .u64 (L3 0)], .int .i64 1]) else .tuple #[.agg #[.int .u64 (L0 0), .int .u64 (L1 0), .int .u64 (L2 0), .int .u64 (L3 0), .int .u64 (L0 0), .int .u64 (L1 0), .int .u64 (L2 0), .int .u64 (L3 0)], .int .i64 1]
set_option maxHeartbeats 16000000 in
set_option maxRecDepth 20000 in
theorem rk_total {an ad bn bd : Int} (han : Fit an) (had : Fit ad) (hbn : Fit bn) (hbd : Fit bd) {N D EE : Int} (hN : Fit N) (hD : Fit D) {c0 c1 c2 : Value} {w : World} (PF0 : ∀ W p, Below w.heap.size w W → Own W p 27 #[.int .i64 0] → w.heap.size ≤ p → Calls Tryd.prog 25 #[.func (.func 45) #[] #[.pointer (some ⟨p, 0, none⟩)], c0, c1, c2] W fun e w' => e = .returned (.tuple #[.agg #[.int .u64 (L0 N), .int .u64 (L1 N), .int .u64 (L2 N), .int .u64 (L3 N)], .agg #[.int .u64 (L0 D), .int .u64 (L1 D), .int .u64 (L2 D), .int .u64 (L3 D)]]) ∧ But p W w' ∧ Own w' p 27 #[.int .i64 EE]) : Calls Tryd.prog 24 #[.agg #[.int .u64 (L0 an), .int .u64 (L1 an), .int .u64 (L2 an), .int .u64 (L3 an), .int .u64 (L0 ad), .int .u64 (L1 ad), .int .u64 (L2 ad), .int .u64 (L3 ad)], .agg #[.int .u64 (L0 bn), .int .u64 (L1 bn), .int .u64 (L2 bn), .int .u64 (L3 bn), .int .u64 (L0 bd), .int .u64 (L1 bd), .int .u64 (L2 bd), .int .u64 (L3 bd)], .func (.func 25) #[] #[c0, c1, c2]] w fun e w' => e = .returned (rkV an ad bn bd N D EE) ∧ Below w.heap.size w w' := by
  have PF := Lib.hid PF0
  clear PF0
  go_enter Tryd.func24, Tryd.ntmps24
  go_upto_region 1 with fail
  go_name_world W0 hW0e
  have ow3 : Own W0 w.heap.size 26 #[.int .u64 (L0 an), .int .u64 (L1 an), .int .u64 (L2 an), .int .u64 (L3 an), .int .u64 (L0 ad), .int .u64 (L1 ad), .int .u64 (L2 ad), .int .u64 (L3 ad)] := hW0e ▸ (by repeat' (first | (with_reducible assumption) | (with_reducible refine Own.drawnN ?_ _) | (with_reducible refine Own.drawn ?_) | (with_reducible refine Own.made_at ?_; first | rfl | (simp; done) | omega | (simp; omega)) | (with_reducible refine Own.more ?_ _) | (with_reducible refine Own.apart ?_ ?_ _ _; rotate_left; first | omega | (simp; done) | (simp; omega)) | (refine Own.put ?_ _ _)))
  have ow4 : Own W0 (w.heap.size + 1) 26 #[.int .u64 (L0 bn), .int .u64 (L1 bn), .int .u64 (L2 bn), .int .u64 (L3 bn), .int .u64 (L0 bd), .int .u64 (L1 bd), .int .u64 (L2 bd), .int .u64 (L3 bd)] := hW0e ▸ (by repeat' (first | (with_reducible assumption) | (with_reducible refine Own.drawnN ?_ _) | (with_reducible refine Own.drawn ?_) | (with_reducible refine Own.made_at ?_; first | rfl | (simp; done) | omega | (simp; omega)) | (with_reducible refine Own.more ?_ _) | (with_reducible refine Own.apart ?_ ?_ _ _; rotate_left; first | omega | (simp; done) | (simp; omega)) | (refine Own.put ?_ _ _)))
  have ow6 : Own W0 (w.heap.size + 1 + 1) 26 #[.int .u64 0, .int .u64 0, .int .u64 0, .int .u64 0, .int .u64 0, .int .u64 0, .int .u64 0, .int .u64 0] := hW0e ▸ (by repeat' (first | (with_reducible assumption) | (with_reducible refine Own.drawnN ?_ _) | (with_reducible refine Own.drawn ?_) | (with_reducible refine Own.made_at ?_; first | rfl | (simp; done) | omega | (simp; omega)) | (with_reducible refine Own.more ?_ _) | (with_reducible refine Own.apart ?_ ?_ _ _; rotate_left; first | omega | (simp; done) | (simp; omega)) | (refine Own.put ?_ _ _)))
  have hW0 : Below w.heap.size w W0 := hW0e ▸ (by repeat' (first | (with_reducible exact Below.refl _ _) | (with_reducible assumption) | (with_reducible refine below_drewN ?_ _) | (with_reducible refine Below.drew ?_) | (with_reducible refine Below.alloc ?_ ?_ _) | (with_reducible refine Below.setCell ?_ ?_ _) | (with_reducible refine then_ ?_ (by with_reducible assumption) ?_) | (with_reducible exact Nat.le_refl _) | (with_reducible exact Nat.le_succ _) | (with_reducible exact Nat.le_succ_of_le (by with_reducible assumption)) | omega | (simp; done) | (simp; omega) | (exact Nat.le_succ _) | (exact Nat.le_succ_of_le (by with_reducible assumption))))
  clear hW0e
  have zown := ow6.in_
  rcases Bool.eq_false_or_eq_true (decide (Rgt an ad)) with t1 | t1
  · have t1_ := Lib.hid t1
    clear t1
    rcases Bool.eq_false_or_eq_true (decide (Rgt bn bd)) with t2 | t2
    · have t2_ := Lib.hid t2
      clear t2
      go_upto_region 1 with fail
      refine region_memo_f (B := W0.heap.size) (L := .val (.agg #[.int .u64 (L0 an), .int .u64 (L1 an), .int .u64 (L2 an), .int .u64 (L3 an), .int .u64 (L0 ad), .int .u64 (L1 ad), .int .u64 (L2 ad), .int .u64 (L3 ad)]) :: .val (.bool true) :: .val (.bool false) :: .val (.bool false) :: .val (.agg #[.int .u64 (L0 bn), .int .u64 (L1 bn), .int .u64 (L2 bn), .int .u64 (L3 bn), .int .u64 (L0 bd), .int .u64 (L1 bd), .int .u64 (L2 bd), .int .u64 (L3 bd)]) :: .val (.bool true) :: .val (.bool false) :: .val (.bool false) :: []) (by kernel_rfl) (Nat.le_refl _) ((by exact trivial))
        ⟨fun a w R => ld_R (R.slot 3 rfl) (R.keep ow3 trivial) rfl rfl rfl rfl rfl rfl rfl rfl, fun a w R => cl_t (enter_at Tryd.func43) (R.val 0) (Right_is han had t1_.out _), fun a w R => notb (R.val 1), fun a w R => mv (R.val 2), fun a w R => ld_R (R.slot 4 rfl) (R.keep ow4 trivial) rfl rfl rfl rfl rfl rfl rfl rfl, fun a w R => cl_t (enter_at Tryd.func43) (R.val 4) (Right_is hbn hbd t2_.out _), fun a w R => notb (R.val 5), fun a w R => pickn (R.val 3) (R.val 6), trivial⟩ (fun act_ W1 I => ?_)
      rw [I.act [(11, .agg #[.int .u64 (L0 an), .int .u64 (L1 an), .int .u64 (L2 an), .int .u64 (L3 an), .int .u64 (L0 ad), .int .u64 (L1 ad), .int .u64 (L2 ad), .int .u64 (L3 ad)]), (12, .bool true), (13, .bool false), (14, .bool false), (15, .agg #[.int .u64 (L0 bn), .int .u64 (L1 bn), .int .u64 (L2 bn), .int .u64 (L3 bn), .int .u64 (L0 bd), .int .u64 (L1 bd), .int .u64 (L2 bd), .int .u64 (L3 bd)]), (16, .bool true), (17, .bool false), (18, .bool false)]
        ⟨I.val 0, I.val 1, I.val 2, I.val 3, I.val 4, I.val 5, I.val 6, I.val 7, trivial⟩ rfl]
      have sW1 : W0.heap.size ≤ W1.heap.size := I.below.size
      replace ow3 := I.keep ow3 trivial
      replace ow4 := I.keep ow4 trivial
      replace ow6 := I.keep ow6 trivial
      have hW1 : Below w.heap.size w W1 := then_ hW0 I.below hW0.size
      clear I
      simp only [List.foldl_cons, List.foldl_nil, List.setIfInBounds_toArray, List.set_cons_zero, List.set_cons_succ]
      go_upto_region 3 with fail
      refine region_memo_f (B := W1.heap.size) (L := .blk 27 1 :: .put 8 27 #[.int .i64 0] :: []) (by kernel_rfl) (Nat.le_refl _) ((by exact trivial))
        ⟨fun a w R => al_E, fun a w R => sbk_E (R.dep 0) , trivial⟩ (fun act_ W2 I => ?_)
      obtain ⟨gb8, ew8, lw8, ow8⟩ := I.put 1 rfl rfl
      rw [I.act [(8, .pointer (some ⟨gb8, 0, none⟩))]
        ⟨ew8, trivial⟩ rfl]
      change W1.heap.size ≤ gb8 at lw8
      have sW2 : W1.heap.size ≤ W2.heap.size := I.below.size
      replace ow3 := I.keep ow3 trivial
      replace ow4 := I.keep ow4 trivial
      replace ow6 := I.keep ow6 trivial
      have hW2 : Below w.heap.size w W2 := then_ hW1 I.below hW1.size
      clear ew8
      clear I
      simp only [List.foldl_cons, List.foldl_nil, List.setIfInBounds_toArray, List.set_cons_zero, List.set_cons_succ]
      go_upto_region 4 with fail
      have z8 : w.heap.size ≤ gb8 := Nat.le_trans hW1.size lw8
      have y8 := ow8.in_
      go_upto_region 5 with (go_at_call 25; with_reducible refine (PF.out _ _ hW2 ow8 z8).mono ?_; rintro e wc ⟨rfl, bc, ofc⟩)
      go_name_world W3 hn
      have zc := bc.size
      have ow3_ : Own W3 w.heap.size 26 #[.int .u64 (L0 an), .int .u64 (L1 an), .int .u64 (L2 an), .int .u64 (L3 an), .int .u64 (L0 ad), .int .u64 (L1 ad), .int .u64 (L2 ad), .int .u64 (L3 ad)] := hn ▸ (((bc.own ow3 (by omega)).more _).more _)
      have ow4_ : Own W3 (w.heap.size + 1) 26 #[.int .u64 (L0 bn), .int .u64 (L1 bn), .int .u64 (L2 bn), .int .u64 (L3 bn), .int .u64 (L0 bd), .int .u64 (L1 bd), .int .u64 (L2 bd), .int .u64 (L3 bd)] := hn ▸ (((bc.own ow4 (by omega)).more _).more _)
      have ow6_ : Own W3 (w.heap.size + 1 + 1) 26 #[.int .u64 0, .int .u64 0, .int .u64 0, .int .u64 0, .int .u64 0, .int .u64 0, .int .u64 0, .int .u64 0] := hn ▸ (((bc.own ow6 (by omega)).more _).more _)
      have ow8_ : Own W3 gb8 27 #[.int .i64 EE] := hn ▸ ((ofc.more _).more _)
      have ow9 : Own W3 wc.heap.size 24 #[.int .u64 (L0 N), .int .u64 (L1 N), .int .u64 (L2 N), .int .u64 (L3 N)] := hn ▸ (by repeat' (first | (with_reducible assumption) | (with_reducible refine Own.drawnN ?_ _) | (with_reducible refine Own.drawn ?_) | (with_reducible refine Own.made_at ?_; first | rfl | (simp; done) | omega | (simp; omega)) | (with_reducible refine Own.more ?_ _) | (with_reducible refine Own.apart ?_ ?_ _ _; rotate_left; first | omega | (simp; done) | (simp; omega)) | (refine Own.put ?_ _ _)))
      have ow10 : Own W3 (wc.heap.size + 1) 24 #[.int .u64 (L0 D), .int .u64 (L1 D), .int .u64 (L2 D), .int .u64 (L3 D)] := hn ▸ (by repeat' (first | (with_reducible assumption) | (with_reducible refine Own.drawnN ?_ _) | (with_reducible refine Own.drawn ?_) | (with_reducible refine Own.made_at ?_; first | rfl | (simp; done) | omega | (simp; omega)) | (with_reducible refine Own.more ?_ _) | (with_reducible refine Own.apart ?_ ?_ _ _; rotate_left; first | omega | (simp; done) | (simp; omega)) | (refine Own.put ?_ _ _)))
      have hW3 : Below w.heap.size w W3 := hn ▸ (((hW2.trans (bc.below hW2.size z8)).alloc (Nat.le_trans hW2.size zc) _).alloc (by have := hW2.size; simp; omega) _)
      have sW3 : wc.heap.size + 1 < W3.heap.size := ow10.in_
      clear hn bc ofc ow3 ow4 ow6 ow8
      have ow3 := ow3_
      clear ow3_
      have ow4 := ow4_
      clear ow4_
      have ow6 := ow6_
      clear ow6_
      have ow8 := ow8_
      clear ow8_
      rcases Bool.eq_false_or_eq_true ((EE == 0)) with t3 | t3
      · have t3_ := Lib.hid t3
        clear t3
        go_upto_region 5 with fail
        refine region_memo_f (B := W3.heap.size) (L := .val (.int .i64 EE) :: .val (.bool false) :: []) (by kernel_rfl) (Nat.le_refl _) ((by exact trivial))
          ⟨fun a w R => ld_errno (R.slot 8 rfl) (R.keep ow8 trivial) rfl, fun a w R => c_neq_tk (R.val 0) (Tryd.underlying27) (by rw [t3_.out]; rfl), trivial⟩ (fun act_ W4 I => ?_)
        rw [I.act [(26, .int .i64 EE), (27, .bool false)]
          ⟨I.val 0, I.val 1, trivial⟩ rfl]
        have sW4 : W3.heap.size ≤ W4.heap.size := I.below.size
        replace ow3 := I.keep ow3 trivial
        replace ow4 := I.keep ow4 trivial
        replace ow6 := I.keep ow6 trivial
        replace ow8 := I.keep ow8 trivial
        replace ow9 := I.keep ow9 trivial
        replace ow10 := I.keep ow10 trivial
        have hW4 : Below w.heap.size w W4 := then_ hW3 I.below hW3.size
        clear I
        simp only [List.foldl_cons, List.foldl_nil, List.setIfInBounds_toArray, List.set_cons_zero, List.set_cons_succ]
        go_upto_region 7 with fail
        refine region_memo_f (B := w.heap.size) (L := .val (.agg #[.int .u64 (L0 N), .int .u64 (L1 N), .int .u64 (L2 N), .int .u64 (L3 N)]) :: .val (.agg #[.int .u64 (L0 D), .int .u64 (L1 D), .int .u64 (L2 D), .int .u64 (L3 D)]) :: .val (.tuple #[.agg #[.int .u64 (L0 (mkP N D)), .int .u64 (L1 (mkP N D)), .int .u64 (L2 (mkP N D)), .int .u64 (L3 (mkP N D)), .int .u64 (L0 (mkQ N D)), .int .u64 (L1 (mkQ N D)), .int .u64 (L2 (mkQ N D)), .int .u64 (L3 (mkQ N D))], .int .i64 (mkR N D)]) :: .val (.agg #[.int .u64 (L0 (mkP N D)), .int .u64 (L1 (mkP N D)), .int .u64 (L2 (mkP N D)), .int .u64 (L3 (mkP N D)), .int .u64 (L0 (mkQ N D)), .int .u64 (L1 (mkQ N D)), .int .u64 (L2 (mkQ N D)), .int .u64 (L3 (mkQ N D))]) :: .val (.int .i64 (mkR N D)) :: .sto (w.heap.size + 1 + 1) 26 #[.int .u64 (L0 (mkP N D)), .int .u64 (L1 (mkP N D)), .int .u64 (L2 (mkP N D)), .int .u64 (L3 (mkP N D)), .int .u64 (L0 (mkQ N D)), .int .u64 (L1 (mkQ N D)), .int .u64 (L2 (mkQ N D)), .int .u64 (L3 (mkQ N D))] :: .val (.int .i64 (mkR N D)) :: []) (by kernel_rfl) (hW4.size) (Olds.v (Olds.v (Olds.v (Olds.v (Olds.v (Olds.s (by omega) ow6.in_ (by repeat' (first | exact trivial | refine Off.v ?_ | refine Off.k ?_ | refine Off.b ?_ | refine Off.n ?_ | refine Off.p ?_ | refine Off.s ?_ ?_ | omega)) (Olds.v trivial)))))))
          ⟨fun a w R => ld_W (R.slot 9 rfl) (R.keep ow9 (by repeat' (first | exact trivial | refine Off.v ?_ | refine Off.k ?_ | refine Off.b ?_ | refine Off.n ?_ | refine Off.p ?_ | refine Off.s ?_ ?_ | omega))) rfl rfl rfl rfl, fun a w R => ld_W (R.slot 10 rfl) (R.keep ow10 (by repeat' (first | exact trivial | refine Off.v ?_ | refine Off.k ?_ | refine Off.b ?_ | refine Off.n ?_ | refine Off.p ?_ | refine Off.s ?_ ?_ | omega))) rfl rfl rfl rfl, fun a w R => cl_tt (enter_at Tryd.func19) (R.val 0) (R.val 1) (Make_mk hN hD _), fun a w R => ex0 (R.val 2), fun a w R => ex1 (R.val 2), fun a w R => so_R (R.slot 6 rfl) (R.own rfl ow6) rfl (R.val 3), fun a w R => asg (R.val 4), trivial⟩ (fun act_ W5 I => ?_)
        rw [I.act [(30, .agg #[.int .u64 (L0 N), .int .u64 (L1 N), .int .u64 (L2 N), .int .u64 (L3 N)]), (31, .agg #[.int .u64 (L0 D), .int .u64 (L1 D), .int .u64 (L2 D), .int .u64 (L3 D)]), (32, .tuple #[.agg #[.int .u64 (L0 (mkP N D)), .int .u64 (L1 (mkP N D)), .int .u64 (L2 (mkP N D)), .int .u64 (L3 (mkP N D)), .int .u64 (L0 (mkQ N D)), .int .u64 (L1 (mkQ N D)), .int .u64 (L2 (mkQ N D)), .int .u64 (L3 (mkQ N D))], .int .i64 (mkR N D)]), (33, .agg #[.int .u64 (L0 (mkP N D)), .int .u64 (L1 (mkP N D)), .int .u64 (L2 (mkP N D)), .int .u64 (L3 (mkP N D)), .int .u64 (L0 (mkQ N D)), .int .u64 (L1 (mkQ N D)), .int .u64 (L2 (mkQ N D)), .int .u64 (L3 (mkQ N D))]), (34, .int .i64 (mkR N D)), (7, .int .i64 (mkR N D))]
          ⟨I.val 0, I.val 1, I.val 2, I.val 3, I.val 4, I.val 6, trivial⟩ rfl]
        have sW5 : W4.heap.size ≤ W5.heap.size := I.below.size
        replace ow3 := I.keep ow3 (by repeat' (first | exact trivial | refine Off.v ?_ | refine Off.k ?_ | refine Off.b ?_ | refine Off.n ?_ | refine Off.p ?_ | refine Off.s ?_ ?_ | omega))
        replace ow4 := I.keep ow4 (by repeat' (first | exact trivial | refine Off.v ?_ | refine Off.k ?_ | refine Off.b ?_ | refine Off.n ?_ | refine Off.p ?_ | refine Off.s ?_ ?_ | omega))
        replace ow8 := I.keep ow8 (by repeat' (first | exact trivial | refine Off.v ?_ | refine Off.k ?_ | refine Off.b ?_ | refine Off.n ?_ | refine Off.p ?_ | refine Off.s ?_ ?_ | omega))
        replace ow9 := I.keep ow9 (by repeat' (first | exact trivial | refine Off.v ?_ | refine Off.k ?_ | refine Off.b ?_ | refine Off.n ?_ | refine Off.p ?_ | refine Off.s ?_ ?_ | omega))
        replace ow10 := I.keep ow10 (by repeat' (first | exact trivial | refine Off.v ?_ | refine Off.k ?_ | refine Off.b ?_ | refine Off.n ?_ | refine Off.p ?_ | refine Off.s ?_ ?_ | omega))
        replace ow6 := I.sto 5 rfl rfl
        have hW5 : Below w.heap.size w W5 := hW4.trans I.below
        clear I
        simp only [List.foldl_cons, List.foldl_nil, List.setIfInBounds_toArray, List.set_cons_zero, List.set_cons_succ]
        obtain ⟨r6_, r6_1, r6_2⟩ := ow6.at_
        clear ow3 ow4 ow6 ow8 ow9 ow10
        go_wp2
        try simp only [setCell_drawn]
        refine bodyPost_ret (by first | (simp [results, Tryd.results24, go_sem, r6_]; done) | (simp [results, Tryd.results24, go_sem, r6_]; rfl)) rfl ⟨?_, hW5⟩
        refine congrArg Ending.returned ?_
        simp only [rkV, t1_.out, t2_.out, t3_.out]
        rfl
      · have t3_ := Lib.hid t3
        clear t3
        go_upto_region 5 with fail
        refine region_memo_f (B := W3.heap.size) (L := .val (.int .i64 EE) :: .val (.bool true) :: []) (by kernel_rfl) (Nat.le_refl _) ((by exact trivial))
          ⟨fun a w R => ld_errno (R.slot 8 rfl) (R.keep ow8 trivial) rfl, fun a w R => c_neq_tk (R.val 0) (Tryd.underlying27) (by rw [t3_.out]; rfl), trivial⟩ (fun act_ W4 I => ?_)
        rw [I.act [(26, .int .i64 EE), (27, .bool true)]
          ⟨I.val 0, I.val 1, trivial⟩ rfl]
        have sW4 : W3.heap.size ≤ W4.heap.size := I.below.size
        replace ow3 := I.keep ow3 trivial
        replace ow4 := I.keep ow4 trivial
        replace ow6 := I.keep ow6 trivial
        replace ow8 := I.keep ow8 trivial
        replace ow9 := I.keep ow9 trivial
        replace ow10 := I.keep ow10 trivial
        have hW4 : Below w.heap.size w W4 := then_ hW3 I.below hW3.size
        clear I
        simp only [List.foldl_cons, List.foldl_nil, List.setIfInBounds_toArray, List.set_cons_zero, List.set_cons_succ]
        go_upto_region 6 with fail
        refine region_memo (B := w.heap.size) (L := .val (.agg #[.int .u64 0, .int .u64 0, .int .u64 0, .int .u64 0, .int .u64 0, .int .u64 0, .int .u64 0, .int .u64 0]) :: .val (.int .i64 EE) :: .sto (w.heap.size + 1 + 1) 26 #[.int .u64 0, .int .u64 0, .int .u64 0, .int .u64 0, .int .u64 0, .int .u64 0, .int .u64 0, .int .u64 0] :: .val (.int .i64 EE) :: []) (by kernel_rfl) (by kernel_rfl) (hW4.size) (Olds.v (Olds.v (Olds.s (by omega) ow6.drawn.in_ (by repeat' (first | exact trivial | refine Off.v ?_ | refine Off.k ?_ | refine Off.b ?_ | refine Off.n ?_ | refine Off.p ?_ | refine Off.s ?_ ?_ | omega)) (Olds.v trivial))))
          ⟨fun a w R => bd0_R, fun a w R => ld_errno (R.slot 8 rfl) (R.keep ow8.drawn (by repeat' (first | exact trivial | refine Off.v ?_ | refine Off.k ?_ | refine Off.b ?_ | refine Off.n ?_ | refine Off.p ?_ | refine Off.s ?_ ?_ | omega))) rfl, fun a w R => so_R (R.slot 6 rfl) (R.own rfl ow6.drawn) rfl (R.val 0), fun a w R => asg (R.val 1), trivial⟩ (fun act_ W5 I => ?_)
        rw [I.act [(28, .agg #[.int .u64 0, .int .u64 0, .int .u64 0, .int .u64 0, .int .u64 0, .int .u64 0, .int .u64 0, .int .u64 0]), (29, .int .i64 EE), (7, .int .i64 EE)]
          ⟨I.val 0, I.val 1, I.val 3, trivial⟩ rfl]
        have sW5 : W4.heap.size ≤ W5.heap.size := I.below.size
        replace ow3 := I.keep ow3.drawn (by repeat' (first | exact trivial | refine Off.v ?_ | refine Off.k ?_ | refine Off.b ?_ | refine Off.n ?_ | refine Off.p ?_ | refine Off.s ?_ ?_ | omega))
        replace ow4 := I.keep ow4.drawn (by repeat' (first | exact trivial | refine Off.v ?_ | refine Off.k ?_ | refine Off.b ?_ | refine Off.n ?_ | refine Off.p ?_ | refine Off.s ?_ ?_ | omega))
        replace ow8 := I.keep ow8.drawn (by repeat' (first | exact trivial | refine Off.v ?_ | refine Off.k ?_ | refine Off.b ?_ | refine Off.n ?_ | refine Off.p ?_ | refine Off.s ?_ ?_ | omega))
        replace ow9 := I.keep ow9.drawn (by repeat' (first | exact trivial | refine Off.v ?_ | refine Off.k ?_ | refine Off.b ?_ | refine Off.n ?_ | refine Off.p ?_ | refine Off.s ?_ ?_ | omega))
        replace ow10 := I.keep ow10.drawn (by repeat' (first | exact trivial | refine Off.v ?_ | refine Off.k ?_ | refine Off.b ?_ | refine Off.n ?_ | refine Off.p ?_ | refine Off.s ?_ ?_ | omega))
        replace ow6 := I.sto 2 rfl rfl
        have hW5 : Below w.heap.size w W5 := hW4.drew.trans I.below
        clear I
        simp only [List.foldl_cons, List.foldl_nil, List.setIfInBounds_toArray, List.set_cons_zero, List.set_cons_succ]
        obtain ⟨r6_, r6_1, r6_2⟩ := ow6.at_
        clear ow3 ow4 ow6 ow8 ow9 ow10
        go_wp2
        try simp only [setCell_drawn]
        refine bodyPost_ret (by first | (simp [results, Tryd.results24, go_sem, r6_]; done) | (simp [results, Tryd.results24, go_sem, r6_]; rfl)) rfl ⟨?_, hW5⟩
        refine congrArg Ending.returned ?_
        simp only [rkV, t1_.out, t2_.out, t3_.out]
        rfl
    · have t2_ := Lib.hid t2
      clear t2
      go_upto_region 1 with fail
      refine region_memo_f (B := W0.heap.size) (L := .val (.agg #[.int .u64 (L0 an), .int .u64 (L1 an), .int .u64 (L2 an), .int .u64 (L3 an), .int .u64 (L0 ad), .int .u64 (L1 ad), .int .u64 (L2 ad), .int .u64 (L3 ad)]) :: .val (.bool true) :: .val (.bool false) :: .val (.bool false) :: .val (.agg #[.int .u64 (L0 bn), .int .u64 (L1 bn), .int .u64 (L2 bn), .int .u64 (L3 bn), .int .u64 (L0 bd), .int .u64 (L1 bd), .int .u64 (L2 bd), .int .u64 (L3 bd)]) :: .val (.bool false) :: .val (.bool true) :: .val (.bool true) :: []) (by kernel_rfl) (Nat.le_refl _) ((by exact trivial))
        ⟨fun a w R => ld_R (R.slot 3 rfl) (R.keep ow3 trivial) rfl rfl rfl rfl rfl rfl rfl rfl, fun a w R => cl_t (enter_at Tryd.func43) (R.val 0) (Right_is han had t1_.out _), fun a w R => notb (R.val 1), fun a w R => mv (R.val 2), fun a w R => ld_R (R.slot 4 rfl) (R.keep ow4 trivial) rfl rfl rfl rfl rfl rfl rfl rfl, fun a w R => cl_t (enter_at Tryd.func43) (R.val 4) (Right_is hbn hbd t2_.out _), fun a w R => notb (R.val 5), fun a w R => pickn (R.val 3) (R.val 6), trivial⟩ (fun act_ W1 I => ?_)
      rw [I.act [(11, .agg #[.int .u64 (L0 an), .int .u64 (L1 an), .int .u64 (L2 an), .int .u64 (L3 an), .int .u64 (L0 ad), .int .u64 (L1 ad), .int .u64 (L2 ad), .int .u64 (L3 ad)]), (12, .bool true), (13, .bool false), (14, .bool false), (15, .agg #[.int .u64 (L0 bn), .int .u64 (L1 bn), .int .u64 (L2 bn), .int .u64 (L3 bn), .int .u64 (L0 bd), .int .u64 (L1 bd), .int .u64 (L2 bd), .int .u64 (L3 bd)]), (16, .bool false), (17, .bool true), (18, .bool true)]
        ⟨I.val 0, I.val 1, I.val 2, I.val 3, I.val 4, I.val 5, I.val 6, I.val 7, trivial⟩ rfl]
      have sW1 : W0.heap.size ≤ W1.heap.size := I.below.size
      replace ow3 := I.keep ow3 trivial
      replace ow4 := I.keep ow4 trivial
      replace ow6 := I.keep ow6 trivial
      have hW1 : Below w.heap.size w W1 := then_ hW0 I.below hW0.size
      clear I
      simp only [List.foldl_cons, List.foldl_nil, List.setIfInBounds_toArray, List.set_cons_zero, List.set_cons_succ]
      go_upto_region 2 with fail
      refine region_memo_f (B := w.heap.size) (L := .val (.agg #[.int .u64 0, .int .u64 0, .int .u64 0, .int .u64 0, .int .u64 0, .int .u64 0, .int .u64 0, .int .u64 0]) :: .sto (w.heap.size + 1 + 1) 26 #[.int .u64 0, .int .u64 0, .int .u64 0, .int .u64 0, .int .u64 0, .int .u64 0, .int .u64 0, .int .u64 0] :: .val (.int .i64 1) :: []) (by kernel_rfl) (hW1.size) (Olds.v (Olds.s (by omega) ow6.in_ (by repeat' (first | exact trivial | refine Off.v ?_ | refine Off.k ?_ | refine Off.b ?_ | refine Off.n ?_ | refine Off.p ?_ | refine Off.s ?_ ?_ | omega)) (Olds.v trivial)))
        ⟨fun a w R => bd0_R, fun a w R => so_R (R.slot 6 rfl) (R.own rfl ow6) rfl (R.val 0), fun a w R => asc, trivial⟩ (fun act_ W2 I => ?_)
      rw [I.act [(19, .agg #[.int .u64 0, .int .u64 0, .int .u64 0, .int .u64 0, .int .u64 0, .int .u64 0, .int .u64 0, .int .u64 0]), (7, .int .i64 1)]
        ⟨I.val 0, I.val 2, trivial⟩ rfl]
      have sW2 : W1.heap.size ≤ W2.heap.size := I.below.size
      replace ow3 := I.keep ow3 (by repeat' (first | exact trivial | refine Off.v ?_ | refine Off.k ?_ | refine Off.b ?_ | refine Off.n ?_ | refine Off.p ?_ | refine Off.s ?_ ?_ | omega))
      replace ow4 := I.keep ow4 (by repeat' (first | exact trivial | refine Off.v ?_ | refine Off.k ?_ | refine Off.b ?_ | refine Off.n ?_ | refine Off.p ?_ | refine Off.s ?_ ?_ | omega))
      replace ow6 := I.sto 1 rfl rfl
      have hW2 : Below w.heap.size w W2 := hW1.trans I.below
      clear I
      simp only [List.foldl_cons, List.foldl_nil, List.setIfInBounds_toArray, List.set_cons_zero, List.set_cons_succ]
      obtain ⟨r6_, r6_1, r6_2⟩ := ow6.at_
      clear ow3 ow4 ow6
      go_wp2
      try simp only [setCell_drawn]
      refine bodyPost_ret (by first | (simp [results, Tryd.results24, go_sem, r6_]; done) | (simp [results, Tryd.results24, go_sem, r6_]; rfl)) rfl ⟨?_, hW2⟩
      refine congrArg Ending.returned ?_
      simp only [rkV, t1_.out, t2_.out]
      rfl
  · have t1_ := Lib.hid t1
    clear t1
    go_upto_region 1 with fail
    refine region_memo_f (B := W0.heap.size) (L := .val (.agg #[.int .u64 (L0 an), .int .u64 (L1 an), .int .u64 (L2 an), .int .u64 (L3 an), .int .u64 (L0 ad), .int .u64 (L1 ad), .int .u64 (L2 ad), .int .u64 (L3 ad)]) :: .val (.bool false) :: .val (.bool true) :: .val (.bool true) :: .skip :: .skip :: .skip :: .val (.bool true) :: []) (by kernel_rfl) (Nat.le_refl _) ((by exact trivial))
      ⟨fun a w R => ld_R (R.slot 3 rfl) (R.keep ow3 trivial) rfl rfl rfl rfl rfl rfl rfl rfl, fun a w R => cl_t (enter_at Tryd.func43) (R.val 0) (Right_is han had t1_.out _), fun a w R => notb (R.val 1), fun a w R => mv (R.val 2), fun a w R => True.intro, fun a w R => True.intro, fun a w R => True.intro, fun a w R => picko (R.val 3) (R.goneS 6), trivial⟩ (fun act_ W1 I => ?_)
    rw [I.act [(11, .agg #[.int .u64 (L0 an), .int .u64 (L1 an), .int .u64 (L2 an), .int .u64 (L3 an), .int .u64 (L0 ad), .int .u64 (L1 ad), .int .u64 (L2 ad), .int .u64 (L3 ad)]), (12, .bool false), (13, .bool true), (14, .bool true), (15, undef), (16, undef), (17, undef), (18, .bool true)]
      ⟨I.val 0, I.val 1, I.val 2, I.val 3, I.gone 4, I.gone 5, I.gone 6, I.val 7, trivial⟩ rfl]
    have sW1 : W0.heap.size ≤ W1.heap.size := I.below.size
    replace ow3 := I.keep ow3 trivial
    replace ow4 := I.keep ow4 trivial
    replace ow6 := I.keep ow6 trivial
    have hW1 : Below w.heap.size w W1 := then_ hW0 I.below hW0.size
    clear I
    simp only [List.foldl_cons, List.foldl_nil, List.setIfInBounds_toArray, List.set_cons_zero, List.set_cons_succ]
    go_upto_region 2 with fail
    refine region_memo_f (B := w.heap.size) (L := .val (.agg #[.int .u64 0, .int .u64 0, .int .u64 0, .int .u64 0, .int .u64 0, .int .u64 0, .int .u64 0, .int .u64 0]) :: .sto (w.heap.size + 1 + 1) 26 #[.int .u64 0, .int .u64 0, .int .u64 0, .int .u64 0, .int .u64 0, .int .u64 0, .int .u64 0, .int .u64 0] :: .val (.int .i64 1) :: []) (by kernel_rfl) (hW1.size) (Olds.v (Olds.s (by omega) ow6.in_ (by repeat' (first | exact trivial | refine Off.v ?_ | refine Off.k ?_ | refine Off.b ?_ | refine Off.n ?_ | refine Off.p ?_ | refine Off.s ?_ ?_ | omega)) (Olds.v trivial)))
      ⟨fun a w R => bd0_R, fun a w R => so_R (R.slot 6 rfl) (R.own rfl ow6) rfl (R.val 0), fun a w R => asc, trivial⟩ (fun act_ W2 I => ?_)
    rw [I.act [(19, .agg #[.int .u64 0, .int .u64 0, .int .u64 0, .int .u64 0, .int .u64 0, .int .u64 0, .int .u64 0, .int .u64 0]), (7, .int .i64 1)]
      ⟨I.val 0, I.val 2, trivial⟩ rfl]
    have sW2 : W1.heap.size ≤ W2.heap.size := I.below.size
    replace ow3 := I.keep ow3 (by repeat' (first | exact trivial | refine Off.v ?_ | refine Off.k ?_ | refine Off.b ?_ | refine Off.n ?_ | refine Off.p ?_ | refine Off.s ?_ ?_ | omega))
    replace ow4 := I.keep ow4 (by repeat' (first | exact trivial | refine Off.v ?_ | refine Off.k ?_ | refine Off.b ?_ | refine Off.n ?_ | refine Off.p ?_ | refine Off.s ?_ ?_ | omega))
    replace ow6 := I.sto 1 rfl rfl
    have hW2 : Below w.heap.size w W2 := hW1.trans I.below
    clear I
    simp only [List.foldl_cons, List.foldl_nil, List.setIfInBounds_toArray, List.set_cons_zero, List.set_cons_succ]
    obtain ⟨r6_, r6_1, r6_2⟩ := ow6.at_
    clear ow3 ow4 ow6
    go_wp2
    try simp only [setCell_drawn]
    refine bodyPost_ret (by first | (simp [results, Tryd.results24, go_sem, r6_]; done) | (simp [results, Tryd.results24, go_sem, r6_]; rfl)) rfl ⟨?_, hW2⟩
    refine congrArg Ending.returned ?_
    simp only [rkV, t1_.out]
    rfl
end Go.Proofs.YtjmojddnedngaaaDoor
end
