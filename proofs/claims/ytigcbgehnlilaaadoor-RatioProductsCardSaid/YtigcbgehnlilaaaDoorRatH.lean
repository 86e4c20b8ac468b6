/- merged: The closures of ratio's sums, products and quotients, whether each step fits or not. Conditions: those that each theorem names. The closures of ratio's products and quotients, whether each step fits or not; written by gen_rath.py. Conditions: those that each theorem names. -/
import Derived.Test.YtigcbgehnlilaaaDoorRatA
import Derived.Test.YtigcbgehnlilaaaDoorRatB
import Derived.Test.YtigcbgehnlilaaaDoorSeq
section
namespace Go.Proofs.YtigcbgehnlilaaaDoor
open Go.ChangeShapes Go.WideShapes Go.ChangeAt Go.RowKit
set_option linter.unusedVariables false
set_option linter.unusedSimpArgs false

/-- the first error -/
def fst_ (a b : Int) : Int := if a = 0 then b else a
/-- what a step does: it answers r, and 'first' holds er if it held none -/
def DoC (f : Nat) (x y r er : Int) (p : Nat) : Prop := ∀ (W : World) (x0 : Int), Own W p 27 #[.int .i64 x0] →
  Calls Tryd.prog 53 #[.func (.func f) #[] #[], .agg #[.int .u64 (L0 x), .int .u64 (L1 x), .int .u64 (L2 x), .int .u64 (L3 x)], .agg #[.int .u64 (L0 y), .int .u64 (L1 y), .int .u64 (L2 y), .int .u64 (L3 y)], .pointer (some ⟨p, 0, none⟩)] W fun e w' => e = .returned (.agg #[.int .u64 (L0 r), .int .u64 (L1 r), .int .u64 (L2 r), .int .u64 (L3 r)]) ∧ But p W w' ∧ Own w' p 27 #[.int .i64 (fst_ x0 er)]
theorem doC_Mul {x y r er : Int} {p : Nat} (hF : ∀ w, Calls Tryd.prog 28 #[.agg #[.int .u64 (L0 x), .int .u64 (L1 x), .int .u64 (L2 x), .int .u64 (L3 x)], .agg #[.int .u64 (L0 y), .int .u64 (L1 y), .int .u64 (L2 y), .int .u64 (L3 y)]] w fun e w' => e = .returned (.tuple #[.agg #[.int .u64 (L0 r), .int .u64 (L1 r), .int .u64 (L2 r), .int .u64 (L3 r)], .int .i64 er]) ∧ Below w.heap.size w w') : DoC 28 x y r er p :=
  fun W x0 ho => do_Mul hF ho (fun h => by unfold fst_; rw [if_pos h]) (fun h => by unfold fst_; rw [if_neg h])
theorem pair_ret {f : Func} (i j : Nat) (hf : f.results = #[.cell i 24, .cell j 24]) (tmps : Array Value) (w : World) (p q : Nat) (x0 x1 x2 x3 y0 y1 y2 y3 : Value) (h4 : tmps[i]? = some (.pointer (some ⟨p, 0, none⟩))) (h5 : tmps[j]? = some (.pointer (some ⟨q, 0, none⟩))) (hO : Own w p 24 #[x0, x1, x2, x3]) (hQ : Own w q 24 #[y0, y1, y2, y3]) :
    (results f tmps).run Tryd.prog w = .ok (.tuple #[.agg #[x0, x1, x2, x3], .agg #[y0, y1, y2, y3]]) w := by
  obtain ⟨c, _, _⟩ := hO.at_
  obtain ⟨c2, _, _⟩ := hQ.at_
  simp [results, hf, go_sem, h4, h5, c, c2]

end Go.Proofs.YtigcbgehnlilaaaDoor
end
section
namespace Go.Proofs.YtigcbgehnlilaaaDoor
open Go.ChangeShapes Go.WideShapes Go.ChangeAt Go.RowKit
set_option linter.unusedVariables false
set_option linter.unusedSimpArgs false

set_option maxHeartbeats 8000000 in
set_option maxRecDepth 20000 in
theorem mulc_any {an ad bn bd r1 r2 e1 e2 : Int} {pf pa pb : Nat} {w : World} (H1 : DoC 28 an bn r1 e1 pf) (H2 : DoC 28 ad bd r2 e2 pf)
    (of_ : Own w pf 27 #[.int .i64 0])
    (oa_ : Own w pa 26 #[.int .u64 (L0 an), .int .u64 (L1 an), .int .u64 (L2 an), .int .u64 (L3 an), .int .u64 (L0 ad), .int .u64 (L1 ad), .int .u64 (L2 ad), .int .u64 (L3 ad)])
    (ob_ : Own w pb 26 #[.int .u64 (L0 bn), .int .u64 (L1 bn), .int .u64 (L2 bn), .int .u64 (L3 bn), .int .u64 (L0 bd), .int .u64 (L1 bd), .int .u64 (L2 bd), .int .u64 (L3 bd)])
    (na : pa ≠ pf) (nb : pb ≠ pf) :
    Calls Tryd.prog 27 #[.func (.func 53) #[] #[.pointer (some ⟨pf, 0, none⟩)], .pointer (some ⟨pa, 0, none⟩), .pointer (some ⟨pb, 0, none⟩)] w fun e w' => e = .returned (.tuple #[.agg #[.int .u64 (L0 r1), .int .u64 (L1 r1), .int .u64 (L2 r1), .int .u64 (L3 r1)], .agg #[.int .u64 (L0 r2), .int .u64 (L1 r2), .int .u64 (L2 r2), .int .u64 (L3 r2)]]) ∧ But pf w w' ∧ Own w' pf 27 #[.int .i64 (fst_ (fst_ 0 e1) e2)] := by
  have zf := of_.in_
  have za := oa_.in_
  have zb := ob_.in_
  replace H1 := Lib.hid H1
  replace H2 := Lib.hid H2
  go_enter Tryd.func27, Tryd.ntmps27
  go_upto_region 1 with fail
  go_name_world W0 hW0
  have O5 : Own W0 w.heap.size 24 #[.int .u64 0, .int .u64 0, .int .u64 0, .int .u64 0] := hW0 ▸ (by repeat' (first | (with_reducible assumption) | (with_reducible refine Own.drawnN ?_ _) | (with_reducible refine Own.drawn ?_) | (with_reducible refine Own.made_at ?_; first | rfl | (simp; done) | omega | (simp; omega)) | (with_reducible refine Own.more ?_ _) | (with_reducible refine Own.apart ?_ ?_ _ _; rotate_left; first | omega | (simp; done) | (simp; omega)) | (refine Own.put ?_ _ _)))
  have O6 : Own W0 (w.heap.size + 1) 24 #[.int .u64 0, .int .u64 0, .int .u64 0, .int .u64 0] := hW0 ▸ (by repeat' (first | (with_reducible assumption) | (with_reducible refine Own.drawnN ?_ _) | (with_reducible refine Own.drawn ?_) | (with_reducible refine Own.made_at ?_; first | rfl | (simp; done) | omega | (simp; omega)) | (with_reducible refine Own.more ?_ _) | (with_reducible refine Own.apart ?_ ?_ _ _; rotate_left; first | omega | (simp; done) | (simp; omega)) | (refine Own.put ?_ _ _)))
  have hB : Below w.heap.size w W0 := hW0 ▸ (by repeat' (first | (with_reducible exact Below.refl _ _) | (with_reducible assumption) | (with_reducible refine below_drewN ?_ _) | (with_reducible refine Below.drew ?_) | (with_reducible refine Below.alloc ?_ ?_ _) | (with_reducible refine Below.setCell ?_ ?_ _) | (with_reducible refine then_ ?_ (by with_reducible assumption) ?_) | (with_reducible exact Nat.le_refl _) | (with_reducible exact Nat.le_succ _) | (with_reducible exact Nat.le_succ_of_le (by with_reducible assumption)) | omega | (simp; done) | (simp; omega) | (exact Nat.le_succ _) | (exact Nat.le_succ_of_le (by with_reducible assumption))))
  clear hW0
  replace oa_ := oa_.keep hB
  replace ob_ := ob_.keep hB
  replace of_ := of_.keep hB
  have B0 := But.of (p := pf) hB
  clear hB
  have sz := O6.in_
  refine wp_region_seq (fun W => Own W pa 26 #[.int .u64 (L0 an), .int .u64 (L1 an), .int .u64 (L2 an), .int .u64 (L3 an), .int .u64 (L0 ad), .int .u64 (L1 ad), .int .u64 (L2 ad), .int .u64 (L3 ad)] ∧ Own W pb 26 #[.int .u64 (L0 bn), .int .u64 (L1 bn), .int .u64 (L2 bn), .int .u64 (L3 bn), .int .u64 (L0 bd), .int .u64 (L1 bd), .int .u64 (L2 bd), .int .u64 (L3 bd)]) (0 :: 1 :: 2 :: 3 :: 4 :: 6 :: 7 :: 8 :: 9 :: 10 :: []) (2 :: 4 :: 8 :: 10 :: []) (0 :: 1 :: 2 :: 3 :: 4 :: 6 :: 7 :: 8 :: 9 :: 10 :: 5 :: 11 :: 12 :: 13 :: []) (by kernel_rfl) (by kernel_rfl) rfl (by kernel_rfl) rfl (⟨oa_.drawn, ob_.drawn⟩) (by simp only [picked, List.filterMap_cons, List.filterMap_nil, List.getElem?_cons_zero, List.getElem?_cons_succ, Option.map_some]; exact rfl) ?_
  iterate 10
    refine seq_want (v := ?_) rfl rfl (fun W hS => ?_) ?_
    rotate_left
    · first
        | (conv => lhs; simp [go_sem]
           first | done | exact rfl)
        | (have hS := hS rfl
           obtain ⟨q2, q3⟩ := hS
           obtain ⟨q7, q8, q9⟩ := q2.at_
           obtain ⟨q10, q11, q12⟩ := q3.at_
           conv => lhs; simp [go_sem, *]
           first | done | exact rfl)
    simp only [Act.put, List.setIfInBounds_toArray, List.set_cons_zero, List.set_cons_succ]
  have B1 : But pf w W0.drew := ⟨B0.os, B0.tape, B0.output, B0.size, B0.block⟩
  refine seq_on rfl rfl fun K hK => ?_
  go_wp2_with (refine (H1.out _ _ of_.drawn).mono ?_; rintro e w2 ⟨rfl, b2, of2⟩)
  have oa2 := b2.own oa_.drawn na
  have ob2 := b2.own ob_.drawn nb
  have O52 := b2.own O5.drawn (by omega)
  have O62 := b2.own O6.drawn (by omega)
  have B2 := B1.trans b2
  refine hK _ _ ⟨oa2, ob2⟩ ?_
  clear hK K b2
  refine seq_on rfl rfl fun K hK => ?_
  go_wp2_with (refine (H2.out _ _ of2).mono ?_; rintro e w3 ⟨rfl, b3, of3⟩)
  have oa3 := b3.own oa2 na
  have ob3 := b3.own ob2 nb
  have O53 := b3.own O52 (by omega)
  have O63 := b3.own O62 (by omega)
  have B3 := B2.trans b3
  refine hK _ _ ⟨oa3, ob3⟩ ?_
  clear hK K b3 oa2 ob2 O52 O62 of2 B2 B1 B0 oa_ ob_ of_ O5 O6
  refine seq_on rfl rfl fun K hK => ?_
  have O64 := ((((O63.apart (q := w.heap.size) (by omega) 0 (.int .u64 (L0 r1))).apart (q := w.heap.size) (by omega) 1 (.int .u64 (L1 r1))).apart (q := w.heap.size) (by omega) 2 (.int .u64 (L2 r1))).apart (q := w.heap.size) (by omega) 3 (.int .u64 (L3 r1)))
  have O54 := (only_W (w0 := w) (v0 := .int .u64 (L0 r1)) (v1 := .int .u64 (L1 r1)) (v2 := .int .u64 (L2 r1)) (v3 := .int .u64 (L3 r1)) O53 rfl).1
  have of4 := ((((of3.apart (q := w.heap.size) (by omega) 0 (.int .u64 (L0 r1))).apart (q := w.heap.size) (by omega) 1 (.int .u64 (L1 r1))).apart (q := w.heap.size) (by omega) 2 (.int .u64 (L2 r1))).apart (q := w.heap.size) (by omega) 3 (.int .u64 (L3 r1)))
  have oa4 := ((((oa3.apart (q := w.heap.size) (by omega) 0 (.int .u64 (L0 r1))).apart (q := w.heap.size) (by omega) 1 (.int .u64 (L1 r1))).apart (q := w.heap.size) (by omega) 2 (.int .u64 (L2 r1))).apart (q := w.heap.size) (by omega) 3 (.int .u64 (L3 r1)))
  have ob4 := ((((ob3.apart (q := w.heap.size) (by omega) 0 (.int .u64 (L0 r1))).apart (q := w.heap.size) (by omega) 1 (.int .u64 (L1 r1))).apart (q := w.heap.size) (by omega) 2 (.int .u64 (L2 r1))).apart (q := w.heap.size) (by omega) 3 (.int .u64 (L3 r1)))
  have B4 := ((((B3.far (g := w.heap.size) (Nat.le_refl _) 0 (.int .u64 (L0 r1))).far (g := w.heap.size) (Nat.le_refl _) 1 (.int .u64 (L1 r1))).far (g := w.heap.size) (Nat.le_refl _) 2 (.int .u64 (L2 r1))).far (g := w.heap.size) (Nat.le_refl _) 3 (.int .u64 (L3 r1)))
  obtain ⟨s1, s2, s3⟩ := O53.at_
  go_wp2
  refine hK _ _ ⟨oa4, ob4⟩ ?_
  clear hK K s1 s2 s3
  refine seq_on rfl rfl fun K hK => ?_
  have O65 := (only_W (w0 := w) (v0 := .int .u64 (L0 r2)) (v1 := .int .u64 (L1 r2)) (v2 := .int .u64 (L2 r2)) (v3 := .int .u64 (L3 r2)) O64 rfl).1
  have O55 := ((((O54.apart (q := w.heap.size + 1) (by omega) 0 (.int .u64 (L0 r2))).apart (q := w.heap.size + 1) (by omega) 1 (.int .u64 (L1 r2))).apart (q := w.heap.size + 1) (by omega) 2 (.int .u64 (L2 r2))).apart (q := w.heap.size + 1) (by omega) 3 (.int .u64 (L3 r2)))
  have of5 := ((((of4.apart (q := w.heap.size + 1) (by omega) 0 (.int .u64 (L0 r2))).apart (q := w.heap.size + 1) (by omega) 1 (.int .u64 (L1 r2))).apart (q := w.heap.size + 1) (by omega) 2 (.int .u64 (L2 r2))).apart (q := w.heap.size + 1) (by omega) 3 (.int .u64 (L3 r2)))
  have oa5 := ((((oa4.apart (q := w.heap.size + 1) (by omega) 0 (.int .u64 (L0 r2))).apart (q := w.heap.size + 1) (by omega) 1 (.int .u64 (L1 r2))).apart (q := w.heap.size + 1) (by omega) 2 (.int .u64 (L2 r2))).apart (q := w.heap.size + 1) (by omega) 3 (.int .u64 (L3 r2)))
  have ob5 := ((((ob4.apart (q := w.heap.size + 1) (by omega) 0 (.int .u64 (L0 r2))).apart (q := w.heap.size + 1) (by omega) 1 (.int .u64 (L1 r2))).apart (q := w.heap.size + 1) (by omega) 2 (.int .u64 (L2 r2))).apart (q := w.heap.size + 1) (by omega) 3 (.int .u64 (L3 r2)))
  have B5 := ((((B4.far (g := w.heap.size + 1) (Nat.le_succ _) 0 (.int .u64 (L0 r2))).far (g := w.heap.size + 1) (Nat.le_succ _) 1 (.int .u64 (L1 r2))).far (g := w.heap.size + 1) (Nat.le_succ _) 2 (.int .u64 (L2 r2))).far (g := w.heap.size + 1) (Nat.le_succ _) 3 (.int .u64 (L3 r2)))
  obtain ⟨s1, s2, s3⟩ := O64.at_
  go_wp2
  refine hK _ _ ⟨oa5, ob5⟩ ?_
  clear hK K s1 s2 s3
  refine seq_end ?_
  go_wp2
  refine bodyPost_ret (pair_ret 4 5 rfl _ _ _ _ _ _ _ _ _ _ _ _ rfl rfl O55 O65) rfl ⟨rfl, B5, of5⟩

set_option maxHeartbeats 8000000 in
set_option maxRecDepth 20000 in
theorem divc_any {an ad bn bd r1 r2 e1 e2 : Int} {pf pa pb : Nat} {w : World} (H1 : DoC 28 an bd r1 e1 pf) (H2 : DoC 28 ad bn r2 e2 pf)
    (of_ : Own w pf 27 #[.int .i64 0])
    (oa_ : Own w pa 26 #[.int .u64 (L0 an), .int .u64 (L1 an), .int .u64 (L2 an), .int .u64 (L3 an), .int .u64 (L0 ad), .int .u64 (L1 ad), .int .u64 (L2 ad), .int .u64 (L3 ad)])
    (ob_ : Own w pb 26 #[.int .u64 (L0 bn), .int .u64 (L1 bn), .int .u64 (L2 bn), .int .u64 (L3 bn), .int .u64 (L0 bd), .int .u64 (L1 bd), .int .u64 (L2 bd), .int .u64 (L3 bd)])
    (na : pa ≠ pf) (nb : pb ≠ pf) :
    Calls Tryd.prog 34 #[.func (.func 53) #[] #[.pointer (some ⟨pf, 0, none⟩)], .pointer (some ⟨pa, 0, none⟩), .pointer (some ⟨pb, 0, none⟩)] w fun e w' => e = .returned (.tuple #[.agg #[.int .u64 (L0 r1), .int .u64 (L1 r1), .int .u64 (L2 r1), .int .u64 (L3 r1)], .agg #[.int .u64 (L0 r2), .int .u64 (L1 r2), .int .u64 (L2 r2), .int .u64 (L3 r2)]]) ∧ But pf w w' ∧ Own w' pf 27 #[.int .i64 (fst_ (fst_ 0 e1) e2)] := by
  have zf := of_.in_
  have za := oa_.in_
  have zb := ob_.in_
  replace H1 := Lib.hid H1
  replace H2 := Lib.hid H2
  go_enter Tryd.func34, Tryd.ntmps34
  go_upto_region 1 with fail
  go_name_world W0 hW0
  have O5 : Own W0 w.heap.size 24 #[.int .u64 0, .int .u64 0, .int .u64 0, .int .u64 0] := hW0 ▸ (by repeat' (first | (with_reducible assumption) | (with_reducible refine Own.drawnN ?_ _) | (with_reducible refine Own.drawn ?_) | (with_reducible refine Own.made_at ?_; first | rfl | (simp; done) | omega | (simp; omega)) | (with_reducible refine Own.more ?_ _) | (with_reducible refine Own.apart ?_ ?_ _ _; rotate_left; first | omega | (simp; done) | (simp; omega)) | (refine Own.put ?_ _ _)))
  have O6 : Own W0 (w.heap.size + 1) 24 #[.int .u64 0, .int .u64 0, .int .u64 0, .int .u64 0] := hW0 ▸ (by repeat' (first | (with_reducible assumption) | (with_reducible refine Own.drawnN ?_ _) | (with_reducible refine Own.drawn ?_) | (with_reducible refine Own.made_at ?_; first | rfl | (simp; done) | omega | (simp; omega)) | (with_reducible refine Own.more ?_ _) | (with_reducible refine Own.apart ?_ ?_ _ _; rotate_left; first | omega | (simp; done) | (simp; omega)) | (refine Own.put ?_ _ _)))
  have hB : Below w.heap.size w W0 := hW0 ▸ (by repeat' (first | (with_reducible exact Below.refl _ _) | (with_reducible assumption) | (with_reducible refine below_drewN ?_ _) | (with_reducible refine Below.drew ?_) | (with_reducible refine Below.alloc ?_ ?_ _) | (with_reducible refine Below.setCell ?_ ?_ _) | (with_reducible refine then_ ?_ (by with_reducible assumption) ?_) | (with_reducible exact Nat.le_refl _) | (with_reducible exact Nat.le_succ _) | (with_reducible exact Nat.le_succ_of_le (by with_reducible assumption)) | omega | (simp; done) | (simp; omega) | (exact Nat.le_succ _) | (exact Nat.le_succ_of_le (by with_reducible assumption))))
  clear hW0
  replace oa_ := oa_.keep hB
  replace ob_ := ob_.keep hB
  replace of_ := of_.keep hB
  have B0 := But.of (p := pf) hB
  clear hB
  have sz := O6.in_
  refine wp_region_seq (fun W => Own W pa 26 #[.int .u64 (L0 an), .int .u64 (L1 an), .int .u64 (L2 an), .int .u64 (L3 an), .int .u64 (L0 ad), .int .u64 (L1 ad), .int .u64 (L2 ad), .int .u64 (L3 ad)] ∧ Own W pb 26 #[.int .u64 (L0 bn), .int .u64 (L1 bn), .int .u64 (L2 bn), .int .u64 (L3 bn), .int .u64 (L0 bd), .int .u64 (L1 bd), .int .u64 (L2 bd), .int .u64 (L3 bd)]) (0 :: 1 :: 2 :: 3 :: 4 :: 6 :: 7 :: 8 :: 9 :: 10 :: []) (2 :: 4 :: 8 :: 10 :: []) (0 :: 1 :: 2 :: 3 :: 4 :: 6 :: 7 :: 8 :: 9 :: 10 :: 5 :: 11 :: 12 :: 13 :: []) (by kernel_rfl) (by kernel_rfl) rfl (by kernel_rfl) rfl (⟨oa_.drawn, ob_.drawn⟩) (by simp only [picked, List.filterMap_cons, List.filterMap_nil, List.getElem?_cons_zero, List.getElem?_cons_succ, Option.map_some]; exact rfl) ?_
  iterate 10
    refine seq_want (v := ?_) rfl rfl (fun W hS => ?_) ?_
    rotate_left
    · first
        | (conv => lhs; simp [go_sem]
           first | done | exact rfl)
        | (have hS := hS rfl
           obtain ⟨q2, q3⟩ := hS
           obtain ⟨q7, q8, q9⟩ := q2.at_
           obtain ⟨q10, q11, q12⟩ := q3.at_
           conv => lhs; simp [go_sem, *]
           first | done | exact rfl)
    simp only [Act.put, List.setIfInBounds_toArray, List.set_cons_zero, List.set_cons_succ]
  have B1 : But pf w W0.drew := ⟨B0.os, B0.tape, B0.output, B0.size, B0.block⟩
  refine seq_on rfl rfl fun K hK => ?_
  go_wp2_with (refine (H1.out _ _ of_.drawn).mono ?_; rintro e w2 ⟨rfl, b2, of2⟩)
  have oa2 := b2.own oa_.drawn na
  have ob2 := b2.own ob_.drawn nb
  have O52 := b2.own O5.drawn (by omega)
  have O62 := b2.own O6.drawn (by omega)
  have B2 := B1.trans b2
  refine hK _ _ ⟨oa2, ob2⟩ ?_
  clear hK K b2
  refine seq_on rfl rfl fun K hK => ?_
  go_wp2_with (refine (H2.out _ _ of2).mono ?_; rintro e w3 ⟨rfl, b3, of3⟩)
  have oa3 := b3.own oa2 na
  have ob3 := b3.own ob2 nb
  have O53 := b3.own O52 (by omega)
  have O63 := b3.own O62 (by omega)
  have B3 := B2.trans b3
  refine hK _ _ ⟨oa3, ob3⟩ ?_
  clear hK K b3 oa2 ob2 O52 O62 of2 B2 B1 B0 oa_ ob_ of_ O5 O6
  refine seq_on rfl rfl fun K hK => ?_
  have O64 := ((((O63.apart (q := w.heap.size) (by omega) 0 (.int .u64 (L0 r1))).apart (q := w.heap.size) (by omega) 1 (.int .u64 (L1 r1))).apart (q := w.heap.size) (by omega) 2 (.int .u64 (L2 r1))).apart (q := w.heap.size) (by omega) 3 (.int .u64 (L3 r1)))
  have O54 := (only_W (w0 := w) (v0 := .int .u64 (L0 r1)) (v1 := .int .u64 (L1 r1)) (v2 := .int .u64 (L2 r1)) (v3 := .int .u64 (L3 r1)) O53 rfl).1
  have of4 := ((((of3.apart (q := w.heap.size) (by omega) 0 (.int .u64 (L0 r1))).apart (q := w.heap.size) (by omega) 1 (.int .u64 (L1 r1))).apart (q := w.heap.size) (by omega) 2 (.int .u64 (L2 r1))).apart (q := w.heap.size) (by omega) 3 (.int .u64 (L3 r1)))
  have oa4 := ((((oa3.apart (q := w.heap.size) (by omega) 0 (.int .u64 (L0 r1))).apart (q := w.heap.size) (by omega) 1 (.int .u64 (L1 r1))).apart (q := w.heap.size) (by omega) 2 (.int .u64 (L2 r1))).apart (q := w.heap.size) (by omega) 3 (.int .u64 (L3 r1)))
  have ob4 := ((((ob3.apart (q := w.heap.size) (by omega) 0 (.int .u64 (L0 r1))).apart (q := w.heap.size) (by omega) 1 (.int .u64 (L1 r1))).apart (q := w.heap.size) (by omega) 2 (.int .u64 (L2 r1))).apart (q := w.heap.size) (by omega) 3 (.int .u64 (L3 r1)))
  have B4 := ((((B3.far (g := w.heap.size) (Nat.le_refl _) 0 (.int .u64 (L0 r1))).far (g := w.heap.size) (Nat.le_refl _) 1 (.int .u64 (L1 r1))).far (g := w.heap.size) (Nat.le_refl _) 2 (.int .u64 (L2 r1))).far (g := w.heap.size) (Nat.le_refl _) 3 (.int .u64 (L3 r1)))
  obtain ⟨s1, s2, s3⟩ := O53.at_
  go_wp2
  refine hK _ _ ⟨oa4, ob4⟩ ?_
  clear hK K s1 s2 s3
  refine seq_on rfl rfl fun K hK => ?_
  have O65 := (only_W (w0 := w) (v0 := .int .u64 (L0 r2)) (v1 := .int .u64 (L1 r2)) (v2 := .int .u64 (L2 r2)) (v3 := .int .u64 (L3 r2)) O64 rfl).1
  have O55 := ((((O54.apart (q := w.heap.size + 1) (by omega) 0 (.int .u64 (L0 r2))).apart (q := w.heap.size + 1) (by omega) 1 (.int .u64 (L1 r2))).apart (q := w.heap.size + 1) (by omega) 2 (.int .u64 (L2 r2))).apart (q := w.heap.size + 1) (by omega) 3 (.int .u64 (L3 r2)))
  have of5 := ((((of4.apart (q := w.heap.size + 1) (by omega) 0 (.int .u64 (L0 r2))).apart (q := w.heap.size + 1) (by omega) 1 (.int .u64 (L1 r2))).apart (q := w.heap.size + 1) (by omega) 2 (.int .u64 (L2 r2))).apart (q := w.heap.size + 1) (by omega) 3 (.int .u64 (L3 r2)))
  have oa5 := ((((oa4.apart (q := w.heap.size + 1) (by omega) 0 (.int .u64 (L0 r2))).apart (q := w.heap.size + 1) (by omega) 1 (.int .u64 (L1 r2))).apart (q := w.heap.size + 1) (by omega) 2 (.int .u64 (L2 r2))).apart (q := w.heap.size + 1) (by omega) 3 (.int .u64 (L3 r2)))
  have ob5 := ((((ob4.apart (q := w.heap.size + 1) (by omega) 0 (.int .u64 (L0 r2))).apart (q := w.heap.size + 1) (by omega) 1 (.int .u64 (L1 r2))).apart (q := w.heap.size + 1) (by omega) 2 (.int .u64 (L2 r2))).apart (q := w.heap.size + 1) (by omega) 3 (.int .u64 (L3 r2)))
  have B5 := ((((B4.far (g := w.heap.size + 1) (Nat.le_succ _) 0 (.int .u64 (L0 r2))).far (g := w.heap.size + 1) (Nat.le_succ _) 1 (.int .u64 (L1 r2))).far (g := w.heap.size + 1) (Nat.le_succ _) 2 (.int .u64 (L2 r2))).far (g := w.heap.size + 1) (Nat.le_succ _) 3 (.int .u64 (L3 r2)))
  obtain ⟨s1, s2, s3⟩ := O64.at_
  go_wp2
  refine hK _ _ ⟨oa5, ob5⟩ ?_
  clear hK K s1 s2 s3
  refine seq_end ?_
  go_wp2
  refine bodyPost_ret (pair_ret 4 5 rfl _ _ _ _ _ _ _ _ _ _ _ _ rfl rfl O55 O65) rfl ⟨rfl, B5, of5⟩
end Go.Proofs.YtigcbgehnlilaaaDoor
end
