
/- croftref04.Do of two right fractions: products; written by gen_do.py. -/
import Derived.Test.YtjmojddnedngaaaDoorDoA
import Derived.Test.YtjmojddnedngaaaDoorQatD
import Derived.Test.YtjmojddnedngaaaDoorRatK
namespace Go.Proofs.YtjmojddnedngaaaDoor
open Go.ChangeShapes Go.WideShapes Go.ChangeAt Go.RowKit
set_option linter.unusedVariables false
set_option linter.unusedSimpArgs false

set_option maxHeartbeats 64000000 in
set_option maxRecDepth 20000 in
theorem do_no1 {an ad bn bd k : Int} (han : Fit an) (had : Fit ad) (hbn : Fit bn) (hbd : Fit bd) (ra : decide (Rgt an ad) = false) (VV : Value) (hV : VV = .tuple #[.agg #[.int .u64 (L0 0), .int .u64 (L1 0), .int .u64 (L2 0), .int .u64 (L3 0), .int .u64 (L0 0), .int .u64 (L1 0), .int .u64 (L2 0), .int .u64 (L3 0)], .int .i64 1]) (w : World) : Calls Tryd.prog 6 #[.int .i64 k, .agg #[.int .u64 (L0 an), .int .u64 (L1 an), .int .u64 (L2 an), .int .u64 (L3 an), .int .u64 (L0 ad), .int .u64 (L1 ad), .int .u64 (L2 ad), .int .u64 (L3 ad)], .agg #[.int .u64 (L0 bn), .int .u64 (L1 bn), .int .u64 (L2 bn), .int .u64 (L3 bn), .int .u64 (L0 bd), .int .u64 (L1 bd), .int .u64 (L2 bd), .int .u64 (L3 bd)]] w fun e w' => e = .returned VV ∧ Below w.heap.size w w' := by
  have EV := Lib.hid hV
  clear hV
  have RA := Lib.hid (fun w => ra ▸ rright_any han had w)
  clear ra
  go_enter Tryd.func6, Tryd.ntmps6
  go_upto_region 1 with fail
  go_name_world W0 hW0
  have OA : Own W0 w.heap.size 31 #[.int .u64 (L0 an), .int .u64 (L1 an), .int .u64 (L2 an), .int .u64 (L3 an), .int .u64 (L0 ad), .int .u64 (L1 ad), .int .u64 (L2 ad), .int .u64 (L3 ad)] := hW0 ▸ (by repeat' (first | (with_reducible assumption) | (with_reducible refine Own.drawnN ?_ _) | (with_reducible refine Own.drawn ?_) | (with_reducible refine Own.made_at ?_; first | rfl | (simp; done) | omega | (simp; omega)) | (with_reducible refine Own.more ?_ _) | (with_reducible refine Own.apart ?_ ?_ _ _; rotate_left; first | omega | (simp; done) | (simp; omega)) | (refine Own.put ?_ _ _)))
  have OB : Own W0 (w.heap.size + 1) 31 #[.int .u64 (L0 bn), .int .u64 (L1 bn), .int .u64 (L2 bn), .int .u64 (L3 bn), .int .u64 (L0 bd), .int .u64 (L1 bd), .int .u64 (L2 bd), .int .u64 (L3 bd)] := hW0 ▸ (by repeat' (first | (with_reducible assumption) | (with_reducible refine Own.drawnN ?_ _) | (with_reducible refine Own.drawn ?_) | (with_reducible refine Own.made_at ?_; first | rfl | (simp; done) | omega | (simp; omega)) | (with_reducible refine Own.more ?_ _) | (with_reducible refine Own.apart ?_ ?_ _ _; rotate_left; first | omega | (simp; done) | (simp; omega)) | (refine Own.put ?_ _ _)))
  have OR : Own W0 (w.heap.size + 2) 31 #[.int .u64 0, .int .u64 0, .int .u64 0, .int .u64 0, .int .u64 0, .int .u64 0, .int .u64 0, .int .u64 0] := hW0 ▸ (by repeat' (first | (with_reducible assumption) | (with_reducible refine Own.drawnN ?_ _) | (with_reducible refine Own.drawn ?_) | (with_reducible refine Own.made_at ?_; first | rfl | (simp; done) | omega | (simp; omega)) | (with_reducible refine Own.more ?_ _) | (with_reducible refine Own.apart ?_ ?_ _ _; rotate_left; first | omega | (simp; done) | (simp; omega)) | (refine Own.put ?_ _ _)))
  have hB : Below w.heap.size w W0 := hW0 ▸ (by repeat' (first | (with_reducible exact Below.refl _ _) | (with_reducible assumption) | (with_reducible refine below_drewN ?_ _) | (with_reducible refine Below.drew ?_) | (with_reducible refine Below.alloc ?_ ?_ _) | (with_reducible refine Below.setCell ?_ ?_ _) | (with_reducible refine then_ ?_ (by with_reducible assumption) ?_) | (with_reducible exact Nat.le_refl _) | (with_reducible exact Nat.le_succ _) | (with_reducible exact Nat.le_succ_of_le (by with_reducible assumption)) | omega | (simp; done) | (simp; omega) | (exact Nat.le_succ _) | (exact Nat.le_succ_of_le (by with_reducible assumption))))
  clear hW0
  have z0 := OR.in_
  obtain ⟨P1, P2, P3⟩ := OA.at_
  obtain ⟨Q1, Q2, Q3⟩ := OB.at_
  go_upto_region 2 with (go_at_call 12; refine (RA.out _).mono ?_; rintro e w1 ⟨rfl, hb1⟩; have HB1 := Lib.hid hb1; clear hb1 P1 P2 P3 Q1 Q2 Q3)
  replace OR := OR.keep HB1.out
  replace hB := then_ hB HB1.out hB.size
  obtain ⟨R1, R2, R3⟩ := OR.at_
  go_wp2
  refine bodyPost_ret (by first | (simp [results, Tryd.results6, go_sem, R1]; done) | (simp [results, Tryd.results6, go_sem, R1]; rfl)) rfl ⟨by rw [EV.out] <;> rfl, ?_⟩
  repeat' (first | (with_reducible exact Below.refl _ _) | (with_reducible assumption) | (with_reducible refine below_drewN ?_ _) | (with_reducible refine Below.drew ?_) | (with_reducible refine Below.alloc ?_ ?_ _) | (with_reducible refine Below.setCell ?_ ?_ _) | (with_reducible refine then_ ?_ (by with_reducible assumption) ?_) | (with_reducible exact Nat.le_refl _) | (with_reducible exact Nat.le_succ _) | (with_reducible exact Nat.le_succ_of_le (by with_reducible assumption)) | omega | (simp; done) | (simp; omega) | (exact Nat.le_succ _) | (exact Nat.le_succ_of_le (by with_reducible assumption)))
set_option maxHeartbeats 64000000 in
set_option maxRecDepth 20000 in
theorem do_no2 {an ad bn bd k : Int} (han : Fit an) (had : Fit ad) (hbn : Fit bn) (hbd : Fit bd) (ra : decide (Rgt an ad) = true) (rb : decide (Rgt bn bd) = false) (VV : Value) (hV : VV = .tuple #[.agg #[.int .u64 (L0 0), .int .u64 (L1 0), .int .u64 (L2 0), .int .u64 (L3 0), .int .u64 (L0 0), .int .u64 (L1 0), .int .u64 (L2 0), .int .u64 (L3 0)], .int .i64 1]) (w : World) : Calls Tryd.prog 6 #[.int .i64 k, .agg #[.int .u64 (L0 an), .int .u64 (L1 an), .int .u64 (L2 an), .int .u64 (L3 an), .int .u64 (L0 ad), .int .u64 (L1 ad), .int .u64 (L2 ad), .int .u64 (L3 ad)], .agg #[.int .u64 (L0 bn), .int .u64 (L1 bn), .int .u64 (L2 bn), .int .u64 (L3 bn), .int .u64 (L0 bd), .int .u64 (L1 bd), .int .u64 (L2 bd), .int .u64 (L3 bd)]] w fun e w' => e = .returned VV ∧ Below w.heap.size w w' := by
  have EV := Lib.hid hV
  clear hV
  have RA := Lib.hid (fun w => ra ▸ rright_any han had w)
  clear ra
  have RB := Lib.hid (fun w => rb ▸ rright_any hbn hbd w)
  clear rb
  go_enter Tryd.func6, Tryd.ntmps6
  go_upto_region 1 with fail
  go_name_world W0 hW0
  have OA : Own W0 w.heap.size 31 #[.int .u64 (L0 an), .int .u64 (L1 an), .int .u64 (L2 an), .int .u64 (L3 an), .int .u64 (L0 ad), .int .u64 (L1 ad), .int .u64 (L2 ad), .int .u64 (L3 ad)] := hW0 ▸ (by repeat' (first | (with_reducible assumption) | (with_reducible refine Own.drawnN ?_ _) | (with_reducible refine Own.drawn ?_) | (with_reducible refine Own.made_at ?_; first | rfl | (simp; done) | omega | (simp; omega)) | (with_reducible refine Own.more ?_ _) | (with_reducible refine Own.apart ?_ ?_ _ _; rotate_left; first | omega | (simp; done) | (simp; omega)) | (refine Own.put ?_ _ _)))
  have OB : Own W0 (w.heap.size + 1) 31 #[.int .u64 (L0 bn), .int .u64 (L1 bn), .int .u64 (L2 bn), .int .u64 (L3 bn), .int .u64 (L0 bd), .int .u64 (L1 bd), .int .u64 (L2 bd), .int .u64 (L3 bd)] := hW0 ▸ (by repeat' (first | (with_reducible assumption) | (with_reducible refine Own.drawnN ?_ _) | (with_reducible refine Own.drawn ?_) | (with_reducible refine Own.made_at ?_; first | rfl | (simp; done) | omega | (simp; omega)) | (with_reducible refine Own.more ?_ _) | (with_reducible refine Own.apart ?_ ?_ _ _; rotate_left; first | omega | (simp; done) | (simp; omega)) | (refine Own.put ?_ _ _)))
  have OR : Own W0 (w.heap.size + 2) 31 #[.int .u64 0, .int .u64 0, .int .u64 0, .int .u64 0, .int .u64 0, .int .u64 0, .int .u64 0, .int .u64 0] := hW0 ▸ (by repeat' (first | (with_reducible assumption) | (with_reducible refine Own.drawnN ?_ _) | (with_reducible refine Own.drawn ?_) | (with_reducible refine Own.made_at ?_; first | rfl | (simp; done) | omega | (simp; omega)) | (with_reducible refine Own.more ?_ _) | (with_reducible refine Own.apart ?_ ?_ _ _; rotate_left; first | omega | (simp; done) | (simp; omega)) | (refine Own.put ?_ _ _)))
  have hB : Below w.heap.size w W0 := hW0 ▸ (by repeat' (first | (with_reducible exact Below.refl _ _) | (with_reducible assumption) | (with_reducible refine below_drewN ?_ _) | (with_reducible refine Below.drew ?_) | (with_reducible refine Below.alloc ?_ ?_ _) | (with_reducible refine Below.setCell ?_ ?_ _) | (with_reducible refine then_ ?_ (by with_reducible assumption) ?_) | (with_reducible exact Nat.le_refl _) | (with_reducible exact Nat.le_succ _) | (with_reducible exact Nat.le_succ_of_le (by with_reducible assumption)) | omega | (simp; done) | (simp; omega) | (exact Nat.le_succ _) | (exact Nat.le_succ_of_le (by with_reducible assumption))))
  clear hW0
  have z0 := OR.in_
  obtain ⟨P1, P2, P3⟩ := OA.at_
  obtain ⟨Q1, Q2, Q3⟩ := OB.at_
  go_upto_region 2 with (first
    | (go_at_call 12; with_reducible refine (RA.out _).mono ?_; rintro e w1 ⟨rfl, hb1⟩; have HB1 := Lib.hid hb1; clear hb1 P1 P2 P3 Q1 Q2 Q3; obtain ⟨Q1, Q2, Q3⟩ := (OB.keep HB1.out).at_)
    | (go_at_call 12; with_reducible refine (RB.out _).mono ?_; rintro e w2 ⟨rfl, hb2⟩; have HB2 := Lib.hid hb2; clear hb2 Q1 Q2 Q3))
  replace OR := (OR.keep HB1.out).keep HB2.out
  replace hB := then_ (then_ hB HB1.out hB.size) HB2.out (Nat.le_trans hB.size HB1.out.size)
  obtain ⟨R1, R2, R3⟩ := OR.at_
  go_wp2
  refine bodyPost_ret (by first | (simp [results, Tryd.results6, go_sem, R1]; done) | (simp [results, Tryd.results6, go_sem, R1]; rfl)) rfl ⟨by rw [EV.out] <;> rfl, ?_⟩
  repeat' (first | (with_reducible exact Below.refl _ _) | (with_reducible assumption) | (with_reducible refine below_drewN ?_ _) | (with_reducible refine Below.drew ?_) | (with_reducible refine Below.alloc ?_ ?_ _) | (with_reducible refine Below.setCell ?_ ?_ _) | (with_reducible refine then_ ?_ (by with_reducible assumption) ?_) | (with_reducible exact Nat.le_refl _) | (with_reducible exact Nat.le_succ _) | (with_reducible exact Nat.le_succ_of_le (by with_reducible assumption)) | omega | (simp; done) | (simp; omega) | (exact Nat.le_succ _) | (exact Nat.le_succ_of_le (by with_reducible assumption)))
end Go.Proofs.YtjmojddnedngaaaDoor
