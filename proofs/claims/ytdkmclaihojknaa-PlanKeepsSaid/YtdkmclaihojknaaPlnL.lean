
/- The law package's few, plain and awake. Conditions: those that each theorem names. -/
import Derived.Test.YtdkmclaihojknaaPlnH
namespace Go.Proofs.Ytdkmclaihojknaa.Pl
open Go.ChangeShapes Go.WideShapes Go.ChangeAt Go.RowKit
set_option linter.unusedVariables false
set_option linter.unusedSimpArgs false
section
variable {v e : Value} {vs : List Vx} {es : List Eg} {w : World}
def fewB (vs : List Vx) (es : List Eg) : Bool := decide (vs.length ≤ 60) && decide (es.length ≤ 60)
theorem fewB_yes (h : fewB vs es = true) : vs.length ≤ 60 ∧ es.length ≤ 60 := by
  unfold fewB at h
  simpa using h
set_option maxRecDepth 10000 in
theorem few_any (hv : VIn w v vs) (he : EIn w e es) : Calls Try.prog 12 #[.agg #[v, e]] w fun r w' => r = .returned (.bool (fewB vs es)) ∧ Below w.heap.size w w' := by
  obtain ⟨a, c, rfl⟩ := hv.sl
  obtain ⟨a', c', rfl⟩ := he.sl
  clear hv he
  have BB := Lib.hid (bx1 w 25 #[.slice a vs.length c, .slice a' es.length c'])
  unfold fewB
  have e1 : decide ((vs.length : Int) ≤ 60) = decide (vs.length ≤ 60) := by by_cases k : vs.length ≤ 60 <;> simp [k] <;> omega
  have e2 : decide ((es.length : Int) ≤ 60) = decide (es.length ≤ 60) := by by_cases k : es.length ≤ 60 <;> simp [k] <;> omega
  rw [← e1, ← e2]
  clear e1 e2
  generalize vs.length = n at *
  generalize es.length = m at *
  by_cases k : (n : Int) ≤ 60
  · have t1 : decide ((n : Int) ≤ 60) = true := by simpa using k
    rw [t1]
    clear k
    go_enter Try.func12, Try.ntmps12
    go_wp2
    go_ret
    exact ⟨rfl, BB.out⟩
  · have t1 : decide ((n : Int) ≤ 60) = false := by simpa using k
    rw [t1]
    clear k
    go_enter Try.func12, Try.ntmps12
    go_wp2
    go_ret
    exact ⟨rfl, BB.out⟩
set_option maxRecDepth 10000 in
theorem plain_any (hv : VIn w v vs) (he : EIn w e es) : Calls Try.prog 14 #[.agg #[v, e]] w fun r w' => r = .returned (.agg #[v, e]) ∧ Below w.heap.size w w' := by
  obtain ⟨a, c, rfl⟩ := hv.sl
  obtain ⟨a', c', rfl⟩ := he.sl
  clear hv he
  go_enter Try.func14, Try.ntmps14
  go_wp2
  refine bodyPost_ret (by simp [results, Try.results14, go_sem]) rfl ⟨rfl, ?_⟩
  repeat' (first | (with_reducible exact Below.refl _ _) | (with_reducible assumption) | (with_reducible refine below_drewN ?_ _) | (with_reducible refine Below.drew ?_) | (with_reducible refine Below.alloc ?_ ?_ _) | (with_reducible refine Below.setCell ?_ ?_ _) | (with_reducible refine then_ ?_ (by with_reducible assumption) ?_) | (with_reducible exact Nat.le_refl _) | (with_reducible exact Nat.le_succ _) | (with_reducible exact Nat.le_succ_of_le (by with_reducible assumption)) | omega | (simp; done) | (simp; omega) | (exact Nat.le_succ _) | (exact Nat.le_succ_of_le (by with_reducible assumption)))
def exV : List Vx := [⟨1, 0, 0⟩, ⟨2, 4, 0⟩, ⟨3, 2, 0⟩]
theorem ex_rt : Rt exV [] := by
  rw [rt_iff]
  refine ⟨⟨?_, ?_, ?_, ?_, ?_⟩, ⟨?_, ?_, ?_, ?_, ?_, ?_, ?_⟩⟩
  all_goals simp [exV, inB]
theorem ex_12 : cLink exV [] 1 2 = 14 := by decide +kernel
theorem ex_13 : cLink exV [] 1 3 = 0 := by decide +kernel
theorem nine_at {w : World} {g : Nat} (h : Own w g 31 #[.int .i64 1, .int .i64 0, .int .i64 0, .int .i64 2, .int .i64 4, .int .i64 0, .int .i64 3, .int .i64 2, .int .i64 0]) : VIn w (.slice (some ⟨g, 0, none⟩) 3 3) exV := by
  refine ⟨_, 3, rfl, by simp [exV], by unfold maxLen; omega, .inr ⟨g, 0, rfl, h.in_, fun i hi => ?_⟩⟩
  have k := h.at_.1
  have hi3 : i < 3 := hi
  rw [k, k, k]
  match i, hi3 with
  | 0, _ => exact ⟨rfl, rfl, rfl⟩
  | 1, _ => exact ⟨rfl, rfl, rfl⟩
  | 2, _ => exact ⟨rfl, rfl, rfl⟩
set_option maxRecDepth 10000 in
theorem awake_any (w : World) : Calls Try.prog 11 #[] w fun r w' => r = .returned (.bool true) ∧ Below w.heap.size w w' := by
  have RG := Lib.hid (fun (W : World) (v : Value) (hv : VIn W v exV) => right_any hv (TIn.nil (p := Eg.id) (q := Eg.a) (r := Eg.b) W) (by decide) (by decide))
  rw [rtB_iff.2 ex_rt] at RG
  have C2 : Hid (∀ W v, VIn W v exV → Calls Try.prog 16 #[.agg #[v, .slice none 0 0], .int .i64 1, .int .i64 2] W fun r w' => r = .returned (.int .i64 14) ∧ Below W.heap.size W w') := Lib.hid fun W v hv => by
    have := pcanLink_any 1 2 hv (TIn.nil (p := Eg.id) (q := Eg.a) (r := Eg.b) W) (by decide) (by decide)
    unfold orArg at this
    rw [rtB_iff.2 ex_rt, if_pos rfl, ex_12] at this
    exact this
  have C3 : Hid (∀ W v, VIn W v exV → Calls Try.prog 16 #[.agg #[v, .slice none 0 0], .int .i64 1, .int .i64 3] W fun r w' => r = .returned (.int .i64 0) ∧ Below W.heap.size W w') := Lib.hid fun W v hv => by
    have := pcanLink_any 1 3 hv (TIn.nil (p := Eg.id) (q := Eg.a) (r := Eg.b) W) (by decide) (by decide)
    unfold orArg at this
    rw [rtB_iff.2 ex_rt, if_pos rfl, ex_13] at this
    exact this
  have B0 : Hid (Below w.heap.size w ((w.alloc (.cells #[.int .i64 1, .int .i64 0, .int .i64 0, .int .i64 2, .int .i64 4, .int .i64 0, .int .i64 3, .int .i64 2, .int .i64 0] 31)).alloc (.cells #[.slice (some ⟨w.heap.size, 0, none⟩) 3 3, .slice none 0 0] 35))) := Lib.hid (by repeat' (first | (with_reducible exact Below.refl _ _) | (with_reducible assumption) | (with_reducible refine below_drewN ?_ _) | (with_reducible refine Below.drew ?_) | (with_reducible refine Below.alloc ?_ ?_ _) | (with_reducible refine Below.setCell ?_ ?_ _) | (with_reducible refine then_ ?_ (by with_reducible assumption) ?_) | (with_reducible exact Nat.le_refl _) | (with_reducible exact Nat.le_succ _) | (with_reducible exact Nat.le_succ_of_le (by with_reducible assumption)) | omega | (simp; done) | (simp; omega) | (exact Nat.le_succ _) | (exact Nat.le_succ_of_le (by with_reducible assumption))))
  have O0 : Hid (Own ((w.alloc (.cells #[.int .i64 1, .int .i64 0, .int .i64 0, .int .i64 2, .int .i64 4, .int .i64 0, .int .i64 3, .int .i64 2, .int .i64 0] 31)).alloc (.cells #[.slice (some ⟨w.heap.size, 0, none⟩) 3 3, .slice none 0 0] 35)) (w.heap.size + 1) 35 #[.slice (some ⟨w.heap.size, 0, none⟩) 3 3, .slice none 0 0]) := Lib.hid (Own.made_at (by simp))
  have V0 := Lib.hid (nine_at ((Own.made w 31 #[.int .i64 1, .int .i64 0, .int .i64 0, .int .i64 2, .int .i64 4, .int .i64 0, .int .i64 3, .int .i64 2, .int .i64 0]).more (.cells #[.slice (some ⟨w.heap.size, 0, none⟩) 3 3, .slice none 0 0] 35)))
  go_enter Try.func11, Try.ntmps11
  go_upto_region 2 with fail
  generalize hW0 : (w.alloc (.cells #[.int .i64 1, .int .i64 0, .int .i64 0, .int .i64 2, .int .i64 4, .int .i64 0, .int .i64 3, .int .i64 2, .int .i64 0] 31)).alloc (.cells #[.slice (some ⟨w.heap.size, 0, none⟩) 3 3, .slice none 0 0] 35) = W0 at B0 O0 V0 ⊢
  clear hW0
  obtain ⟨p1, p2, p3⟩ := O0.out.at_
  go_wp2_with (go_at_call 13; refine (RG.out _ _ V0.out).mono ?_; rintro e w1 ⟨rfl, b1⟩; obtain ⟨p1, p2, p3⟩ := (O0.out.keep b1).at_; have B1 := Lib.hid b1; clear b1)
  have V1 : Hid (VIn w1 (.slice (some ⟨w.heap.size, 0, none⟩) 3 3) exV) := Lib.hid (TIn.below V0.out B1.out)
  go_wp2_with (go_at_call 16; with_reducible refine (C2.out _ _ V1.out).mono ?_; rintro e w2 ⟨rfl, b2⟩; obtain ⟨p1, p2, p3⟩ := ((O0.out.keep B1.out).keep b2).at_; have B2 := Lib.hid b2; clear b2)
  have V2 : Hid (VIn w2 (.slice (some ⟨w.heap.size, 0, none⟩) 3 3) exV) := Lib.hid (TIn.below V1.out B2.out)
  go_wp2_with (go_at_call 16; with_reducible refine (C3.out _ _ V2.out).mono ?_; rintro e w3 ⟨rfl, b3⟩; have B3 := Lib.hid (then_ (then_ (then_ B0.out B1.out B0.out.size) B2.out (then_ B0.out B1.out B0.out.size).size) b3 (then_ (then_ B0.out B1.out B0.out.size) B2.out (then_ B0.out B1.out B0.out.size).size).size); clear b3)
  go_ret
  exact ⟨rfl, B3.out⟩
end
end Go.Proofs.Ytdkmclaihojknaa.Pl