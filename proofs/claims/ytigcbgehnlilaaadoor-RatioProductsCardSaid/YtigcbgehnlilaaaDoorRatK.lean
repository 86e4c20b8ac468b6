
/- Add, Sub, Mul, Div of ratio, of any two fractions: what they answer, or which error. Conditions: that the four numbers fit. -/
import Derived.Test.YtigcbgehnlilaaaDoorRatJ
namespace Go.Proofs.YtigcbgehnlilaaaDoor
open Go.ChangeShapes Go.WideShapes Go.ChangeAt Go.RowKit
set_option linter.unusedVariables false
set_option linter.unusedSimpArgs false

/-- what is answered of two fractions, where the steps fit (ok) and lead to n through d -/
def rkP (an ad bn bd : Int) (ok : Bool) (n d : Int) : Int := if decide (Rgt an ad) && decide (Rgt bn bd) && ok then mkP n d else 0
def rkQ (an ad bn bd : Int) (ok : Bool) (n d : Int) : Int := if decide (Rgt an ad) && decide (Rgt bn bd) && ok then mkQ n d else 0
def rkE (an ad bn bd : Int) (ok : Bool) (n d : Int) : Int := if decide (Rgt an ad) && decide (Rgt bn bd) then (if ok then mkR n d else 3) else 1
theorem rkV_eq {an ad bn bd N D EE n d : Int} {ok : Bool} (h1 : ok = true → EE = 0 ∧ N = n ∧ D = d) (h0 : ok = false → EE = 3) :
    rkV an ad bn bd N D EE = .tuple #[.agg #[.int .u64 (L0 (rkP an ad bn bd ok n d)), .int .u64 (L1 (rkP an ad bn bd ok n d)), .int .u64 (L2 (rkP an ad bn bd ok n d)), .int .u64 (L3 (rkP an ad bn bd ok n d)), .int .u64 (L0 (rkQ an ad bn bd ok n d)), .int .u64 (L1 (rkQ an ad bn bd ok n d)), .int .u64 (L2 (rkQ an ad bn bd ok n d)), .int .u64 (L3 (rkQ an ad bn bd ok n d))], .int .i64 (rkE an ad bn bd ok n d)] := by
  unfold rkV rkP rkQ rkE
  cases decide (Rgt an ad)
  · rfl
  · cases decide (Rgt bn bd)
    · rfl
    · cases ok
      · rw [h0 rfl]; rfl
      · obtain ⟨rfl, rfl, rfl⟩ := h1 rfl
        rfl
theorem rkP_fit (an ad bn bd : Int) (ok : Bool) (n d : Int) : Fit (rkP an ad bn bd ok n d) := by
  unfold rkP; split
  · exact mkP_fit n d
  · exact ⟨by decide, by decide⟩
theorem rkQ_fit (an ad bn bd : Int) (ok : Bool) (n d : Int) : Fit (rkQ an ad bn bd ok n d) := by
  unfold rkQ; split
  · exact mkQ_fit n d
  · exact ⟨by decide, by decide⟩
/-- a step of wide that fits or is refused -/
def StepW (f : Nat) (x y z r er : Int) : Prop := Fit r ∧ (∀ w : World, Calls Tryd.prog f #[.agg #[.int .u64 (L0 x), .int .u64 (L1 x), .int .u64 (L2 x), .int .u64 (L3 x)], .agg #[.int .u64 (L0 y), .int .u64 (L1 y), .int .u64 (L2 y), .int .u64 (L3 y)]] w fun e w' => e = .returned (.tuple #[.agg #[.int .u64 (L0 r), .int .u64 (L1 r), .int .u64 (L2 r), .int .u64 (L3 r)], .int .i64 er]) ∧ Below w.heap.size w w') ∧ (fb z = true → r = z ∧ er = 0) ∧ (fb z = false → er = 3)
theorem mulS (x y : Int) (hx : Fit x) (hy : Fit y) : ∃ r er, StepW 28 x y (x * y) r er := by
  by_cases h : Fit (x * y)
  · exact ⟨_, _, h, fun w => mul_fit x y hx hy h w, fun _ => ⟨rfl, rfl⟩, fun k => absurd h ((fb_iff _).1 k)⟩
  · exact ⟨0, 3, ⟨by decide, by decide⟩, fun w => mul_large x y hx hy h w, fun k => absurd ((fb_fit _).1 k) h, fun _ => rfl⟩
theorem fst_two {e1 e2 : Int} : (e1 = 0 ∧ e2 = 0 → fst_ (fst_ 0 e1) e2 = 0) ∧ (e1 = 3 ∨ e1 = 0 ∧ e2 = 3 → fst_ (fst_ 0 e1) e2 = 3) := by
  refine ⟨?_, ?_⟩
  · rintro ⟨rfl, rfl⟩; rfl
  · rintro (rfl | ⟨rfl, rfl⟩) <;> rfl
section
variable {an ad bn bd : Int} (han : Fit an) (had : Fit ad) (hbn : Fit bn) (hbd : Fit bd)
include han had hbn hbd
theorem RMul_all (w : World) : Calls Tryd.prog 8 #[.agg #[.int .u64 (L0 an), .int .u64 (L1 an), .int .u64 (L2 an), .int .u64 (L3 an), .int .u64 (L0 ad), .int .u64 (L1 ad), .int .u64 (L2 ad), .int .u64 (L3 ad)], .agg #[.int .u64 (L0 bn), .int .u64 (L1 bn), .int .u64 (L2 bn), .int .u64 (L3 bn), .int .u64 (L0 bd), .int .u64 (L1 bd), .int .u64 (L2 bd), .int .u64 (L3 bd)]] w fun e w' => e = .returned (.tuple #[.agg #[.int .u64 (L0 (rkP an ad bn bd (fb (an * bn) && fb (ad * bd)) (an * bn) (ad * bd))), .int .u64 (L1 (rkP an ad bn bd (fb (an * bn) && fb (ad * bd)) (an * bn) (ad * bd))), .int .u64 (L2 (rkP an ad bn bd (fb (an * bn) && fb (ad * bd)) (an * bn) (ad * bd))), .int .u64 (L3 (rkP an ad bn bd (fb (an * bn) && fb (ad * bd)) (an * bn) (ad * bd))), .int .u64 (L0 (rkQ an ad bn bd (fb (an * bn) && fb (ad * bd)) (an * bn) (ad * bd))), .int .u64 (L1 (rkQ an ad bn bd (fb (an * bn) && fb (ad * bd)) (an * bn) (ad * bd))), .int .u64 (L2 (rkQ an ad bn bd (fb (an * bn) && fb (ad * bd)) (an * bn) (ad * bd))), .int .u64 (L3 (rkQ an ad bn bd (fb (an * bn) && fb (ad * bd)) (an * bn) (ad * bd)))], .int .i64 (rkE an ad bn bd (fb (an * bn) && fb (ad * bd)) (an * bn) (ad * bd))]) ∧ Below w.heap.size w w' := by
  obtain ⟨r1, e1, f1, c1, y1, n1⟩ := mulS an bn han hbn
  obtain ⟨r2, e2, f2, c2, y2, n2⟩ := mulS ad bd had hbd
  refine RMul_of (fun W pa pb hW oa ob => ?_)
  have h := rk_Mul han had hbn hbd f1 f2 (c0 := .pointer (some ⟨pa, 0, none⟩)) (c1 := .pointer (some ⟨pb, 0, none⟩)) (w := W) (EE := fst_ (fst_ 0 e1) e2) (fun W' p hb ho hp => mulc_any (doC_Mul c1) (doC_Mul c2) ho (oa.keep hb) (ob.keep hb) (by have := oa.in_; omega) (by have := ob.in_; omega))
  rw [rkV_eq (ok := fb (an * bn) && fb (ad * bd)) (n := an * bn) (d := ad * bd)] at h
  · exact h
  · intro hk
    simp only [Bool.and_eq_true] at hk
    exact ⟨fst_two.1 ⟨(y1 hk.1).2, (y2 hk.2).2⟩, (y1 hk.1).1, (y2 hk.2).1⟩
  · intro hk
    refine fst_two.2 ?_
    cases k1 : fb (an * bn)
    · exact .inl (n1 k1)
    · cases k2 : fb (ad * bd)
      · exact .inr ⟨(y1 k1).2, n2 k2⟩
      · rw [k1, k2] at hk; cases hk
theorem RDiv_all (w : World) : Calls Tryd.prog 12 #[.agg #[.int .u64 (L0 an), .int .u64 (L1 an), .int .u64 (L2 an), .int .u64 (L3 an), .int .u64 (L0 ad), .int .u64 (L1 ad), .int .u64 (L2 ad), .int .u64 (L3 ad)], .agg #[.int .u64 (L0 bn), .int .u64 (L1 bn), .int .u64 (L2 bn), .int .u64 (L3 bn), .int .u64 (L0 bd), .int .u64 (L1 bd), .int .u64 (L2 bd), .int .u64 (L3 bd)]] w fun e w' => e = .returned (.tuple #[.agg #[.int .u64 (L0 (rkP an ad bn bd (fb (an * bd) && fb (ad * bn)) (an * bd) (ad * bn))), .int .u64 (L1 (rkP an ad bn bd (fb (an * bd) && fb (ad * bn)) (an * bd) (ad * bn))), .int .u64 (L2 (rkP an ad bn bd (fb (an * bd) && fb (ad * bn)) (an * bd) (ad * bn))), .int .u64 (L3 (rkP an ad bn bd (fb (an * bd) && fb (ad * bn)) (an * bd) (ad * bn))), .int .u64 (L0 (rkQ an ad bn bd (fb (an * bd) && fb (ad * bn)) (an * bd) (ad * bn))), .int .u64 (L1 (rkQ an ad bn bd (fb (an * bd) && fb (ad * bn)) (an * bd) (ad * bn))), .int .u64 (L2 (rkQ an ad bn bd (fb (an * bd) && fb (ad * bn)) (an * bd) (ad * bn))), .int .u64 (L3 (rkQ an ad bn bd (fb (an * bd) && fb (ad * bn)) (an * bd) (ad * bn)))], .int .i64 (rkE an ad bn bd (fb (an * bd) && fb (ad * bn)) (an * bd) (ad * bn))]) ∧ Below w.heap.size w w' := by
  obtain ⟨r1, e1, f1, c1, y1, n1⟩ := mulS an bd han hbd
  obtain ⟨r2, e2, f2, c2, y2, n2⟩ := mulS ad bn had hbn
  refine RDiv_of (fun W pa pb hW oa ob => ?_)
  have h := rk_Div han had hbn hbd f1 f2 (c0 := .pointer (some ⟨pa, 0, none⟩)) (c1 := .pointer (some ⟨pb, 0, none⟩)) (w := W) (EE := fst_ (fst_ 0 e1) e2) (fun W' p hb ho hp => divc_any (doC_Mul c1) (doC_Mul c2) ho (oa.keep hb) (ob.keep hb) (by have := oa.in_; omega) (by have := ob.in_; omega))
  rw [rkV_eq (ok := fb (an * bd) && fb (ad * bn)) (n := an * bd) (d := ad * bn)] at h
  · exact h
  · intro hk
    simp only [Bool.and_eq_true] at hk
    exact ⟨fst_two.1 ⟨(y1 hk.1).2, (y2 hk.2).2⟩, (y1 hk.1).1, (y2 hk.2).1⟩
  · intro hk
    refine fst_two.2 ?_
    cases k1 : fb (an * bd)
    · exact .inl (n1 k1)
    · cases k2 : fb (ad * bn)
      · exact .inr ⟨(y1 k1).2, n2 k2⟩
      · rw [k1, k2] at hk; cases hk
end
end Go.Proofs.YtigcbgehnlilaaaDoor
