
/- Add, Sub, Mul, Div of ratio, of any two fractions: what they answer, or which error. Conditions: that the four numbers fit. -/
import Derived.Test.YtjmojddnedngaaaDoorRatJ
namespace Go.Proofs.YtjmojddnedngaaaDoor
open Go.ChangeShapes Go.WideShapes Go.ChangeAt Go.RowKit
set_option linter.unusedVariables false
set_option linter.unusedSimpArgs false

/-- what is answered of two fractions, where the steps fit (ok) and lead to n through d -/
def rkP (an ad bn bd : Int) (ok : Bool) (n d : Int) : Int := if decide (Rgt an ad) && decide (Rgt bn bd) && ok then mkP n d else 0
def rkQ (an ad bn bd : Int) (ok : Bool) (n d : Int) : Int := if decide (Rgt an ad) && decide (Rgt bn bd) && ok then mkQ n d else 0
def rkE (an ad bn bd : Int) (ok : Bool) (n d : Int) : Int := if decide (Rgt an ad) && decide (Rgt bn bd) then (if ok then mkR n d else 3) else 1
theorem rkV_eq {an ad bn bd N D EE n d : Int} {ok : Bool} (h1 : ok = true → EE = 0 ∧ N = n ∧ D = d) (h0 : ok = false → EE = 3) :
    rkV an ad bn bd N D EE = .tuple #[.agg #[.int .u64 (L0 (rkP an ad bn bd ok n d)), .int .u64 (L1 (rkP an ad bn bd ok n d)), .int .u64 (L2 (rkP an ad bn bd ok n d)), .int .u64 (L3 (rkP an ad bn bd ok n d)), .int .u64 (L0 (rkQ an ad bn bd ok n d)), .int .u64 (L1 (rkQ an ad bn bd ok n d)), .int .u64 (L2 (rkQ an ad bn bd ok n d)), .int .u64 (L3 (rkQ an ad bn bd ok n d))], .int .i64 (rkE an ad bn bd ok n d)] := by
  unfold rkV rkP rkQ rkE
  cases decide (Rgt an ad)
  · rfl
  · cases decide (Rgt bn bd)
    · rfl
    · cases ok
      · rw [h0 rfl]; rfl
      · obtain ⟨rfl, rfl, rfl⟩ := h1 rfl
        rfl
theorem rkP_fit (an ad bn bd : Int) (ok : Bool) (n d : Int) : Fit (rkP an ad bn bd ok n d) := by
  unfold rkP; split
  · exact mkP_fit n d
  · exact ⟨by decide, by decide⟩
theorem rkQ_fit (an ad bn bd : Int) (ok : Bool) (n d : Int) : Fit (rkQ an ad bn bd ok n d) := by
  unfold rkQ; split
  · exact mkQ_fit n d
  · exact ⟨by decide, by decide⟩
/-- a step of wide that fits or is refused -/
def StepW (f : Nat) (x y z r er : Int) : Prop := Fit r ∧ (∀ w : World, Calls Tryd.prog f #[.agg #[.int .u64 (L0 x), .int .u64 (L1 x), .int .u64 (L2 x), .int .u64 (L3 x)], .agg #[.int .u64 (L0 y), .int .u64 (L1 y), .int .u64 (L2 y), .int .u64 (L3 y)]] w fun e w' => e = .returned (.tuple #[.agg #[.int .u64 (L0 r), .int .u64 (L1 r), .int .u64 (L2 r), .int .u64 (L3 r)], .int .i64 er]) ∧ Below w.heap.size w w') ∧ (fb z = true → r = z ∧ er = 0) ∧ (fb z = false → er = 3)
theorem mulS (x y : Int) (hx : Fit x) (hy : Fit y) : ∃ r er, StepW 26 x y (x * y) r er := by
  by_cases h : Fit (x * y)
  · exact ⟨_, _, h, fun w => mul_fit x y hx hy h w, fun _ => ⟨rfl, rfl⟩, fun k => absurd h ((fb_iff _).1 k)⟩
  · exact ⟨0, 3, ⟨by decide, by decide⟩, fun w => mul_large x y hx hy h w, fun k => absurd ((fb_fit _).1 k) h, fun _ => rfl⟩
theorem addS (x y : Int) (hx : Fit x) (hy : Fit y) : ∃ r er, StepW 10 x y (x + y) r er := by
  by_cases h : Fit (x + y)
  · exact ⟨_, _, h, fun w => add_fit x y hx hy h w, fun _ => ⟨rfl, rfl⟩, fun k => absurd h ((fb_iff _).1 k)⟩
  · exact ⟨0, 3, ⟨by decide, by decide⟩, fun w => add_large x y hx hy h w, fun k => absurd ((fb_fit _).1 k) h, fun _ => rfl⟩
theorem subS (x y : Int) (hx : Fit x) (hy : Fit y) : ∃ r er, StepW 11 x y (x - y) r er := by
  by_cases h : Fit (x - y)
  · exact ⟨_, _, h, fun w => sub_fit x y hx hy h w, fun _ => ⟨rfl, rfl⟩, fun k => absurd h ((fb_iff _).1 k)⟩
  · exact ⟨0, 3, ⟨by decide, by decide⟩, fun w => sub_large x y hx hy h w, fun k => absurd ((fb_fit _).1 k) h, fun _ => rfl⟩
theorem fst_four {e1 e2 e3 e4 : Int} : (e1 = 0 ∧ e2 = 0 ∧ e3 = 0 ∧ e4 = 0 → fst_ (fst_ (fst_ (fst_ 0 e1) e2) e3) e4 = 0) ∧ (e1 = 3 ∨ e1 = 0 ∧ e2 = 3 ∨ e1 = 0 ∧ e2 = 0 ∧ e3 = 3 ∨ e1 = 0 ∧ e2 = 0 ∧ e3 = 0 ∧ e4 = 3 → fst_ (fst_ (fst_ (fst_ 0 e1) e2) e3) e4 = 3) := by
  refine ⟨?_, ?_⟩
  · rintro ⟨rfl, rfl, rfl, rfl⟩; rfl
  · rintro (rfl | ⟨rfl, rfl⟩ | ⟨rfl, rfl, rfl⟩ | ⟨rfl, rfl, rfl, rfl⟩) <;> rfl

section
variable {an ad bn bd : Int} (han : Fit an) (had : Fit ad) (hbn : Fit bn) (hbd : Fit bd)
include han had hbn hbd
theorem RAdd_all (w : World) : Calls Tryd.prog 4 #[.agg #[.int .u64 (L0 an), .int .u64 (L1 an), .int .u64 (L2 an), .int .u64 (L3 an), .int .u64 (L0 ad), .int .u64 (L1 ad), .int .u64 (L2 ad), .int .u64 (L3 ad)], .agg #[.int .u64 (L0 bn), .int .u64 (L1 bn), .int .u64 (L2 bn), .int .u64 (L3 bn), .int .u64 (L0 bd), .int .u64 (L1 bd), .int .u64 (L2 bd), .int .u64 (L3 bd)]] w fun e w' => e = .returned (.tuple #[.agg #[.int .u64 (L0 (rkP an ad bn bd (fb (an * bd) && fb (bn * ad) && fb (an * bd + bn * ad) && fb (ad * bd)) (an * bd + bn * ad) (ad * bd))), .int .u64 (L1 (rkP an ad bn bd (fb (an * bd) && fb (bn * ad) && fb (an * bd + bn * ad) && fb (ad * bd)) (an * bd + bn * ad) (ad * bd))), .int .u64 (L2 (rkP an ad bn bd (fb (an * bd) && fb (bn * ad) && fb (an * bd + bn * ad) && fb (ad * bd)) (an * bd + bn * ad) (ad * bd))), .int .u64 (L3 (rkP an ad bn bd (fb (an * bd) && fb (bn * ad) && fb (an * bd + bn * ad) && fb (ad * bd)) (an * bd + bn * ad) (ad * bd))), .int .u64 (L0 (rkQ an ad bn bd (fb (an * bd) && fb (bn * ad) && fb (an * bd + bn * ad) && fb (ad * bd)) (an * bd + bn * ad) (ad * bd))), .int .u64 (L1 (rkQ an ad bn bd (fb (an * bd) && fb (bn * ad) && fb (an * bd + bn * ad) && fb (ad * bd)) (an * bd + bn * ad) (ad * bd))), .int .u64 (L2 (rkQ an ad bn bd (fb (an * bd) && fb (bn * ad) && fb (an * bd + bn * ad) && fb (ad * bd)) (an * bd + bn * ad) (ad * bd))), .int .u64 (L3 (rkQ an ad bn bd (fb (an * bd) && fb (bn * ad) && fb (an * bd + bn * ad) && fb (ad * bd)) (an * bd + bn * ad) (ad * bd)))], .int .i64 (rkE an ad bn bd (fb (an * bd) && fb (bn * ad) && fb (an * bd + bn * ad) && fb (ad * bd)) (an * bd + bn * ad) (ad * bd))]) ∧ Below w.heap.size w w' := by
  obtain ⟨r1, e1, f1, c1, y1, n1⟩ := mulS an bd han hbd
  obtain ⟨r2, e2, f2, c2, y2, n2⟩ := mulS bn ad hbn had
  obtain ⟨r3, e3, f3, c3, y3, n3⟩ := addS r1 r2 f1 f2
  obtain ⟨r4, e4, f4, c4, y4, n4⟩ := mulS ad bd had hbd
  refine RAdd_of (fun w => tot_Add (fun W ph pa pb hW oh oa ob => ?_))
  have h := rk_total han had hbn hbd f3 f4 (c0 := .pointer (some ⟨ph, 0, none⟩)) (c1 := .pointer (some ⟨pa, 0, none⟩)) (c2 := .pointer (some ⟨pb, 0, none⟩)) (w := W) (EE := fst_ (fst_ (fst_ (fst_ 0 e1) e2) e3) e4) (fun W' p hb ho hp => totc_any (doC_Mul c1) (doC_Mul c2) (doC_Add c3) (doC_Mul c4) ho (oh.keep hb) (oa.keep hb) (ob.keep hb) (by have := oh.in_; omega) (by have := oa.in_; omega) (by have := ob.in_; omega))
  rw [rkV_eq (ok := (fb (an * bd) && fb (bn * ad) && fb (an * bd + bn * ad) && fb (ad * bd))) (n := an * bd + bn * ad) (d := ad * bd)] at h
  · exact h
  · intro hk
    simp only [Bool.and_eq_true] at hk
    obtain ⟨⟨⟨k1, k2⟩, k3⟩, k4⟩ := hk
    obtain ⟨rfl, h1⟩ := y1 k1
    obtain ⟨rfl, h2⟩ := y2 k2
    exact ⟨fst_four.1 ⟨h1, h2, (y3 k3).2, (y4 k4).2⟩, (y3 k3).1, (y4 k4).1⟩
  · intro hk
    refine fst_four.2 ?_
    cases k1 : fb (an * bd)
    · exact .inl (n1 k1)
    · obtain ⟨rfl, h1⟩ := y1 k1
      cases k2 : fb (bn * ad)
      · exact .inr (.inl ⟨h1, n2 k2⟩)
      · obtain ⟨rfl, h2⟩ := y2 k2
        cases k3 : fb (an * bd + bn * ad)
        · exact .inr (.inr (.inl ⟨h1, h2, n3 k3⟩))
        · cases k4 : fb (ad * bd)
          · exact .inr (.inr (.inr ⟨h1, h2, (y3 k3).2, n4 k4⟩))
          · rw [k1, k2, k3, k4] at hk; cases hk
theorem RSub_all (w : World) : Calls Tryd.prog 5 #[.agg #[.int .u64 (L0 an), .int .u64 (L1 an), .int .u64 (L2 an), .int .u64 (L3 an), .int .u64 (L0 ad), .int .u64 (L1 ad), .int .u64 (L2 ad), .int .u64 (L3 ad)], .agg #[.int .u64 (L0 bn), .int .u64 (L1 bn), .int .u64 (L2 bn), .int .u64 (L3 bn), .int .u64 (L0 bd), .int .u64 (L1 bd), .int .u64 (L2 bd), .int .u64 (L3 bd)]] w fun e w' => e = .returned (.tuple #[.agg #[.int .u64 (L0 (rkP an ad bn bd (fb (an * bd) && fb (bn * ad) && fb (an * bd - bn * ad) && fb (ad * bd)) (an * bd - bn * ad) (ad * bd))), .int .u64 (L1 (rkP an ad bn bd (fb (an * bd) && fb (bn * ad) && fb (an * bd - bn * ad) && fb (ad * bd)) (an * bd - bn * ad) (ad * bd))), .int .u64 (L2 (rkP an ad bn bd (fb (an * bd) && fb (bn * ad) && fb (an * bd - bn * ad) && fb (ad * bd)) (an * bd - bn * ad) (ad * bd))), .int .u64 (L3 (rkP an ad bn bd (fb (an * bd) && fb (bn * ad) && fb (an * bd - bn * ad) && fb (ad * bd)) (an * bd - bn * ad) (ad * bd))), .int .u64 (L0 (rkQ an ad bn bd (fb (an * bd) && fb (bn * ad) && fb (an * bd - bn * ad) && fb (ad * bd)) (an * bd - bn * ad) (ad * bd))), .int .u64 (L1 (rkQ an ad bn bd (fb (an * bd) && fb (bn * ad) && fb (an * bd - bn * ad) && fb (ad * bd)) (an * bd - bn * ad) (ad * bd))), .int .u64 (L2 (rkQ an ad bn bd (fb (an * bd) && fb (bn * ad) && fb (an * bd - bn * ad) && fb (ad * bd)) (an * bd - bn * ad) (ad * bd))), .int .u64 (L3 (rkQ an ad bn bd (fb (an * bd) && fb (bn * ad) && fb (an * bd - bn * ad) && fb (ad * bd)) (an * bd - bn * ad) (ad * bd)))], .int .i64 (rkE an ad bn bd (fb (an * bd) && fb (bn * ad) && fb (an * bd - bn * ad) && fb (ad * bd)) (an * bd - bn * ad) (ad * bd))]) ∧ Below w.heap.size w w' := by
  obtain ⟨r1, e1, f1, c1, y1, n1⟩ := mulS an bd han hbd
  obtain ⟨r2, e2, f2, c2, y2, n2⟩ := mulS bn ad hbn had
  obtain ⟨r3, e3, f3, c3, y3, n3⟩ := subS r1 r2 f1 f2
  obtain ⟨r4, e4, f4, c4, y4, n4⟩ := mulS ad bd had hbd
  refine RSub_of (fun w => tot_Sub (fun W ph pa pb hW oh oa ob => ?_))
  have h := rk_total han had hbn hbd f3 f4 (c0 := .pointer (some ⟨ph, 0, none⟩)) (c1 := .pointer (some ⟨pa, 0, none⟩)) (c2 := .pointer (some ⟨pb, 0, none⟩)) (w := W) (EE := fst_ (fst_ (fst_ (fst_ 0 e1) e2) e3) e4) (fun W' p hb ho hp => totc_any (doC_Mul c1) (doC_Mul c2) (doC_Sub c3) (doC_Mul c4) ho (oh.keep hb) (oa.keep hb) (ob.keep hb) (by have := oh.in_; omega) (by have := oa.in_; omega) (by have := ob.in_; omega))
  rw [rkV_eq (ok := (fb (an * bd) && fb (bn * ad) && fb (an * bd - bn * ad) && fb (ad * bd))) (n := an * bd - bn * ad) (d := ad * bd)] at h
  · exact h
  · intro hk
    simp only [Bool.and_eq_true] at hk
    obtain ⟨⟨⟨k1, k2⟩, k3⟩, k4⟩ := hk
    obtain ⟨rfl, h1⟩ := y1 k1
    obtain ⟨rfl, h2⟩ := y2 k2
    exact ⟨fst_four.1 ⟨h1, h2, (y3 k3).2, (y4 k4).2⟩, (y3 k3).1, (y4 k4).1⟩
  · intro hk
    refine fst_four.2 ?_
    cases k1 : fb (an * bd)
    · exact .inl (n1 k1)
    · obtain ⟨rfl, h1⟩ := y1 k1
      cases k2 : fb (bn * ad)
      · exact .inr (.inl ⟨h1, n2 k2⟩)
      · obtain ⟨rfl, h2⟩ := y2 k2
        cases k3 : fb (an * bd - bn * ad)
        · exact .inr (.inr (.inl ⟨h1, h2, n3 k3⟩))
        · cases k4 : fb (ad * bd)
          · exact .inr (.inr (.inr ⟨h1, h2, (y3 k3).2, n4 k4⟩))
          · rw [k1, k2, k3, k4] at hk; cases hk
end
end Go.Proofs.YtjmojddnedngaaaDoor
