
/- Make of the program and of the document are one: croft/ratio.Make and croftref04.Make of any two numbers that fit; the law package's plain. -/
import Derived.Test.YtjmojddnedngaaaDoorFbA
import Derived.Test.YtjmojddnedngaaaDoorRatF
namespace Go.Proofs.YtjmojddnedngaaaDoor
open Go.ChangeShapes Go.WideShapes Go.ChangeAt Go.RowKit
set_option linter.unusedVariables false
set_option linter.unusedSimpArgs false

theorem tdiv_pos_fit {n g : Int} (hn : Fit n) (hg : 0 < g) : Fit (n.tdiv g) := by
  have h1 := hn.lo
  have h2 := hn.hi
  have hab : (n.tdiv g).natAbs = n.natAbs / g.natAbs := by rw [Int.natAbs_tdiv]; rfl
  have hle : n.natAbs / g.natAbs ≤ n.natAbs := Nat.div_le_self _ _
  by_cases h : 0 ≤ n
  · have := Int.tdiv_nonneg h (Int.le_of_lt hg)
    exact ⟨by omega, by omega⟩
  · have h3 : n.tdiv g ≤ 0 := by
      have h4 := Int.tdiv_nonneg (show 0 ≤ -n by omega) (Int.le_of_lt hg)
      rw [Int.neg_tdiv] at h4
      omega
    exact ⟨by omega, by omega⟩
/-- the reduced fraction's parts -/
def mkN (n d : Int) : Int := if d < 0 then -(n.tdiv (gz n d)) else n.tdiv (gz n d)
def mkD (n d : Int) : Int := if d < 0 then -(d.tdiv (gz n d)) else d.tdiv (gz n d)
def mkB (n d : Int) : Bool := !(d == 0) && (fb (gz n d) && fb (mkN n d) && fb (mkD n d))
def mkP (n d : Int) : Int := if mkB n d then mkN n d else 0
def mkQ (n d : Int) : Int := if mkB n d then mkD n d else 0
def mkR (n d : Int) : Int := if mkB n d then 0 else if d = 0 then 4 else 3
theorem fb_iff (z : Int) : fb z = false ↔ ¬ Fit z := by
  rw [← fb_fit]; cases fb z <;> simp
theorem mkP_fit (n d : Int) : Fit (mkP n d) := by
  unfold mkP
  by_cases h : mkB n d = true
  · rw [if_pos h]
    unfold mkB at h
    simp only [Bool.and_eq_true] at h
    exact (fb_fit _).1 h.2.1.2
  · rw [if_neg h]; exact ⟨by decide, by decide⟩
theorem mkQ_fit (n d : Int) : Fit (mkQ n d) := by
  unfold mkQ
  by_cases h : mkB n d = true
  · rw [if_pos h]
    unfold mkB at h
    simp only [Bool.and_eq_true] at h
    exact (fb_fit _).1 h.2.2
  · rw [if_neg h]; exact ⟨by decide, by decide⟩
theorem div_some (a b : Int) (ha : Fit a) (hb : Fit b) (h : b ≠ 0) : ∃ q r e : Int, ∀ w : World, Calls Tryd.prog 42 #[.agg #[.int .u64 (L0 a), .int .u64 (L1 a), .int .u64 (L2 a), .int .u64 (L3 a)], .agg #[.int .u64 (L0 b), .int .u64 (L1 b), .int .u64 (L2 b), .int .u64 (L3 b)]] w fun x w' => x = .returned (.tuple #[.agg #[.int .u64 (L0 q), .int .u64 (L1 q), .int .u64 (L2 q), .int .u64 (L3 q)], .agg #[.int .u64 (L0 r), .int .u64 (L1 r), .int .u64 (L2 r), .int .u64 (L3 r)], .int .i64 e]) ∧ Below w.heap.size w w' := by
  by_cases hc : Fit (a.tdiv b)
  · exact ⟨_, _, _, fun w => div_fit a b ha hb h hc w⟩
  · exact ⟨0, 0, 3, fun w => div_large a b ha hb h hc w⟩
theorem Make_mk {n d : Int} (hn : Fit n) (hd : Fit d) (w : World) : Calls Tryd.prog 19 #[.agg #[.int .u64 (L0 n), .int .u64 (L1 n), .int .u64 (L2 n), .int .u64 (L3 n)], .agg #[.int .u64 (L0 d), .int .u64 (L1 d), .int .u64 (L2 d), .int .u64 (L3 d)]] w fun e w' => e = .returned (.tuple #[.agg #[.int .u64 (L0 (mkP n d)), .int .u64 (L1 (mkP n d)), .int .u64 (L2 (mkP n d)), .int .u64 (L3 (mkP n d)), .int .u64 (L0 (mkQ n d)), .int .u64 (L1 (mkQ n d)), .int .u64 (L2 (mkQ n d)), .int .u64 (L3 (mkQ n d))], .int .i64 (mkR n d)]) ∧ Below w.heap.size w w' := by
  have F0 : Fit 0 := ⟨by decide, by decide⟩
  by_cases h0 : d = 0
  · subst h0
    have hB : mkB n 0 = false := by simp [mkB]
    have e1 : mkP n 0 = 0 := by unfold mkP; rw [hB]; rfl
    have e2 : mkQ n 0 = 0 := by unfold mkQ; rw [hB]; rfl
    have e3 : mkR n 0 = 4 := by unfold mkR; rw [hB]; rfl
    rw [e1, e2, e3]
    exact Make_zero w
  · have g0 := gz_pos (n := n) h0
    have hge : gz n d = ((n.natAbs).gcd d.natAbs : Int) := rfl
    have hB0 : mkB n d = (fb (gz n d) && fb (mkN n d) && fb (mkD n d)) := by unfold mkB; simp [h0]
    by_cases hg : Fit (gz n d)
    · have hgb : fb (gz n d) = true := (fb_fit _).2 hg
      by_cases hs : d < 0
      · have m0 : Fit (0 - gz n d) := ⟨by have := hg.hi; omega, by have := hg.lo; omega⟩
        have e1 : n.tdiv (0 - gz n d) = mkN n d := by unfold mkN; rw [if_pos hs, Int.zero_sub, Int.tdiv_neg]
        have e2 : d.tdiv (0 - gz n d) = mkD n d := by unfold mkD; rw [if_pos hs, Int.zero_sub, Int.tdiv_neg]
        have hsg : decide (sgnZ d < 0) = true := by unfold sgnZ; rw [if_pos hs]; rfl
        have HG := fun w => gcd_fit n d hn hd hg w
        have HM := fun w => neg_fit (gz n d) hg m0 w
        have m1 : (0 - gz n d) ≠ 0 := by omega
        by_cases f1 : Fit (mkN n d)
        · have H1 : ∀ w, Calls Tryd.prog 42 #[.agg #[.int .u64 (L0 n), .int .u64 (L1 n), .int .u64 (L2 n), .int .u64 (L3 n)], .agg #[.int .u64 (L0 (0 - gz n d)), .int .u64 (L1 (0 - gz n d)), .int .u64 (L2 (0 - gz n d)), .int .u64 (L3 (0 - gz n d))]] w fun e w' => e = .returned (.tuple #[.agg #[.int .u64 (L0 (mkN n d)), .int .u64 (L1 (mkN n d)), .int .u64 (L2 (mkN n d)), .int .u64 (L3 (mkN n d))], .agg #[.int .u64 (L0 (n.tmod (0 - gz n d))), .int .u64 (L1 (n.tmod (0 - gz n d))), .int .u64 (L2 (n.tmod (0 - gz n d))), .int .u64 (L3 (n.tmod (0 - gz n d)))], .int .i64 0]) ∧ Below w.heap.size w w' := fun w => by
            have := div_fit n (0 - gz n d) hn m0 m1 (by rw [e1]; exact f1) w
            rwa [e1] at this
          by_cases f2 : Fit (mkD n d)
          · have H2 : ∀ w, Calls Tryd.prog 42 #[.agg #[.int .u64 (L0 d), .int .u64 (L1 d), .int .u64 (L2 d), .int .u64 (L3 d)], .agg #[.int .u64 (L0 (0 - gz n d)), .int .u64 (L1 (0 - gz n d)), .int .u64 (L2 (0 - gz n d)), .int .u64 (L3 (0 - gz n d))]] w fun e w' => e = .returned (.tuple #[.agg #[.int .u64 (L0 (mkD n d)), .int .u64 (L1 (mkD n d)), .int .u64 (L2 (mkD n d)), .int .u64 (L3 (mkD n d))], .agg #[.int .u64 (L0 (d.tmod (0 - gz n d))), .int .u64 (L1 (d.tmod (0 - gz n d))), .int .u64 (L2 (d.tmod (0 - gz n d))), .int .u64 (L3 (d.tmod (0 - gz n d)))], .int .i64 0]) ∧ Below w.heap.size w w' := fun w => by
              have := div_fit d (0 - gz n d) hd m0 m1 (by rw [e2]; exact f2) w
              rwa [e2] at this
            have hB : mkB n d = true := by rw [hB0, hgb, (fb_fit _).2 f1, (fb_fit _).2 f2]; rfl
            have p1 : mkP n d = mkN n d := by unfold mkP; rw [if_pos hB]
            have p2 : mkQ n d = mkD n d := by unfold mkQ; rw [if_pos hB]
            have p3 : mkR n d = 0 := by unfold mkR; rw [if_pos hB]
            have := Make_neg hn hd hg h0 hsg HG HM H1 H2 w
            rw [p1, p2, p3]
            exact this
          · have H2 : ∀ w, Calls Tryd.prog 42 #[.agg #[.int .u64 (L0 d), .int .u64 (L1 d), .int .u64 (L2 d), .int .u64 (L3 d)], .agg #[.int .u64 (L0 (0 - gz n d)), .int .u64 (L1 (0 - gz n d)), .int .u64 (L2 (0 - gz n d)), .int .u64 (L3 (0 - gz n d))]] w fun e w' => e = .returned (.tuple #[.agg #[.int .u64 (L0 0), .int .u64 (L1 0), .int .u64 (L2 0), .int .u64 (L3 0)], .agg #[.int .u64 (L0 0), .int .u64 (L1 0), .int .u64 (L2 0), .int .u64 (L3 0)], .int .i64 3]) ∧ Below w.heap.size w w' := fun w => div_large d (0 - gz n d) hd m0 m1 (by rw [e2]; exact f2) w
            have hB : mkB n d = false := by rw [hB0, hgb, (fb_fit _).2 f1, (fb_iff _).2 f2]; rfl
            have p1 : mkP n d = 0 := by unfold mkP; rw [hB]; rfl
            have p2 : mkQ n d = 0 := by unfold mkQ; rw [hB]; rfl
            have p3 : mkR n d = 3 := by unfold mkR; rw [hB, if_neg (by simp), if_neg h0]
            have := Make_neg hn hd hg h0 hsg HG HM H1 H2 w
            rw [p1, p2, p3]
            exact this
        · have H1 : ∀ w, Calls Tryd.prog 42 #[.agg #[.int .u64 (L0 n), .int .u64 (L1 n), .int .u64 (L2 n), .int .u64 (L3 n)], .agg #[.int .u64 (L0 (0 - gz n d)), .int .u64 (L1 (0 - gz n d)), .int .u64 (L2 (0 - gz n d)), .int .u64 (L3 (0 - gz n d))]] w fun e w' => e = .returned (.tuple #[.agg #[.int .u64 (L0 0), .int .u64 (L1 0), .int .u64 (L2 0), .int .u64 (L3 0)], .agg #[.int .u64 (L0 0), .int .u64 (L1 0), .int .u64 (L2 0), .int .u64 (L3 0)], .int .i64 3]) ∧ Below w.heap.size w w' := fun w => div_large n (0 - gz n d) hn m0 m1 (by rw [e1]; exact f1) w
          obtain ⟨q, r, ex, H2⟩ := div_some d (0 - gz n d) hd m0 m1
          have hB : mkB n d = false := by rw [hB0, hgb, (fb_iff _).2 f1]; rfl
          have p1 : mkP n d = 0 := by unfold mkP; rw [hB]; rfl
          have p2 : mkQ n d = 0 := by unfold mkQ; rw [hB]; rfl
          have p3 : mkR n d = 3 := by unfold mkR; rw [hB, if_neg (by simp), if_neg h0]
          have := Make_neg hn hd hg h0 hsg HG HM H1 H2 w
          rw [p1, p2, p3]
          exact this
      · have m0 : Fit (0 - gz n d) := ⟨by have := hg.hi; omega, by have := hg.lo; omega⟩
        have e1 : n.tdiv (gz n d) = mkN n d := by unfold mkN; rw [if_neg hs]
        have e2 : d.tdiv (gz n d) = mkD n d := by unfold mkD; rw [if_neg hs]
        have hsg : decide (sgnZ d < 0) = false := by unfold sgnZ; rw [if_neg hs, if_neg h0]; rfl
        have HG := fun w => gcd_fit n d hn hd hg w
        have HM := fun w => neg_fit (gz n d) hg m0 w
        have f1 : Fit (mkN n d) := e1 ▸ tdiv_pos_fit hn g0
        have f2 : Fit (mkD n d) := e2 ▸ tdiv_pos_fit hd g0
        have H1 : ∀ w, Calls Tryd.prog 42 #[.agg #[.int .u64 (L0 n), .int .u64 (L1 n), .int .u64 (L2 n), .int .u64 (L3 n)], .agg #[.int .u64 (L0 (gz n d)), .int .u64 (L1 (gz n d)), .int .u64 (L2 (gz n d)), .int .u64 (L3 (gz n d))]] w fun e w' => e = .returned (.tuple #[.agg #[.int .u64 (L0 (mkN n d)), .int .u64 (L1 (mkN n d)), .int .u64 (L2 (mkN n d)), .int .u64 (L3 (mkN n d))], .agg #[.int .u64 (L0 (n.tmod (gz n d))), .int .u64 (L1 (n.tmod (gz n d))), .int .u64 (L2 (n.tmod (gz n d))), .int .u64 (L3 (n.tmod (gz n d)))], .int .i64 0]) ∧ Below w.heap.size w w' := fun w => by
          have := div_fit n (gz n d) hn hg (by omega) (by rw [e1]; exact f1) w
          rwa [e1] at this
        have H2 : ∀ w, Calls Tryd.prog 42 #[.agg #[.int .u64 (L0 d), .int .u64 (L1 d), .int .u64 (L2 d), .int .u64 (L3 d)], .agg #[.int .u64 (L0 (gz n d)), .int .u64 (L1 (gz n d)), .int .u64 (L2 (gz n d)), .int .u64 (L3 (gz n d))]] w fun e w' => e = .returned (.tuple #[.agg #[.int .u64 (L0 (mkD n d)), .int .u64 (L1 (mkD n d)), .int .u64 (L2 (mkD n d)), .int .u64 (L3 (mkD n d))], .agg #[.int .u64 (L0 (d.tmod (gz n d))), .int .u64 (L1 (d.tmod (gz n d))), .int .u64 (L2 (d.tmod (gz n d))), .int .u64 (L3 (d.tmod (gz n d)))], .int .i64 0]) ∧ Below w.heap.size w w' := fun w => by
          have := div_fit d (gz n d) hd hg (by omega) (by rw [e2]; exact f2) w
          rwa [e2] at this
        have hB : mkB n d = true := by rw [hB0, hgb, (fb_fit _).2 f1, (fb_fit _).2 f2]; rfl
        have p1 : mkP n d = mkN n d := by unfold mkP; rw [if_pos hB]
        have p2 : mkQ n d = mkD n d := by unfold mkQ; rw [if_pos hB]
        have p3 : mkR n d = 0 := by unfold mkR; rw [if_pos hB]
        have := Make_pos hn hd hg h0 hsg HG HM H1 H2 w
        rw [p1, p2, p3]
        exact this
    · have hs : d < 0 := by
        refine Classical.byContradiction fun hs => hg ⟨by have := hd.lo; omega, ?_⟩
        have h1 := gz_le (n := n) (d := d) (by omega)
        have := hd.hi
        omega
      have hsg : decide (sgnZ d < 0) = true := by unfold sgnZ; rw [if_pos hs]; rfl
      have HG : ∀ w, Calls Tryd.prog 39 #[.agg #[.int .u64 (L0 n), .int .u64 (L1 n), .int .u64 (L2 n), .int .u64 (L3 n)], .agg #[.int .u64 (L0 d), .int .u64 (L1 d), .int .u64 (L2 d), .int .u64 (L3 d)]] w fun e w' => e = .returned (.tuple #[.agg #[.int .u64 (L0 0), .int .u64 (L1 0), .int .u64 (L2 0), .int .u64 (L3 0)], .int .i64 3]) ∧ Below w.heap.size w w' := fun w => gcd_large n d hn hd hg w
      have HM : ∀ w, Calls Tryd.prog 41 #[.agg #[.int .u64 (L0 0), .int .u64 (L1 0), .int .u64 (L2 0), .int .u64 (L3 0)]] w fun e w' => e = .returned (.tuple #[.agg #[.int .u64 (L0 0), .int .u64 (L1 0), .int .u64 (L2 0), .int .u64 (L3 0)], .int .i64 0]) ∧ Below w.heap.size w w' := fun w => neg_fit 0 F0 F0 w
      have H1 : ∀ w, Calls Tryd.prog 42 #[.agg #[.int .u64 (L0 n), .int .u64 (L1 n), .int .u64 (L2 n), .int .u64 (L3 n)], .agg #[.int .u64 (L0 0), .int .u64 (L1 0), .int .u64 (L2 0), .int .u64 (L3 0)]] w fun e w' => e = .returned (.tuple #[.agg #[.int .u64 (L0 0), .int .u64 (L1 0), .int .u64 (L2 0), .int .u64 (L3 0)], .agg #[.int .u64 (L0 0), .int .u64 (L1 0), .int .u64 (L2 0), .int .u64 (L3 0)], .int .i64 4]) ∧ Below w.heap.size w w' := fun w => div_zero n w
      have H2 : ∀ w, Calls Tryd.prog 42 #[.agg #[.int .u64 (L0 d), .int .u64 (L1 d), .int .u64 (L2 d), .int .u64 (L3 d)], .agg #[.int .u64 (L0 0), .int .u64 (L1 0), .int .u64 (L2 0), .int .u64 (L3 0)]] w fun e w' => e = .returned (.tuple #[.agg #[.int .u64 (L0 0), .int .u64 (L1 0), .int .u64 (L2 0), .int .u64 (L3 0)], .agg #[.int .u64 (L0 0), .int .u64 (L1 0), .int .u64 (L2 0), .int .u64 (L3 0)], .int .i64 4]) ∧ Below w.heap.size w w' := fun w => div_zero d w
      have hB : mkB n d = false := by rw [hB0, (fb_iff _).2 hg]; rfl
      have p1 : mkP n d = 0 := by unfold mkP; rw [hB]; rfl
      have p2 : mkQ n d = 0 := by unfold mkQ; rw [hB]; rfl
      have p3 : mkR n d = 3 := by unfold mkR; rw [hB, if_neg (by simp), if_neg h0]
      have := Make_neg hn hd F0 h0 hsg HG HM H1 H2 w
      rw [p1, p2, p3]
      exact this
end Go.Proofs.YtjmojddnedngaaaDoor
