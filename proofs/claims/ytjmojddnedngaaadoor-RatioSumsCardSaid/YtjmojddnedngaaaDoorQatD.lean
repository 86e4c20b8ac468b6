
/- The contract of croftref04.Make: of any two numbers that fit it is what mkP, mkQ, mkR say. -/
import Derived.Test.YtjmojddnedngaaaDoorQatB
import Derived.Test.YtjmojddnedngaaaDoorQatA
namespace Go.Proofs.YtjmojddnedngaaaDoor
open Go.ChangeShapes Go.WideShapes Go.ChangeAt Go.RowKit
set_option linter.unusedVariables false
set_option linter.unusedSimpArgs false

theorem fit_20 {z : Int} (h : Fit z) : z.natAbs < 65536 ^ 20 := by
  have h1 := h.lo
  have h2 := h.hi
  have : (65536 : Nat) ^ 20 = 2135987035920910082395021706169552114602704522356652769947041607822219725780640550022962086936576 := by decide
  omega
theorem made_mk (S : Nat → Prop) (v v' : Value) (n d : Int) (w : World) (hn : NumP w S v n) (hd : NumP w S v' d) (hd0 : d ≠ 0) (fn : Fit n) (fd : Fit d) :
    Calls Tryd.prog 16 #[v, v'] w fun e w' => e = .returned (.tuple #[.agg #[.int .u64 (L0 (mkP n d)), .int .u64 (L1 (mkP n d)), .int .u64 (L2 (mkP n d)), .int .u64 (L3 (mkP n d)), .int .u64 (L0 (mkQ n d)), .int .u64 (L1 (mkQ n d)), .int .u64 (L2 (mkQ n d)), .int .u64 (L3 (mkQ n d))], .int .i64 (mkR n d)]) ∧ Below w.heap.size w w' := by
  have hs : d.tdiv (gz n d) < 0 ↔ d < 0 := by
    have g0 := gz_pos (n := n) hd0
    have e := tdiv_dvd (gz_dvd_right n d)
    constructor
    · intro h
      refine Classical.byContradiction fun h2 => ?_
      have := Int.tdiv_nonneg (show 0 ≤ d by omega) (Int.le_of_lt g0)
      omega
    · intro h
      refine Classical.byContradiction fun h2 => ?_
      have := Int.mul_nonneg (show 0 ≤ d.tdiv (gz n d) by omega) (Int.le_of_lt g0)
      omega
  have h3 : (if d.tdiv (gz n d) < 0 then -(n.tdiv (gz n d)) else n.tdiv (gz n d)) = mkN n d := by
    unfold mkN
    by_cases h : d < 0
    · rw [if_pos h, if_pos (hs.2 h)]
    · rw [if_neg h, if_neg (fun k => h (hs.1 k))]
  have h4 : (if d.tdiv (gz n d) < 0 then -(d.tdiv (gz n d)) else d.tdiv (gz n d)) = mkD n d := by
    unfold mkD
    by_cases h : d < 0
    · rw [if_pos h, if_pos (hs.2 h)]
    · rw [if_neg h, if_neg (fun k => h (hs.1 k))]
  refine made_aux S v v' n d w hn hd hd0 (fit_20 fn) (fit_20 fd) (gz n d) _ _ (mkN n d) (mkD n d) rfl rfl rfl h3 h4 _ (Lib.hid ?_)
  unfold mkP mkQ mkR
  have hB : mkB n d = (fb (gz n d) && fb (mkN n d) && fb (mkD n d)) := by unfold mkB; simp [hd0]
  rw [← hB, if_neg hd0]
  cases mkB n d <;> rfl

end Go.Proofs.YtjmojddnedngaaaDoor
