
/- The contract of croftref03.Cmp. -/
import Derived.Test.YtdnjkminicmffaaDoorRefR
namespace Go.Proofs.YtdnjkminicmffaaDoor
open Go.ChangeShapes Go.WideShapes Go.ChangeAt Go.RowKit
set_option linter.unusedVariables false

theorem cmp_natAbs (x y : Int) : (x < 0 → ¬ y < 0 → cmpZ x y = -1) ∧ (¬ x < 0 → y < 0 → cmpZ x y = 1) ∧ (x < 0 → y < 0 → cmpZ x y = cmpZ (y.natAbs : Int) x.natAbs) ∧ (¬ x < 0 → ¬ y < 0 → cmpZ x y = cmpZ (x.natAbs : Int) y.natAbs) := by
  unfold cmpZ
  refine ⟨?_, ?_, ?_, ?_⟩ <;> intro h1 h2 <;> (repeat' split) <;> omega

set_option maxHeartbeats 4000000 in
set_option maxRecDepth 20000 in
theorem cmp_num (v v' : Value) (x y : Int) (T C T' C' : Nat) (w : World) (hx : Num w T C v x) (hy : Num w T' C' v' y) :
    Calls Tryd.prog 30 #[v, v'] w fun e w' => e = .returned (.int .i64 (cmpZ x y)) ∧ Below w.heap.size w w' := by
  obtain ⟨a, la, ca, rfl, hx⟩ := hx
  obtain ⟨b, lb, cb, rfl, hy⟩ := hy
  obtain ⟨c1, c2, c3, c4⟩ := cmp_natAbs x y
  have S1 : ∀ w', Below w.heap.size w w' → Calls Tryd.prog 39 #[.slice a la ca, .slice b lb cb] w' fun e w'' => e = .returned (.int .i64 (cmpZ (x.natAbs : Int) y.natAbs)) ∧ Below w'.heap.size w' w'' := fun w' hb =>
    (size_num _ _ T C T' C' a b la lb ca cb w' (hx.keep hb) (hy.keep hb)).mono fun e w'' ⟨h1, k, h2⟩ => ⟨h1, h2 ▸ below_drewN (Below.refl _ _) k⟩
  have S2 : ∀ w', Below w.heap.size w w' → Calls Tryd.prog 39 #[.slice b lb cb, .slice a la ca] w' fun e w'' => e = .returned (.int .i64 (cmpZ (y.natAbs : Int) x.natAbs)) ∧ Below w'.heap.size w' w'' := fun w' hb =>
    (size_num _ _ T' C' T C b a lb la cb ca w' (hy.keep hb) (hx.keep hb)).mono fun e w'' ⟨h1, k, h2⟩ => ⟨h1, h2 ▸ below_drewN (Below.refl _ _) k⟩
  have H1 := Lib.hid S1
  have H2 := Lib.hid S2
  clear S1 S2 hx hy
  by_cases hx : x < 0 <;> by_cases hy : y < 0
  · rw [c3 hx hy]
    simp only [hx, hy, decide_true]
    clear c1 c2 c3 c4 hx hy
    go_enter Tryd.func30, Tryd.ntmps30
    go_wp2_with fail
    go_at_call 39
    refine (H2.out _ (by repeat' (first | (with_reducible exact Below.refl _ _) | (with_reducible assumption) | (with_reducible refine below_drewN ?_ _) | (with_reducible refine Below.drew ?_) | (with_reducible refine Below.alloc ?_ ?_ _) | (with_reducible refine Below.setCell ?_ ?_ _) | (with_reducible refine then_ ?_ (by with_reducible assumption) ?_) | (with_reducible exact Nat.le_refl _) | (with_reducible exact Nat.le_succ _) | (with_reducible exact Nat.le_succ_of_le (by with_reducible assumption)) | omega | (simp; done) | (simp; omega) | (exact Nat.le_succ _) | (exact Nat.le_succ_of_le (by with_reducible assumption))))).mono ?_
    rintro e w1 ⟨rfl, hb⟩
    have hB : Below w.heap.size w w1 := by
      refine then_ ?_ hb (by simp; omega)
      repeat' (first | (with_reducible exact Below.refl _ _) | (with_reducible assumption) | (with_reducible refine below_drewN ?_ _) | (with_reducible refine Below.drew ?_) | (with_reducible refine Below.alloc ?_ ?_ _) | (with_reducible refine Below.setCell ?_ ?_ _) | (with_reducible refine then_ ?_ (by with_reducible assumption) ?_) | (with_reducible exact Nat.le_refl _) | (with_reducible exact Nat.le_succ _) | (with_reducible exact Nat.le_succ_of_le (by with_reducible assumption)) | omega | (simp; done) | (simp; omega) | (exact Nat.le_succ _) | (exact Nat.le_succ_of_le (by with_reducible assumption)))
    clear hb H1 H2
    go_wp2
    go_ret
    exact ⟨rfl, hB⟩
  · rw [c1 hx hy]
    simp only [hx, hy, decide_true, decide_false]
    clear c1 c2 c3 c4 hx hy H1 H2
    go_enter Tryd.func30, Tryd.ntmps30
    go_wp2
    refine bodyPost_ret (v := .int .i64 (-1)) (by simp [results, Tryd.results30, go_sem]) rfl ⟨rfl, ?_⟩
    repeat' (first | (with_reducible exact Below.refl _ _) | (with_reducible assumption) | (with_reducible refine below_drewN ?_ _) | (with_reducible refine Below.drew ?_) | (with_reducible refine Below.alloc ?_ ?_ _) | (with_reducible refine Below.setCell ?_ ?_ _) | (with_reducible refine then_ ?_ (by with_reducible assumption) ?_) | (with_reducible exact Nat.le_refl _) | (with_reducible exact Nat.le_succ _) | (with_reducible exact Nat.le_succ_of_le (by with_reducible assumption)) | omega | (simp; done) | (simp; omega) | (exact Nat.le_succ _) | (exact Nat.le_succ_of_le (by with_reducible assumption)))
  · rw [c2 hx hy]
    simp only [hx, hy, decide_true, decide_false]
    clear c1 c2 c3 c4 hx hy H1 H2
    go_enter Tryd.func30, Tryd.ntmps30
    go_wp2
    refine bodyPost_ret (v := .int .i64 1) (by simp [results, Tryd.results30, go_sem]) rfl ⟨rfl, ?_⟩
    repeat' (first | (with_reducible exact Below.refl _ _) | (with_reducible assumption) | (with_reducible refine below_drewN ?_ _) | (with_reducible refine Below.drew ?_) | (with_reducible refine Below.alloc ?_ ?_ _) | (with_reducible refine Below.setCell ?_ ?_ _) | (with_reducible refine then_ ?_ (by with_reducible assumption) ?_) | (with_reducible exact Nat.le_refl _) | (with_reducible exact Nat.le_succ _) | (with_reducible exact Nat.le_succ_of_le (by with_reducible assumption)) | omega | (simp; done) | (simp; omega) | (exact Nat.le_succ _) | (exact Nat.le_succ_of_le (by with_reducible assumption)))
  · rw [c4 hx hy]
    simp only [hx, hy, decide_false]
    clear c1 c2 c3 c4 hx hy
    go_enter Tryd.func30, Tryd.ntmps30
    go_wp2_with fail
    go_at_call 39
    refine (H1.out _ (by repeat' (first | (with_reducible exact Below.refl _ _) | (with_reducible assumption) | (with_reducible refine below_drewN ?_ _) | (with_reducible refine Below.drew ?_) | (with_reducible refine Below.alloc ?_ ?_ _) | (with_reducible refine Below.setCell ?_ ?_ _) | (with_reducible refine then_ ?_ (by with_reducible assumption) ?_) | (with_reducible exact Nat.le_refl _) | (with_reducible exact Nat.le_succ _) | (with_reducible exact Nat.le_succ_of_le (by with_reducible assumption)) | omega | (simp; done) | (simp; omega) | (exact Nat.le_succ _) | (exact Nat.le_succ_of_le (by with_reducible assumption))))).mono ?_
    rintro e w1 ⟨rfl, hb⟩
    have hB : Below w.heap.size w w1 := by
      refine then_ ?_ hb (by simp; omega)
      repeat' (first | (with_reducible exact Below.refl _ _) | (with_reducible assumption) | (with_reducible refine below_drewN ?_ _) | (with_reducible refine Below.drew ?_) | (with_reducible refine Below.alloc ?_ ?_ _) | (with_reducible refine Below.setCell ?_ ?_ _) | (with_reducible refine then_ ?_ (by with_reducible assumption) ?_) | (with_reducible exact Nat.le_refl _) | (with_reducible exact Nat.le_succ _) | (with_reducible exact Nat.le_succ_of_le (by with_reducible assumption)) | omega | (simp; done) | (simp; omega) | (exact Nat.le_succ _) | (exact Nat.le_succ_of_le (by with_reducible assumption)))
    clear hb H1 H2
    go_wp2
    go_ret
    exact ⟨rfl, hB⟩
end Go.Proofs.YtdnjkminicmffaaDoor
