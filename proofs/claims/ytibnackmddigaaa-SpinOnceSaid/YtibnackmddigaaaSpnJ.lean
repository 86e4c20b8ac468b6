
/- The law package's awake (spin). Conditions: none. -/
import Derived.Test.YtibnackmddigaaaSpnI
namespace Go.Proofs.Ytibnackmddigaaa.Pl
open Go.ChangeShapes Go.WideShapes Go.ChangeAt Go.RowKit Go.Proofs.Ytibnackmddigaaa.Mp
set_option linter.unusedVariables false
set_option linter.unusedSimpArgs false

theorem RgAt.shape {w : World} {B : Nat} {v : Value} {PL : List (Value × List Hf)} (h : RgAt w B v PL) : ∃ a c, v = .slice a PL.length c ∧ PL.length ≤ c ∧ c ≤ maxLen := by
  rcases h.1.2 with ⟨rfl, h0⟩ | ⟨g, cap, cur, rfl, h1, h2, h3, h4, h5, h6⟩
  · exact ⟨none, 0, by rw [h0], by omega, Nat.zero_le _⟩
  · exact ⟨_, cap, rfl, h3, h4⟩
theorem RgAt.cell {w : World} {B n c : Nat} {a : Option Addr} {PL : List (Value × List Hf)} (h : RgAt w B (.slice a n c) PL) {i : Nat} (hi : i < PL.length) : ∃ g, a = some ⟨g, 0, none⟩ ∧ g < w.heap.size ∧ w.cell? ⟨g, i, none⟩ = some (PL[i]'hi).1 ∧ HOwn w B (PL[i]'hi).1 (PL[i]'hi).2 := by
  rcases h.1.2 with ⟨_, h0⟩ | ⟨g, cap, cur, e, h1, h2, h3, h4, h5, h6⟩
  · omega
  · injection e with e1 e2 e3
    have ho : Own w g 40 cur := h2
    refine ⟨g, e1, ho.in_, ?_, h.2 _ (List.getElem_mem hi)⟩
    rw [ho.at_.1]
    have e4 : (PL.map (·.1))[i]? = some (PL[i]'hi).1 := by rw [List.getElem?_map, List.getElem?_eq_getElem hi]; rfl
    rw [← h6, List.getElem?_take_of_lt (by omega), Array.getElem?_toList] at e4
    exact e4
def exS : List Vx := [⟨1, 0, 0⟩, ⟨2, 4, 0⟩]
def exT : List Eg := [⟨1, 1, 2⟩]
theorem exs_rt : Rt exS exT := by
  rw [rt_iff]
  refine ⟨⟨?_, ?_, ?_, ?_, ?_⟩, ⟨?_, ?_, ?_, ?_, ?_, ?_, ?_⟩⟩
  case refine_10 => decide +kernel
  all_goals simp [exS, exT, inB, hasV, fV]
theorem exs_rg : rg exS exT = [[(1, false), (1, true)]] := by decide +kernel
theorem six_row {w : World} {g : Nat} (h : Own w g 39 #[.int .i64 1, .int .i64 0, .int .i64 0, .int .i64 2, .int .i64 4, .int .i64 0]) : VIn w (.slice (some ⟨g, 0, none⟩) 2 2) exS := by
  refine ⟨_, 2, rfl, by simp [exS], by unfold maxLen; omega, .inr ⟨g, 0, rfl, h.in_, fun i hi => ?_⟩⟩
  have k := h.at_.1
  have hi3 : i < 2 := hi
  rw [k, k, k]
  match i, hi3 with
  | 0, _ => exact ⟨rfl, rfl, rfl⟩
  | 1, _ => exact ⟨rfl, rfl, rfl⟩
theorem one_row {w : World} {g : Nat} (h : Own w g 71 #[.int .i64 1, .int .i64 1, .int .i64 2]) : EIn w (.slice (some ⟨g, 0, none⟩) 1 1) exT := by
  refine ⟨_, 1, rfl, by simp [exT], by unfold maxLen; omega, .inr ⟨g, 0, rfl, h.in_, fun i hi => ?_⟩⟩
  have k := h.at_.1
  have hi3 : i < 1 := hi
  rw [k, k, k]
  match i, hi3 with
  | 0, _ => exact ⟨rfl, rfl, rfl⟩
theorem two_row {w : World} {g : Nat} (h : Own w g 42 #[.int .i64 1, .bool false, .int .i64 1, .bool true]) : HIn w (.slice (some ⟨g, 0, none⟩) 2 2) [(1, false), (1, true)] := by
  refine ⟨_, 2, rfl, by simp, by unfold maxLen; omega, .inr ⟨g, 0, rfl, h.in_, fun i hi => ?_⟩⟩
  have k := h.at_.1
  have hi3 : i < 2 := hi
  rw [k, k]
  match i, hi3 with
  | 0, _ => exact ⟨rfl, rfl⟩
  | 1, _ => exact ⟨rfl, rfl⟩
set_option maxRecDepth 10000 in
theorem sawake_any (w : World) : Calls Try.prog 8 #[] w fun r w' => r = .returned (.bool true) ∧ Below w.heap.size w w' := by
  have RG := Lib.hid (fun (W : World) (v e : Value) (hv : VIn W v exS) (he : EIn W e exT) => rings_any hv he (by decide) (by decide))
  rw [(pvs_yes exs_rt).1, (pvs_yes exs_rt).2, exs_rg] at RG
  have SM := Lib.hid (fun (W : World) (v u : Value) (L M : List Hf) (hv : HIn W v L) (hu : HIn W u M) (h1 : L.length ≤ 100000) (h2 : M.length ≤ 100000) => rsame_any hv hu h1 h2)
  obtain ⟨W0, hW0⟩ : ∃ W0, W0 = ((w.alloc (.cells #[.int .i64 1, .int .i64 0, .int .i64 0, .int .i64 2, .int .i64 4, .int .i64 0] 39)).alloc (.cells #[.int .i64 1, .int .i64 1, .int .i64 2] 71)).alloc (.cells #[.slice (some ⟨w.heap.size, 0, none⟩) 2 2, .slice (some ⟨w.heap.size + 1, 0, none⟩) 1 1] 30) := ⟨_, rfl⟩
  have B0 : Hid (Below w.heap.size w W0) := Lib.hid (by rw [hW0]; repeat' (first | (with_reducible exact Below.refl _ _) | (with_reducible assumption) | (with_reducible refine below_drewN ?_ _) | (with_reducible refine Below.drew ?_) | (with_reducible refine Below.alloc ?_ ?_ _) | (with_reducible refine Below.setCell ?_ ?_ _) | (with_reducible refine then_ ?_ (by with_reducible assumption) ?_) | (with_reducible exact Nat.le_refl _) | (with_reducible exact Nat.le_succ _) | (with_reducible exact Nat.le_succ_of_le (by with_reducible assumption)) | omega | (simp; done) | (simp; omega) | (exact Nat.le_succ _) | (exact Nat.le_succ_of_le (by with_reducible assumption))))
  have O0 : Hid (Own W0 (w.heap.size + 1 + 1) 30 #[.slice (some ⟨w.heap.size, 0, none⟩) 2 2, .slice (some ⟨w.heap.size + 1, 0, none⟩) 1 1]) := Lib.hid (by rw [hW0]; exact Own.made_at (by simp))
  have V0 : Hid (VIn W0 (.slice (some ⟨w.heap.size, 0, none⟩) 2 2) exS) := Lib.hid (six_row (by rw [hW0]; exact ((Own.made _ _ _).more _).more _))
  have E0 : Hid (EIn W0 (.slice (some ⟨w.heap.size + 1, 0, none⟩) 1 1) exT) := Lib.hid (one_row (by rw [hW0]; exact (Own.made_at (by simp)).more _))
  go_enter Try.func8, Try.ntmps8
  go_upto_region 2 with fail
  rw [← hW0]
  clear hW0
  obtain ⟨p1, p2⟩ := half_at O0.out
  go_upto_region 3 with (go_at_call 10; refine (RG.out _ _ _ V0.out E0.out).mono ?_; rintro e w1 ⟨u, PL, rfl, r1, r2, b1⟩; have R1 := Lib.hid r1; have R2 := Lib.hid r2; have B1 := Lib.hid (then_ B0.out b1 B0.out.size); clear r1 r2 b1)
  obtain ⟨x, rfl⟩ : ∃ x, PL = [x] := by
    have := congrArg List.length R2.out
    rw [List.length_map] at this
    exact List.length_eq_one_iff.1 this
  obtain ⟨x1, x2⟩ := x
  obtain rfl : x2 = [(1, false), (1, true)] := by simpa using R2.out
  obtain ⟨a, c, hsh, hc1, hc2⟩ := R1.out.shape
  subst hsh
  obtain ⟨g, rfl, hg, hcl, ho⟩ := R1.out.cell (i := 0) (by simp)
  simp only [List.getElem_cons_zero] at hcl ho
  obtain ⟨xa, xc, hx1⟩ := ho.shape
  subst hx1
  have BX := Lib.hid (bx1 w1 42 #[.int .i64 1, .bool false, .int .i64 1, .bool true])
  have HI := Lib.hid (ho.in_.below BX.out)
  have HJ := Lib.hid (two_row (Own.made w1 42 #[.int .i64 1, .bool false, .int .i64 1, .bool true]))
  have hlen : ([(Value.slice xa [((1 : Int), false), (1, true)].length xc, [((1 : Int), false), (1, true)])] : List (Value × List Hf)).length = 1 := rfl
  have hlen2 : [((1 : Int), false), (1, true)].length = 2 := rfl
  rw [hlen]
  rw [hlen2] at hcl HI
  clear R1 R2 ho hlen hlen2
  go_wp2_with (go_at_call 26; refine (SM.out _ _ _ _ _ HI.out HJ.out (by decide) (by decide)).mono ?_; rintro e w2 ⟨rfl, b2⟩; have B2 := Lib.hid (then_ (then_ B1.out BX.out B1.out.size) b2 (then_ B1.out BX.out B1.out.size).size); clear b2)
  go_ret
  exact ⟨rfl, B2.out⟩
end Go.Proofs.Ytibnackmddigaaa.Pl