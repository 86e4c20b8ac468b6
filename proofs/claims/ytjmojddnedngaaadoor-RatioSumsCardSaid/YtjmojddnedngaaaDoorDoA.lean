/- merged: The contract of croftref03.Mul: the product of two numbers. Regions that draw their order, walked as a tree: of what is ready each is taken in turn; reads and reckoning come first. It speaks of no function. What a number is beside a store into a block of numbers; croftref04.of, in general. -/
import Derived.Test.YtjmojddnedngaaaDoorFloA
import Derived.Test.YtjmojddnedngaaaDoorSeq
import Derived.BigQuiet
import Derived.Deep.QuietTactic
import Derived.Deep.LoopGhost
import Derived.Test.YtjmojddnedngaaaDoorMemN
import Derived.Test.YtjmojddnedngaaaDoorOps
import Derived.Test.YtjmojddnedngaaaDoorAskA
import Derived.Test.YtjmojddnedngaaaDoorDivA
import Derived.Test.YtjmojddnedngaaaDoorFbA
section
namespace Go.Proofs.YtjmojddnedngaaaDoor
open Go.ChangeShapes Go.WideShapes Go.ChangeAt Go.RowKit
set_option linter.unusedVariables false

/-- a digit of a row that was there -/
theorem DRow.at_ {w : World} {T C : Nat} {a : Option Addr} {len cap : Nat} {zs : List Int} (h : DRow w T C a len cap zs) {i : Nat} {d : Int} (hd : zs[i]? = some d) : ∃ b o, a = some ⟨b, o, none⟩ ∧ w.cell? ⟨b, o + i, none⟩ = some (.int .i64 d) ∧ b < w.heap.size := by
  rcases h.hcells with e | ⟨b, o, ha, _, hc⟩
  · rw [e] at hd; simp at hd
  · exact ⟨b, o, ha, hc i d hd, cell_lt (hc i d hd)⟩

set_option maxHeartbeats 16000000 in
set_option maxRecDepth 20000 in
theorem mul_num (T Tx Cx Ty Cy : Nat) (v v' : Value) (x y : Int) (w : World) (hT : T ≤ w.heap.size) (hx : Num w Tx Cx v x) (hy : Num w Ty Cy v' y) (hlx : (digs x.natAbs).length ≤ 10000000) (hly : (digs y.natAbs).length ≤ 10000000) :
    Calls Tryd.prog 14 #[v, v'] w fun e w' => ∃ v2, e = .returned v2 ∧ Num w' T w.heap.size v2 (x * y) ∧ Below w.heap.size w w' := by
  obtain ⟨xa, xl, xc, rfl, rx⟩ := hx
  obtain ⟨ya, yl, yc, rfl, ry⟩ := hy
  have lx := rx.hlen
  have ly := ry.hlen
  have hX := Dg.digs x.natAbs
  have hY := Dg.digs y.natAbs
  have hvx := vl_digs x.natAbs
  have hvy := vl_digs y.natAbs
  obtain ⟨xs, hxs⟩ : ∃ xs, digs x.natAbs = xs := ⟨_, rfl⟩
  obtain ⟨ys, hys⟩ : ∃ ys, digs y.natAbs = ys := ⟨_, rfl⟩
  rw [hxs] at rx lx hX hvx hlx
  rw [hys] at ry ly hY hvy hly
  have lx2 : xl ≤ 10000000 := by omega
  have ly2 : yl ≤ 10000000 := by omega
  have RX := Lib.hid rx
  have RY := Lib.hid ry
  have LX := Lib.hid lx
  have LY := Lib.hid ly
  have HDX := Lib.hid hX
  have HDY := Lib.hid hY
  obtain ⟨sx, hsx⟩ : ∃ s, decide (x < 0) = s := ⟨_, rfl⟩
  obtain ⟨sy, hsy⟩ : ∃ s, decide (y < 0) = s := ⟨_, rfl⟩
  have HZ := Lib.hid (show (if (sx != sy) = true then -(vl xs * vl ys) else vl xs * vl ys) = x * y by
    rw [hvx, hvy]
    by_cases h1 : x < 0 <;> by_cases h2 : y < 0
    · rw [← hsx, ← hsy]; simp [h1, h2]
      rw [show ((x.natAbs : Nat) : Int) = -x by omega, show ((y.natAbs : Nat) : Int) = -y by omega, Int.neg_mul_neg]
    · rw [← hsx, ← hsy]; simp [h1, h2]
      rw [show ((x.natAbs : Nat) : Int) = -x by omega, show ((y.natAbs : Nat) : Int) = y by omega, Int.neg_mul, Int.neg_neg]
    · rw [← hsx, ← hsy]; simp [h1, h2]
      rw [show ((x.natAbs : Nat) : Int) = x by omega, show ((y.natAbs : Nat) : Int) = -y by omega, Int.mul_neg, Int.neg_neg]
    · rw [← hsx, ← hsy]; simp [h1, h2]
      rw [show ((x.natAbs : Nat) : Int) = x by omega, show ((y.natAbs : Nat) : Int) = y by omega])
  rw [hsx, hsy]
  clear hsx hsy hxs hys hvx hvy rx ry lx ly hX hY hlx hly
  have HM := run_make_row' (P := Tryd.prog) 40 3 (.int .i64 0) 8 Tryd.underlying40 info_intH rfl .i64 .i64 (xl + yl + 1) (by omega) (by omega)
  have ec : ((xl + yl + 1 : Nat) : Int) = (xl : Int) + yl + 1 := by omega
  rw [ec] at HM
  go_enter Tryd.func14, Tryd.ntmps14
  go_upto_region 2 with fail
  go_name_world W0 hW0
  have OA : Own W0 w.heap.size 42 #[.bool sx, .slice xa xl xc] := hW0 ▸ (by repeat' (first | (with_reducible assumption) | (with_reducible refine Own.drawnN ?_ _) | (with_reducible refine Own.drawn ?_) | (with_reducible refine Own.made_at ?_; first | rfl | (simp; done) | omega | (simp; omega)) | (with_reducible refine Own.more ?_ _) | (with_reducible refine Own.apart ?_ ?_ _ _; rotate_left; first | omega | (simp; done) | (simp; omega)) | (refine Own.put ?_ _ _)))
  have OB : Own W0 (w.heap.size + 1) 42 #[.bool sy, .slice ya yl yc] := hW0 ▸ (by repeat' (first | (with_reducible assumption) | (with_reducible refine Own.drawnN ?_ _) | (with_reducible refine Own.drawn ?_) | (with_reducible refine Own.made_at ?_; first | rfl | (simp; done) | omega | (simp; omega)) | (with_reducible refine Own.more ?_ _) | (with_reducible refine Own.apart ?_ ?_ _ _; rotate_left; first | omega | (simp; done) | (simp; omega)) | (refine Own.put ?_ _ _)))
  have OR : Own W0 (w.heap.size + 2) 42 #[.bool false, .slice none 0 0] := hW0 ▸ (by repeat' (first | (with_reducible assumption) | (with_reducible refine Own.drawnN ?_ _) | (with_reducible refine Own.drawn ?_) | (with_reducible refine Own.made_at ?_; first | rfl | (simp; done) | omega | (simp; omega)) | (with_reducible refine Own.more ?_ _) | (with_reducible refine Own.apart ?_ ?_ _ _; rotate_left; first | omega | (simp; done) | (simp; omega)) | (refine Own.put ?_ _ _)))
  have OO : Own W0 (w.heap.size + 3) 3 (cells (List.replicate (xl + yl + 1) 0)) := hW0 ▸ (by rw [cells_made]; repeat' (first | (with_reducible assumption) | (with_reducible refine Own.drawnN ?_ _) | (with_reducible refine Own.drawn ?_) | (with_reducible refine Own.made_at ?_; first | rfl | (simp; done) | omega | (simp; omega)) | (with_reducible refine Own.more ?_ _) | (with_reducible refine Own.apart ?_ ?_ _ _; rotate_left; first | omega | (simp; done) | (simp; omega)) | (refine Own.put ?_ _ _)))
  have hB0 : Below w.heap.size w W0 := hW0 ▸ (by repeat' (first | (with_reducible exact Below.refl _ _) | (with_reducible assumption) | (with_reducible refine below_drewN ?_ _) | (with_reducible refine Below.drew ?_) | (with_reducible refine Below.alloc ?_ ?_ _) | (with_reducible refine Below.setCell ?_ ?_ _) | (with_reducible refine then_ ?_ (by with_reducible assumption) ?_) | (with_reducible exact Nat.le_refl _) | (with_reducible exact Nat.le_succ _) | (with_reducible exact Nat.le_succ_of_le (by with_reducible assumption)) | omega | (simp; done) | (simp; omega) | (exact Nat.le_succ _) | (exact Nat.le_succ_of_le (by with_reducible assumption))))
  clear hW0 HM ec
  go_wp2
  go_loopg [6] xl (fun g i wr => ∃ (k : Nat) (o : List Int), g + k = xl ∧ i = .int .i64 k ∧ o.length = xl + yl + 1 ∧ Dg o ∧ Hid (vl o = vl (xs.take k) * vl ys) ∧ Own wr w.heap.size 42 #[.bool sx, .slice xa xl xc] ∧ Own wr (w.heap.size + 1) 42 #[.bool sy, .slice ya yl yc] ∧ Own wr (w.heap.size + 2) 42 #[.bool false, .slice none 0 0] ∧ Own wr (w.heap.size + 3) 3 (cells o) ∧ Below w.heap.size w wr)
  case atStart =>
    exact ⟨0, List.replicate (xl + yl + 1) 0, rfl, rfl, by simp, Dg.replicate _, Lib.hid (by rw [vl_replicate]; simp [vl]), OA, OB, OR, OO, hB0⟩
  case round =>
    clear OA OB OR OO hB0
    obtain ⟨k, o, hk, rfl, hlo, hdo, hvo, OA, OB, OR, OO, hB⟩ := hrel
    obtain ⟨G, hG⟩ : ∃ G, G = gk := ⟨_, rfl⟩
    obtain ⟨P1, P2, P3⟩ := OA.at_
    obtain ⟨Q1, Q2, Q3⟩ := OB.at_
    by_cases hkx : k < xl
    · have hk1 : (k : Int) < xl := by omega
      obtain ⟨x0, hx0⟩ : ∃ d, xs[k]? = some d := ⟨xs[k]'(by have := LX.out; omega), by simp⟩
      obtain ⟨x1, x2⟩ := HDX.out.at hx0
      replace hx0 := Lib.hid hx0
      go_wp2
      go_loopg [7, 8] (yl + 1) (fun g c j wr => ∃ (m : Nat) (o : List Int) (c0 : Int), g + m = yl + 1 ∧ j = .int .i64 m ∧ c = .int .i64 c0 ∧ 0 ≤ c0 ∧ c0 ≤ 65535 ∧ o.length = xl + yl + 1 ∧ Dg o ∧ Hid (vl o + 65536 ^ (k + m) * c0 = vl (xs.take k) * vl ys + 65536 ^ k * (x0 * vl (ys.take m))) ∧ Own wr w.heap.size 42 #[.bool sx, .slice xa xl xc] ∧ Own wr (w.heap.size + 1) 42 #[.bool sy, .slice ya yl yc] ∧ Own wr (w.heap.size + 2) 42 #[.bool false, .slice none 0 0] ∧ Own wr (w.heap.size + 3) 3 (cells o) ∧ Below w.heap.size w wr)
      case atStart =>
        exact ⟨0, o, 0, rfl, rfl, rfl, by omega, by omega, hlo, hdo, Lib.hid (by rw [hvo.out]; simp [vl]), OA, OB, OR, OO, hB⟩
      case round =>
        clear OA OB OR OO hB P1 P2 P3 Q1 Q2 Q3 hlo hdo hvo
        obtain ⟨m, o, c0, hm, rfl, rfl, c1, c2, hlo, hdo, hvo, OA, OB, OR, OO, hB⟩ := hrel
        obtain ⟨P1, P2, P3⟩ := OA.at_
        obtain ⟨Q1, Q2, Q3⟩ := OB.at_
        obtain ⟨R1, R2, R3⟩ := OO.at_
        replace hlo := Lib.hid hlo
        by_cases hmy : m < yl
        · have hm1 : (m : Int) < yl := by omega
          obtain ⟨y0, hy0⟩ : ∃ d, ys[m]? = some d := ⟨ys[m]'(by have := LY.out; omega), by simp⟩
          obtain ⟨y1, y2⟩ := HDY.out.at hy0
          obtain ⟨e0, he0⟩ : ∃ d, o[k + m]? = some d := ⟨o[k + m]'(by have := hlo.out; omega), by simp⟩
          obtain ⟨e1, e2⟩ := hdo.at he0
          obtain ⟨b1, b2, b3, b4⟩ := mul_bound e1 e2 c1 c2 x1 x2 y1 y2
          have HI := Lib.hid (mul_inner he0 hy0 hvo.out)
          obtain ⟨xb, xo, rfl, hcx0, hxb⟩ := DRow.at_ RX.out hx0.out
          obtain ⟨yb, yo, rfl, hcy0, hyb⟩ := DRow.at_ RY.out hy0
          have hcx : wr.cell? ⟨xb, xo + k, none⟩ = some (.int .i64 x0) := by rw [hB.cell (cell_lt hcx0)]; exact hcx0
          have hcy : wr.cell? ⟨yb, yo + m, none⟩ = some (.int .i64 y0) := by rw [hB.cell (cell_lt hcy0)]; exact hcy0
          have hco : wr.cell? ⟨w.heap.size + 3, k + m, none⟩ = some (.int .i64 e0) := (R1 (k + m)).trans (cells_get _ _ he0)
          have SET := Lib.hid (cells_set o (k + m) ((e0 + c0 + x0 * y0) % 65536))
          have HLO := Lib.hid (show (o.set (k + m) ((e0 + c0 + x0 * y0) % 65536)).length = xl + yl + 1 by rw [List.length_set]; exact hlo.out)
          have HDO := Lib.hid (hdo.set (k + m) (d := (e0 + c0 + x0 * y0) % 65536) (by omega) (by omega))
          have ekm : (k : Int) + (m : Int) = ((k + m : Nat) : Int) := by omega
          have ekl : ((k + m : Nat) : Int) < (xl : Int) + yl + 1 := by omega
          obtain ⟨km, hkm⟩ : ∃ km, k + m = km := ⟨_, rfl⟩
          rw [hkm] at SET HLO HDO HI hco ekm ekl
          clear hcx0 hcy0 he0 hy0 R1 hvo hdo hlo hkm
          obtain ⟨p, hp⟩ : ∃ p, x0 * y0 = p := ⟨_, rfl⟩
          rw [hp] at b1 b2 b3 b4 HI SET HLO HDO
          go_wp2
          go_quiet (fail)
          rename_i nq
          go_wp2
          go_roundg (gk - 1)
          case measure => omega
          case rel => exact ⟨m + 1, _, _, by omega, by go_num, rfl, b3, b4, HLO.out, HDO.out, HI.out, (OA.drawnN nq).apart (by omega) _ _, (OB.drawnN nq).apart (by omega) _ _, (OR.drawnN nq).apart (by omega) _ _, ((OO.drawnN nq).put _ _).as SET.out, (below_drewN hB nq).setCell (by show w.heap.size ≤ w.heap.size + 3; omega) _⟩
        · have hm1 : ¬ (m : Int) < yl := by omega
          by_cases hc : 0 < c0
          · have hroom := mul_room hdo HDX.out HDY.out hx0.out (show ys.length ≤ m by have := LY.out; omega) hc hvo.out
            have hmy2 : m = yl := by have := LY.out; omega
            obtain ⟨e0, he0⟩ : ∃ d, o[k + m]? = some d := ⟨o[k + m]'(by have := hlo.out; omega), by simp⟩
            obtain ⟨e1, e2⟩ := hdo.at he0
            have HI := Lib.hid (mul_over he0 (show ys.length ≤ m by have := LY.out; omega) hvo.out)
            have hco : wr.cell? ⟨w.heap.size + 3, k + m, none⟩ = some (.int .i64 e0) := (R1 (k + m)).trans (cells_get _ _ he0)
            have SET := Lib.hid (cells_set o (k + m) ((e0 + c0) % 65536))
            have HLO := Lib.hid (show (o.set (k + m) ((e0 + c0) % 65536)).length = xl + yl + 1 by rw [List.length_set]; exact hlo.out)
            have HDO := Lib.hid (hdo.set (k + m) (d := (e0 + c0) % 65536) (by omega) (by omega))
            have ekm : (k : Int) + (m : Int) = ((k + m : Nat) : Int) := by omega
            have ekl : ((k + m : Nat) : Int) < (xl : Int) + yl + 1 := by omega
            have b3 : 0 ≤ (e0 + c0) / 65536 := by omega
            have b4 : (e0 + c0) / 65536 ≤ 65535 := by omega
            obtain ⟨km, hkm⟩ : ∃ km, k + m = km := ⟨_, rfl⟩
            rw [hkm] at SET HLO HDO HI hco ekm ekl
            have hgk : 0 < gk := by omega
            clear he0 R1 hvo hdo hlo hkm hmy2 hroom
            go_wp2
            go_roundg (gk - 1)
            case measure => omega
            case rel => exact ⟨m + 1, _, _, by omega, by go_num, rfl, b3, b4, HLO.out, HDO.out, HI.out, OA.apart (by omega) _ _, OB.apart (by omega) _ _, OR.apart (by omega) _ _, (OO.put _ _).as SET.out, hB.setCell (by show w.heap.size ≤ w.heap.size + 3; omega) _⟩
          · obtain rfl : c0 = 0 := by omega
            have HV := Lib.hid (show vl o = vl (xs.take (k + 1)) * vl ys by
              have := hvo.out
              rw [List.take_of_length_le (show ys.length ≤ m by have := LY.out; omega), mul_outer hx0.out] at this
              simpa using this)
            have hlo2 := hlo
            clear hvo R1 hlo hc
            go_wp2
            go_roundg (G - 1)
            case measure => omega
            case rel => exact ⟨k + 1, o, by omega, by go_num, hlo2.out, hdo, HV, OA, OB, OR, OO, hB⟩
    · have hk1 : ¬ (k : Int) < xl := by omega
      have hke : k = xl := by omega
      have hv2 : vl o = vl xs * vl ys := by have := hvo.out; rwa [List.take_of_length_le (by have := LX.out; omega)] at this
      have OD : DRow wr T (w.heap.size + 3) (some ⟨w.heap.size + 3, 0, none⟩) (xl + yl + 1) (xl + yl + 1) o := own_drow OO hlo (by unfold maxLen; omega) (Nat.le_refl _)
      have TR1 := trim_num T (w.heap.size + 3) (sx != sy) _ _ _ o _ wr OD hdo hv2
      rw [HZ.out] at TR1
      have TR := Lib.hid TR1
      have hs1 := OO.in_
      clear TR1 OD OO hdo hvo hv2 hlo HZ RX RY LX LY HDX HDY hke
      go_wp2_with (go_at_call 33; refine TR.out.mono ?_; rintro e w1 ⟨v2, rfl, hn, hb1⟩; obtain ⟨sn, na, nl, nc, rfl⟩ := hn.shape; have HN := Lib.hid hn; clear hn; have OR2 := OR.keep hb1; obtain ⟨r1, r2, r3⟩ := OR2.at_; have hB1 := then_ hB hb1 hB.size; clear OA OB OR OR2 P1 P2 P3 Q1 Q2 Q3 TR hb1 hB)
      refine bodyPost_ret (v := .agg #[.bool sn, .slice na nl nc]) (by simp [results, Tryd.results14, go_sem, r1]) rfl ⟨_, rfl, ?_, ?_⟩
      · exact ((HN.out.put (by omega) (by omega) _).put (by omega) (by omega) _).mono (Nat.le_refl _) (by omega)
      · repeat' (first | (with_reducible exact Below.refl _ _) | (with_reducible assumption) | (with_reducible refine below_drewN ?_ _) | (with_reducible refine Below.drew ?_) | (with_reducible refine Below.alloc ?_ ?_ _) | (with_reducible refine Below.setCell ?_ ?_ _) | (with_reducible refine then_ ?_ (by with_reducible assumption) ?_) | (with_reducible exact Nat.le_refl _) | (with_reducible exact Nat.le_succ _) | (with_reducible exact Nat.le_succ_of_le (by with_reducible assumption)) | omega | (simp; done) | (simp; omega) | (exact Nat.le_succ _) | (exact Nat.le_succ_of_le (by with_reducible assumption)))
end Go.Proofs.YtjmojddnedngaaaDoor
end
section
namespace Go.Proofs.YtjmojddnedngaaaDoor
open Go.ChangeShapes Go.WideShapes Go.ChangeAt Go.RowKit
set_option linter.unusedVariables false

section
variable {P : Program} {ops : Array Oper} {Q : Exit → Act → World → Prop} {md : Region.Mode} {S : World → Prop} {cls see : Nat → Bool}
theorem op_of_list {i : Nat} {a : Act} {w : World} {o : Oper} {K : Act → World → Prop} (ho : ops[i]? = some o) (h : wpList P ops (SeqQ K Q) [o] a w) : wpOp P ops Q i K a w := by
  unfold wpOp
  simp only [ho]
  unfold wpList at h
  split
  · rename_i hw
    simp only [hw, if_true] at h
    rcases h with h | ⟨h1, a2, w2, h2⟩
    · refine .inl ?_
      unfold Oper.wp at h ⊢
      generalize (execOp a.eval o).run P w = r at h ⊢
      cases r with
      | ok n w' =>
        cases n <;> (try simp only [Oper.upon] at h ⊢)
        case enter f args => exact Calls.mono h fun e w'' he => by cases e <;> exact he
        case row row args => exact Rows.mono h fun u w'' he => he
        all_goals exact h
      | halt x w' =>
        cases x <;> exact h
    · exact .inr ⟨h1, a2, w2, h2⟩
  · rename_i hw
    rw [if_neg hw] at h
    exact h
/-- an operation of the class that may come now -/
theorem tree_pure {i fuel : Nat} {listed : Array Bool} {a : Act} {w : World} {o : Oper} {v : Value} (ho : ops[i]? = some o) (hc : cls i = true) (hs : Region.noSelect ops = true) (hr : (Region.ready md ops listed).contains i = true) (hf : Region.free md ops listed i = true) (hg : o.guard = none)
    (hv : ∀ w, (see i = true → S w) → (execOp a.eval o).run P w = .ok (.value v) w) (hS : S w) (h : wpAnyG P md ops (NoPanic Q) S cls see fuel (listed.setIfInBounds i true) (a.put o.dst v) w) : wpAnyG P md ops (NoPanic Q) S cls see (fuel + 1) listed a w :=
  wpAnyG_first ho hc (Region.noSelect_spec hs) (fun c a w h => absurd h (fun h => h)) fuel listed a w (Region.free_spec ho hf) (by simpa using hr) (.inl ⟨by simp [Region.wanted, hg], hv⟩) (fun _ => hS) h
/-- what each of the ready ones must meet -/
def Branch (P : Program) (md : Region.Mode) (ops : Array Oper) (Q : Exit → Act → World → Prop) (S : World → Prop) (cls see : Nat → Bool) (fuel : Nat) (listed : Array Bool) (a : Act) (w : World) (i : Nat) : Prop :=
  ∃ o, ops[i]? = some o ∧ ∀ K : Act → World → Prop, (∀ a' w', S w' → wpAnyG P md ops (NoPanic Q) S cls see fuel (listed.setIfInBounds i true) a' w' → K a' w') → wpList P ops (SeqQ K (NoPanic Q)) [o] a w
theorem Branch.go {fuel : Nat} {listed : Array Bool} {a : Act} {w : World} {i : Nat} (h : Branch P md ops Q S cls see fuel listed a w i) (hc : cls i = false) : wpOp P ops (NoPanic Q) i (fun a' w' => (cls i = true → w' = w) ∧ (cls i = false → needB md ops see i = true → S w') ∧ wpAnyG P md ops (NoPanic Q) S cls see fuel (listed.setIfInBounds i true) a' w') a w := by
  obtain ⟨o, ho, h⟩ := h
  exact op_of_list ho (h _ fun a' w' hS h' => ⟨fun e => (by rw [hc] at e; cases e), fun _ _ => hS, h'⟩)
theorem tree_one {i fuel : Nat} {listed : Array Bool} {a : Act} {w : World} (hr : Region.ready md ops listed = [i]) (hi : cls i = false) (h1 : Branch P md ops Q S cls see fuel listed a w i) : wpAnyG P md ops (NoPanic Q) S cls see (fuel + 1) listed a w := by
  refine ⟨fun e => (by rw [hr] at e; cases e), fun j hj => ?_⟩
  rw [hr] at hj
  obtain rfl : j = i := by simpa using hj
  exact h1.go hi
theorem tree_end {listed : Array Bool} {a : Act} {w : World} (hr : Region.ready md ops listed = []) (h : Q .normal a w) : wpAnyG P md ops (NoPanic Q) S cls see 0 listed a w := ⟨hr, h⟩
/-- the region, as a tree -/
theorem wp_region_tree {id : Nat} {l : List Oper} {a : Act} {w : World} (S : World → Prop) (C D : List Nat) (n : Nat) (hm : P.follows .mixedOrders = true) (hn : l.length = n)
    (h : wpAnyG P .any l.toArray (NoPanic Q) S (fun i => C.contains i) (fun i => D.contains i) n (Array.replicate n false) a w.drew) : (Code.region id l.toArray true).wp P Q a w := by
  refine wp_region_noPanic (wp_region_any hm (wpAny_of_G _ _ _ _ (S := S) (cls := fun i => C.contains i) (see := fun i => D.contains i) ?_))
  subst hn
  simpa using h
end
end Go.Proofs.YtjmojddnedngaaaDoor
end
section
namespace Go.Proofs.YtjmojddnedngaaaDoor
open Go.ChangeShapes Go.WideShapes Go.ChangeAt Go.RowKit
set_option linter.unusedVariables false
set_option linter.unusedSimpArgs false

section
variable {a : Act} {w w0 : World} {af : Array Edge} {pos : String} {t : TypeId} {gd : Option (Nat × Bool)}
theorem ld_A {s p o d : Nat} {T' : TypeId} {cs : Array Value} {v0 v1 v2 v3 : Value} (h : a.tmps[s]? = some (.pointer (some ⟨p, o, none⟩))) (ho : Own w p T' cs) (c0 : cs[o]? = some v0) (c1 : cs[o + 1]? = some v1) (c2 : cs[o + 2]? = some v2) (c3 : cs[o + 3]? = some v3) : Step Tryd.prog w0 { dst := some d, op := .load 23 (.tmp s), type := t, pos := pos, after := af, guard := gd } (.val (.agg #[v0, v1, v2, v3])) a w :=
  by
  obtain ⟨h1, h2, h3⟩ := ho.at_
  refine .inl ?_
  simp [go_sem, execOp, h, h1, Nat.add_assoc, c0, c1, c2, c3]
theorem fa_Q_0 {s p o d : Nat} (h : a.tmps[s]? = some (.pointer (some ⟨p, o, none⟩))) : Step Tryd.prog w0 { dst := some d, op := .fieldAddr 31 (.tmp s) 0, type := t, pos := pos, after := af, guard := gd } (.val (.pointer (some ⟨p, o, none⟩))) a w :=
  .inl (by simp [go_sem, execOp, h])
theorem fa_Q_1 {s p o d : Nat} (h : a.tmps[s]? = some (.pointer (some ⟨p, o, none⟩))) : Step Tryd.prog w0 { dst := some d, op := .fieldAddr 31 (.tmp s) 1, type := t, pos := pos, after := af, guard := gd } (.val (.pointer (some ⟨p, o + 4, none⟩))) a w :=
  .inl (by simp [go_sem, execOp, h])
theorem ld_N {s p o d : Nat} {T' : TypeId} {cs : Array Value} {v0 v1 : Value} (h : a.tmps[s]? = some (.pointer (some ⟨p, o, none⟩))) (ho : Own w p T' cs) (c0 : cs[o]? = some v0) (c1 : cs[o + 1]? = some v1) : Step Tryd.prog w0 { dst := some d, op := .load 42 (.tmp s), type := t, pos := pos, after := af, guard := gd } (.val (.agg #[v0, v1])) a w :=
  by
  obtain ⟨h1, h2, h3⟩ := ho.at_
  refine .inl ?_
  simp [go_sem, execOp, h, h1, Nat.add_assoc, c0, c1]
end
theorem sv_ {P : Program} {w0 w : World} {o : Oper} {v : Value} {a : Act} (h : Step P w0 o (.val v) a w) : Stepn P w0 o (.val v) a w := h
theorem NumP.aside {w : World} {S : Nat → Prop} {v : Value} {z : Int} (h : NumP w S v z) {g : Nat} {T : TypeId} {s : Bool} {a : Option Addr} {l c : Nat} (ho : Own w g T #[.bool s, .slice a l c]) : NumP w (fun b => S b ∧ b ≠ g) v z := by
  obtain ⟨a', len, cap, e, r⟩ := h
  refine ⟨a', len, cap, e, r.hlen, r.hcap, r.hmax, ?_⟩
  rcases r.hcells with h0 | ⟨b, o, ha, hs, hl, hc⟩
  · exact .inl h0
  · by_cases hd : digs z.natAbs = []
    · exact .inl hd
    · refine .inr ⟨b, o, ha, ⟨hs, ?_⟩, hl, hc⟩
      rintro rfl
      obtain ⟨x, hx⟩ : ∃ x, (digs z.natAbs)[0]? = some x := by
        cases hd' : digs z.natAbs with
        | nil => exact absurd hd' hd
        | cons x r => exact ⟨x, rfl⟩
      have h1 := hc 0 x hx
      obtain ⟨q1, _, _⟩ := ho.at_
      rw [Nat.add_zero, q1 o] at h1
      match o with
      | 0 => simp at h1
      | 1 => simp at h1
      | o + 2 => simp at h1
theorem len16 {z : Int} (h : Fit z) : (digs z.natAbs).length ≤ 10000000 := Nat.le_trans (short_20 (fit20 h)) (by decide)
theorem mul_P {x y : Int} (hx : Fit x) (hy : Fit y) {S S' : Nat → Prop} {v v' : Value} (w : World) (h1 : NumP w S v x) (h2 : NumP w S' v' y) : Calls Tryd.prog 14 #[v, v'] w fun e w' => ∃ v2, e = .returned v2 ∧ NumP w' (fun _ => True) v2 (x * y) ∧ Below w.heap.size w w' := by
  refine (mul_num 0 _ _ _ _ v v' x y w (Nat.zero_le _) (h1.old 0) (h2.old 0) (len16 hx) (len16 hy)).mono ?_
  rintro e w' ⟨v2, he, hn, hb⟩
  exact ⟨v2, he, NumP.of hn fun _ _ _ => trivial, hb⟩
theorem add_P {x y : Int} (hx : Fit x) (hy : (digs y.natAbs).length ≤ 10000000) {S S' : Nat → Prop} {v v' : Value} (w : World) (h1 : NumP w S v x) (h2 : NumP w S' v' y) : Calls Tryd.prog 17 #[v, v'] w fun e w' => ∃ v2, e = .returned v2 ∧ NumP w' (fun _ => True) v2 (x + y) ∧ Below w.heap.size w w' := by
  refine (add_num 0 _ _ _ _ v v' x y w (Nat.zero_le _) (h1.old 0) (h2.old 0) (Nat.le_trans (len16 hx) (by decide)) (Nat.le_trans hy (by decide))).mono ?_
  rintro e w' ⟨v2, he, hn, hb⟩
  exact ⟨v2, he, NumP.of hn fun _ _ _ => trivial, hb⟩
theorem neg_any {y : Int} {S : Nat → Prop} {v : Value} (w : World) (h : NumP w S v y) : Calls Tryd.prog 18 #[v] w fun e w' => ∃ v2, e = .returned v2 ∧ NumP w' (fun _ => True) v2 (-y) ∧ Below w.heap.size w w' := by
  refine (neg_P S v y w h).mono ?_
  rintro e w' ⟨v2, he, hn, hb⟩
  exact ⟨v2, he, hn.mono fun _ _ _ => trivial, hb⟩
theorem fit_is {x y : Int} {t : Bool} (h : (fb x && fb y) = t) {S1 S2 : Nat → Prop} {s1 s2 : Bool} {a1 a2 : Option Addr} {l1 c1 l2 c2 g : Nat} (w : World) (ho : Own w g 42 #[.bool s1, .slice a1 l1 c1, .bool s2, .slice a2 l2 c2])
    (h1 : NumP w S1 (.agg #[.bool s1, .slice a1 l1 c1]) x) (h2 : NumP w S2 (.agg #[.bool s2, .slice a2 l2 c2]) y) :
    Calls Tryd.prog 15 #[.slice (some ⟨g, 0, none⟩) 2 2] w fun e w' => e = .returned (.bool t) ∧ Below w.heap.size w w' := h ▸ fit_two w ho h1 h2
theorem of_anyz (z : Int) (hz : Fit z) (w : World) : Calls Tryd.prog 13 #[.agg #[.int .u64 (L0 z), .int .u64 (L1 z), .int .u64 (L2 z), .int .u64 (L3 z)]] w fun e w' => ∃ v, e = .returned v ∧ NumP w' (fun _ => True) v z ∧ Below w.heap.size w w' := by
  refine (of_num z hz w).mono ?_
  rintro e w' ⟨v, he, hn, hb⟩
  exact ⟨v, he, hn.mono fun _ _ _ => trivial, hb⟩
end Go.Proofs.YtjmojddnedngaaaDoor
end
