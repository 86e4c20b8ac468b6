/- merged: A number through a small one, digit by digit from the top: what half and Text reckon. It speaks of no function. Products of numbers by their digits, as one reckons on paper. It speaks of no function. The contract of croftref03.half: digits through 2, rounded to nought. The contract of croftref03.Mul: the product of two numbers. -/
import Derived.Test.YtdnjkminicmffaaDoorRefM
import Derived.Test.YtdnjkminicmffaaDoorRefN
import Derived.Deep.LoopGhost
import Derived.Deep.OwnRows
import Derived.Deep.DeepCutAuto
import Derived.Lib.ItoaWalk
import Derived.Test.YtdnjkminicmffaaDoorSeq
import Derived.BigQuiet
import Derived.Deep.QuietTactic
section
namespace Go.Proofs.YtdnjkminicmffaaDoor

/-- the quotient's digits, and what is left -/
def dvl (q : Int) : List Int → List Int × Int
  | [] => ([], 0)
  | d :: r => (((dvl q r).2 * 65536 + d) / q :: (dvl q r).1, ((dvl q r).2 * 65536 + d) % q)
theorem dvl_ok {q : Int} (hq : 0 < q) : ∀ {l : List Int}, Dg l → (dvl q l).1.length = l.length ∧ Dg (dvl q l).1 ∧ 0 ≤ (dvl q l).2 ∧ (dvl q l).2 < q ∧ vl l = q * vl (dvl q l).1 + (dvl q l).2
  | [], _ => by simp [dvl, vl, Dg.nil, hq]
  | d :: r, h => by
    obtain ⟨h1, h2, h3, h4, h5⟩ := dvl_ok hq h.tail
    obtain ⟨d0, d1⟩ := h.head
    simp only [dvl]
    generalize (dvl q r).1 = o at *
    generalize (dvl q r).2 = t at *
    have e := Int.mul_ediv_add_emod (t * 65536 + d) q
    have g1 := Int.emod_nonneg (t * 65536 + d) (show q ≠ 0 by omega)
    have g2 := Int.emod_lt_of_pos (t * 65536 + d) hq
    have g3 : 0 ≤ (t * 65536 + d) / q := Int.ediv_nonneg (by omega) (by omega)
    have g4 : (t * 65536 + d) / q < 65536 := by
      refine Int.ediv_lt_of_lt_mul hq ?_
      have : (t + 1) * 65536 ≤ q * 65536 := Int.mul_le_mul_of_nonneg_right (by omega) (by omega)
      rw [Int.mul_comm 65536 q]
      omega
    refine ⟨by simp [h1], h2.cons g3 (by omega), g1, g2, ?_⟩
    rw [vl, vl, h5, Int.mul_add, Int.mul_add, ← Int.mul_assoc, Int.mul_comm 65536 q, Int.mul_assoc]
    generalize (t * 65536 + d) / q = k at *
    generalize (t * 65536 + d) % q = m at *
    generalize q * (65536 * vl o) = A at *
    omega
theorem dvl_quo {q : Int} (hq : 0 < q) {l : List Int} (h : Dg l) : vl (dvl q l).1 = vl l / q ∧ (dvl q l).2 = vl l % q := by
  obtain ⟨_, _, h3, h4, h5⟩ := dvl_ok hq h
  rw [h5]
  refine ⟨?_, ?_⟩
  · rw [Int.add_comm, Int.add_mul_ediv_left _ _ (by omega), Int.ediv_eq_zero_of_lt h3 h4, Int.zero_add]
  · rw [Int.add_comm, Int.add_mul_emod_self_left, Int.emod_eq_of_lt h3 h4]
/-- one digit more from the top -/
theorem dvl_drop (q : Int) (l : List Int) (i : Nat) (d : Int) (h : l[i]? = some d) : dvl q (l.drop i) = (((dvl q (l.drop (i + 1))).2 * 65536 + d) / q :: (dvl q (l.drop (i + 1))).1, ((dvl q (l.drop (i + 1))).2 * 65536 + d) % q) := by
  obtain ⟨hi, e⟩ := List.getElem?_eq_some_iff.1 h
  rw [List.drop_eq_getElem_cons hi, e, dvl]
end Go.Proofs.YtdnjkminicmffaaDoor
end
section
namespace Go.Proofs.YtdnjkminicmffaaDoor

/-- one digit's step -/
theorem mul_step {o : List Int} {k : Nat} {e c p : Int} (h : o[k]? = some e) : vl (o.set k ((e + c + p) % 65536)) + 65536 ^ (k + 1) * ((e + c + p) / 65536) = vl o + 65536 ^ k * c + 65536 ^ k * p := by
  rw [vl_set o k _ e h, Int.pow_succ, Int.mul_assoc]
  have hd := Int.mul_ediv_add_emod (e + c + p) 65536
  have hq : (e + c + p) % 65536 - e + 65536 * ((e + c + p) / 65536) = c + p := by omega
  rw [Int.add_assoc, ← Int.mul_add, hq, Int.mul_add]
  omega
/-- the invariant of the inner loop goes on -/
theorem mul_inner {o : List Int} {ys : List Int} {i j : Nat} {e c x y V : Int} (h : o[i + j]? = some e) (hy : ys[j]? = some y) (hI : vl o + 65536 ^ (i + j) * c = V + 65536 ^ i * (x * vl (ys.take j))) :
    vl (o.set (i + j) ((e + c + x * y) % 65536)) + 65536 ^ (i + (j + 1)) * ((e + c + x * y) / 65536) = V + 65536 ^ i * (x * vl (ys.take (j + 1))) := by
  rw [← Nat.add_assoc, mul_step h, hI, vl_take ys j y hy, Int.pow_add, Int.mul_add x, Int.mul_add (65536 ^ i)]
  have : (65536 : Int) ^ i * 65536 ^ j * (x * y) = 65536 ^ i * (x * (65536 ^ j * y)) := by
    rw [Int.mul_assoc, Int.mul_left_comm (65536 ^ j) x y]
  omega
theorem mul_over {o : List Int} {ys : List Int} {i j : Nat} {e c x V : Int} (h : o[i + j]? = some e) (hj : ys.length ≤ j) (hI : vl o + 65536 ^ (i + j) * c = V + 65536 ^ i * (x * vl (ys.take j))) :
    vl (o.set (i + j) ((e + c) % 65536)) + 65536 ^ (i + (j + 1)) * ((e + c) / 65536) = V + 65536 ^ i * (x * vl (ys.take (j + 1))) := by
  have := mul_step (p := 0) (c := c) h
  simp only [Int.add_zero, Int.mul_zero] at this
  rw [← Nat.add_assoc, this, hI, List.take_of_length_le hj, List.take_of_length_le (show ys.length ≤ j + 1 by omega)]
/-- what one row adds -/
theorem mul_outer {xs ys : List Int} {i : Nat} {x : Int} (hx : xs[i]? = some x) : vl (xs.take i) * vl ys + 65536 ^ i * (x * vl ys) = vl (xs.take (i + 1)) * vl ys := by
  rw [vl_take xs i x hx, Int.add_mul, Int.mul_assoc]
/-- a carry behind the last digit has its place -/
theorem mul_room {o xs ys : List Int} {i j : Nat} {c x : Int} (ho : Dg o) (hX : Dg xs) (hY : Dg ys) (hx : xs[i]? = some x) (hj : ys.length ≤ j) (hc : 0 < c) (hI : vl o + 65536 ^ (i + j) * c = vl (xs.take i) * vl ys + 65536 ^ i * (x * vl (ys.take j))) : j ≤ ys.length := by
  rw [List.take_of_length_le hj, mul_outer hx] at hI
  have h1 := vl_nonneg ho
  have h2 := vl_lt (hX.take (i + 1))
  have h3 := vl_nonneg (hX.take (i + 1))
  have h4 := vl_lt hY
  have h5 := vl_nonneg hY
  have hl : (xs.take (i + 1)).length = i + 1 := by
    obtain ⟨hi, _⟩ := List.getElem?_eq_some_iff.1 hx
    rw [List.length_take]; omega
  rw [hl] at h2
  have hP : (0 : Int) < 65536 ^ (i + 1) := Int.pow_pos (by decide)
  have hQ : (0 : Int) < 65536 ^ ys.length := Int.pow_pos (by decide)
  have h6 : vl (xs.take (i + 1)) * vl ys < 65536 ^ (i + 1) * 65536 ^ ys.length := by
    have a1 := Int.mul_le_mul_of_nonneg_left (show vl ys + 1 ≤ 65536 ^ ys.length by omega) (Int.le_of_lt hP)
    have a2 := Int.mul_le_mul_of_nonneg_right (show vl (xs.take (i + 1)) ≤ 65536 ^ (i + 1) by omega) h5
    rw [Int.mul_add, Int.mul_one] at a1
    omega
  rw [← Int.pow_add] at h6
  rcases Nat.lt_or_ge ys.length j with hlt | hge
  · exfalso
    obtain ⟨t, ht⟩ : ∃ t, i + j = i + 1 + ys.length + t := ⟨i + j - (i + 1 + ys.length), by omega⟩
    rw [ht, Int.pow_add] at hI
    have hT : (1 : Int) ≤ 65536 ^ t := Int.pow_pos (by decide)
    have hS : (0 : Int) < 65536 ^ (i + 1 + ys.length) := Int.pow_pos (by decide)
    have a3 := Int.mul_le_mul_of_nonneg_left hT (Int.le_of_lt hS)
    rw [Int.mul_one] at a3
    have a4 := Int.mul_le_mul_of_nonneg_left (show (1 : Int) ≤ c by omega) (show (0 : Int) ≤ 65536 ^ (i + 1 + ys.length) * 65536 ^ t by omega)
    rw [Int.mul_one] at a4
    omega
  · exact hge
/-- the digits' products stay within bounds -/
theorem mul_bound {e c x y : Int} (e0 : 0 ≤ e) (e1 : e ≤ 65535) (c0 : 0 ≤ c) (c1 : c ≤ 65535) (x0 : 0 ≤ x) (x1 : x ≤ 65535) (y0 : 0 ≤ y) (y1 : y ≤ 65535) : 0 ≤ x * y ∧ x * y ≤ 4294836225 ∧ 0 ≤ (e + c + x * y) / 65536 ∧ (e + c + x * y) / 65536 ≤ 65535 := by
  have h0 : 0 ≤ x * y := Int.mul_nonneg x0 y0
  have h1 : x * y ≤ 65535 * 65535 := Int.mul_le_mul x1 y1 y0 (by decide)
  omega
/-- what stands in a row of cells -/
def cells (o : List Int) : Array Value := (o.map (Value.int .i64)).toArray
theorem cells_get (o : List Int) (k : Nat) {e : Int} (h : o[k]? = some e) : (cells o)[k]? = some (.int .i64 e) := by
  simp [cells, h]
theorem cells_set (o : List Int) (k : Nat) (d : Int) : (cells o).setIfInBounds k (.int .i64 d) = cells (o.set k d) := by
  simp [cells, List.map_set]
theorem cells_new (n : Nat) : cells (List.replicate n 0) = Array.replicate n (.int .i64 0) := by
  simp [cells]
end Go.Proofs.YtdnjkminicmffaaDoor
end
section
namespace Go.Proofs.YtdnjkminicmffaaDoor
open Go.ChangeShapes Go.WideShapes Go.ChangeAt Go.RowKit
set_option linter.unusedVariables false

theorem info_intH : (Tryd.prog.info? 3).map (fun i => (i.zero, i.size, i.bytes)) = some (some (.int .i64 0), 1, 8) := by kernel_rfl
theorem cells_made (n : Nat) : madeCells #[.int .i64 0] n = cells (List.replicate n 0) := by
  apply Array.ext'
  rw [toList_madeCells_one]
  simp [cells]
theorem num_digits (s : Bool) (a : Option Addr) (l c : Nat) (w : World) : (Instr.field 27 (.agg #[.bool s, .slice a l c]) 1).run Tryd.prog w = .ok (.slice a l c) w := by kernel_rfl
/-- a block of one's own as a row of digits -/
theorem own_drow {w : World} {p : Nat} {ty : TypeId} {o : List Int} {n T C : Nat} (h : Own w p ty (cells o)) (hl : o.length = n) (hn : n ≤ maxLen) (hC : C ≤ p) : DRow w T C (some ⟨p, 0, none⟩) n n o :=
  ⟨hl, Nat.le_refl _, hn, .inr ⟨p, 0, rfl, .inr hC, fun i z hz => by rw [Nat.zero_add, h.at_.1 i, cells_get o i hz]⟩⟩

set_option maxHeartbeats 4000000 in
set_option maxRecDepth 20000 in
theorem half_any (T T' C' : Nat) (a : Option Addr) (len cap : Nat) (l : List Int) (w : World) (hr : DRow w T' C' a len cap l) (hd : Dg l) (hlen : len ≤ 100000000) :
    Calls Tryd.prog 48 #[.slice a len cap] w fun e w' => ∃ a' len' cap', e = .returned (.slice a' len' cap') ∧ DRow w' T w.heap.size a' len' cap' (digs (vl l / 2).toNat) ∧ Below w.heap.size w w' := by
  have hl := hr.hlen
  have HX := Lib.hid hr.hcells
  have HM := run_make_row' (P := Tryd.prog) 25 3 (.int .i64 0) 8 Tryd.underlying25 info_intH rfl .i64 .i64 len (by omega) (by omega) w
  have HD := Lib.hid hd
  clear hr hd
  have hlm : len ≤ maxLen := by unfold maxLen; omega
  go_enter Tryd.func48, Tryd.ntmps48
  go_upto_region 2 with fail
  go_name_world W0 hW0
  have OA : Own W0 w.heap.size 3 (cells (List.replicate len 0)) := hW0 ▸ (by rw [cells_made]; exact Own.made _ _ _)
  have hB0 : Below w.heap.size w W0 := hW0 ▸ (by repeat' (first | (with_reducible exact Below.refl _ _) | (with_reducible assumption) | (with_reducible refine below_drewN ?_ _) | (with_reducible refine Below.drew ?_) | (with_reducible refine Below.alloc ?_ ?_ _) | (with_reducible refine Below.setCell ?_ ?_ _) | (with_reducible refine then_ ?_ (by with_reducible assumption) ?_) | (with_reducible exact Nat.le_refl _) | (with_reducible exact Nat.le_succ _) | (with_reducible exact Nat.le_succ_of_le (by with_reducible assumption)) | omega | (simp; done) | (simp; omega) | (exact Nat.le_succ _) | (exact Nat.le_succ_of_le (by with_reducible assumption))))
  clear hW0 HM
  go_wp2
  go_loopg [4, 5] len (fun g r i wr => g ≤ len ∧ i = .int .i64 ((g : Int) - 1) ∧ r = .int .i64 (dvl 2 (l.drop g)).2 ∧ Own wr w.heap.size 3 (cells (List.replicate g 0 ++ (dvl 2 (l.drop g)).1)) ∧ Below w.heap.size w wr)
  case atStart =>
    have e : l.drop len = [] := List.drop_eq_nil_of_le (by omega)
    rw [e]
    exact ⟨Nat.le_refl _, rfl, rfl, by simpa [dvl] using OA, hB0⟩
  case round =>
    clear OA hB0
    obtain ⟨hk, rfl, rfl, OA, hB⟩ := hrel
    cases gk with
    | zero =>
      rw [List.drop_zero] at OA ⊢
      obtain ⟨h1, h2, -, -, -⟩ := dvl_ok (q := 2) (by omega) HD.out
      obtain ⟨h5, -⟩ := dvl_quo (q := 2) (by omega) HD.out
      have h0 : 0 ≤ vl l / 2 := by have := vl_nonneg HD.out; omega
      replace h0 := Lib.hid h0
      generalize (dvl 2 l).1 = o at *
      generalize (dvl 2 l).2 = r at *
      have OD : DRow wr T w.heap.size (some ⟨w.heap.size, 0, none⟩) len len o := own_drow (by simpa using OA) (by omega) hlm (Nat.le_refl _)
      have TR := Lib.hid (trim_num T w.heap.size false (some ⟨w.heap.size, 0, none⟩) len len o (vl l / 2) wr OD h2 h5)
      have hz : ((0 : Nat) : Int) - 1 = -1 := rfl
      rw [hz]
      clear OD OA HX HD h1 h2 h5 hz hl
      have ND := num_digits
      go_wp2_with (go_at_call 33; refine TR.out.mono ?_; rintro e w1 ⟨v, rfl, ⟨a', l', c', rfl, hn⟩, hb⟩)
      go_ret
      refine ⟨a', l', c', rfl, ?_, then_ hB hb hB.size⟩
      have e : ((if false = true then -(vl l / 2) else vl l / 2).natAbs) = (vl l / 2).toNat := by have := h0.out; simp; omega
      rw [e] at hn
      exact hn
    | succ j =>
      obtain ⟨d, hd⟩ : ∃ d, l[j]? = some d := ⟨l[j]'(by omega), by simp⟩
      obtain ⟨d0, d1⟩ := HD.out.at hd
      obtain ⟨b, o, rfl, hc⟩ : ∃ b o, a = some ⟨b, o, none⟩ ∧ w.cell? ⟨b, o + j, none⟩ = some (.int .i64 d) := by
        rcases HX.out with h | ⟨b, o, h1, _, h2⟩
        · rw [h] at hl; simp at hl; omega
        · exact ⟨b, o, h1, h2 j d hd⟩
      have C1 : wr.cell? ⟨b, o + j, none⟩ = some (.int .i64 d) := by rw [hB.cell (cell_lt hc)]; exact hc
      have DD := Lib.hid (dvl_drop 2 l j d hd)
      obtain ⟨-, -, r0, r1, -⟩ := dvl_ok (q := 2) (by omega) (HD.out.drop (j + 1))
      generalize (dvl 2 (l.drop (j + 1))).1 = Q at *
      generalize (dvl 2 (l.drop (j + 1))).2 = R at *
      have SET := Lib.hid (show (cells (List.replicate (j + 1) 0 ++ Q)).setIfInBounds j (.int .i64 ((R * 65536 + d) / 2)) = cells (List.replicate j 0 ++ (dvl 2 (l.drop j)).1) by
        rw [DD.out, cells_set]
        congr 1
        rw [List.replicate_succ', List.append_assoc]
        rw [List.set_append_right _ _ (by simp)]
        simp)
      have hj : ((j + 1 : Nat) : Int) - 1 = (j : Int) := by omega
      have hj0 : (0 : Int) ≤ (j : Int) := by omega
      have hj1 : (j : Int) < (len : Int) := by omega
      have hR : R = 0 ∨ R = 1 := by omega
      obtain ⟨P1, P2, P3⟩ := OA.at_
      have P4 : wr.cell? ⟨w.heap.size, j, none⟩ = some (.int .i64 0) := (P1 j).trans (cells_get _ _ (by rw [List.getElem?_append_left (by simp)]; simp))
      have hb1 : b ≠ w.heap.size := by have := cell_lt hc; omega
      rw [hj]
      clear hd hc HX hj P1 HD
      go_wp2
      go_roundg j
      case measure => omega
      case rel => exact ⟨by omega, by go_num, by rw [DD.out], (OA.put j _).as SET.out, hB.setCell (Nat.le_refl _) _⟩
end Go.Proofs.YtdnjkminicmffaaDoor
end
section
namespace Go.Proofs.YtdnjkminicmffaaDoor
open Go.ChangeShapes Go.WideShapes Go.ChangeAt Go.RowKit
set_option linter.unusedVariables false

/-- a digit of a row that was there -/
theorem DRow.at_ {w : World} {T C : Nat} {a : Option Addr} {len cap : Nat} {zs : List Int} (h : DRow w T C a len cap zs) {i : Nat} {d : Int} (hd : zs[i]? = some d) : ∃ b o, a = some ⟨b, o, none⟩ ∧ w.cell? ⟨b, o + i, none⟩ = some (.int .i64 d) ∧ b < w.heap.size := by
  rcases h.hcells with e | ⟨b, o, ha, _, hc⟩
  · rw [e] at hd; simp at hd
  · exact ⟨b, o, ha, hc i d hd, cell_lt (hc i d hd)⟩

set_option maxHeartbeats 16000000 in
set_option maxRecDepth 20000 in
theorem mul_num (T Tx Cx Ty Cy : Nat) (v v' : Value) (x y : Int) (w : World) (hT : T ≤ w.heap.size) (hx : Num w Tx Cx v x) (hy : Num w Ty Cy v' y) (hlx : (digs x.natAbs).length ≤ 10000000) (hly : (digs y.natAbs).length ≤ 10000000) :
    Calls Tryd.prog 19 #[v, v'] w fun e w' => ∃ v2, e = .returned v2 ∧ Num w' T w.heap.size v2 (x * y) ∧ Below w.heap.size w w' := by
  obtain ⟨xa, xl, xc, rfl, rx⟩ := hx
  obtain ⟨ya, yl, yc, rfl, ry⟩ := hy
  have lx := rx.hlen
  have ly := ry.hlen
  have hX := Dg.digs x.natAbs
  have hY := Dg.digs y.natAbs
  have hvx := vl_digs x.natAbs
  have hvy := vl_digs y.natAbs
  obtain ⟨xs, hxs⟩ : ∃ xs, digs x.natAbs = xs := ⟨_, rfl⟩
  obtain ⟨ys, hys⟩ : ∃ ys, digs y.natAbs = ys := ⟨_, rfl⟩
  rw [hxs] at rx lx hX hvx hlx
  rw [hys] at ry ly hY hvy hly
  have lx2 : xl ≤ 10000000 := by omega
  have ly2 : yl ≤ 10000000 := by omega
  have RX := Lib.hid rx
  have RY := Lib.hid ry
  have LX := Lib.hid lx
  have LY := Lib.hid ly
  have HDX := Lib.hid hX
  have HDY := Lib.hid hY
  obtain ⟨sx, hsx⟩ : ∃ s, decide (x < 0) = s := ⟨_, rfl⟩
  obtain ⟨sy, hsy⟩ : ∃ s, decide (y < 0) = s := ⟨_, rfl⟩
  have HZ := Lib.hid (show (if (sx != sy) = true then -(vl xs * vl ys) else vl xs * vl ys) = x * y by
    rw [hvx, hvy]
    by_cases h1 : x < 0 <;> by_cases h2 : y < 0
    · rw [← hsx, ← hsy]; simp [h1, h2]
      rw [show ((x.natAbs : Nat) : Int) = -x by omega, show ((y.natAbs : Nat) : Int) = -y by omega, Int.neg_mul_neg]
    · rw [← hsx, ← hsy]; simp [h1, h2]
      rw [show ((x.natAbs : Nat) : Int) = -x by omega, show ((y.natAbs : Nat) : Int) = y by omega, Int.neg_mul, Int.neg_neg]
    · rw [← hsx, ← hsy]; simp [h1, h2]
      rw [show ((x.natAbs : Nat) : Int) = x by omega, show ((y.natAbs : Nat) : Int) = -y by omega, Int.mul_neg, Int.neg_neg]
    · rw [← hsx, ← hsy]; simp [h1, h2]
      rw [show ((x.natAbs : Nat) : Int) = x by omega, show ((y.natAbs : Nat) : Int) = y by omega])
  rw [hsx, hsy]
  clear hsx hsy hxs hys hvx hvy rx ry lx ly hX hY hlx hly
  have HM := run_make_row' (P := Tryd.prog) 25 3 (.int .i64 0) 8 Tryd.underlying25 info_intH rfl .i64 .i64 (xl + yl + 1) (by omega) (by omega)
  have ec : ((xl + yl + 1 : Nat) : Int) = (xl : Int) + yl + 1 := by omega
  rw [ec] at HM
  go_enter Tryd.func19, Tryd.ntmps19
  go_upto_region 2 with fail
  go_name_world W0 hW0
  have OA : Own W0 w.heap.size 27 #[.bool sx, .slice xa xl xc] := hW0 ▸ (by repeat' (first | (with_reducible assumption) | (with_reducible refine Own.drawnN ?_ _) | (with_reducible refine Own.drawn ?_) | (with_reducible refine Own.made_at ?_; first | rfl | (simp; done) | omega | (simp; omega)) | (with_reducible refine Own.more ?_ _) | (with_reducible refine Own.apart ?_ ?_ _ _; rotate_left; first | omega | (simp; done) | (simp; omega)) | (refine Own.put ?_ _ _)))
  have OB : Own W0 (w.heap.size + 1) 27 #[.bool sy, .slice ya yl yc] := hW0 ▸ (by repeat' (first | (with_reducible assumption) | (with_reducible refine Own.drawnN ?_ _) | (with_reducible refine Own.drawn ?_) | (with_reducible refine Own.made_at ?_; first | rfl | (simp; done) | omega | (simp; omega)) | (with_reducible refine Own.more ?_ _) | (with_reducible refine Own.apart ?_ ?_ _ _; rotate_left; first | omega | (simp; done) | (simp; omega)) | (refine Own.put ?_ _ _)))
  have OR : Own W0 (w.heap.size + 2) 27 #[.bool false, .slice none 0 0] := hW0 ▸ (by repeat' (first | (with_reducible assumption) | (with_reducible refine Own.drawnN ?_ _) | (with_reducible refine Own.drawn ?_) | (with_reducible refine Own.made_at ?_; first | rfl | (simp; done) | omega | (simp; omega)) | (with_reducible refine Own.more ?_ _) | (with_reducible refine Own.apart ?_ ?_ _ _; rotate_left; first | omega | (simp; done) | (simp; omega)) | (refine Own.put ?_ _ _)))
  have OO : Own W0 (w.heap.size + 3) 3 (cells (List.replicate (xl + yl + 1) 0)) := hW0 ▸ (by rw [cells_made]; repeat' (first | (with_reducible assumption) | (with_reducible refine Own.drawnN ?_ _) | (with_reducible refine Own.drawn ?_) | (with_reducible refine Own.made_at ?_; first | rfl | (simp; done) | omega | (simp; omega)) | (with_reducible refine Own.more ?_ _) | (with_reducible refine Own.apart ?_ ?_ _ _; rotate_left; first | omega | (simp; done) | (simp; omega)) | (refine Own.put ?_ _ _)))
  have hB0 : Below w.heap.size w W0 := hW0 ▸ (by repeat' (first | (with_reducible exact Below.refl _ _) | (with_reducible assumption) | (with_reducible refine below_drewN ?_ _) | (with_reducible refine Below.drew ?_) | (with_reducible refine Below.alloc ?_ ?_ _) | (with_reducible refine Below.setCell ?_ ?_ _) | (with_reducible refine then_ ?_ (by with_reducible assumption) ?_) | (with_reducible exact Nat.le_refl _) | (with_reducible exact Nat.le_succ _) | (with_reducible exact Nat.le_succ_of_le (by with_reducible assumption)) | omega | (simp; done) | (simp; omega) | (exact Nat.le_succ _) | (exact Nat.le_succ_of_le (by with_reducible assumption))))
  clear hW0 HM ec
  go_wp2
  go_loopg [6] xl (fun g i wr => ∃ (k : Nat) (o : List Int), g + k = xl ∧ i = .int .i64 k ∧ o.length = xl + yl + 1 ∧ Dg o ∧ Hid (vl o = vl (xs.take k) * vl ys) ∧ Own wr w.heap.size 27 #[.bool sx, .slice xa xl xc] ∧ Own wr (w.heap.size + 1) 27 #[.bool sy, .slice ya yl yc] ∧ Own wr (w.heap.size + 2) 27 #[.bool false, .slice none 0 0] ∧ Own wr (w.heap.size + 3) 3 (cells o) ∧ Below w.heap.size w wr)
  case atStart =>
    exact ⟨0, List.replicate (xl + yl + 1) 0, rfl, rfl, by simp, Dg.replicate _, Lib.hid (by rw [vl_replicate]; simp [vl]), OA, OB, OR, OO, hB0⟩
  case round =>
    clear OA OB OR OO hB0
    obtain ⟨k, o, hk, rfl, hlo, hdo, hvo, OA, OB, OR, OO, hB⟩ := hrel
    obtain ⟨G, hG⟩ : ∃ G, G = gk := ⟨_, rfl⟩
    obtain ⟨P1, P2, P3⟩ := OA.at_
    obtain ⟨Q1, Q2, Q3⟩ := OB.at_
    by_cases hkx : k < xl
    · have hk1 : (k : Int) < xl := by omega
      obtain ⟨x0, hx0⟩ : ∃ d, xs[k]? = some d := ⟨xs[k]'(by have := LX.out; omega), by simp⟩
      obtain ⟨x1, x2⟩ := HDX.out.at hx0
      replace hx0 := Lib.hid hx0
      go_wp2
      go_loopg [7, 8] (yl + 1) (fun g c j wr => ∃ (m : Nat) (o : List Int) (c0 : Int), g + m = yl + 1 ∧ j = .int .i64 m ∧ c = .int .i64 c0 ∧ 0 ≤ c0 ∧ c0 ≤ 65535 ∧ o.length = xl + yl + 1 ∧ Dg o ∧ Hid (vl o + 65536 ^ (k + m) * c0 = vl (xs.take k) * vl ys + 65536 ^ k * (x0 * vl (ys.take m))) ∧ Own wr w.heap.size 27 #[.bool sx, .slice xa xl xc] ∧ Own wr (w.heap.size + 1) 27 #[.bool sy, .slice ya yl yc] ∧ Own wr (w.heap.size + 2) 27 #[.bool false, .slice none 0 0] ∧ Own wr (w.heap.size + 3) 3 (cells o) ∧ Below w.heap.size w wr)
      case atStart =>
        exact ⟨0, o, 0, rfl, rfl, rfl, by omega, by omega, hlo, hdo, Lib.hid (by rw [hvo.out]; simp [vl]), OA, OB, OR, OO, hB⟩
      case round =>
        clear OA OB OR OO hB P1 P2 P3 Q1 Q2 Q3 hlo hdo hvo
        obtain ⟨m, o, c0, hm, rfl, rfl, c1, c2, hlo, hdo, hvo, OA, OB, OR, OO, hB⟩ := hrel
        obtain ⟨P1, P2, P3⟩ := OA.at_
        obtain ⟨Q1, Q2, Q3⟩ := OB.at_
        obtain ⟨R1, R2, R3⟩ := OO.at_
        replace hlo := Lib.hid hlo
        by_cases hmy : m < yl
        · have hm1 : (m : Int) < yl := by omega
          obtain ⟨y0, hy0⟩ : ∃ d, ys[m]? = some d := ⟨ys[m]'(by have := LY.out; omega), by simp⟩
          obtain ⟨y1, y2⟩ := HDY.out.at hy0
          obtain ⟨e0, he0⟩ : ∃ d, o[k + m]? = some d := ⟨o[k + m]'(by have := hlo.out; omega), by simp⟩
          obtain ⟨e1, e2⟩ := hdo.at he0
          obtain ⟨b1, b2, b3, b4⟩ := mul_bound e1 e2 c1 c2 x1 x2 y1 y2
          have HI := Lib.hid (mul_inner he0 hy0 hvo.out)
          obtain ⟨xb, xo, rfl, hcx0, hxb⟩ := DRow.at_ RX.out hx0.out
          obtain ⟨yb, yo, rfl, hcy0, hyb⟩ := DRow.at_ RY.out hy0
          have hcx : wr.cell? ⟨xb, xo + k, none⟩ = some (.int .i64 x0) := by rw [hB.cell (cell_lt hcx0)]; exact hcx0
          have hcy : wr.cell? ⟨yb, yo + m, none⟩ = some (.int .i64 y0) := by rw [hB.cell (cell_lt hcy0)]; exact hcy0
          have hco : wr.cell? ⟨w.heap.size + 3, k + m, none⟩ = some (.int .i64 e0) := (R1 (k + m)).trans (cells_get _ _ he0)
          have SET := Lib.hid (cells_set o (k + m) ((e0 + c0 + x0 * y0) % 65536))
          have HLO := Lib.hid (show (o.set (k + m) ((e0 + c0 + x0 * y0) % 65536)).length = xl + yl + 1 by rw [List.length_set]; exact hlo.out)
          have HDO := Lib.hid (hdo.set (k + m) (d := (e0 + c0 + x0 * y0) % 65536) (by omega) (by omega))
          have ekm : (k : Int) + (m : Int) = ((k + m : Nat) : Int) := by omega
          have ekl : ((k + m : Nat) : Int) < (xl : Int) + yl + 1 := by omega
          obtain ⟨km, hkm⟩ : ∃ km, k + m = km := ⟨_, rfl⟩
          rw [hkm] at SET HLO HDO HI hco ekm ekl
          clear hcx0 hcy0 he0 hy0 R1 hvo hdo hlo hkm
          obtain ⟨p, hp⟩ : ∃ p, x0 * y0 = p := ⟨_, rfl⟩
          rw [hp] at b1 b2 b3 b4 HI SET HLO HDO
          go_wp2
          go_quiet (fail)
          rename_i nq
          go_wp2
          go_roundg (gk - 1)
          case measure => omega
          case rel => exact ⟨m + 1, _, _, by omega, by go_num, rfl, b3, b4, HLO.out, HDO.out, HI.out, (OA.drawnN nq).apart (by omega) _ _, (OB.drawnN nq).apart (by omega) _ _, (OR.drawnN nq).apart (by omega) _ _, ((OO.drawnN nq).put _ _).as SET.out, (below_drewN hB nq).setCell (by show w.heap.size ≤ w.heap.size + 3; omega) _⟩
        · have hm1 : ¬ (m : Int) < yl := by omega
          by_cases hc : 0 < c0
          · have hroom := mul_room hdo HDX.out HDY.out hx0.out (show ys.length ≤ m by have := LY.out; omega) hc hvo.out
            have hmy2 : m = yl := by have := LY.out; omega
            obtain ⟨e0, he0⟩ : ∃ d, o[k + m]? = some d := ⟨o[k + m]'(by have := hlo.out; omega), by simp⟩
            obtain ⟨e1, e2⟩ := hdo.at he0
            have HI := Lib.hid (mul_over he0 (show ys.length ≤ m by have := LY.out; omega) hvo.out)
            have hco : wr.cell? ⟨w.heap.size + 3, k + m, none⟩ = some (.int .i64 e0) := (R1 (k + m)).trans (cells_get _ _ he0)
            have SET := Lib.hid (cells_set o (k + m) ((e0 + c0) % 65536))
            have HLO := Lib.hid (show (o.set (k + m) ((e0 + c0) % 65536)).length = xl + yl + 1 by rw [List.length_set]; exact hlo.out)
            have HDO := Lib.hid (hdo.set (k + m) (d := (e0 + c0) % 65536) (by omega) (by omega))
            have ekm : (k : Int) + (m : Int) = ((k + m : Nat) : Int) := by omega
            have ekl : ((k + m : Nat) : Int) < (xl : Int) + yl + 1 := by omega
            have b3 : 0 ≤ (e0 + c0) / 65536 := by omega
            have b4 : (e0 + c0) / 65536 ≤ 65535 := by omega
            obtain ⟨km, hkm⟩ : ∃ km, k + m = km := ⟨_, rfl⟩
            rw [hkm] at SET HLO HDO HI hco ekm ekl
            have hgk : 0 < gk := by omega
            clear he0 R1 hvo hdo hlo hkm hmy2 hroom
            go_wp2
            go_roundg (gk - 1)
            case measure => omega
            case rel => exact ⟨m + 1, _, _, by omega, by go_num, rfl, b3, b4, HLO.out, HDO.out, HI.out, OA.apart (by omega) _ _, OB.apart (by omega) _ _, OR.apart (by omega) _ _, (OO.put _ _).as SET.out, hB.setCell (by show w.heap.size ≤ w.heap.size + 3; omega) _⟩
          · obtain rfl : c0 = 0 := by omega
            have HV := Lib.hid (show vl o = vl (xs.take (k + 1)) * vl ys by
              have := hvo.out
              rw [List.take_of_length_le (show ys.length ≤ m by have := LY.out; omega), mul_outer hx0.out] at this
              simpa using this)
            have hlo2 := hlo
            clear hvo R1 hlo hc
            go_wp2
            go_roundg (G - 1)
            case measure => omega
            case rel => exact ⟨k + 1, o, by omega, by go_num, hlo2.out, hdo, HV, OA, OB, OR, OO, hB⟩
    · have hk1 : ¬ (k : Int) < xl := by omega
      have hke : k = xl := by omega
      have hv2 : vl o = vl xs * vl ys := by have := hvo.out; rwa [List.take_of_length_le (by have := LX.out; omega)] at this
      have OD : DRow wr T (w.heap.size + 3) (some ⟨w.heap.size + 3, 0, none⟩) (xl + yl + 1) (xl + yl + 1) o := own_drow OO hlo (by unfold maxLen; omega) (Nat.le_refl _)
      have TR1 := trim_num T (w.heap.size + 3) (sx != sy) _ _ _ o _ wr OD hdo hv2
      rw [HZ.out] at TR1
      have TR := Lib.hid TR1
      have hs1 := OO.in_
      clear TR1 OD OO hdo hvo hv2 hlo HZ RX RY LX LY HDX HDY hke
      go_wp2_with (go_at_call 33; refine TR.out.mono ?_; rintro e w1 ⟨v2, rfl, hn, hb1⟩; obtain ⟨sn, na, nl, nc, rfl⟩ := hn.shape; have HN := Lib.hid hn; clear hn; have OR2 := OR.keep hb1; obtain ⟨r1, r2, r3⟩ := OR2.at_; have hB1 := then_ hB hb1 hB.size; clear OA OB OR OR2 P1 P2 P3 Q1 Q2 Q3 TR hb1 hB)
      refine bodyPost_ret (v := .agg #[.bool sn, .slice na nl nc]) (by simp [results, Tryd.results19, go_sem, r1]) rfl ⟨_, rfl, ?_, ?_⟩
      · exact ((HN.out.put (by omega) (by omega) _).put (by omega) (by omega) _).mono (Nat.le_refl _) (by omega)
      · repeat' (first | (with_reducible exact Below.refl _ _) | (with_reducible assumption) | (with_reducible refine below_drewN ?_ _) | (with_reducible refine Below.drew ?_) | (with_reducible refine Below.alloc ?_ ?_ _) | (with_reducible refine Below.setCell ?_ ?_ _) | (with_reducible refine then_ ?_ (by with_reducible assumption) ?_) | (with_reducible exact Nat.le_refl _) | (with_reducible exact Nat.le_succ _) | (with_reducible exact Nat.le_succ_of_le (by with_reducible assumption)) | omega | (simp; done) | (simp; omega) | (exact Nat.le_succ _) | (exact Nat.le_succ_of_le (by with_reducible assumption)))
end Go.Proofs.YtdnjkminicmffaaDoor
end
