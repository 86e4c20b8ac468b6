/- merged: What a block of memory that a call made is known to hold, and that it holds it still behind calls that write nothing old. It speaks of no function. The contract of wide.timesWord. Conditions: words. The contract of wide.up over words, by how many whole words are moved. Conditions: words; n not below 0. The contract of wide.down over words, by how many whole words are moved. Conditions: words; n not below 0. The contracts of wide.up and wide.down over numbers. Conditions: the number of places not below 0; down: a number that a size can be. The contracts of wide.below and wide.plus over words. No condition but that the arguments are words. The contracts of wide.turned, Of, length. Conditions: those that each theorem names. -/
import Derived.Test.YtdkmclaihojknaaBytes
import Derived.Below
import Derived.Laws.Rows
import Derived.Laws.OwnMore
import Derived.Deep.Draws
import Derived.Test.YtdkmclaihojknaaRatM
import Derived.WalkSpells
import Derived.Handy
import Derived.Deep.QuietTactic
import Derived.BigQuiet
import Derived.Test.YtdkmclaihojknaaShift
import Derived.Shelf.Spec.BitsCarry
import Derived.Deep.RegionHeld3
import Derived.Test.YtdkmclaihojknaaShelf
import Derived.Lib.ItoaNum
section
namespace Go.Proofs.Ytdkmclaihojknaa
open Go.ChangeShapes Go.WideShapes Go.ChangeAt Go.RowKit
set_option linter.unusedVariables false

/-- block p holds just the cells cs, and they may be written -/
def Own (w : World) (p : Nat) (T : TypeId) (cs : Array Value) : Prop := w.heap[p]? = some (.cells cs T (0, 0))
theorem Own.in_ {w : World} {p : Nat} {T : TypeId} {cs : Array Value} (h : Own w p T cs) : p < w.heap.size := by
  by_cases hp : p < w.heap.size
  · exact hp
  · unfold Own at h
    rw [Array.getElem?_eq_none (by omega)] at h
    cases h
theorem Own.made (w : World) (T : TypeId) (cs : Array Value) : Own (w.alloc (.cells cs T)) w.heap.size T cs := by
  unfold Own World.alloc
  simp
theorem Own.more {w : World} {p : Nat} {T : TypeId} {cs : Array Value} (h : Own w p T cs) (o : Obj) : Own (w.alloc o) p T cs := by
  unfold Own
  rw [Below.heap_alloc w o p h.in_]
  exact h
theorem Own.keep {w w' : World} {p : Nat} {T : TypeId} {cs : Array Value} (h : Own w p T cs) (hb : Below w.heap.size w w') : Own w' p T cs := by
  unfold Own
  rw [hb.block p h.in_]
  exact h
theorem Own.drawn {w : World} {p : Nat} {T : TypeId} {cs : Array Value} (h : Own w p T cs) : Own w.drew p T cs := h
theorem Own.drawnN {w : World} {p : Nat} {T : TypeId} {cs : Array Value} (h : Own w p T cs) (n : Nat) : Own (w.drewN n) p T cs := h
theorem Own.put {w : World} {p : Nat} {T : TypeId} {cs : Array Value} (h : Own w p T cs) (i : Nat) (v : Value) : Own (w.setCell ⟨p, i, none⟩ v) p T (cs.setIfInBounds i v) := by
  unfold Own at h ⊢
  simp [World.setCell, Array.getElem?_modify, h]
theorem Own.apart {w : World} {p : Nat} {T : TypeId} {cs : Array Value} (h : Own w p T cs) {q : Nat} (hq : p ≠ q) (i : Nat) (v : Value) : Own (w.setCell ⟨q, i, none⟩ v) p T cs := by
  unfold Own
  rw [Below.heap_setCell w ⟨q, i, none⟩ v p hq]
  exact h
theorem Own.made_at {w : World} {p : Nat} {T : TypeId} {cs : Array Value} (h : p = w.heap.size) : Own (w.alloc (.cells cs T)) p T cs := h ▸ Own.made w T cs
theorem Own.as {w : World} {p : Nat} {T : TypeId} {cs cs' : Array Value} (h : Own w p T cs) (e : cs = cs') : Own w p T cs' := e ▸ h
theorem Own.at_ {w : World} {p : Nat} {T : TypeId} {cs : Array Value} (h : Own w p T cs) : (∀ i, w.cell? ⟨p, i, none⟩ = cs[i]?) ∧ (∀ i, w.frozen? ⟨p, i, none⟩ = false) ∧ p < w.heap.size := by
  refine ⟨fun i => ?_, fun i => ?_, h.in_⟩
  · unfold Own at h; simp [World.cell?, h]
  · unfold Own at h; simp [World.frozen?, h]
theorem keep {w w' : World} (hb : Below w.heap.size w w') {p q : Nat} {v : Value} (h : w.cell? ⟨p, q, none⟩ = some v) : w'.cell? ⟨p, q, none⟩ = some v :=
  (hb.cell (p := ⟨p, q, none⟩) (cell_lt h)).trans h
theorem below_drewN {B : Nat} {a w : World} (h : Below B a w) (q : Nat) : Below B a (w.drewN q) := ⟨h.os, h.tape, h.output, h.size, h.block⟩
theorem setCell_drawn (w : World) (n : Nat) (p : Addr) (v : Value) : (w.drewN n).setCell p v = (w.setCell p v).drewN n := rfl
/-- a call behind others -/
theorem then_ {B : Nat} {a w w' : World} (h : Below B a w) (hb : Below w.heap.size w w') (hB : B ≤ w.heap.size) : Below B a w' := h.trans (hb.mono hB)
end Go.Proofs.Ytdkmclaihojknaa
end
section
namespace Go.Proofs.Ytdkmclaihojknaa
open Go.ChangeShapes Go.WideShapes Go.ChangeAt Go.RowKit
set_option linter.unusedVariables false

theorem tup2_eq {k k' : IntKind} {a a' b b' : Int} (h : a = a') (h' : b = b') : Ending.returned (.tuple #[.int k a, .int k' b]) = .returned (.tuple #[.int k a', .int k' b']) := by rw [h, h']
theorem timesWord_gen (a b : Int) (h0 : 0 ≤ a) (h1 : a ≤ 18446744073709551615) (h2 : 0 ≤ b) (h3 : b ≤ 18446744073709551615) (w : World) :
    Calls Try.prog 79 #[.int .u64 a, .int .u64 b] w fun e w' => e = .returned (.tuple #[.int .u64 (a * b % 18446744073709551616), .int .u64 (a * b / 18446744073709551616)]) ∧ w = w' := by
  have H := Lib.hid (tw_all a b h0 h1 h2 h3)
  go_enter Try.func79, Try.ntmps79
  go_wp2
  go_ret2
  exact ⟨tup2_eq H.out.1 H.out.2, rfl⟩
end Go.Proofs.Ytdkmclaihojknaa
end
section
namespace Go.Proofs.Ytdkmclaihojknaa
open Go.ChangeShapes Go.WideShapes Go.ChangeAt Go.RowKit
set_option linter.unusedVariables false

/-- a word moved up, alone and with what comes in from the word below -/
def su (x r : Int) : Int := IntKind.u64.wrap (x * 2 ^ r.toNat)
def so (x y r : Int) : Int := bits .or .u64 (IntKind.u64.wrap (x * 2 ^ r.toNat)) (y / 2 ^ (64 - r).toNat)
end Go.Proofs.Ytdkmclaihojknaa
end
section
namespace Go.Proofs.Ytdkmclaihojknaa
open Go.ChangeShapes Go.WideShapes Go.ChangeAt Go.RowKit
set_option linter.unusedVariables false

/-- a word moved down, alone and with what comes in from the word above -/
def sd (x r : Int) : Int := x / 2 ^ r.toNat
def sp (x y r : Int) : Int := bits .or .u64 (x / 2 ^ r.toNat) (IntKind.u64.wrap (y * 2 ^ (64 - r).toNat))
end Go.Proofs.Ytdkmclaihojknaa
end
section
namespace Go.Proofs.Ytdkmclaihojknaa
open Go.ChangeShapes Go.WideShapes Go.ChangeAt Go.RowKit
set_option linter.unusedVariables false

theorem div_words (a n r : Int) (k : Nat) (h : n.toNat = r.toNat + 64 * k) : a / 2 ^ n.toNat = a / 18446744073709551616 ^ k / 2 ^ r.toNat := by
  rw [pow_words n.toNat r.toNat k h, Int.mul_comm, ← ediv2 a _ (Int.le_of_lt (Int.pow_pos (by decide)))]
end Go.Proofs.Ytdkmclaihojknaa
end
section
namespace Go.Proofs.Ytdkmclaihojknaa
open Go.ChangeShapes Go.WideShapes Go.ChangeAt Go.RowKit Go.Shelf
set_option linter.unusedVariables false

theorem below_gen (x0 x1 x2 x3 : Int) (h : W4 x0 x1 x2 x3) (w : World) :
    Calls Try.prog 78 #[.agg #[.int .u64 x0, .int .u64 x1, .int .u64 x2, .int .u64 x3]] w fun e w' => e = .returned (.bool (decide (9223372036854775808 ≤ x3))) ∧ ∃ c, w' = w.alloc (.cells c 103) := by
  obtain ⟨a0, b0, a1, b1, a2, b2, a3, b3⟩ := h
  go_enter Try.func78, Try.ntmps78
  go_wp2
  go_ret
  exact ⟨by simp, _, rfl⟩

theorem add64 (x y c : Int) (hx : 0 ≤ x) (hy : 0 ≤ y) (hc0 : 0 ≤ c) (hc : c ≤ 1) (w : World) : (callFunc 80 #[.int .u64 x, .int .u64 y, .int .u64 c]).run Try.prog w =
    .ok (.value (.tuple #[.int .u64 ((x + y + c) % 18446744073709551616), .int .u64 ((x + y + c) / 18446744073709551616)])) w := by
  rw [run_callFunc_extern Try.func80 (by kernel_rfl) (by kernel_rfl) (by kernel_rfl) (e := add64Entry) (by kernel_rfl), run_add64 x y c (by omega) (by omega) (by omega) (by omega)]
  simp only [Result.andThen]
theorem add64_0 (x y : Int) (hx : 0 ≤ x) (hy : 0 ≤ y) (w : World) : (callFunc 80 #[.int .u64 x, .int .u64 y, .int .u64 0]).run Try.prog w =
    .ok (.value (.tuple #[.int .u64 ((x + y) % 18446744073709551616), .int .u64 ((x + y) / 18446744073709551616)])) w := by
  simpa using add64 x y 0 hx hy (Int.le_refl 0) (by decide) w
/-- the carries of a sum -/
def k1 (x0 y0 : Int) : Int := (x0 + y0) / 18446744073709551616
def kn (x y c : Int) : Int := (x + y + c) / 18446744073709551616
theorem k1_lo (x0 y0 : Int) (h : 0 ≤ x0) (h' : 0 ≤ y0) : 0 ≤ k1 x0 y0 := by unfold k1; omega
theorem k1_hi (x0 y0 : Int) (h : x0 ≤ 18446744073709551615) (h' : y0 ≤ 18446744073709551615) : k1 x0 y0 ≤ 1 := by unfold k1; omega
theorem kn_lo (x y c : Int) (h : 0 ≤ x) (h' : 0 ≤ y) (h2 : 0 ≤ c) : 0 ≤ kn x y c := by unfold kn; omega
theorem kn_hi (x y c : Int) (h : x ≤ 18446744073709551615) (h' : y ≤ 18446744073709551615) (h2 : c ≤ 1) : kn x y c ≤ 1 := by unfold kn; omega
def s1 (x0 y0 : Int) : Int := (x0 + y0) % 18446744073709551616
def sn (x y c : Int) : Int := (x + y + c) % 18446744073709551616
theorem add64_1 (x y : Int) (hx : 0 ≤ x) (hy : 0 ≤ y) (w : World) : (callFunc 80 #[.int .u64 x, .int .u64 y, .int .u64 0]).run Try.prog w =
    .ok (.value (.tuple #[.int .u64 (s1 x y), .int .u64 (k1 x y)])) w := add64_0 x y hx hy w
theorem add64_n (x y c : Int) (hx : 0 ≤ x) (hy : 0 ≤ y) (hc0 : 0 ≤ c) (hc : c ≤ 1) (w : World) : (callFunc 80 #[.int .u64 x, .int .u64 y, .int .u64 c]).run Try.prog w =
    .ok (.value (.tuple #[.int .u64 (sn x y c), .int .u64 (kn x y c)])) w := add64 x y c hx hy hc0 hc w
end Go.Proofs.Ytdkmclaihojknaa
end
section
namespace Go.Proofs.Ytdkmclaihojknaa
open Go.ChangeShapes Go.WideShapes Go.ChangeAt Go.RowKit
set_option linter.unusedVariables false

theorem xor_max (x : Int) (h0 : 0 ≤ x) (h1 : x ≤ 18446744073709551615) : bits BinOp.xor IntKind.u64 IntKind.u64.max x = 18446744073709551615 - x := by
  obtain ⟨n, rfl⟩ := Int.eq_ofNat_of_zero_le h0
  have e : IntKind.u64.max = ((18446744073709551615 : Nat) : Int) := rfl
  rw [e]
  refine (u64_xor_nat 18446744073709551615 n (by omega) (by omega)).trans ?_
  rw [Nat.xor_comm]
  have h1 : (BitVec.ofNat 64 n ^^^ BitVec.allOnes 64).toNat = n ^^^ 18446744073709551615 := by
    rw [BitVec.toNat_xor, BitVec.toNat_ofNat, BitVec.toNat_allOnes, Nat.mod_eq_of_lt (by omega)]
  rw [← h1, BitVec.xor_allOnes, BitVec.toNat_not, BitVec.toNat_ofNat, Nat.mod_eq_of_lt (by omega)]
  omega
theorem L_turn (z : Int) : 18446744073709551615 - L0 z = L0 (-z - 1) ∧ 18446744073709551615 - L1 z = L1 (-z - 1) ∧ 18446744073709551615 - L2 z = L2 (-z - 1) ∧ 18446744073709551615 - L3 z = L3 (-z - 1) := by
  unfold L0 L1 L2 L3; omega
theorem L_of (n : Int) (h0 : -9223372036854775808 ≤ n) (h1 : n ≤ 9223372036854775807) : IntKind.u64.wrap n = L0 n ∧ IntKind.u64.wrap (n / 9223372036854775808) = L1 n ∧ IntKind.u64.wrap (n / 9223372036854775808) = L2 n ∧ IntKind.u64.wrap (n / 9223372036854775808) = L3 n := by
  simp only [IntKind.wrap_u64]
  unfold L0 L1 L2 L3
  by_cases h : n < 0
  · have e1 : n / 9223372036854775808 = -1 := by omega
    have e2 : n / 18446744073709551616 = -1 := by omega
    rw [e1, e2]; exact ⟨rfl, by decide, by decide, by decide⟩
  · have e1 : n / 9223372036854775808 = 0 := by omega
    have e2 : n / 18446744073709551616 = 0 := by omega
    rw [e1, e2]; exact ⟨rfl, by decide, by decide, by decide⟩
theorem of_any (n : Int) (h0 : -9223372036854775808 ≤ n) (h1 : n ≤ 9223372036854775807) (w : World) :
    Calls Try.prog 77 #[.int .i64 n] w fun e w' => e = .returned (.agg #[.int .u64 (L0 n), .int .u64 (L1 n), .int .u64 (L2 n), .int .u64 (L3 n)]) ∧ ∃ c1, w' = (w.alloc (.cells c1 103)) := by
  obtain ⟨t0, t1, t2, t3⟩ := L_of n h0 h1
  rw [← t0, ← t3]
  rw [show L1 n = IntKind.u64.wrap (n / 9223372036854775808) from t1.symm, show L2 n = IntKind.u64.wrap (n / 9223372036854775808) from t2.symm]
  clear t0 t1 t2 t3
  go_enter Try.func77, Try.ntmps77
  go_wp2
  exact bodyPost_ret (by simp [results, Try.results77, go_sem]) rfl ⟨rfl, _, rfl⟩
/-- how many bits a word needs, a number of four -/
def wl (x : Int) : Int := Lib.bitLen x.toNat
def bl4 (x0 x1 x2 x3 : Int) : Int := if x3 = 0 then if x2 = 0 then if x1 = 0 then wl x0 else 64 + wl x1 else 128 + wl x2 else 192 + wl x3
theorem wl_le (x : Int) (h0 : 0 ≤ x) (h1 : x ≤ 18446744073709551615) : 0 ≤ wl x ∧ wl x ≤ 64 ∧ x < 2 ^ (wl x).toNat ∧ (x = 0 → wl x = 0) ∧ (x ≠ 0 → 1 ≤ wl x ∧ 2 ^ (wl x - 1).toNat ≤ x) := by
  obtain ⟨n, rfl⟩ := Int.eq_ofNat_of_zero_le h0
  unfold wl Lib.bitLen
  by_cases hn : n = 0
  · subst hn
    simp [Lib.bitLenAux]
  · obtain ⟨b1, b2, b3⟩ := Lib.bitLenAux_bounds 64 n (by omega) hn
    have b4 : Lib.bitLenAux 64 n ≤ 64 := Lib.bitLenAux_le 64 n 64 (by omega)
    have en : ((n : Int).toNat) = n := by omega
    rw [en]
    generalize Lib.bitLenAux 64 n = l at *
    refine ⟨by omega, by omega, ?_, by omega, fun _ => ⟨by omega, ?_⟩⟩
    · have : ((2 : Int) ^ (l : Int).toNat) = ((2 ^ l : Nat) : Int) := by rw [Int.toNat_natCast]; push_cast; rfl
      rw [this]; omega
    · have : ((2 : Int) ^ ((l : Int) - 1).toNat) = ((2 ^ (l - 1) : Nat) : Int) := by rw [show ((l : Int) - 1).toNat = l - 1 by omega]; push_cast; rfl
      rw [this]; omega
/-- how many bits a number needs -/
def blz (a : Int) : Int := bl4 (L0 a) (L1 a) (L2 a) (L3 a)
theorem pow_up (n : Nat) (l : Int) (h : 0 ≤ l) : (2 : Int) ^ ((n : Int) + l).toNat = 2 ^ n * 2 ^ l.toNat := by
  rw [show ((n : Int) + l).toNat = n + l.toNat by omega, Int.pow_add]
theorem bl_prop (a : Int) (h : Siz a) : 0 ≤ blz a ∧ blz a ≤ 256 ∧ a < 2 ^ (blz a).toNat ∧ (a ≠ 0 → 1 ≤ blz a ∧ 2 ^ (blz a - 1).toNat ≤ a) := by
  obtain ⟨a0, b0, a1, b1, a2, b2, a3, b3⟩ := W4.of a
  obtain ⟨h0, h1⟩ := h
  have e : a = L0 a + 18446744073709551616 * L1 a + 340282366920938463463374607431768211456 * L2 a + 6277101735386680763835789423207666416102355444464034512896 * L3 a := by unfold L0 L1 L2 L3; omega
  unfold blz bl4
  obtain ⟨k0, l0, m0, n0, o0⟩ := wl_le _ a0 b0
  obtain ⟨k1, l1, m1, n1, o1⟩ := wl_le _ a1 b1
  obtain ⟨k2, l2, m2, n2, o2⟩ := wl_le _ a2 b2
  obtain ⟨k3, l3, m3, n3, o3⟩ := wl_le _ a3 b3
  generalize L0 a = x0 at *; generalize L1 a = x1 at *; generalize L2 a = x2 at *; generalize L3 a = x3 at *
  have p1 : (2 : Int) ^ 64 = 18446744073709551616 := by decide +kernel
  have p2 : (2 : Int) ^ 128 = 340282366920938463463374607431768211456 := by decide +kernel
  have p3 : (2 : Int) ^ 192 = 6277101735386680763835789423207666416102355444464034512896 := by decide +kernel
  by_cases e3 : x3 = 0
  · rw [if_pos e3]
    by_cases e2 : x2 = 0
    · rw [if_pos e2]
      by_cases e1 : x1 = 0
      · rw [if_pos e1]
        refine ⟨k0, by omega, by omega, fun hn => ?_⟩
        obtain ⟨q1, q2⟩ := o0 (by omega)
        exact ⟨q1, by omega⟩
      · rw [if_neg e1]
        obtain ⟨q1, q2⟩ := o1 e1
        have r1 := pow_up 64 (wl x1) k1
        have r2 := pow_up 64 (wl x1 - 1) (by omega)
        rw [p1] at r1 r2
        have r3 : (((64 : Nat) : Int) + (wl x1 - 1)) = 64 + wl x1 - 1 := by omega
        rw [r3] at r2
        refine ⟨by omega, by omega, ?_, fun _ => ⟨by omega, ?_⟩⟩
        · rw [show (64 + wl x1).toNat = (((64 : Nat) : Int) + wl x1).toNat from rfl, r1]; omega
        · rw [r2]; omega
    · rw [if_neg e2]
      obtain ⟨q1, q2⟩ := o2 e2
      have r1 := pow_up 128 (wl x2) k2
      have r2 := pow_up 128 (wl x2 - 1) (by omega)
      rw [p2] at r1 r2
      have r3 : (((128 : Nat) : Int) + (wl x2 - 1)) = 128 + wl x2 - 1 := by omega
      rw [r3] at r2
      refine ⟨by omega, by omega, ?_, fun _ => ⟨by omega, ?_⟩⟩
      · rw [show (128 + wl x2).toNat = (((128 : Nat) : Int) + wl x2).toNat from rfl, r1]; omega
      · rw [r2]; omega
  · rw [if_neg e3]
    obtain ⟨q1, q2⟩ := o3 e3
    have r1 := pow_up 192 (wl x3) k3
    have r2 := pow_up 192 (wl x3 - 1) (by omega)
    rw [p3] at r1 r2
    have r3 : (((192 : Nat) : Int) + (wl x3 - 1)) = 192 + wl x3 - 1 := by omega
    rw [r3] at r2
    refine ⟨by omega, by omega, ?_, fun _ => ⟨by omega, ?_⟩⟩
    · rw [show (192 + wl x3).toNat = (((192 : Nat) : Int) + wl x3).toNat from rfl, r1]; omega
    · rw [r2]; omega
end Go.Proofs.Ytdkmclaihojknaa
end
