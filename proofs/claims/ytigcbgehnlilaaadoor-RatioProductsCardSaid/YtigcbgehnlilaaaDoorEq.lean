/- merged: What a block of memory that a call made is known to hold, and that it holds it still behind calls that write nothing old. It speaks of no function. The contract of wide.timesWord. Conditions: words. The contract of wide.compare: rows of words against each other. Conditions: the rows can be read, up to 8 words. What '==' says of two arrays of four words. No condition. -/
import Derived.Test.YtigcbgehnlilaaaDoorBytes
import Derived.Below
import Derived.Laws.Rows
import Derived.Laws.OwnMore
import Derived.Deep.Draws
import Derived.Test.YtigcbgehnlilaaaDoorNum
import Derived.WalkSpells
import Derived.Deep.QuietTactic
import Derived.BigQuiet
import Derived.Laws.StructEq
import Derived.Laws.Tables
import Derived.Laws.Cover2
import Derived.KernelRfl
section
namespace Go.Proofs.YtigcbgehnlilaaaDoor
open Go.ChangeShapes Go.WideShapes Go.ChangeAt Go.RowKit
set_option linter.unusedVariables false

/-- block p holds just the cells cs, and they may be written -/
def Own (w : World) (p : Nat) (T : TypeId) (cs : Array Value) : Prop := w.heap[p]? = some (.cells cs T (0, 0))
theorem Own.in_ {w : World} {p : Nat} {T : TypeId} {cs : Array Value} (h : Own w p T cs) : p < w.heap.size := by
  by_cases hp : p < w.heap.size
  · exact hp
  · unfold Own at h
    rw [Array.getElem?_eq_none (by omega)] at h
    cases h
theorem Own.made (w : World) (T : TypeId) (cs : Array Value) : Own (w.alloc (.cells cs T)) w.heap.size T cs := by
  unfold Own World.alloc
  simp
theorem Own.more {w : World} {p : Nat} {T : TypeId} {cs : Array Value} (h : Own w p T cs) (o : Obj) : Own (w.alloc o) p T cs := by
  unfold Own
  rw [Below.heap_alloc w o p h.in_]
  exact h
theorem Own.keep {w w' : World} {p : Nat} {T : TypeId} {cs : Array Value} (h : Own w p T cs) (hb : Below w.heap.size w w') : Own w' p T cs := by
  unfold Own
  rw [hb.block p h.in_]
  exact h
theorem Own.drawn {w : World} {p : Nat} {T : TypeId} {cs : Array Value} (h : Own w p T cs) : Own w.drew p T cs := h
theorem Own.drawnN {w : World} {p : Nat} {T : TypeId} {cs : Array Value} (h : Own w p T cs) (n : Nat) : Own (w.drewN n) p T cs := h
theorem Own.put {w : World} {p : Nat} {T : TypeId} {cs : Array Value} (h : Own w p T cs) (i : Nat) (v : Value) : Own (w.setCell ⟨p, i, none⟩ v) p T (cs.setIfInBounds i v) := by
  unfold Own at h ⊢
  simp [World.setCell, Array.getElem?_modify, h]
theorem Own.apart {w : World} {p : Nat} {T : TypeId} {cs : Array Value} (h : Own w p T cs) {q : Nat} (hq : p ≠ q) (i : Nat) (v : Value) : Own (w.setCell ⟨q, i, none⟩ v) p T cs := by
  unfold Own
  rw [Below.heap_setCell w ⟨q, i, none⟩ v p hq]
  exact h
theorem Own.made_at {w : World} {p : Nat} {T : TypeId} {cs : Array Value} (h : p = w.heap.size) : Own (w.alloc (.cells cs T)) p T cs := h ▸ Own.made w T cs
theorem Own.as {w : World} {p : Nat} {T : TypeId} {cs cs' : Array Value} (h : Own w p T cs) (e : cs = cs') : Own w p T cs' := e ▸ h
theorem Own.at_ {w : World} {p : Nat} {T : TypeId} {cs : Array Value} (h : Own w p T cs) : (∀ i, w.cell? ⟨p, i, none⟩ = cs[i]?) ∧ (∀ i, w.frozen? ⟨p, i, none⟩ = false) ∧ p < w.heap.size := by
  refine ⟨fun i => ?_, fun i => ?_, h.in_⟩
  · unfold Own at h; simp [World.cell?, h]
  · unfold Own at h; simp [World.frozen?, h]
theorem keep {w w' : World} (hb : Below w.heap.size w w') {p q : Nat} {v : Value} (h : w.cell? ⟨p, q, none⟩ = some v) : w'.cell? ⟨p, q, none⟩ = some v :=
  (hb.cell (p := ⟨p, q, none⟩) (cell_lt h)).trans h
theorem below_drewN {B : Nat} {a w : World} (h : Below B a w) (q : Nat) : Below B a (w.drewN q) := ⟨h.os, h.tape, h.output, h.size, h.block⟩
theorem setCell_drawn (w : World) (n : Nat) (p : Addr) (v : Value) : (w.drewN n).setCell p v = (w.setCell p v).drewN n := rfl
/-- a call behind others -/
theorem then_ {B : Nat} {a w w' : World} (h : Below B a w) (hb : Below w.heap.size w w') (hB : B ≤ w.heap.size) : Below B a w' := h.trans (hb.mono hB)
end Go.Proofs.YtigcbgehnlilaaaDoor
end
section
namespace Go.Proofs.YtigcbgehnlilaaaDoor
open Go.ChangeShapes Go.WideShapes Go.ChangeAt Go.RowKit
set_option linter.unusedVariables false

theorem tup2_eq {k k' : IntKind} {a a' b b' : Int} (h : a = a') (h' : b = b') : Ending.returned (.tuple #[.int k a, .int k' b]) = .returned (.tuple #[.int k a', .int k' b']) := by rw [h, h']
theorem timesWord_gen (a b : Int) (h0 : 0 ≤ a) (h1 : a ≤ 18446744073709551615) (h2 : 0 ≤ b) (h3 : b ≤ 18446744073709551615) (w : World) :
    Calls Tryd.prog 69 #[.int .u64 a, .int .u64 b] w fun e w' => e = .returned (.tuple #[.int .u64 (a * b % 18446744073709551616), .int .u64 (a * b / 18446744073709551616)]) ∧ w = w' := by
  have H := Lib.hid (tw_all a b h0 h1 h2 h3)
  go_enter Tryd.func69, Tryd.ntmps69
  go_wp2
  go_ret2
  exact ⟨tup2_eq H.out.1 H.out.2, rfl⟩
end Go.Proofs.YtigcbgehnlilaaaDoor
end
section
namespace Go.Proofs.YtigcbgehnlilaaaDoor
open Go.ChangeShapes Go.WideShapes Go.ChangeAt Go.RowKit
set_option linter.unusedVariables false

/-- what comparing the first n words, from the highest on, answers -/
def cmpW (X Y : Nat → Int) : Nat → Int
  | 0 => 0
  | n + 1 => if X n < Y n then -1 else if X n > Y n then 1 else cmpW X Y n
theorem cmpW_lt {X Y : Nat → Int} {n : Nat} (h : X n < Y n) : cmpW X Y (n + 1) = -1 := by simp [cmpW, h]
theorem cmpW_gt {X Y : Nat → Int} {n : Nat} (h : Y n < X n) : cmpW X Y (n + 1) = 1 := by
  have : ¬ X n < Y n := by omega
  simp [cmpW, h, this]
theorem cmpW_eq {X Y : Nat → Int} {n : Nat} (h : X n = Y n) : cmpW X Y (n + 1) = cmpW X Y n := by simp [cmpW, h]

set_option maxHeartbeats 1600000 in
set_option maxRecDepth 20000 in
theorem compare_any (X Y : Nat → Int) (p q n c d : Nat) (hn : n ≤ 8) (w : World) (hX : ∀ i, i < n → w.cell? ⟨p, i, none⟩ = some (.int .u64 (X i))) (hY : ∀ i, i < n → w.cell? ⟨q, i, none⟩ = some (.int .u64 (Y i))) :
    Calls Tryd.prog 67 #[.slice (some ⟨p, 0, none⟩) n c, .slice (some ⟨q, 0, none⟩) n d] w fun e w' => e = .returned (.int .i64 (cmpW X Y n)) ∧ ∃ m, w' = w.drewN m := by
  have HX := Lib.hid hX; have HY := Lib.hid hY
  clear hX hY
  go_enter Tryd.func67, Tryd.ntmps67
  go_wp2
  go_loopw [5] (fun i wr => ∃ k m : Nat, k ≤ n ∧ Hid (cmpW X Y n = cmpW X Y k) ∧ i = .int .i64 ((k : Int) - 1) ∧ wr = w.drewN m) (fun i _ => (intOf i + 1).toNat)
  case atStart => exact ⟨n, 0, Nat.le_refl _, rfl, rfl, by rw [World.drewN_zero]⟩
  case round =>
    obtain ⟨k, m, hk, HK, rfl, rfl⟩ := hrel
    by_cases hk0 : k = 0
    · subst hk0
      go_wp2
      go_ret
      exact ⟨ret_eq (by rw [HK.out]; rfl), m, rfl⟩
    · obtain ⟨j, rfl⟩ : ∃ j, k = j + 1 := ⟨k - 1, by omega⟩
      have hx := HX.out j (by omega)
      have hy := HY.out j (by omega)
      have i0 : (0 : Int) ≤ (j : Int) := by omega
      have i1 : (j : Int) < (n : Int) := by omega
      have i2 : ((j + 1 : Nat) : Int) - 1 = (j : Int) := by omega
      rw [i2]
      clear i2 hk0
      by_cases hl : X j < Y j
      · have HL := Lib.hid (cmpW_lt hl)
        go_wp2
        go_region
        all_goals
          go_wp2
          go_ret
          exact ⟨ret_eq (by rw [HK.out, HL.out]), m + 1, rfl⟩
      · by_cases hg : Y j < X j
        · have HL := Lib.hid (cmpW_gt hg)
          have d1 : decide (X j < Y j) = false := by simpa using hl
          clear hl
          go_wp2
          go_region
          all_goals
            go_wp2
            go_region
            all_goals
              go_wp2
              go_ret
              exact ⟨ret_eq (by rw [HK.out, HL.out]), m + 1 + 1, rfl⟩
        · have HL := Lib.hid (cmpW_eq (X := X) (Y := Y) (n := j) (by omega))
          have d1 : decide (X j < Y j) = false := by simpa using hl
          have d2 : decide (Y j < X j) = false := by simpa using hg
          clear hl hg
          go_wp2
          go_region
          all_goals
            go_wp2
            go_region
            all_goals
              go_wp2
              go_roundw
              case rel => exact ⟨j, m + 1 + 1, by omega, by unfold Hid; rw [HK.out, HL.out], rfl, rfl⟩
              case measure => simp [intOf]
end Go.Proofs.YtigcbgehnlilaaaDoor
end
section
namespace Go.Proofs.YtigcbgehnlilaaaDoor
open Go.ChangeShapes Go.WideShapes Go.ChangeAt Go.RowKit
set_option linter.unusedVariables false

theorem eq_Int (x0 x1 x2 x3 : Int) (y0 y1 y2 y3 : Int) (w : World) : (Op.equalIn 10000 24 (.agg #[.int .u64 x0, .int .u64 x1, .int .u64 x2, .int .u64 x3]) (.agg #[.int .u64 y0, .int .u64 y1, .int .u64 y2, .int .u64 y3])).run Tryd.prog w = .ok (decide (x0 = y0 ∧ x1 = y1 ∧ x2 = y2 ∧ x3 = y3)) w := by
  have u3 := Tryd.underlying22
  have a3 := Tryd.isAgg22
  have z3 := Tryd.sizeOf22
  rw [show (10000 : Nat) = 9999 + 1 from rfl, Op.equalIn]
  simp only [Sem.run_bind, run_underlying Tryd.underlying24, Result.andThen_ok]
  simp only [Std.Legacy.Range.forIn_eq_forIn_range', Std.Legacy.Range.size, Nat.sub_zero, Nat.add_sub_cancel, Nat.div_one, List.range'_succ, List.range'_zero, List.forIn_cons, List.forIn_nil]
  go_simp
  by_cases h0 : x0 = y0 <;> by_cases h1 : x1 = y1 <;> by_cases h2 : x2 = y2 <;> by_cases h3 : x3 = y3 <;> simp [h0, h1, h2, h3]
theorem eq_size (x0 x1 x2 x3 : Int) (y0 y1 y2 y3 : Int) (w : World) : (Op.equalIn 10000 77 (.agg #[.int .u64 x0, .int .u64 x1, .int .u64 x2, .int .u64 x3]) (.agg #[.int .u64 y0, .int .u64 y1, .int .u64 y2, .int .u64 y3])).run Tryd.prog w = .ok (decide (x0 = y0 ∧ x1 = y1 ∧ x2 = y2 ∧ x3 = y3)) w := by
  have u3 := Tryd.underlying22
  have a3 := Tryd.isAgg22
  have z3 := Tryd.sizeOf22
  rw [show (10000 : Nat) = 9999 + 1 from rfl, Op.equalIn]
  simp only [Sem.run_bind, run_underlying Tryd.underlying77, Result.andThen_ok]
  simp only [Std.Legacy.Range.forIn_eq_forIn_range', Std.Legacy.Range.size, Nat.sub_zero, Nat.add_sub_cancel, Nat.div_one, List.range'_succ, List.range'_zero, List.forIn_cons, List.forIn_nil]
  go_simp
  by_cases h0 : x0 = y0 <;> by_cases h1 : x1 = y1 <;> by_cases h2 : x2 = y2 <;> by_cases h3 : x3 = y3 <;> simp [h0, h1, h2, h3]
theorem eq_arr (x0 x1 x2 x3 : Int) (y0 y1 y2 y3 : Int) (w : World) : (Op.equalIn 10000 23 (.agg #[.int .u64 x0, .int .u64 x1, .int .u64 x2, .int .u64 x3]) (.agg #[.int .u64 y0, .int .u64 y1, .int .u64 y2, .int .u64 y3])).run Tryd.prog w = .ok (decide (x0 = y0 ∧ x1 = y1 ∧ x2 = y2 ∧ x3 = y3)) w := by
  have u3 := Tryd.underlying22
  have a3 := Tryd.isAgg22
  have z3 := Tryd.sizeOf22
  rw [show (10000 : Nat) = 9999 + 1 from rfl, Op.equalIn]
  simp only [Sem.run_bind, run_underlying Tryd.underlying23, Result.andThen_ok]
  simp only [Std.Legacy.Range.forIn_eq_forIn_range', Std.Legacy.Range.size, Nat.sub_zero, Nat.add_sub_cancel, Nat.div_one, List.range'_succ, List.range'_zero, List.forIn_cons, List.forIn_nil]
  go_simp
  by_cases h0 : x0 = y0 <;> by_cases h1 : x1 = y1 <;> by_cases h2 : x2 = y2 <;> by_cases h3 : x3 = y3 <;> simp [h0, h1, h2, h3]
theorem dec_fit {a b : Int} (ha : Fit a) (hb : Fit b) : decide (L0 a = L0 b ∧ L1 a = L1 b ∧ L2 a = L2 b ∧ L3 a = L3 b) = decide (a = b) := by
  by_cases h : a = b
  · simp [h]
  · have : ¬ (L0 a = L0 b ∧ L1 a = L1 b ∧ L2 a = L2 b ∧ L3 a = L3 b) := fun ⟨h0, h1, h2, h3⟩ => h (ha.inj hb h0 h1 h2 h3)
    simp only [this, h]
theorem dec_siz {a b : Int} (ha : Siz a) (hb : Siz b) : decide (L0 a = L0 b ∧ L1 a = L1 b ∧ L2 a = L2 b ∧ L3 a = L3 b) = decide (a = b) := by
  by_cases h : a = b
  · simp [h]
  · have : ¬ (L0 a = L0 b ∧ L1 a = L1 b ∧ L2 a = L2 b ∧ L3 a = L3 b) := fun ⟨h0, h1, h2, h3⟩ => h (ha.inj hb h0 h1 h2 h3)
    simp only [this, h]
theorem eq_fit {a b : Int} (ha : Fit a) (hb : Fit b) (w : World) : (Op.equalIn 10000 24 (.agg #[.int .u64 (L0 a), .int .u64 (L1 a), .int .u64 (L2 a), .int .u64 (L3 a)]) (.agg #[.int .u64 (L0 b), .int .u64 (L1 b), .int .u64 (L2 b), .int .u64 (L3 b)])).run Tryd.prog w = .ok (decide (a = b)) w := by
  rw [eq_Int, dec_fit ha hb]
theorem eq_siz {a b : Int} (ha : Siz a) (hb : Siz b) (w : World) : (Op.equalIn 10000 77 (.agg #[.int .u64 (L0 a), .int .u64 (L1 a), .int .u64 (L2 a), .int .u64 (L3 a)]) (.agg #[.int .u64 (L0 b), .int .u64 (L1 b), .int .u64 (L2 b), .int .u64 (L3 b)])).run Tryd.prog w = .ok (decide (a = b)) w := by
  rw [eq_size, dec_siz ha hb]
end Go.Proofs.YtigcbgehnlilaaaDoor
end
