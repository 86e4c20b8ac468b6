/- merged: Small facts that the walks' ends want: equal results, what is below a world's old size. It speaks of no function. Bytes in a block of the call's own: what a text is as bytes, a byte that is written, bytes that are a text again. It speaks of no function. What a block of memory that a call made is known to hold, and that it holds it still behind calls that write nothing old. It speaks of no function. The contract of wide.timesWord. Conditions: words. The contract of wide.compare: rows of words against each other. Conditions: the rows can be read, up to 8 words. What '==' says of two arrays of four words. No condition. The contract of wide.up over words, by how many whole words are moved. Conditions: words; n not below 0. Numbers by digits of base 65536, the lowest first: what lists of digits stand for. It speaks of no function. The digits of a number out of its words in two's complement: what From reckons. It speaks of no function. The contract of croftref03.trim: the digits without noughts on top; nought isn't below 0. -/
import Derived.Test.YtjmojddnedngaaaDoorRows
import Derived.WalkKit
import Derived.ProofKit
import Derived.OpenShut
import Derived.Lib.Hide
import Derived.PlainAid
import Derived.Laws.IdiomStrings
import Derived.Below
import Derived.Laws.Rows
import Derived.Laws.OwnMore
import Derived.Deep.Draws
import Derived.Test.YtjmojddnedngaaaDoorFbA
import Derived.WalkSpells
import Derived.Deep.QuietTactic
import Derived.BigQuiet
import Derived.Laws.StructEq
import Derived.Laws.Tables
import Derived.Laws.Cover2
import Derived.KernelRfl
import Derived.Handy
import Derived.Lib.ItoaNum
import Derived.Deep.LoopGhost
section
namespace Go.Proofs.YtjmojddnedngaaaDoor
open Go.ChangeShapes Go.WideShapes Go.ChangeAt Go.RowKit
set_option linter.unusedVariables false

theorem ret_eq {k : IntKind} {a b : Int} (h : a = b) : Ending.returned (.int k a) = .returned (.int k b) := by rw [h]
theorem retb_eq {a b : Bool} (h : a = b) : Ending.returned (.bool a) = .returned (.bool b) := by rw [h]
theorem rets_eq {a b : ByteArray} (h : a = b) : Ending.returned (.string a) = .returned (.string b) := by rw [h]
theorem cell_lt {w : World} {b o : Nat} {v : Value} (h : w.cell? ⟨b, o, none⟩ = some v) : b < w.heap.size := by
  unfold World.cell? at h
  by_cases hb : b < w.heap.size
  · exact hb
  · have : w.heap[b]? = none := by simp; omega
    simp [this] at h
end Go.Proofs.YtjmojddnedngaaaDoor
end
section
namespace Go.Proofs.YtjmojddnedngaaaDoor
open Go.ChangeShapes Go.WideShapes Go.ChangeAt Go.RowKit
set_option linter.unusedVariables false

/-- block b holds the bytes L from its beginning on, and they may be written -/
structure BytesAt (w : World) (b : Nat) (L : List UInt8) : Prop where
  cell : ∀ j (h : j < L.length), w.cell? ⟨b, j, none⟩ = some (.int .u8 ((L[j]'h).toNat : Int))
  free : ∀ j, j < L.length → w.frozen? ⟨b, j, none⟩ = false

theorem BytesAt.store {w : World} {b : Nat} {L : List UInt8} (h : BytesAt w b L) (i : Nat) (hi : i < L.length) (v : UInt8) : BytesAt (w.setCell ⟨b, i, none⟩ (.int .u8 (v.toNat : Int))) b (L.set i v) := by
  refine ⟨fun j hj => ?_, fun j hj => ?_⟩
  · rw [List.length_set] at hj
    by_cases hij : i = j
    · subst hij
      rw [List.getElem_set_self]
      exact World.cell?_setCell_same w _ _ (h.cell i hi)
    · rw [List.getElem_set_ne hij, World.cell?_setCell_other _ _ _ _ (by intro e; injection e with _ e2; exact hij e2)]
      exact h.cell j hj
  · rw [List.length_set] at hj
    rw [World.frozen?_setCell]; exact h.free j hj
end Go.Proofs.YtjmojddnedngaaaDoor
end
section
namespace Go.Proofs.YtjmojddnedngaaaDoor
open Go.ChangeShapes Go.WideShapes Go.ChangeAt Go.RowKit
set_option linter.unusedVariables false

/-- block p holds just the cells cs, and they may be written -/
def Own (w : World) (p : Nat) (T : TypeId) (cs : Array Value) : Prop := w.heap[p]? = some (.cells cs T (0, 0))
theorem Own.in_ {w : World} {p : Nat} {T : TypeId} {cs : Array Value} (h : Own w p T cs) : p < w.heap.size := by
  by_cases hp : p < w.heap.size
  · exact hp
  · unfold Own at h
    rw [Array.getElem?_eq_none (by omega)] at h
    cases h
theorem Own.made (w : World) (T : TypeId) (cs : Array Value) : Own (w.alloc (.cells cs T)) w.heap.size T cs := by
  unfold Own World.alloc
  simp
theorem Own.more {w : World} {p : Nat} {T : TypeId} {cs : Array Value} (h : Own w p T cs) (o : Obj) : Own (w.alloc o) p T cs := by
  unfold Own
  rw [Below.heap_alloc w o p h.in_]
  exact h
theorem Own.keep {w w' : World} {p : Nat} {T : TypeId} {cs : Array Value} (h : Own w p T cs) (hb : Below w.heap.size w w') : Own w' p T cs := by
  unfold Own
  rw [hb.block p h.in_]
  exact h
theorem Own.drawn {w : World} {p : Nat} {T : TypeId} {cs : Array Value} (h : Own w p T cs) : Own w.drew p T cs := h
theorem Own.drawnN {w : World} {p : Nat} {T : TypeId} {cs : Array Value} (h : Own w p T cs) (n : Nat) : Own (w.drewN n) p T cs := h
theorem Own.put {w : World} {p : Nat} {T : TypeId} {cs : Array Value} (h : Own w p T cs) (i : Nat) (v : Value) : Own (w.setCell ⟨p, i, none⟩ v) p T (cs.setIfInBounds i v) := by
  unfold Own at h ⊢
  simp [World.setCell, Array.getElem?_modify, h]
theorem Own.apart {w : World} {p : Nat} {T : TypeId} {cs : Array Value} (h : Own w p T cs) {q : Nat} (hq : p ≠ q) (i : Nat) (v : Value) : Own (w.setCell ⟨q, i, none⟩ v) p T cs := by
  unfold Own
  rw [Below.heap_setCell w ⟨q, i, none⟩ v p hq]
  exact h
theorem Own.made_at {w : World} {p : Nat} {T : TypeId} {cs : Array Value} (h : p = w.heap.size) : Own (w.alloc (.cells cs T)) p T cs := h ▸ Own.made w T cs
theorem Own.as {w : World} {p : Nat} {T : TypeId} {cs cs' : Array Value} (h : Own w p T cs) (e : cs = cs') : Own w p T cs' := e ▸ h
theorem Own.at_ {w : World} {p : Nat} {T : TypeId} {cs : Array Value} (h : Own w p T cs) : (∀ i, w.cell? ⟨p, i, none⟩ = cs[i]?) ∧ (∀ i, w.frozen? ⟨p, i, none⟩ = false) ∧ p < w.heap.size := by
  refine ⟨fun i => ?_, fun i => ?_, h.in_⟩
  · unfold Own at h; simp [World.cell?, h]
  · unfold Own at h; simp [World.frozen?, h]
theorem keep {w w' : World} (hb : Below w.heap.size w w') {p q : Nat} {v : Value} (h : w.cell? ⟨p, q, none⟩ = some v) : w'.cell? ⟨p, q, none⟩ = some v :=
  (hb.cell (p := ⟨p, q, none⟩) (cell_lt h)).trans h
theorem below_drewN {B : Nat} {a w : World} (h : Below B a w) (q : Nat) : Below B a (w.drewN q) := ⟨h.os, h.tape, h.output, h.size, h.block⟩
theorem setCell_drawn (w : World) (n : Nat) (p : Addr) (v : Value) : (w.drewN n).setCell p v = (w.setCell p v).drewN n := rfl
/-- a call behind others -/
theorem then_ {B : Nat} {a w w' : World} (h : Below B a w) (hb : Below w.heap.size w w') (hB : B ≤ w.heap.size) : Below B a w' := h.trans (hb.mono hB)
end Go.Proofs.YtjmojddnedngaaaDoor
end
section
namespace Go.Proofs.YtjmojddnedngaaaDoor
open Go.ChangeShapes Go.WideShapes Go.ChangeAt Go.RowKit
set_option linter.unusedVariables false

theorem tup2_eq {k k' : IntKind} {a a' b b' : Int} (h : a = a') (h' : b = b') : Ending.returned (.tuple #[.int k a, .int k' b]) = .returned (.tuple #[.int k a', .int k' b']) := by rw [h, h']
theorem timesWord_gen (a b : Int) (h0 : 0 ≤ a) (h1 : a ≤ 18446744073709551615) (h2 : 0 ≤ b) (h3 : b ≤ 18446744073709551615) (w : World) :
    Calls Tryd.prog 54 #[.int .u64 a, .int .u64 b] w fun e w' => e = .returned (.tuple #[.int .u64 (a * b % 18446744073709551616), .int .u64 (a * b / 18446744073709551616)]) ∧ w = w' := by
  have H := Lib.hid (tw_all a b h0 h1 h2 h3)
  go_enter Tryd.func54, Tryd.ntmps54
  go_wp2
  go_ret2
  exact ⟨tup2_eq H.out.1 H.out.2, rfl⟩
end Go.Proofs.YtjmojddnedngaaaDoor
end
section
namespace Go.Proofs.YtjmojddnedngaaaDoor
open Go.ChangeShapes Go.WideShapes Go.ChangeAt Go.RowKit
set_option linter.unusedVariables false

/-- what comparing the first n words, from the highest on, answers -/
def cmpW (X Y : Nat → Int) : Nat → Int
  | 0 => 0
  | n + 1 => if X n < Y n then -1 else if X n > Y n then 1 else cmpW X Y n
theorem cmpW_lt {X Y : Nat → Int} {n : Nat} (h : X n < Y n) : cmpW X Y (n + 1) = -1 := by simp [cmpW, h]
theorem cmpW_gt {X Y : Nat → Int} {n : Nat} (h : Y n < X n) : cmpW X Y (n + 1) = 1 := by
  have : ¬ X n < Y n := by omega
  simp [cmpW, h, this]
theorem cmpW_eq {X Y : Nat → Int} {n : Nat} (h : X n = Y n) : cmpW X Y (n + 1) = cmpW X Y n := by simp [cmpW, h]

set_option maxHeartbeats 1600000 in
set_option maxRecDepth 20000 in
theorem compare_any (X Y : Nat → Int) (p q n c d : Nat) (hn : n ≤ 8) (w : World) (hX : ∀ i, i < n → w.cell? ⟨p, i, none⟩ = some (.int .u64 (X i))) (hY : ∀ i, i < n → w.cell? ⟨q, i, none⟩ = some (.int .u64 (Y i))) :
    Calls Tryd.prog 57 #[.slice (some ⟨p, 0, none⟩) n c, .slice (some ⟨q, 0, none⟩) n d] w fun e w' => e = .returned (.int .i64 (cmpW X Y n)) ∧ ∃ m, w' = w.drewN m := by
  have HX := Lib.hid hX; have HY := Lib.hid hY
  clear hX hY
  go_enter Tryd.func57, Tryd.ntmps57
  go_wp2
  go_loopw [5] (fun i wr => ∃ k m : Nat, k ≤ n ∧ Hid (cmpW X Y n = cmpW X Y k) ∧ i = .int .i64 ((k : Int) - 1) ∧ wr = w.drewN m) (fun i _ => (intOf i + 1).toNat)
  case atStart => exact ⟨n, 0, Nat.le_refl _, rfl, rfl, by rw [World.drewN_zero]⟩
  case round =>
    obtain ⟨k, m, hk, HK, rfl, rfl⟩ := hrel
    by_cases hk0 : k = 0
    · subst hk0
      go_wp2
      go_ret
      exact ⟨ret_eq (by rw [HK.out]; rfl), m, rfl⟩
    · obtain ⟨j, rfl⟩ : ∃ j, k = j + 1 := ⟨k - 1, by omega⟩
      have hx := HX.out j (by omega)
      have hy := HY.out j (by omega)
      have i0 : (0 : Int) ≤ (j : Int) := by omega
      have i1 : (j : Int) < (n : Int) := by omega
      have i2 : ((j + 1 : Nat) : Int) - 1 = (j : Int) := by omega
      rw [i2]
      clear i2 hk0
      by_cases hl : X j < Y j
      · have HL := Lib.hid (cmpW_lt hl)
        go_wp2
        go_region
        all_goals
          go_wp2
          go_ret
          exact ⟨ret_eq (by rw [HK.out, HL.out]), m + 1, rfl⟩
      · by_cases hg : Y j < X j
        · have HL := Lib.hid (cmpW_gt hg)
          have d1 : decide (X j < Y j) = false := by simpa using hl
          clear hl
          go_wp2
          go_region
          all_goals
            go_wp2
            go_region
            all_goals
              go_wp2
              go_ret
              exact ⟨ret_eq (by rw [HK.out, HL.out]), m + 1 + 1, rfl⟩
        · have HL := Lib.hid (cmpW_eq (X := X) (Y := Y) (n := j) (by omega))
          have d1 : decide (X j < Y j) = false := by simpa using hl
          have d2 : decide (Y j < X j) = false := by simpa using hg
          clear hl hg
          go_wp2
          go_region
          all_goals
            go_wp2
            go_region
            all_goals
              go_wp2
              go_roundw
              case rel => exact ⟨j, m + 1 + 1, by omega, by unfold Hid; rw [HK.out, HL.out], rfl, rfl⟩
              case measure => simp [intOf]
end Go.Proofs.YtjmojddnedngaaaDoor
end
section
namespace Go.Proofs.YtjmojddnedngaaaDoor
open Go.ChangeShapes Go.WideShapes Go.ChangeAt Go.RowKit
set_option linter.unusedVariables false

theorem eq_Int (x0 x1 x2 x3 : Int) (y0 y1 y2 y3 : Int) (w : World) : (Op.equalIn 10000 24 (.agg #[.int .u64 x0, .int .u64 x1, .int .u64 x2, .int .u64 x3]) (.agg #[.int .u64 y0, .int .u64 y1, .int .u64 y2, .int .u64 y3])).run Tryd.prog w = .ok (decide (x0 = y0 ∧ x1 = y1 ∧ x2 = y2 ∧ x3 = y3)) w := by
  have u3 := Tryd.underlying22
  have a3 := Tryd.isAgg22
  have z3 := Tryd.sizeOf22
  rw [show (10000 : Nat) = 9999 + 1 from rfl, Op.equalIn]
  simp only [Sem.run_bind, run_underlying Tryd.underlying24, Result.andThen_ok]
  simp only [Std.Legacy.Range.forIn_eq_forIn_range', Std.Legacy.Range.size, Nat.sub_zero, Nat.add_sub_cancel, Nat.div_one, List.range'_succ, List.range'_zero, List.forIn_cons, List.forIn_nil]
  go_simp
  by_cases h0 : x0 = y0 <;> by_cases h1 : x1 = y1 <;> by_cases h2 : x2 = y2 <;> by_cases h3 : x3 = y3 <;> simp [h0, h1, h2, h3]
theorem eq_size (x0 x1 x2 x3 : Int) (y0 y1 y2 y3 : Int) (w : World) : (Op.equalIn 10000 58 (.agg #[.int .u64 x0, .int .u64 x1, .int .u64 x2, .int .u64 x3]) (.agg #[.int .u64 y0, .int .u64 y1, .int .u64 y2, .int .u64 y3])).run Tryd.prog w = .ok (decide (x0 = y0 ∧ x1 = y1 ∧ x2 = y2 ∧ x3 = y3)) w := by
  have u3 := Tryd.underlying22
  have a3 := Tryd.isAgg22
  have z3 := Tryd.sizeOf22
  rw [show (10000 : Nat) = 9999 + 1 from rfl, Op.equalIn]
  simp only [Sem.run_bind, run_underlying Tryd.underlying58, Result.andThen_ok]
  simp only [Std.Legacy.Range.forIn_eq_forIn_range', Std.Legacy.Range.size, Nat.sub_zero, Nat.add_sub_cancel, Nat.div_one, List.range'_succ, List.range'_zero, List.forIn_cons, List.forIn_nil]
  go_simp
  by_cases h0 : x0 = y0 <;> by_cases h1 : x1 = y1 <;> by_cases h2 : x2 = y2 <;> by_cases h3 : x3 = y3 <;> simp [h0, h1, h2, h3]
theorem eq_arr (x0 x1 x2 x3 : Int) (y0 y1 y2 y3 : Int) (w : World) : (Op.equalIn 10000 23 (.agg #[.int .u64 x0, .int .u64 x1, .int .u64 x2, .int .u64 x3]) (.agg #[.int .u64 y0, .int .u64 y1, .int .u64 y2, .int .u64 y3])).run Tryd.prog w = .ok (decide (x0 = y0 ∧ x1 = y1 ∧ x2 = y2 ∧ x3 = y3)) w := by
  have u3 := Tryd.underlying22
  have a3 := Tryd.isAgg22
  have z3 := Tryd.sizeOf22
  rw [show (10000 : Nat) = 9999 + 1 from rfl, Op.equalIn]
  simp only [Sem.run_bind, run_underlying Tryd.underlying23, Result.andThen_ok]
  simp only [Std.Legacy.Range.forIn_eq_forIn_range', Std.Legacy.Range.size, Nat.sub_zero, Nat.add_sub_cancel, Nat.div_one, List.range'_succ, List.range'_zero, List.forIn_cons, List.forIn_nil]
  go_simp
  by_cases h0 : x0 = y0 <;> by_cases h1 : x1 = y1 <;> by_cases h2 : x2 = y2 <;> by_cases h3 : x3 = y3 <;> simp [h0, h1, h2, h3]
theorem dec_fit {a b : Int} (ha : Fit a) (hb : Fit b) : decide (L0 a = L0 b ∧ L1 a = L1 b ∧ L2 a = L2 b ∧ L3 a = L3 b) = decide (a = b) := by
  by_cases h : a = b
  · simp [h]
  · have : ¬ (L0 a = L0 b ∧ L1 a = L1 b ∧ L2 a = L2 b ∧ L3 a = L3 b) := fun ⟨h0, h1, h2, h3⟩ => h (ha.inj hb h0 h1 h2 h3)
    simp only [this, h]
theorem dec_siz {a b : Int} (ha : Siz a) (hb : Siz b) : decide (L0 a = L0 b ∧ L1 a = L1 b ∧ L2 a = L2 b ∧ L3 a = L3 b) = decide (a = b) := by
  by_cases h : a = b
  · simp [h]
  · have : ¬ (L0 a = L0 b ∧ L1 a = L1 b ∧ L2 a = L2 b ∧ L3 a = L3 b) := fun ⟨h0, h1, h2, h3⟩ => h (ha.inj hb h0 h1 h2 h3)
    simp only [this, h]
theorem eq_fit {a b : Int} (ha : Fit a) (hb : Fit b) (w : World) : (Op.equalIn 10000 24 (.agg #[.int .u64 (L0 a), .int .u64 (L1 a), .int .u64 (L2 a), .int .u64 (L3 a)]) (.agg #[.int .u64 (L0 b), .int .u64 (L1 b), .int .u64 (L2 b), .int .u64 (L3 b)])).run Tryd.prog w = .ok (decide (a = b)) w := by
  rw [eq_Int, dec_fit ha hb]
theorem eq_siz {a b : Int} (ha : Siz a) (hb : Siz b) (w : World) : (Op.equalIn 10000 58 (.agg #[.int .u64 (L0 a), .int .u64 (L1 a), .int .u64 (L2 a), .int .u64 (L3 a)]) (.agg #[.int .u64 (L0 b), .int .u64 (L1 b), .int .u64 (L2 b), .int .u64 (L3 b)])).run Tryd.prog w = .ok (decide (a = b)) w := by
  rw [eq_size, dec_siz ha hb]
end Go.Proofs.YtjmojddnedngaaaDoor
end
section
namespace Go.Proofs.YtjmojddnedngaaaDoor
open Go.ChangeShapes Go.WideShapes Go.ChangeAt Go.RowKit
set_option linter.unusedVariables false

/-- a word moved up, alone and with what comes in from the word below -/
def su (x r : Int) : Int := IntKind.u64.wrap (x * 2 ^ r.toNat)
def so (x y r : Int) : Int := bits .or .u64 (IntKind.u64.wrap (x * 2 ^ r.toNat)) (y / 2 ^ (64 - r).toNat)
set_option maxHeartbeats 1600000 in
set_option maxRecDepth 20000 in
theorem up_0 (x0 x1 x2 x3 : Int) (h : W4 x0 x1 x2 x3) (n r : Int) (hn : 0 ≤ n) (hn' : n ≤ 9223372036854775807) (hq : n / 64 = 0) (hr : n % 64 = r) (w : World) :
    Calls Tryd.prog 56 #[.agg #[.int .u64 x0, .int .u64 x1, .int .u64 x2, .int .u64 x3], .int .i64 n] w fun e w' => e = .returned (.agg #[.int .u64 (su x0 r), .int .u64 (so x1 x0 r), .int .u64 (so x2 x1 r), .int .u64 (so x3 x2 r)]) ∧ ∃ c1 c2 c3 m, w' = (((w.alloc (.cells c1 58)).alloc (.cells c2 58)).alloc (.cells c3 58)).drewN m := by
  obtain ⟨a0, b0, a1, b1, a2, b2, a3, b3⟩ := h
  have r0 : 0 ≤ r := by omega
  have r1 : r ≤ 63 := by omega
  go_enter Tryd.func56, Tryd.ntmps56
  go_wp2
  refine wp_loop_rounds 6 ?_
  rw [rounds_succ]
  go_wp2
  rw [rounds_succ]
  go_wp2
  go_region
  go_wp2
  rw [rounds_succ]
  go_wp2
  go_region
  go_wp2
  rw [rounds_succ]
  go_wp2
  go_region
  go_wp2
  rw [rounds_succ]
  go_wp2
  refine bodyPost_ret (by simp [results, Tryd.results56, go_sem, su, so]) rfl ⟨rfl, _, _, _, 3, rfl⟩
set_option maxHeartbeats 1600000 in
set_option maxRecDepth 20000 in
theorem up_1 (x0 x1 x2 x3 : Int) (h : W4 x0 x1 x2 x3) (n r : Int) (hn : 0 ≤ n) (hn' : n ≤ 9223372036854775807) (hq : n / 64 = 1) (hr : n % 64 = r) (w : World) :
    Calls Tryd.prog 56 #[.agg #[.int .u64 x0, .int .u64 x1, .int .u64 x2, .int .u64 x3], .int .i64 n] w fun e w' => e = .returned (.agg #[.int .u64 0, .int .u64 (su x0 r), .int .u64 (so x1 x0 r), .int .u64 (so x2 x1 r)]) ∧ ∃ c1 c2 c3 m, w' = (((w.alloc (.cells c1 58)).alloc (.cells c2 58)).alloc (.cells c3 58)).drewN m := by
  obtain ⟨a0, b0, a1, b1, a2, b2, a3, b3⟩ := h
  have r0 : 0 ≤ r := by omega
  have r1 : r ≤ 63 := by omega
  go_enter Tryd.func56, Tryd.ntmps56
  go_wp2
  refine wp_loop_rounds 6 ?_
  rw [rounds_succ]
  go_wp2
  rw [rounds_succ]
  go_wp2
  go_region
  go_wp2
  rw [rounds_succ]
  go_wp2
  go_region
  go_wp2
  rw [rounds_succ]
  go_wp2
  refine bodyPost_ret (by simp [results, Tryd.results56, go_sem, su, so]) rfl ⟨rfl, _, _, _, 2, rfl⟩
set_option maxHeartbeats 1600000 in
set_option maxRecDepth 20000 in
theorem up_2 (x0 x1 x2 x3 : Int) (h : W4 x0 x1 x2 x3) (n r : Int) (hn : 0 ≤ n) (hn' : n ≤ 9223372036854775807) (hq : n / 64 = 2) (hr : n % 64 = r) (w : World) :
    Calls Tryd.prog 56 #[.agg #[.int .u64 x0, .int .u64 x1, .int .u64 x2, .int .u64 x3], .int .i64 n] w fun e w' => e = .returned (.agg #[.int .u64 0, .int .u64 0, .int .u64 (su x0 r), .int .u64 (so x1 x0 r)]) ∧ ∃ c1 c2 c3 m, w' = (((w.alloc (.cells c1 58)).alloc (.cells c2 58)).alloc (.cells c3 58)).drewN m := by
  obtain ⟨a0, b0, a1, b1, a2, b2, a3, b3⟩ := h
  have r0 : 0 ≤ r := by omega
  have r1 : r ≤ 63 := by omega
  go_enter Tryd.func56, Tryd.ntmps56
  go_wp2
  refine wp_loop_rounds 6 ?_
  rw [rounds_succ]
  go_wp2
  rw [rounds_succ]
  go_wp2
  go_region
  go_wp2
  rw [rounds_succ]
  go_wp2
  refine bodyPost_ret (by simp [results, Tryd.results56, go_sem, su, so]) rfl ⟨rfl, _, _, _, 1, rfl⟩
set_option maxHeartbeats 1600000 in
set_option maxRecDepth 20000 in
theorem up_3 (x0 x1 x2 x3 : Int) (h : W4 x0 x1 x2 x3) (n r : Int) (hn : 0 ≤ n) (hn' : n ≤ 9223372036854775807) (hq : n / 64 = 3) (hr : n % 64 = r) (w : World) :
    Calls Tryd.prog 56 #[.agg #[.int .u64 x0, .int .u64 x1, .int .u64 x2, .int .u64 x3], .int .i64 n] w fun e w' => e = .returned (.agg #[.int .u64 0, .int .u64 0, .int .u64 0, .int .u64 (su x0 r)]) ∧ ∃ c1 c2 c3 m, w' = (((w.alloc (.cells c1 58)).alloc (.cells c2 58)).alloc (.cells c3 58)).drewN m := by
  obtain ⟨a0, b0, a1, b1, a2, b2, a3, b3⟩ := h
  have r0 : 0 ≤ r := by omega
  have r1 : r ≤ 63 := by omega
  go_enter Tryd.func56, Tryd.ntmps56
  go_wp2
  refine wp_loop_rounds 6 ?_
  rw [rounds_succ]
  go_wp2
  rw [rounds_succ]
  go_wp2
  refine bodyPost_ret (by simp [results, Tryd.results56, go_sem, su]) rfl ⟨rfl, _, _, _, 0, rfl⟩
set_option maxHeartbeats 1600000 in
set_option maxRecDepth 20000 in
theorem up_4 (x0 x1 x2 x3 : Int) (h : W4 x0 x1 x2 x3) (n r : Int) (hn : 0 ≤ n) (hn' : n ≤ 9223372036854775807) (hq : 4 ≤ n / 64) (hr : n % 64 = r) (w : World) :
    Calls Tryd.prog 56 #[.agg #[.int .u64 x0, .int .u64 x1, .int .u64 x2, .int .u64 x3], .int .i64 n] w fun e w' => e = .returned (.agg #[.int .u64 0, .int .u64 0, .int .u64 0, .int .u64 0]) ∧ ∃ c1 c2 c3 m, w' = (((w.alloc (.cells c1 58)).alloc (.cells c2 58)).alloc (.cells c3 58)).drewN m := by
  obtain ⟨a0, b0, a1, b1, a2, b2, a3, b3⟩ := h
  have r0 : 0 ≤ r := by omega
  have r1 : r ≤ 63 := by omega
  have d : decide (n / 64 < 4) = false := by simpa using hq
  go_enter Tryd.func56, Tryd.ntmps56
  go_wp2
  refine wp_loop_rounds 6 ?_
  rw [rounds_succ]
  go_wp2
  refine bodyPost_ret (by simp [results, Tryd.results56, go_sem]) rfl ⟨rfl, _, _, _, 0, rfl⟩
end Go.Proofs.YtjmojddnedngaaaDoor
end
section
namespace Go.Proofs.YtjmojddnedngaaaDoor

/-- the digits of a number, none above the highest that isn't 0 -/
def digs (n : Nat) : List Int := if h : n = 0 then [] else (n % 65536 : Int) :: digs (n / 65536)
termination_by n
decreasing_by omega
/-- what a list of digits stands for -/
def vl : List Int → Int
  | [] => 0
  | d :: r => d + 65536 * vl r
def Dg (zs : List Int) : Prop := ∀ d ∈ zs, 0 ≤ d ∧ d ≤ 65535
/-- without noughts on top -/
def tr : List Int → List Int
  | [] => []
  | d :: r => match tr r with
    | [] => if d = 0 then [] else [d]
    | e :: s => d :: e :: s

theorem digs_zero : digs 0 = [] := by rw [digs]; simp
theorem digs_pos {n : Nat} (h : n ≠ 0) : digs n = (n % 65536 : Int) :: digs (n / 65536) := by rw [digs, dif_neg h]
theorem digs_nil {n : Nat} (h : digs n = []) : n = 0 := by
  by_cases e : n = 0
  · exact e
  · rw [digs_pos e] at h; cases h
theorem Dg.nil : Dg [] := fun d h => by cases h
theorem Dg.cons {d : Int} {r : List Int} (h0 : 0 ≤ d) (h1 : d ≤ 65535) (h : Dg r) : Dg (d :: r) := fun e he => by
  rcases List.mem_cons.1 he with rfl | he
  · exact ⟨h0, h1⟩
  · exact h e he
theorem Dg.head {d : Int} {r : List Int} (h : Dg (d :: r)) : 0 ≤ d ∧ d ≤ 65535 := h d (by simp)
theorem Dg.tail {d : Int} {r : List Int} (h : Dg (d :: r)) : Dg r := fun e he => h e (by simp [he])
theorem Dg.append {a b : List Int} (h : Dg a) (k : Dg b) : Dg (a ++ b) := fun e he => by
  rcases List.mem_append.1 he with he | he
  · exact h e he
  · exact k e he
theorem Dg.snoc {a : List Int} {d : Int} (h : Dg a) (h0 : 0 ≤ d) (h1 : d ≤ 65535) : Dg (a ++ [d]) := h.append (Dg.nil.cons h0 h1)
theorem Dg.left {a b : List Int} (h : Dg (a ++ b)) : Dg a := fun e he => h e (by simp [he])
theorem Dg.right {a b : List Int} (h : Dg (a ++ b)) : Dg b := fun e he => h e (by simp [he])
theorem Dg.at {zs : List Int} (h : Dg zs) {i : Nat} {d : Int} (e : zs[i]? = some d) : 0 ≤ d ∧ d ≤ 65535 := h d (List.mem_of_getElem? e)
theorem Dg.digs (n : Nat) : Dg (digs n) := by
  induction n using Nat.strongRecOn with
  | ind n ih =>
    by_cases e : n = 0
    · rw [e, digs_zero]; exact Dg.nil
    · rw [digs_pos e]
      exact (ih (n / 65536) (by omega)).cons (by omega) (by omega)
theorem vl_digs (n : Nat) : vl (digs n) = n := by
  induction n using Nat.strongRecOn with
  | ind n ih =>
    by_cases e : n = 0
    · rw [e, digs_zero]; rfl
    · rw [digs_pos e, vl, ih (n / 65536) (by omega)]
      omega
theorem vl_nonneg : ∀ {zs : List Int}, Dg zs → 0 ≤ vl zs
  | [], _ => by simp [vl]
  | d :: r, h => by
    have := vl_nonneg h.tail
    have := h.head
    rw [vl]; omega
theorem vl_append : ∀ (a b : List Int), vl (a ++ b) = vl a + 65536 ^ a.length * vl b
  | [], b => by simp [vl]
  | d :: r, b => by
    rw [List.cons_append, vl, vl_append r b, vl, List.length_cons, Int.pow_succ, Int.mul_add, Int.add_assoc, ← Int.mul_assoc, Int.mul_comm (65536 ^ r.length) 65536]
theorem vl_snoc (a : List Int) (d : Int) : vl (a ++ [d]) = vl a + 65536 ^ a.length * d := by
  rw [vl_append]; simp [vl]
theorem vl_lt : ∀ {zs : List Int}, Dg zs → vl zs < 65536 ^ zs.length
  | [], _ => by simp [vl]
  | d :: r, h => by
    have := vl_lt h.tail
    have := h.head
    rw [vl, List.length_cons, Int.pow_succ]; omega
theorem tr_zero : ∀ a : List Int, tr (a ++ [0]) = tr a
  | [] => rfl
  | d :: r => by rw [List.cons_append, tr, tr_zero r, tr]
theorem tr_last : ∀ (a : List Int) {d : Int}, d ≠ 0 → tr (a ++ [d]) = a ++ [d]
  | [], d, h => by simp [tr, h]
  | e :: r, d, h => by
    rw [List.cons_append, tr, tr_last r h]
    cases hr : r ++ [d] with
    | nil => simp at hr
    | cons x s => rfl
theorem tr_digs : ∀ {zs : List Int}, Dg zs → tr zs = digs (vl zs).toNat
  | [], _ => by simp [tr, vl, digs_zero]
  | d :: r, h => by
    have ih := tr_digs h.tail
    have h0 := vl_nonneg h.tail
    obtain ⟨h1, h2⟩ := h.head
    by_cases e : (vl (d :: r)).toNat = 0
    · have e1 : vl r = 0 := by rw [vl] at e; omega
      have e2 : d = 0 := by rw [vl] at e; omega
      rw [e, digs_zero, tr, ih, e1]
      simp [digs_zero, e2]
    · have e1 : (vl (d :: r)).toNat / 65536 = (vl r).toNat := by rw [vl]; omega
      have e2 : (((vl (d :: r)).toNat % 65536 : Nat) : Int) = d := by rw [vl]; omega
      rw [digs_pos e, e1, tr, ih]
      have e3 : ((vl (d :: r)).toNat : Int) % 65536 = d := by rw [vl]; omega
      rw [e3]
      cases hr : digs (vl r).toNat with
      | nil =>
        have : vl r = 0 := by have := digs_nil hr; omega
        have : d ≠ 0 := by rw [vl] at e; omega
        simp [this]
      | cons x s => rfl
/-- a list with the right length is the number's own -/
theorem digs_of {zs : List Int} (h : Dg zs) (k : zs = [] ∨ 65536 ^ (zs.length - 1) ≤ vl zs) : zs = digs (vl zs).toNat := by
  rcases List.eq_nil_or_concat zs with rfl | ⟨a, d, rfl⟩
  · simp [vl, digs_zero]
  · rw [List.concat_eq_append] at *
    have hd : d ≠ 0 := by
      rintro rfl
      rcases k with k | k
      · simp at k
      · rw [vl_snoc] at k
        have := vl_lt h.left
        simp at k
        omega
    rw [← tr_digs h, tr_last a hd]
theorem digs_len {n : Nat} (h : n ≠ 0) : 65536 ^ ((digs n).length - 1) ≤ (n : Int) ∧ 1 ≤ (digs n).length := by
  induction n using Nat.strongRecOn with
  | ind n ih =>
    rw [digs_pos h]
    refine ⟨?_, by simp⟩
    by_cases e : n / 65536 = 0
    · rw [e, digs_zero]; simp; omega
    · obtain ⟨h1, h2⟩ := ih (n / 65536) (by omega) e
      simp only [List.length_cons, Nat.add_sub_cancel]
      rw [show (digs (n / 65536)).length = (digs (n / 65536)).length - 1 + 1 by omega, Int.pow_succ]
      omega
theorem digs_lt (n : Nat) : (n : Int) < 65536 ^ (digs n).length := by
  have := vl_lt (Dg.digs n)
  rwa [vl_digs] at this
/-- a longer one is greater -/
theorem digs_longer {m n : Nat} (h : (digs m).length < (digs n).length) : m < n := by
  have h1 := digs_lt m
  have hn : n ≠ 0 := by rintro rfl; rw [digs_zero] at h; simp at h
  obtain ⟨h2, _⟩ := digs_len hn
  have h3 : (65536 : Int) ^ (digs m).length ≤ 65536 ^ ((digs n).length - 1) := by
    have hjk : (digs m).length ≤ (digs n).length - 1 := by omega
    generalize (digs n).length - 1 = k at hjk ⊢
    generalize (digs m).length = j at hjk ⊢
    obtain ⟨t, rfl⟩ : ∃ t, k = j + t := ⟨k - j, by omega⟩
    rw [Int.pow_add]
    have h4 : (0 : Int) < 65536 ^ j := Int.pow_pos (by decide)
    have h5 : (0 : Int) < 65536 ^ t := Int.pow_pos (by decide)
    have := Int.mul_le_mul_of_nonneg_left (show (1 : Int) ≤ 65536 ^ t by omega) (show (0 : Int) ≤ 65536 ^ j by omega)
    omega
  omega
/-- the upper part of a list of digits -/
theorem vl_drop (zs : List Int) (i : Nat) (d : Int) (h : zs[i]? = some d) : vl (zs.drop i) = d + 65536 * vl (zs.drop (i + 1)) := by
  obtain ⟨hi, e⟩ := List.getElem?_eq_some_iff.1 h
  rw [List.drop_eq_getElem_cons hi, e, vl]
theorem vl_drop_ge (zs : List Int) (i : Nat) (h : zs.length ≤ i) : vl (zs.drop i) = 0 := by
  rw [List.drop_eq_nil_of_le h]; rfl
theorem vl_take (zs : List Int) (i : Nat) (d : Int) (h : zs[i]? = some d) : vl (zs.take (i + 1)) = vl (zs.take i) + 65536 ^ i * d := by
  obtain ⟨hi, e⟩ := List.getElem?_eq_some_iff.1 h
  rw [List.take_succ_eq_append_getElem hi, e, vl_snoc, List.length_take, Nat.min_eq_left (by omega)]
theorem Dg.take {zs : List Int} (h : Dg zs) (i : Nat) : Dg (zs.take i) := fun e he => h e (List.mem_of_mem_take he)
theorem Dg.drop {zs : List Int} (h : Dg zs) (i : Nat) : Dg (zs.drop i) := fun e he => h e (List.mem_of_mem_drop he)
theorem Dg.set {zs : List Int} (h : Dg zs) (i : Nat) {d : Int} (h0 : 0 ≤ d) (h1 : d ≤ 65535) : Dg (zs.set i d) := fun e he => by
  rcases List.mem_or_eq_of_mem_set he with he | rfl
  · exact h e he
  · exact ⟨h0, h1⟩
theorem vl_set : ∀ (zs : List Int) (i : Nat) (d e : Int), zs[i]? = some e → vl (zs.set i d) = vl zs + 65536 ^ i * (d - e)
  | [], i, d, e, h => by simp at h
  | x :: r, 0, d, e, h => by
    obtain rfl : x = e := by simpa using h
    rw [List.set_cons_zero, vl, vl, Int.pow_zero]; omega
  | x :: r, i + 1, d, e, h => by
    have ih := vl_set r i d e (by simpa using h)
    rw [List.set_cons_succ, vl, ih, vl, Int.pow_succ, Int.mul_add, Int.mul_comm (65536 ^ i) 65536, Int.mul_assoc]
    omega
theorem vl_replicate (n : Nat) : vl (List.replicate n 0) = 0 := by
  induction n with
  | zero => rfl
  | succ n ih => rw [List.replicate_succ, vl, ih]; rfl
theorem Dg.replicate (n : Nat) : Dg (List.replicate n 0) := fun e he => by
  obtain ⟨_, rfl⟩ := List.mem_replicate.1 he
  omega
#print axioms digs_of
end Go.Proofs.YtjmojddnedngaaaDoor
end
section
namespace Go.Proofs.YtjmojddnedngaaaDoor

def frd (u : Int) (i : Nat) : Int := u / 65536 ^ i % 65536
/-- the digits so far, and what is carried -/
def fr (u : Int) (neg : Bool) : Nat → List Int × Int
  | 0 => ([], 1)
  | i + 1 => if neg then ((fr u neg i).1 ++ [(65535 - frd u i + (fr u neg i).2) % 65536], (65535 - frd u i + (fr u neg i).2) / 65536) else ((fr u neg i).1 ++ [frd u i], (fr u neg i).2)
theorem frd_range (u : Int) (i : Nat) : 0 ≤ frd u i ∧ frd u i ≤ 65535 := by unfold frd; omega
theorem mod_step (u P : Int) (hP : 0 < P) : u % (P * 65536) = u % P + P * (u / P % 65536) := by
  have e1 := Int.mul_ediv_add_emod u P
  have e2 := Int.mul_ediv_add_emod (u / P) 65536
  have g1 := Int.emod_nonneg u (show P ≠ 0 by omega)
  have g2 := Int.emod_lt_of_pos u hP
  have g3 : 0 ≤ u / P % 65536 ∧ u / P % 65536 ≤ 65535 := by omega
  generalize u / P % 65536 = r at *
  generalize u / P / 65536 = k at *
  generalize u / P = j at *
  generalize u % P = t at *
  have h1 := Int.mul_le_mul_of_nonneg_left g3.2 (Int.le_of_lt hP)
  have h2 := Int.mul_nonneg (Int.le_of_lt hP) g3.1
  have e3 : u = t + P * r + P * 65536 * k := by
    rw [← e1, ← e2, Int.mul_add, ← Int.mul_assoc]
    omega
  rw [e3, Int.add_mul_emod_self_left]
  exact Int.emod_eq_of_lt (by omega) (by omega)
theorem fr_ok (u : Int) (neg : Bool) : ∀ i, (fr u neg i).1.length = i ∧ Dg (fr u neg i).1 ∧ 0 ≤ (fr u neg i).2 ∧ (fr u neg i).2 ≤ 1 ∧
    (neg = false → vl (fr u neg i).1 = u % 65536 ^ i) ∧ (neg = true → vl (fr u neg i).1 + 65536 ^ i * (fr u neg i).2 = 65536 ^ i - u % 65536 ^ i)
  | 0 => by simp [fr, vl, Dg.nil, Int.emod_one]
  | i + 1 => by
    obtain ⟨h1, h2, h3, h4, h5, h6⟩ := fr_ok u neg i
    have hP : (0 : Int) < 65536 ^ i := Int.pow_pos (by decide)
    have hm := mod_step u (65536 ^ i) hP
    have hr := frd_range u i
    rw [show u / 65536 ^ i % 65536 = frd u i from rfl] at hm
    rw [Int.pow_succ, hm, fr]
    generalize (fr u neg i).1 = o at *
    generalize (fr u neg i).2 = c at *
    generalize frd u i = D at *
    cases neg with
    | false =>
      simp only [Bool.false_eq_true, if_false]
      refine ⟨by simp [h1], h2.snoc hr.1 hr.2, h3, h4, fun _ => ?_, (fun h => by simp at h)⟩
      rw [vl_snoc, h1, h5 rfl]
    | true =>
      simp only [if_true]
      refine ⟨by simp [h1], h2.snoc (by omega) (by omega), by omega, by omega, (fun h => by simp at h), fun _ => ?_⟩
      have h7 := h6 rfl
      rw [vl_snoc, h1, Int.mul_assoc, Int.add_assoc, ← Int.mul_add]
      have e : (65535 - D + c) % 65536 + 65536 * ((65535 - D + c) / 65536) = 65535 - D + c := by omega
      rw [e]
      generalize (65536 : Int) ^ i = P at *
      generalize u % P = t at *
      have e2 : P * (65535 - D + c) = P * 65536 - P - P * D + P * c := by
        rw [show (65535 - D + c : Int) = 65536 - 1 - D + c by omega, Int.mul_add, Int.mul_sub, Int.mul_sub, Int.mul_one]
      rw [e2]
      omega
theorem fr_16 (z : Int) (hl : -57896044618658097711785492504343953926634992332820282019728792003956564819968 ≤ z) (hh : z ≤ 57896044618658097711785492504343953926634992332820282019728792003956564819967) :
    vl (fr (z % 115792089237316195423570985008687907853269984665640564039457584007913129639936) (decide (z < 0)) 16).1 = z.natAbs := by
  obtain ⟨h1, h2, h3, h4, h5, h6⟩ := fr_ok (z % 115792089237316195423570985008687907853269984665640564039457584007913129639936) (decide (z < 0)) 16
  have hp : (65536 : Int) ^ 16 = 115792089237316195423570985008687907853269984665640564039457584007913129639936 := by decide
  have hv := vl_nonneg h2
  rw [hp] at h5 h6
  by_cases hz : z < 0
  · have := h6 (by simpa using hz)
    omega
  · have := h5 (by simpa using hz)
    omega
end Go.Proofs.YtjmojddnedngaaaDoor
end
section
namespace Go.Proofs.YtjmojddnedngaaaDoor
open Go.ChangeShapes Go.WideShapes Go.ChangeAt Go.RowKit
set_option linter.unusedVariables false

/-- a slice of ints holds these digits, in a block below T or from C on -/
structure DRow (w : World) (T C : Nat) (a : Option Addr) (len cap : Nat) (zs : List Int) : Prop where
  hlen : zs.length = len
  hcap : len ≤ cap
  hmax : cap ≤ maxLen
  hcells : zs = [] ∨ ∃ b o, a = some ⟨b, o, none⟩ ∧ (b < T ∨ C ≤ b) ∧ ∀ i z, zs[i]? = some z → w.cell? ⟨b, o + i, none⟩ = some (.int .i64 z)
theorem DRow.keep {w w' : World} {T C : Nat} {a : Option Addr} {len cap : Nat} {zs : List Int} (h : DRow w T C a len cap zs) (hb : Below w.heap.size w w') : DRow w' T C a len cap zs :=
  ⟨h.hlen, h.hcap, h.hmax, h.hcells.imp id fun ⟨b, o, ha, ht, hc⟩ => ⟨b, o, ha, ht, fun i z hz => Go.Proofs.YtjmojddnedngaaaDoor.keep hb (hc i z hz)⟩⟩

set_option maxHeartbeats 4000000 in
set_option maxRecDepth 20000 in
theorem trim_any (T C : Nat) (neg : Bool) (a : Option Addr) (len cap : Nat) (zs : List Int) (w : World) (hr : DRow w T C a len cap zs) :
    Calls Tryd.prog 33 #[.agg #[.bool neg, .slice a len cap]] w fun e w' => ∃ len', e = .returned (.agg #[.bool (neg && !(tr zs).isEmpty), .slice a len' cap]) ∧ tr zs = zs.take len' ∧ len' ≤ len ∧ Below w.heap.size w w' := by
  obtain ⟨hl, hcap, hmax, hcells⟩ := hr
  go_enter Tryd.func33, Tryd.ntmps33
  go_wp2_with fail
  go_loopg [] len (fun k wr => k ≤ len ∧ Hid (tr zs = tr (zs.take k)) ∧ Own wr w.heap.size 42 #[.bool neg, .slice a k cap] ∧ Own wr (w.heap.size + 1) 42 #[.bool false, .slice none 0 0] ∧ Below w.heap.size w wr)
  case atStart =>
    refine ⟨Nat.le_refl _, Lib.hid (by rw [List.take_of_length_le (by omega)]), ?_, ?_, ?_⟩
    · repeat' (first | (with_reducible assumption) | (with_reducible refine Own.drawnN ?_ _) | (with_reducible refine Own.drawn ?_) | (with_reducible refine Own.made_at ?_; first | rfl | (simp; done) | omega | (simp; omega)) | (with_reducible refine Own.more ?_ _) | (with_reducible refine Own.apart ?_ ?_ _ _; rotate_left; first | omega | (simp; done) | (simp; omega)) | (refine Own.put ?_ _ _))
    · repeat' (first | (with_reducible assumption) | (with_reducible refine Own.drawnN ?_ _) | (with_reducible refine Own.drawn ?_) | (with_reducible refine Own.made_at ?_; first | rfl | (simp; done) | omega | (simp; omega)) | (with_reducible refine Own.more ?_ _) | (with_reducible refine Own.apart ?_ ?_ _ _; rotate_left; first | omega | (simp; done) | (simp; omega)) | (refine Own.put ?_ _ _))
    · repeat' (first | (with_reducible exact Below.refl _ _) | (with_reducible assumption) | (with_reducible refine below_drewN ?_ _) | (with_reducible refine Below.drew ?_) | (with_reducible refine Below.alloc ?_ ?_ _) | (with_reducible refine Below.setCell ?_ ?_ _) | (with_reducible refine then_ ?_ (by with_reducible assumption) ?_) | (with_reducible exact Nat.le_refl _) | (with_reducible exact Nat.le_succ _) | (with_reducible exact Nat.le_succ_of_le (by with_reducible assumption)) | omega | (simp; done) | (simp; omega) | (exact Nat.le_succ _) | (exact Nat.le_succ_of_le (by with_reducible assumption)))
  case round =>
    obtain ⟨hk, HT, O1, O2, hB⟩ := hrel
    obtain ⟨P1, P2, P3⟩ := O1.at_
    obtain ⟨Q1, Q2, Q3⟩ := O2.at_
    have e2 : ¬ w.heap.size = w.heap.size + 1 := by omega
    have e3 : ¬ w.heap.size + 1 = w.heap.size := by omega
    cases gk with
    | zero =>
      have ht : tr zs = [] := by have := HT.out; simpa [tr] using this
      have TH := Lib.hid ht
      clear ht HT hcells O1 O2
      go_wp2
      refine bodyPost_ret (v := .agg #[.bool false, .slice a 0 cap]) (by simp [results, Tryd.results33, go_sem, Q1]) rfl ⟨0, ?_, ?_, by omega, ?_⟩
      · rw [TH.out]; simp
      · rw [TH.out]; simp
      · repeat' (first | (with_reducible exact Below.refl _ _) | (with_reducible assumption) | (with_reducible refine below_drewN ?_ _) | (with_reducible refine Below.drew ?_) | (with_reducible refine Below.alloc ?_ ?_ _) | (with_reducible refine Below.setCell ?_ ?_ _) | (with_reducible refine then_ ?_ (by with_reducible assumption) ?_) | (with_reducible exact Nat.le_refl _) | (with_reducible exact Nat.le_succ _) | (with_reducible exact Nat.le_succ_of_le (by with_reducible assumption)) | omega | (simp; done) | (simp; omega) | (exact Nat.le_succ _) | (exact Nat.le_succ_of_le (by with_reducible assumption)))
    | succ j =>
      obtain ⟨b, o, rfl, hc⟩ : ∃ b o, a = some ⟨b, o, none⟩ ∧ ∀ i z, zs[i]? = some z → w.cell? ⟨b, o + i, none⟩ = some (.int .i64 z) := by
        rcases hcells with h | h
        · rw [h] at hl; simp at hl; omega
        · obtain ⟨b, o, h1, _, h2⟩ := h; exact ⟨b, o, h1, h2⟩
      obtain ⟨d, hd⟩ : ∃ d, zs[j]? = some d := ⟨zs[j]'(by omega), by simp⟩
      have C1 : wr.cell? ⟨b, o + j, none⟩ = some (.int .i64 d) := by
        have h := hc j d hd
        rw [hB.cell (cell_lt h)]; exact h
      have hj : ((j + 1 : Nat) : Int) - 1 = (j : Int) := by omega
      have hm : (j : Int) ≤ 9223372036854775806 := by unfold maxLen at hmax; omega
      have hjc : j ≤ cap := by omega
      have hb1 : b ≠ w.heap.size := by have := cell_lt (hc j d hd); omega
      have TK : zs.take (j + 1) = zs.take j ++ [d] := by
        obtain ⟨h1, h2⟩ := List.getElem?_eq_some_iff.1 hd
        rw [List.take_succ_eq_append_getElem h1, h2]
      by_cases h0 : d = 0
      · subst h0
        have HT2 := Lib.hid (show tr zs = tr (zs.take j) by rw [HT.out, TK, tr_zero])
        clear HT TK hcells hc hd
        go_wp2
        go_roundg j
        case measure => omega
        case rel => exact ⟨by omega, HT2, (O1.put 1 _).as rfl, O2.apart (by omega) _ _, hB.setCell (Nat.le_refl _) _⟩
      · have HT2 := Lib.hid (show tr zs = zs.take (j + 1) by rw [HT.out, TK, tr_last _ h0])
        have h0' : (d == 0) = false := by simpa using h0
        have hne : (zs.take (j + 1)).isEmpty = false := by rw [TK]; simp
        have NE := Lib.hid hne
        clear HT TK hcells hc hd hne
        go_wp2
        refine bodyPost_ret (v := .agg #[.bool neg, .slice (some ⟨b, o, none⟩) (j + 1) cap]) (by simp [results, Tryd.results33, go_sem, Q1]) rfl ⟨j + 1, ?_, HT2.out, hk, ?_⟩
        · rw [HT2.out, NE.out]; simp
        · repeat' (first | (with_reducible exact Below.refl _ _) | (with_reducible assumption) | (with_reducible refine below_drewN ?_ _) | (with_reducible refine Below.drew ?_) | (with_reducible refine Below.alloc ?_ ?_ _) | (with_reducible refine Below.setCell ?_ ?_ _) | (with_reducible refine then_ ?_ (by with_reducible assumption) ?_) | (with_reducible exact Nat.le_refl _) | (with_reducible exact Nat.le_succ _) | (with_reducible exact Nat.le_succ_of_le (by with_reducible assumption)) | omega | (simp; done) | (simp; omega) | (exact Nat.le_succ _) | (exact Nat.le_succ_of_le (by with_reducible assumption)))
end Go.Proofs.YtjmojddnedngaaaDoor
end
