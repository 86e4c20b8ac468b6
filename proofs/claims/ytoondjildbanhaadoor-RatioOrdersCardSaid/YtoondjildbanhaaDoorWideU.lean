/- merged: Small facts that the walks' ends want: equal results, what is below a world's old size. It speaks of no function. Bytes in a block of the call's own: what a text is as bytes, a byte that is written, bytes that are a text again. It speaks of no function. What a block of memory that a call made is known to hold, and that it holds it still behind calls that write nothing old. It speaks of no function. The contract of wide.timesWord. Conditions: words. The contract of wide.compare: rows of words against each other. Conditions: the rows can be read, up to 8 words. What '==' says of two arrays of four words. No condition. The contract of wide.up over words, by how many whole words are moved. Conditions: words; n not below 0. -/
import Derived.Test.YtoondjildbanhaaDoorRows
import Derived.WalkKit
import Derived.ProofKit
import Derived.OpenShut
import Derived.Lib.Hide
import Derived.PlainAid
import Derived.Laws.IdiomStrings
import Derived.Below
import Derived.Laws.Rows
import Derived.Laws.OwnMore
import Derived.Deep.Draws
import Derived.Test.YtoondjildbanhaaDoorRatM
import Derived.WalkSpells
import Derived.Deep.QuietTactic
import Derived.BigQuiet
import Derived.Laws.StructEq
import Derived.Laws.Tables
import Derived.Laws.Cover2
import Derived.KernelRfl
import Derived.Handy
section
namespace Go.Proofs.YtoondjildbanhaaDoor
open Go.ChangeShapes Go.WideShapes Go.ChangeAt Go.RowKit
set_option linter.unusedVariables false

theorem ret_eq {k : IntKind} {a b : Int} (h : a = b) : Ending.returned (.int k a) = .returned (.int k b) := by rw [h]
theorem retb_eq {a b : Bool} (h : a = b) : Ending.returned (.bool a) = .returned (.bool b) := by rw [h]
theorem rets_eq {a b : ByteArray} (h : a = b) : Ending.returned (.string a) = .returned (.string b) := by rw [h]
theorem grown_trans {a b c : World} (h : Grown a b) (k : Grown b c) : Grown a c :=
  ⟨World.keptBut_trans h.1 k.1, fun p => (k.2.1 p).trans (h.2.1 p), Nat.le_trans h.2.2 k.2.2⟩
theorem bcell {W w1 : World} (hb : Below W.heap.size W w1) : (∀ b o, b < W.heap.size → w1.cell? ⟨b, o, none⟩ = W.cell? ⟨b, o, none⟩) ∧ (∀ b o, b < W.heap.size → w1.frozen? ⟨b, o, none⟩ = W.frozen? ⟨b, o, none⟩) :=
  ⟨fun b o h => hb.cell (p := ⟨b, o, none⟩) h, fun b o h => hb.frozen (p := ⟨b, o, none⟩) h⟩
theorem str_ne {a b : ByteArray} (h : a ≠ b) : (a.toList == b.toList) = false := by
  rw [beq_eq_false_iff_ne, ByteArray.toList_eq, ByteArray.toList_eq]
  exact fun e => h (Go.WideShapes.bytes_inj e)
theorem cell_lt {w : World} {b o : Nat} {v : Value} (h : w.cell? ⟨b, o, none⟩ = some v) : b < w.heap.size := by
  unfold World.cell? at h
  by_cases hb : b < w.heap.size
  · exact hb
  · have : w.heap[b]? = none := by simp; omega
    simp [this] at h
/-- a slice of integers that came in: nil, or a row of 'cap' cells, the first 'len' its elements -/
def IsRow (k : IntKind) (w : World) (a : Option Addr) (len cap : Nat) (zs : List Int) : Prop :=
  (a = none ∧ len = 0 ∧ cap = 0 ∧ zs = []) ∨
  ∃ x, a = some x ∧ len ≤ cap ∧ cap ≤ maxLen ∧ zs.length = cap ∧ (∀ i, i < zs.length → w.cell? (x.add i) = some (.int k (zs.getD i 0))) ∧ ∀ n ∈ zs, (Lit.int k n).wf = true
/-- likewise of strings -/
def IsStrs (w : World) (a : Option Addr) (len cap : Nat) (zs : List ByteArray) : Prop :=
  (a = none ∧ len = 0 ∧ cap = 0 ∧ zs = []) ∨
  ∃ x, a = some x ∧ len ≤ cap ∧ cap ≤ maxLen ∧ zs.length = cap ∧ (∀ i, i < zs.length → w.cell? (x.add i) = some (.string (zs.getD i ByteArray.empty))) ∧ ∀ s ∈ zs, s.size ≤ maxLen
end Go.Proofs.YtoondjildbanhaaDoor
end
section
namespace Go.Proofs.YtoondjildbanhaaDoor
open Go.ChangeShapes Go.WideShapes Go.ChangeAt Go.RowKit
set_option linter.unusedVariables false

/-- block b holds the bytes L from its beginning on, and they may be written -/
structure BytesAt (w : World) (b : Nat) (L : List UInt8) : Prop where
  cell : ∀ j (h : j < L.length), w.cell? ⟨b, j, none⟩ = some (.int .u8 ((L[j]'h).toNat : Int))
  free : ∀ j, j < L.length → w.frozen? ⟨b, j, none⟩ = false

theorem BytesAt.store {w : World} {b : Nat} {L : List UInt8} (h : BytesAt w b L) (i : Nat) (hi : i < L.length) (v : UInt8) : BytesAt (w.setCell ⟨b, i, none⟩ (.int .u8 (v.toNat : Int))) b (L.set i v) := by
  refine ⟨fun j hj => ?_, fun j hj => ?_⟩
  · rw [List.length_set] at hj
    by_cases hij : i = j
    · subst hij
      rw [List.getElem_set_self]
      exact World.cell?_setCell_same w _ _ (h.cell i hi)
    · rw [List.getElem_set_ne hij, World.cell?_setCell_other _ _ _ _ (by intro e; injection e with _ e2; exact hij e2)]
      exact h.cell j hj
  · rw [List.length_set] at hj
    rw [World.frozen?_setCell]; exact h.free j hj
theorem to_bytes (P : Program) (w : World) (src dst e : TypeId) (s : ByteArray) (hs : P.underlying src = some .string) (hd : P.underlying dst = some (.slice e)) (he : P.underlying e = some (.int .u8)) :
    ∃ c w', (convert src dst (.string s)).run P w = .ok (.slice (some ⟨w.heap.size, 0, none⟩) s.size c) w' ∧ BytesAt w' w.heap.size s.data.toList ∧ Below w.heap.size w w' ∧ w.heap.size < w'.heap.size := by
  refine ⟨_, _, run_bytes_of_string w src dst e s hs hd he, ⟨fun j hj => ?_, fun j hj => ?_⟩, ((Below.refl _ _).drew).alloc (Nat.le_refl _) _, by simp⟩
  · have hj' : j < s.data.size := by simpa using hj
    have := World.cell?_alloc_mark w.drew (bytesRow s (grownCap w s.size 0 e)) e ((bytesRow s (grownCap w s.size 0 e)).size, (bytesRow s (grownCap w s.size 0 e)).size + 1) j
    rw [bytesRow_at s _ j hj'] at this
    simpa using this
  · have hj' : j < s.data.size := by simpa using hj
    have := World.frozen?_alloc_mark w.drew (bytesRow s (grownCap w s.size 0 e)) e (bytesRow s (grownCap w s.size 0 e)).size ((bytesRow s (grownCap w s.size 0 e)).size + 1) j
    refine this.trans ?_
    have hb : j < (bytesRow s (grownCap w s.size 0 e)).size := by
      have h := bytesRow_at s (grownCap w s.size 0 e) j hj'
      rw [Array.getElem?_eq_some_iff] at h
      exact h.1
    simp; omega
theorem of_bytes (P : Program) (w : World) (src dst e : TypeId) (b cap : Nat) (L : List UInt8) (h : BytesAt w b L) (hs : P.underlying src = some (.slice e)) (he : P.underlying e = some (.int .u8)) (hd : P.underlying dst = some .string) :
    (convert src dst (.slice (some ⟨b, 0, none⟩) L.length cap)).run P w = .ok (.string ⟨L.toArray⟩) w :=
  run_convert_bytes_back (P := P) w src dst e ⟨b, 0, none⟩ cap L hs he hd (fun j hj => by
    have ea : (⟨b, 0, none⟩ : Addr).add j = ⟨b, j, none⟩ := by unfold Addr.add; split <;> simp_all
    rw [ea]; exact h.cell j hj)
end Go.Proofs.YtoondjildbanhaaDoor
end
section
namespace Go.Proofs.YtoondjildbanhaaDoor
open Go.ChangeShapes Go.WideShapes Go.ChangeAt Go.RowKit
set_option linter.unusedVariables false

/-- block p holds just the cells cs, and they may be written -/
def Own (w : World) (p : Nat) (T : TypeId) (cs : Array Value) : Prop := w.heap[p]? = some (.cells cs T (0, 0))
theorem Own.in_ {w : World} {p : Nat} {T : TypeId} {cs : Array Value} (h : Own w p T cs) : p < w.heap.size := by
  by_cases hp : p < w.heap.size
  · exact hp
  · unfold Own at h
    rw [Array.getElem?_eq_none (by omega)] at h
    cases h
theorem Own.made (w : World) (T : TypeId) (cs : Array Value) : Own (w.alloc (.cells cs T)) w.heap.size T cs := by
  unfold Own World.alloc
  simp
theorem Own.more {w : World} {p : Nat} {T : TypeId} {cs : Array Value} (h : Own w p T cs) (o : Obj) : Own (w.alloc o) p T cs := by
  unfold Own
  rw [Below.heap_alloc w o p h.in_]
  exact h
theorem Own.keep {w w' : World} {p : Nat} {T : TypeId} {cs : Array Value} (h : Own w p T cs) (hb : Below w.heap.size w w') : Own w' p T cs := by
  unfold Own
  rw [hb.block p h.in_]
  exact h
theorem Own.drawn {w : World} {p : Nat} {T : TypeId} {cs : Array Value} (h : Own w p T cs) : Own w.drew p T cs := h
theorem Own.drawnN {w : World} {p : Nat} {T : TypeId} {cs : Array Value} (h : Own w p T cs) (n : Nat) : Own (w.drewN n) p T cs := h
theorem Own.put {w : World} {p : Nat} {T : TypeId} {cs : Array Value} (h : Own w p T cs) (i : Nat) (v : Value) : Own (w.setCell ⟨p, i, none⟩ v) p T (cs.setIfInBounds i v) := by
  unfold Own at h ⊢
  simp [World.setCell, Array.getElem?_modify, h]
theorem Own.apart {w : World} {p : Nat} {T : TypeId} {cs : Array Value} (h : Own w p T cs) {q : Nat} (hq : p ≠ q) (i : Nat) (v : Value) : Own (w.setCell ⟨q, i, none⟩ v) p T cs := by
  unfold Own
  rw [Below.heap_setCell w ⟨q, i, none⟩ v p hq]
  exact h
theorem Own.made_at {w : World} {p : Nat} {T : TypeId} {cs : Array Value} (h : p = w.heap.size) : Own (w.alloc (.cells cs T)) p T cs := h ▸ Own.made w T cs
theorem Own.as {w : World} {p : Nat} {T : TypeId} {cs cs' : Array Value} (h : Own w p T cs) (e : cs = cs') : Own w p T cs' := e ▸ h
theorem Own.at_ {w : World} {p : Nat} {T : TypeId} {cs : Array Value} (h : Own w p T cs) : (∀ i, w.cell? ⟨p, i, none⟩ = cs[i]?) ∧ (∀ i, w.frozen? ⟨p, i, none⟩ = false) ∧ p < w.heap.size := by
  refine ⟨fun i => ?_, fun i => ?_, h.in_⟩
  · unfold Own at h; simp [World.cell?, h]
  · unfold Own at h; simp [World.frozen?, h]
theorem keep {w w' : World} (hb : Below w.heap.size w w') {p q : Nat} {v : Value} (h : w.cell? ⟨p, q, none⟩ = some v) : w'.cell? ⟨p, q, none⟩ = some v :=
  (hb.cell (p := ⟨p, q, none⟩) (cell_lt h)).trans h
theorem below_drewN {B : Nat} {a w : World} (h : Below B a w) (q : Nat) : Below B a (w.drewN q) := ⟨h.os, h.tape, h.output, h.size, h.block⟩
theorem setCell_drawn (w : World) (n : Nat) (p : Addr) (v : Value) : (w.drewN n).setCell p v = (w.setCell p v).drewN n := rfl
/-- a call behind others -/
theorem then_ {B : Nat} {a w w' : World} (h : Below B a w) (hb : Below w.heap.size w w') (hB : B ≤ w.heap.size) : Below B a w' := h.trans (hb.mono hB)
end Go.Proofs.YtoondjildbanhaaDoor
end
section
namespace Go.Proofs.YtoondjildbanhaaDoor
open Go.ChangeShapes Go.WideShapes Go.ChangeAt Go.RowKit
set_option linter.unusedVariables false

theorem tup2_eq {k k' : IntKind} {a a' b b' : Int} (h : a = a') (h' : b = b') : Ending.returned (.tuple #[.int k a, .int k' b]) = .returned (.tuple #[.int k a', .int k' b']) := by rw [h, h']
theorem timesWord_gen (a b : Int) (h0 : 0 ≤ a) (h1 : a ≤ 18446744073709551615) (h2 : 0 ≤ b) (h3 : b ≤ 18446744073709551615) (w : World) :
    Calls Tryd.prog 72 #[.int .u64 a, .int .u64 b] w fun e w' => e = .returned (.tuple #[.int .u64 (a * b % 18446744073709551616), .int .u64 (a * b / 18446744073709551616)]) ∧ w = w' := by
  have H := Lib.hid (tw_all a b h0 h1 h2 h3)
  go_enter Tryd.func72, Tryd.ntmps72
  go_wp2
  go_ret2
  exact ⟨tup2_eq H.out.1 H.out.2, rfl⟩
end Go.Proofs.YtoondjildbanhaaDoor
end
section
namespace Go.Proofs.YtoondjildbanhaaDoor
open Go.ChangeShapes Go.WideShapes Go.ChangeAt Go.RowKit
set_option linter.unusedVariables false

/-- what comparing the first n words, from the highest on, answers -/
def cmpW (X Y : Nat → Int) : Nat → Int
  | 0 => 0
  | n + 1 => if X n < Y n then -1 else if X n > Y n then 1 else cmpW X Y n
theorem cmpW_lt {X Y : Nat → Int} {n : Nat} (h : X n < Y n) : cmpW X Y (n + 1) = -1 := by simp [cmpW, h]
theorem cmpW_gt {X Y : Nat → Int} {n : Nat} (h : Y n < X n) : cmpW X Y (n + 1) = 1 := by
  have : ¬ X n < Y n := by omega
  simp [cmpW, h, this]
theorem cmpW_eq {X Y : Nat → Int} {n : Nat} (h : X n = Y n) : cmpW X Y (n + 1) = cmpW X Y n := by simp [cmpW, h]

set_option maxHeartbeats 1600000 in
set_option maxRecDepth 20000 in
theorem compare_any (X Y : Nat → Int) (p q n c d : Nat) (hn : n ≤ 8) (w : World) (hX : ∀ i, i < n → w.cell? ⟨p, i, none⟩ = some (.int .u64 (X i))) (hY : ∀ i, i < n → w.cell? ⟨q, i, none⟩ = some (.int .u64 (Y i))) :
    Calls Tryd.prog 63 #[.slice (some ⟨p, 0, none⟩) n c, .slice (some ⟨q, 0, none⟩) n d] w fun e w' => e = .returned (.int .i64 (cmpW X Y n)) ∧ ∃ m, w' = w.drewN m := by
  have HX := Lib.hid hX; have HY := Lib.hid hY
  clear hX hY
  go_enter Tryd.func63, Tryd.ntmps63
  go_wp2
  go_loopw [5] (fun i wr => ∃ k m : Nat, k ≤ n ∧ Hid (cmpW X Y n = cmpW X Y k) ∧ i = .int .i64 ((k : Int) - 1) ∧ wr = w.drewN m) (fun i _ => (intOf i + 1).toNat)
  case atStart => exact ⟨n, 0, Nat.le_refl _, rfl, rfl, by rw [World.drewN_zero]⟩
  case round =>
    obtain ⟨k, m, hk, HK, rfl, rfl⟩ := hrel
    by_cases hk0 : k = 0
    · subst hk0
      go_wp2
      go_ret
      exact ⟨ret_eq (by rw [HK.out]; rfl), m, rfl⟩
    · obtain ⟨j, rfl⟩ : ∃ j, k = j + 1 := ⟨k - 1, by omega⟩
      have hx := HX.out j (by omega)
      have hy := HY.out j (by omega)
      have i0 : (0 : Int) ≤ (j : Int) := by omega
      have i1 : (j : Int) < (n : Int) := by omega
      have i2 : ((j + 1 : Nat) : Int) - 1 = (j : Int) := by omega
      rw [i2]
      clear i2 hk0
      by_cases hl : X j < Y j
      · have HL := Lib.hid (cmpW_lt hl)
        go_wp2
        go_region
        all_goals
          go_wp2
          go_ret
          exact ⟨ret_eq (by rw [HK.out, HL.out]), m + 1, rfl⟩
      · by_cases hg : Y j < X j
        · have HL := Lib.hid (cmpW_gt hg)
          have d1 : decide (X j < Y j) = false := by simpa using hl
          clear hl
          go_wp2
          go_region
          all_goals
            go_wp2
            go_region
            all_goals
              go_wp2
              go_ret
              exact ⟨ret_eq (by rw [HK.out, HL.out]), m + 1 + 1, rfl⟩
        · have HL := Lib.hid (cmpW_eq (X := X) (Y := Y) (n := j) (by omega))
          have d1 : decide (X j < Y j) = false := by simpa using hl
          have d2 : decide (Y j < X j) = false := by simpa using hg
          clear hl hg
          go_wp2
          go_region
          all_goals
            go_wp2
            go_region
            all_goals
              go_wp2
              go_roundw
              case rel => exact ⟨j, m + 1 + 1, by omega, by unfold Hid; rw [HK.out, HL.out], rfl, rfl⟩
              case measure => simp [intOf]
end Go.Proofs.YtoondjildbanhaaDoor
end
section
namespace Go.Proofs.YtoondjildbanhaaDoor
open Go.ChangeShapes Go.WideShapes Go.ChangeAt Go.RowKit
set_option linter.unusedVariables false

theorem eq_Int (x0 x1 x2 x3 : Int) (y0 y1 y2 y3 : Int) (w : World) : (Op.equalIn 10000 24 (.agg #[.int .u64 x0, .int .u64 x1, .int .u64 x2, .int .u64 x3]) (.agg #[.int .u64 y0, .int .u64 y1, .int .u64 y2, .int .u64 y3])).run Tryd.prog w = .ok (decide (x0 = y0 ∧ x1 = y1 ∧ x2 = y2 ∧ x3 = y3)) w := by
  have u3 := Tryd.underlying22
  have a3 := Tryd.isAgg22
  have z3 := Tryd.sizeOf22
  rw [show (10000 : Nat) = 9999 + 1 from rfl, Op.equalIn]
  simp only [Sem.run_bind, run_underlying Tryd.underlying24, Result.andThen_ok]
  simp only [Std.Legacy.Range.forIn_eq_forIn_range', Std.Legacy.Range.size, Nat.sub_zero, Nat.add_sub_cancel, Nat.div_one, List.range'_succ, List.range'_zero, List.forIn_cons, List.forIn_nil]
  go_simp
  by_cases h0 : x0 = y0 <;> by_cases h1 : x1 = y1 <;> by_cases h2 : x2 = y2 <;> by_cases h3 : x3 = y3 <;> simp [h0, h1, h2, h3]
theorem eq_size (x0 x1 x2 x3 : Int) (y0 y1 y2 y3 : Int) (w : World) : (Op.equalIn 10000 81 (.agg #[.int .u64 x0, .int .u64 x1, .int .u64 x2, .int .u64 x3]) (.agg #[.int .u64 y0, .int .u64 y1, .int .u64 y2, .int .u64 y3])).run Tryd.prog w = .ok (decide (x0 = y0 ∧ x1 = y1 ∧ x2 = y2 ∧ x3 = y3)) w := by
  have u3 := Tryd.underlying22
  have a3 := Tryd.isAgg22
  have z3 := Tryd.sizeOf22
  rw [show (10000 : Nat) = 9999 + 1 from rfl, Op.equalIn]
  simp only [Sem.run_bind, run_underlying Tryd.underlying81, Result.andThen_ok]
  simp only [Std.Legacy.Range.forIn_eq_forIn_range', Std.Legacy.Range.size, Nat.sub_zero, Nat.add_sub_cancel, Nat.div_one, List.range'_succ, List.range'_zero, List.forIn_cons, List.forIn_nil]
  go_simp
  by_cases h0 : x0 = y0 <;> by_cases h1 : x1 = y1 <;> by_cases h2 : x2 = y2 <;> by_cases h3 : x3 = y3 <;> simp [h0, h1, h2, h3]
theorem eq_arr (x0 x1 x2 x3 : Int) (y0 y1 y2 y3 : Int) (w : World) : (Op.equalIn 10000 23 (.agg #[.int .u64 x0, .int .u64 x1, .int .u64 x2, .int .u64 x3]) (.agg #[.int .u64 y0, .int .u64 y1, .int .u64 y2, .int .u64 y3])).run Tryd.prog w = .ok (decide (x0 = y0 ∧ x1 = y1 ∧ x2 = y2 ∧ x3 = y3)) w := by
  have u3 := Tryd.underlying22
  have a3 := Tryd.isAgg22
  have z3 := Tryd.sizeOf22
  rw [show (10000 : Nat) = 9999 + 1 from rfl, Op.equalIn]
  simp only [Sem.run_bind, run_underlying Tryd.underlying23, Result.andThen_ok]
  simp only [Std.Legacy.Range.forIn_eq_forIn_range', Std.Legacy.Range.size, Nat.sub_zero, Nat.add_sub_cancel, Nat.div_one, List.range'_succ, List.range'_zero, List.forIn_cons, List.forIn_nil]
  go_simp
  by_cases h0 : x0 = y0 <;> by_cases h1 : x1 = y1 <;> by_cases h2 : x2 = y2 <;> by_cases h3 : x3 = y3 <;> simp [h0, h1, h2, h3]
theorem dec_fit {a b : Int} (ha : Fit a) (hb : Fit b) : decide (L0 a = L0 b ∧ L1 a = L1 b ∧ L2 a = L2 b ∧ L3 a = L3 b) = decide (a = b) := by
  by_cases h : a = b
  · simp [h]
  · have : ¬ (L0 a = L0 b ∧ L1 a = L1 b ∧ L2 a = L2 b ∧ L3 a = L3 b) := fun ⟨h0, h1, h2, h3⟩ => h (ha.inj hb h0 h1 h2 h3)
    simp only [this, h]
theorem dec_siz {a b : Int} (ha : Siz a) (hb : Siz b) : decide (L0 a = L0 b ∧ L1 a = L1 b ∧ L2 a = L2 b ∧ L3 a = L3 b) = decide (a = b) := by
  by_cases h : a = b
  · simp [h]
  · have : ¬ (L0 a = L0 b ∧ L1 a = L1 b ∧ L2 a = L2 b ∧ L3 a = L3 b) := fun ⟨h0, h1, h2, h3⟩ => h (ha.inj hb h0 h1 h2 h3)
    simp only [this, h]
theorem eq_fit {a b : Int} (ha : Fit a) (hb : Fit b) (w : World) : (Op.equalIn 10000 24 (.agg #[.int .u64 (L0 a), .int .u64 (L1 a), .int .u64 (L2 a), .int .u64 (L3 a)]) (.agg #[.int .u64 (L0 b), .int .u64 (L1 b), .int .u64 (L2 b), .int .u64 (L3 b)])).run Tryd.prog w = .ok (decide (a = b)) w := by
  rw [eq_Int, dec_fit ha hb]
theorem eq_siz {a b : Int} (ha : Siz a) (hb : Siz b) (w : World) : (Op.equalIn 10000 81 (.agg #[.int .u64 (L0 a), .int .u64 (L1 a), .int .u64 (L2 a), .int .u64 (L3 a)]) (.agg #[.int .u64 (L0 b), .int .u64 (L1 b), .int .u64 (L2 b), .int .u64 (L3 b)])).run Tryd.prog w = .ok (decide (a = b)) w := by
  rw [eq_size, dec_siz ha hb]
end Go.Proofs.YtoondjildbanhaaDoor
end
section
namespace Go.Proofs.YtoondjildbanhaaDoor
open Go.ChangeShapes Go.WideShapes Go.ChangeAt Go.RowKit
set_option linter.unusedVariables false

/-- a word moved up, alone and with what comes in from the word below -/
def su (x r : Int) : Int := IntKind.u64.wrap (x * 2 ^ r.toNat)
def so (x y r : Int) : Int := bits .or .u64 (IntKind.u64.wrap (x * 2 ^ r.toNat)) (y / 2 ^ (64 - r).toNat)
set_option maxHeartbeats 1600000 in
set_option maxRecDepth 20000 in
theorem up_0 (x0 x1 x2 x3 : Int) (h : W4 x0 x1 x2 x3) (n r : Int) (hn : 0 ≤ n) (hn' : n ≤ 9223372036854775807) (hq : n / 64 = 0) (hr : n % 64 = r) (w : World) :
    Calls Tryd.prog 74 #[.agg #[.int .u64 x0, .int .u64 x1, .int .u64 x2, .int .u64 x3], .int .i64 n] w fun e w' => e = .returned (.agg #[.int .u64 (su x0 r), .int .u64 (so x1 x0 r), .int .u64 (so x2 x1 r), .int .u64 (so x3 x2 r)]) ∧ ∃ c1 c2 c3 m, w' = (((w.alloc (.cells c1 81)).alloc (.cells c2 81)).alloc (.cells c3 81)).drewN m := by
  obtain ⟨a0, b0, a1, b1, a2, b2, a3, b3⟩ := h
  have r0 : 0 ≤ r := by omega
  have r1 : r ≤ 63 := by omega
  go_enter Tryd.func74, Tryd.ntmps74
  go_wp2
  refine wp_loop_rounds 6 ?_
  rw [rounds_succ]
  go_wp2
  rw [rounds_succ]
  go_wp2
  go_region
  go_wp2
  rw [rounds_succ]
  go_wp2
  go_region
  go_wp2
  rw [rounds_succ]
  go_wp2
  go_region
  go_wp2
  rw [rounds_succ]
  go_wp2
  refine bodyPost_ret (by simp [results, Tryd.results74, go_sem, su, so]) rfl ⟨rfl, _, _, _, 3, rfl⟩
set_option maxHeartbeats 1600000 in
set_option maxRecDepth 20000 in
theorem up_1 (x0 x1 x2 x3 : Int) (h : W4 x0 x1 x2 x3) (n r : Int) (hn : 0 ≤ n) (hn' : n ≤ 9223372036854775807) (hq : n / 64 = 1) (hr : n % 64 = r) (w : World) :
    Calls Tryd.prog 74 #[.agg #[.int .u64 x0, .int .u64 x1, .int .u64 x2, .int .u64 x3], .int .i64 n] w fun e w' => e = .returned (.agg #[.int .u64 0, .int .u64 (su x0 r), .int .u64 (so x1 x0 r), .int .u64 (so x2 x1 r)]) ∧ ∃ c1 c2 c3 m, w' = (((w.alloc (.cells c1 81)).alloc (.cells c2 81)).alloc (.cells c3 81)).drewN m := by
  obtain ⟨a0, b0, a1, b1, a2, b2, a3, b3⟩ := h
  have r0 : 0 ≤ r := by omega
  have r1 : r ≤ 63 := by omega
  go_enter Tryd.func74, Tryd.ntmps74
  go_wp2
  refine wp_loop_rounds 6 ?_
  rw [rounds_succ]
  go_wp2
  rw [rounds_succ]
  go_wp2
  go_region
  go_wp2
  rw [rounds_succ]
  go_wp2
  go_region
  go_wp2
  rw [rounds_succ]
  go_wp2
  refine bodyPost_ret (by simp [results, Tryd.results74, go_sem, su, so]) rfl ⟨rfl, _, _, _, 2, rfl⟩
set_option maxHeartbeats 1600000 in
set_option maxRecDepth 20000 in
theorem up_2 (x0 x1 x2 x3 : Int) (h : W4 x0 x1 x2 x3) (n r : Int) (hn : 0 ≤ n) (hn' : n ≤ 9223372036854775807) (hq : n / 64 = 2) (hr : n % 64 = r) (w : World) :
    Calls Tryd.prog 74 #[.agg #[.int .u64 x0, .int .u64 x1, .int .u64 x2, .int .u64 x3], .int .i64 n] w fun e w' => e = .returned (.agg #[.int .u64 0, .int .u64 0, .int .u64 (su x0 r), .int .u64 (so x1 x0 r)]) ∧ ∃ c1 c2 c3 m, w' = (((w.alloc (.cells c1 81)).alloc (.cells c2 81)).alloc (.cells c3 81)).drewN m := by
  obtain ⟨a0, b0, a1, b1, a2, b2, a3, b3⟩ := h
  have r0 : 0 ≤ r := by omega
  have r1 : r ≤ 63 := by omega
  go_enter Tryd.func74, Tryd.ntmps74
  go_wp2
  refine wp_loop_rounds 6 ?_
  rw [rounds_succ]
  go_wp2
  rw [rounds_succ]
  go_wp2
  go_region
  go_wp2
  rw [rounds_succ]
  go_wp2
  refine bodyPost_ret (by simp [results, Tryd.results74, go_sem, su, so]) rfl ⟨rfl, _, _, _, 1, rfl⟩
set_option maxHeartbeats 1600000 in
set_option maxRecDepth 20000 in
theorem up_3 (x0 x1 x2 x3 : Int) (h : W4 x0 x1 x2 x3) (n r : Int) (hn : 0 ≤ n) (hn' : n ≤ 9223372036854775807) (hq : n / 64 = 3) (hr : n % 64 = r) (w : World) :
    Calls Tryd.prog 74 #[.agg #[.int .u64 x0, .int .u64 x1, .int .u64 x2, .int .u64 x3], .int .i64 n] w fun e w' => e = .returned (.agg #[.int .u64 0, .int .u64 0, .int .u64 0, .int .u64 (su x0 r)]) ∧ ∃ c1 c2 c3 m, w' = (((w.alloc (.cells c1 81)).alloc (.cells c2 81)).alloc (.cells c3 81)).drewN m := by
  obtain ⟨a0, b0, a1, b1, a2, b2, a3, b3⟩ := h
  have r0 : 0 ≤ r := by omega
  have r1 : r ≤ 63 := by omega
  go_enter Tryd.func74, Tryd.ntmps74
  go_wp2
  refine wp_loop_rounds 6 ?_
  rw [rounds_succ]
  go_wp2
  rw [rounds_succ]
  go_wp2
  refine bodyPost_ret (by simp [results, Tryd.results74, go_sem, su]) rfl ⟨rfl, _, _, _, 0, rfl⟩
set_option maxHeartbeats 1600000 in
set_option maxRecDepth 20000 in
theorem up_4 (x0 x1 x2 x3 : Int) (h : W4 x0 x1 x2 x3) (n r : Int) (hn : 0 ≤ n) (hn' : n ≤ 9223372036854775807) (hq : 4 ≤ n / 64) (hr : n % 64 = r) (w : World) :
    Calls Tryd.prog 74 #[.agg #[.int .u64 x0, .int .u64 x1, .int .u64 x2, .int .u64 x3], .int .i64 n] w fun e w' => e = .returned (.agg #[.int .u64 0, .int .u64 0, .int .u64 0, .int .u64 0]) ∧ ∃ c1 c2 c3 m, w' = (((w.alloc (.cells c1 81)).alloc (.cells c2 81)).alloc (.cells c3 81)).drewN m := by
  obtain ⟨a0, b0, a1, b1, a2, b2, a3, b3⟩ := h
  have r0 : 0 ≤ r := by omega
  have r1 : r ≤ 63 := by omega
  have d : decide (n / 64 < 4) = false := by simpa using hq
  go_enter Tryd.func74, Tryd.ntmps74
  go_wp2
  refine wp_loop_rounds 6 ?_
  rw [rounds_succ]
  go_wp2
  refine bodyPost_ret (by simp [results, Tryd.results74, go_sem]) rfl ⟨rfl, _, _, _, 0, rfl⟩
end Go.Proofs.YtoondjildbanhaaDoor
end
