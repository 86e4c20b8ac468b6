/- merged: Small facts that the walks' ends want: equal results, what is below a world's old size. It speaks of no function. A point that came in as an argument: two coordinates that an int can be. It speaks of no function. Bytes in a block of the call's own: what a text is as bytes, a byte that is written, bytes that are a text again. It speaks of no function. What a block of memory that a call made is known to hold, and that it holds it still behind calls that write nothing old. It speaks of no function. The contract of wide.timesWord. Conditions: words. The contracts of wide.below and wide.plus over words. No condition but that the arguments are words. -/
import Derived.Test.YtibnackmddigaaaRows
import Derived.WalkKit
import Derived.ProofKit
import Derived.OpenShut
import Derived.Lib.Hide
import Derived.PlainAid
import Derived.ChangeSame
import Derived.MakeChecks
import Derived.Laws.IdiomStrings
import Derived.Below
import Derived.Laws.Rows
import Derived.Laws.OwnMore
import Derived.Deep.Draws
import Derived.Test.YtibnackmddigaaaNum
import Derived.WalkSpells
import Derived.Shelf.Spec.BitsCarry
import Derived.Deep.RegionHeld3
import Derived.Handy
import Derived.Deep.QuietTactic
import Derived.BigQuiet
section
namespace Go.Proofs.Ytibnackmddigaaa
open Go.ChangeShapes Go.WideShapes Go.ChangeAt Go.RowKit
set_option linter.unusedVariables false

theorem ret_eq {k : IntKind} {a b : Int} (h : a = b) : Ending.returned (.int k a) = .returned (.int k b) := by rw [h]
theorem retb_eq {a b : Bool} (h : a = b) : Ending.returned (.bool a) = .returned (.bool b) := by rw [h]
theorem cell_lt {w : World} {b o : Nat} {v : Value} (h : w.cell? ⟨b, o, none⟩ = some v) : b < w.heap.size := by
  unfold World.cell? at h
  by_cases hb : b < w.heap.size
  · exact hb
  · have : w.heap[b]? = none := by simp; omega
    simp [this] at h
end Go.Proofs.Ytibnackmddigaaa
end
section
namespace Go.Proofs.Ytibnackmddigaaa
open Go.ChangeShapes Go.WideShapes Go.ChangeAt Go.RowKit
set_option linter.unusedVariables false
set_option maxRecDepth 20000
section
variable {H : Type} {enc : TypeId × Value → H} {W : World} {base : Nat} {spare : Nat → Bool} {held : Bool}
end
end Go.Proofs.Ytibnackmddigaaa
end
section
namespace Go.Proofs.Ytibnackmddigaaa
open Go.ChangeShapes Go.WideShapes Go.ChangeAt Go.RowKit
set_option linter.unusedVariables false

/-- block b holds the bytes L from its beginning on, and they may be written -/
structure BytesAt (w : World) (b : Nat) (L : List UInt8) : Prop where
  cell : ∀ j (h : j < L.length), w.cell? ⟨b, j, none⟩ = some (.int .u8 ((L[j]'h).toNat : Int))
  free : ∀ j, j < L.length → w.frozen? ⟨b, j, none⟩ = false

theorem BytesAt.store {w : World} {b : Nat} {L : List UInt8} (h : BytesAt w b L) (i : Nat) (hi : i < L.length) (v : UInt8) : BytesAt (w.setCell ⟨b, i, none⟩ (.int .u8 (v.toNat : Int))) b (L.set i v) := by
  refine ⟨fun j hj => ?_, fun j hj => ?_⟩
  · rw [List.length_set] at hj
    by_cases hij : i = j
    · subst hij
      rw [List.getElem_set_self]
      exact World.cell?_setCell_same w _ _ (h.cell i hi)
    · rw [List.getElem_set_ne hij, World.cell?_setCell_other _ _ _ _ (by intro e; injection e with _ e2; exact hij e2)]
      exact h.cell j hj
  · rw [List.length_set] at hj
    rw [World.frozen?_setCell]; exact h.free j hj
end Go.Proofs.Ytibnackmddigaaa
end
section
namespace Go.Proofs.Ytibnackmddigaaa
open Go.ChangeShapes Go.WideShapes Go.ChangeAt Go.RowKit
set_option linter.unusedVariables false

/-- block p holds just the cells cs, and they may be written -/
def Own (w : World) (p : Nat) (T : TypeId) (cs : Array Value) : Prop := w.heap[p]? = some (.cells cs T (0, 0))
theorem Own.in_ {w : World} {p : Nat} {T : TypeId} {cs : Array Value} (h : Own w p T cs) : p < w.heap.size := by
  by_cases hp : p < w.heap.size
  · exact hp
  · unfold Own at h
    rw [Array.getElem?_eq_none (by omega)] at h
    cases h
theorem Own.made (w : World) (T : TypeId) (cs : Array Value) : Own (w.alloc (.cells cs T)) w.heap.size T cs := by
  unfold Own World.alloc
  simp
theorem Own.more {w : World} {p : Nat} {T : TypeId} {cs : Array Value} (h : Own w p T cs) (o : Obj) : Own (w.alloc o) p T cs := by
  unfold Own
  rw [Below.heap_alloc w o p h.in_]
  exact h
theorem Own.keep {w w' : World} {p : Nat} {T : TypeId} {cs : Array Value} (h : Own w p T cs) (hb : Below w.heap.size w w') : Own w' p T cs := by
  unfold Own
  rw [hb.block p h.in_]
  exact h
theorem Own.drawn {w : World} {p : Nat} {T : TypeId} {cs : Array Value} (h : Own w p T cs) : Own w.drew p T cs := h
theorem Own.drawnN {w : World} {p : Nat} {T : TypeId} {cs : Array Value} (h : Own w p T cs) (n : Nat) : Own (w.drewN n) p T cs := h
theorem Own.put {w : World} {p : Nat} {T : TypeId} {cs : Array Value} (h : Own w p T cs) (i : Nat) (v : Value) : Own (w.setCell ⟨p, i, none⟩ v) p T (cs.setIfInBounds i v) := by
  unfold Own at h ⊢
  simp [World.setCell, Array.getElem?_modify, h]
theorem Own.apart {w : World} {p : Nat} {T : TypeId} {cs : Array Value} (h : Own w p T cs) {q : Nat} (hq : p ≠ q) (i : Nat) (v : Value) : Own (w.setCell ⟨q, i, none⟩ v) p T cs := by
  unfold Own
  rw [Below.heap_setCell w ⟨q, i, none⟩ v p hq]
  exact h
theorem Own.made_at {w : World} {p : Nat} {T : TypeId} {cs : Array Value} (h : p = w.heap.size) : Own (w.alloc (.cells cs T)) p T cs := h ▸ Own.made w T cs
theorem Own.as {w : World} {p : Nat} {T : TypeId} {cs cs' : Array Value} (h : Own w p T cs) (e : cs = cs') : Own w p T cs' := e ▸ h
theorem Own.at_ {w : World} {p : Nat} {T : TypeId} {cs : Array Value} (h : Own w p T cs) : (∀ i, w.cell? ⟨p, i, none⟩ = cs[i]?) ∧ (∀ i, w.frozen? ⟨p, i, none⟩ = false) ∧ p < w.heap.size := by
  refine ⟨fun i => ?_, fun i => ?_, h.in_⟩
  · unfold Own at h; simp [World.cell?, h]
  · unfold Own at h; simp [World.frozen?, h]
theorem keep {w w' : World} (hb : Below w.heap.size w w') {p q : Nat} {v : Value} (h : w.cell? ⟨p, q, none⟩ = some v) : w'.cell? ⟨p, q, none⟩ = some v :=
  (hb.cell (p := ⟨p, q, none⟩) (cell_lt h)).trans h
theorem below_drewN {B : Nat} {a w : World} (h : Below B a w) (q : Nat) : Below B a (w.drewN q) := ⟨h.os, h.tape, h.output, h.size, h.block⟩
theorem setCell_drawn (w : World) (n : Nat) (p : Addr) (v : Value) : (w.drewN n).setCell p v = (w.setCell p v).drewN n := rfl
/-- a call behind others -/
theorem then_ {B : Nat} {a w w' : World} (h : Below B a w) (hb : Below w.heap.size w w') (hB : B ≤ w.heap.size) : Below B a w' := h.trans (hb.mono hB)
/-- as Below, and no draw was given back: what a function that the sort calls has to say -/
structure Bel (B : Nat) (w w' : World) : Prop where
  base : Below B w w'
  drawn : w.drawn ≤ w'.drawn
instance {B : Nat} {w w' : World} : Coe (Bel B w w') (Below B w w') := ⟨Bel.base⟩
section
variable {B : Nat} {a w w' : World}
theorem Bel.refl (B : Nat) (w : World) : Bel B w w := ⟨Below.refl B w, Nat.le_refl _⟩
theorem Bel.trans {c : World} (h : Bel B a w) (k : Bel B w c) : Bel B a c := ⟨h.base.trans k.base, Nat.le_trans h.drawn k.drawn⟩
theorem Bel.mono {B' : Nat} (h : Bel B w w') (hB : B' ≤ B) : Bel B' w w' := ⟨h.base.mono hB, h.drawn⟩
theorem Bel.drew (h : Bel B a w) : Bel B a w.drew := ⟨h.base.drew, Nat.le_succ_of_le h.drawn⟩
theorem Bel.alloc (h : Bel B a w) (hB : B ≤ w.heap.size) (o : Obj) : Bel B a (w.alloc o) := ⟨h.base.alloc hB o, h.drawn⟩
theorem Bel.setCell (h : Bel B a w) {p : Addr} (hp : B ≤ p.block) (u : Value) : Bel B a (w.setCell p u) := ⟨h.base.setCell hp u, h.drawn⟩
theorem Bel.size (h : Bel B w w') : w.heap.size ≤ w'.heap.size := h.base.size
theorem Bel.os (h : Bel B w w') : w'.os = w.os := h.base.os
theorem Bel.tape (h : Bel B w w') : w'.tape = w.tape := h.base.tape
theorem Bel.output (h : Bel B w w') : w'.output = w.output := h.base.output
theorem Bel.block (h : Bel B w w') (k : Nat) (hk : k < B) : w'.heap[k]? = w.heap[k]? := h.base.block k hk
theorem Bel.cell (h : Bel B w w') {p : Addr} (hp : p.block < B) : w'.cell? p = w.cell? p := h.base.cell hp
theorem Bel.heap_alloc (w : World) (o : Obj) (k : Nat) (h : k < w.heap.size) : (w.alloc o).heap[k]? = w.heap[k]? := Below.heap_alloc w o k h
theorem Bel.heap_setCell (w : World) (a : Addr) (u : Value) (k : Nat) (h : k ≠ a.block) : (w.setCell a u).heap[k]? = w.heap[k]? := Below.heap_setCell w a u k h
theorem Own.keepB {p : Nat} {T : TypeId} {cs : Array Value} (h : Own w p T cs) (hb : Bel w.heap.size w w') : Own w' p T cs := Own.keep h hb.base
theorem keepB (hb : Bel w.heap.size w w') {p q : Nat} {v : Value} (h : w.cell? ⟨p, q, none⟩ = some v) : w'.cell? ⟨p, q, none⟩ = some v := keep hb.base h
theorem bel_drewN (h : Bel B a w) (q : Nat) : Bel B a (w.drewN q) := ⟨below_drewN h.base q, Nat.le_add_right_of_le h.drawn⟩
theorem thenB (h : Bel B a w) (hb : Bel w.heap.size w w') (hB : B ≤ w.heap.size) : Bel B a w' := h.trans (hb.mono hB)
end
end Go.Proofs.Ytibnackmddigaaa
end
section
namespace Go.Proofs.Ytibnackmddigaaa
open Go.ChangeShapes Go.WideShapes Go.ChangeAt Go.RowKit
set_option linter.unusedVariables false

theorem tup2_eq {k k' : IntKind} {a a' b b' : Int} (h : a = a') (h' : b = b') : Ending.returned (.tuple #[.int k a, .int k' b]) = .returned (.tuple #[.int k a', .int k' b']) := by rw [h, h']
theorem timesWord_gen (a b : Int) (h0 : 0 ≤ a) (h1 : a ≤ 18446744073709551615) (h2 : 0 ≤ b) (h3 : b ≤ 18446744073709551615) (w : World) :
    Calls Try.prog 124 #[.int .u64 a, .int .u64 b] w fun e w' => e = .returned (.tuple #[.int .u64 (a * b % 18446744073709551616), .int .u64 (a * b / 18446744073709551616)]) ∧ w = w' := by
  have H := Lib.hid (tw_all a b h0 h1 h2 h3)
  go_enter Try.func124, Try.ntmps124
  go_wp2
  go_ret2
  exact ⟨tup2_eq H.out.1 H.out.2, rfl⟩
end Go.Proofs.Ytibnackmddigaaa
end
section
namespace Go.Proofs.Ytibnackmddigaaa
open Go.ChangeShapes Go.WideShapes Go.ChangeAt Go.RowKit Go.Shelf
set_option linter.unusedVariables false

theorem below_gen (x0 x1 x2 x3 : Int) (h : W4 x0 x1 x2 x3) (w : World) :
    Calls Try.prog 52 #[.agg #[.int .u64 x0, .int .u64 x1, .int .u64 x2, .int .u64 x3]] w fun e w' => e = .returned (.bool (decide (9223372036854775808 ≤ x3))) ∧ ∃ c, w' = w.alloc (.cells c 61) := by
  obtain ⟨a0, b0, a1, b1, a2, b2, a3, b3⟩ := h
  go_enter Try.func52, Try.ntmps52
  go_wp2
  go_ret
  exact ⟨by simp, _, rfl⟩

theorem add64 (x y c : Int) (hx : 0 ≤ x) (hy : 0 ≤ y) (hc0 : 0 ≤ c) (hc : c ≤ 1) (w : World) : (callFunc 70 #[.int .u64 x, .int .u64 y, .int .u64 c]).run Try.prog w =
    .ok (.value (.tuple #[.int .u64 ((x + y + c) % 18446744073709551616), .int .u64 ((x + y + c) / 18446744073709551616)])) w := by
  rw [run_callFunc_extern Try.func70 (by kernel_rfl) (by kernel_rfl) (by kernel_rfl) (e := add64Entry) (by kernel_rfl), run_add64 x y c (by omega) (by omega) (by omega) (by omega)]
  simp only [Result.andThen]
theorem add64_0 (x y : Int) (hx : 0 ≤ x) (hy : 0 ≤ y) (w : World) : (callFunc 70 #[.int .u64 x, .int .u64 y, .int .u64 0]).run Try.prog w =
    .ok (.value (.tuple #[.int .u64 ((x + y) % 18446744073709551616), .int .u64 ((x + y) / 18446744073709551616)])) w := by
  simpa using add64 x y 0 hx hy (Int.le_refl 0) (by decide) w
/-- the carries of a sum -/
def k1 (x0 y0 : Int) : Int := (x0 + y0) / 18446744073709551616
def s1 (x0 y0 : Int) : Int := (x0 + y0) % 18446744073709551616
end Go.Proofs.Ytibnackmddigaaa
end
