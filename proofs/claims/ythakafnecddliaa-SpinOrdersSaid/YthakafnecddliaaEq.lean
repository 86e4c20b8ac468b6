/- merged: Small facts that the walks' ends want: equal results, what is below a world's old size. It speaks of no function. A point that came in as an argument: two coordinates that an int can be. It speaks of no function. Bytes in a block of the call's own: what a text is as bytes, a byte that is written, bytes that are a text again. It speaks of no function. What a block of memory that a call made is known to hold, and that it holds it still behind calls that write nothing old. It speaks of no function. The contract of wide.timesWord. Conditions: words. The contracts of wide.below and wide.plus over words. No condition but that the arguments are words. What '==' says of two arrays of four words. No condition. -/
import Derived.Test.YthakafnecddliaaRows
import Derived.WalkKit
import Derived.ProofKit
import Derived.OpenShut
import Derived.Lib.Hide
import Derived.PlainAid
import Derived.ChangeSame
import Derived.MakeChecks
import Derived.Laws.IdiomStrings
import Derived.Below
import Derived.Laws.Rows
import Derived.Laws.OwnMore
import Derived.Deep.Draws
import Derived.Test.YthakafnecddliaaRatM
import Derived.WalkSpells
import Derived.Shelf.Spec.BitsCarry
import Derived.Deep.RegionHeld3
import Derived.Handy
import Derived.Deep.QuietTactic
import Derived.BigQuiet
import Derived.Laws.StructEq
import Derived.Laws.Tables
import Derived.Laws.Cover2
import Derived.KernelRfl
section
namespace Go.Proofs.Ythakafnecddliaa
open Go.ChangeShapes Go.WideShapes Go.ChangeAt Go.RowKit
set_option linter.unusedVariables false

theorem ret_eq {k : IntKind} {a b : Int} (h : a = b) : Ending.returned (.int k a) = .returned (.int k b) := by rw [h]
theorem retb_eq {a b : Bool} (h : a = b) : Ending.returned (.bool a) = .returned (.bool b) := by rw [h]
theorem rets_eq {a b : ByteArray} (h : a = b) : Ending.returned (.string a) = .returned (.string b) := by rw [h]
theorem grown_trans {a b c : World} (h : Grown a b) (k : Grown b c) : Grown a c :=
  ⟨World.keptBut_trans h.1 k.1, fun p => (k.2.1 p).trans (h.2.1 p), Nat.le_trans h.2.2 k.2.2⟩
theorem bcell {W w1 : World} (hb : Below W.heap.size W w1) : (∀ b o, b < W.heap.size → w1.cell? ⟨b, o, none⟩ = W.cell? ⟨b, o, none⟩) ∧ (∀ b o, b < W.heap.size → w1.frozen? ⟨b, o, none⟩ = W.frozen? ⟨b, o, none⟩) :=
  ⟨fun b o h => hb.cell (p := ⟨b, o, none⟩) h, fun b o h => hb.frozen (p := ⟨b, o, none⟩) h⟩
theorem str_ne {a b : ByteArray} (h : a ≠ b) : (a.toList == b.toList) = false := by
  rw [beq_eq_false_iff_ne, ByteArray.toList_eq, ByteArray.toList_eq]
  exact fun e => h (Go.WideShapes.bytes_inj e)
theorem cell_lt {w : World} {b o : Nat} {v : Value} (h : w.cell? ⟨b, o, none⟩ = some v) : b < w.heap.size := by
  unfold World.cell? at h
  by_cases hb : b < w.heap.size
  · exact hb
  · have : w.heap[b]? = none := by simp; omega
    simp [this] at h
/-- a slice of integers that came in: nil, or a row of 'cap' cells, the first 'len' its elements -/
def IsRow (k : IntKind) (w : World) (a : Option Addr) (len cap : Nat) (zs : List Int) : Prop :=
  (a = none ∧ len = 0 ∧ cap = 0 ∧ zs = []) ∨
  ∃ x, a = some x ∧ len ≤ cap ∧ cap ≤ maxLen ∧ zs.length = cap ∧ (∀ i, i < zs.length → w.cell? (x.add i) = some (.int k (zs.getD i 0))) ∧ ∀ n ∈ zs, (Lit.int k n).wf = true
/-- likewise of strings -/
def IsStrs (w : World) (a : Option Addr) (len cap : Nat) (zs : List ByteArray) : Prop :=
  (a = none ∧ len = 0 ∧ cap = 0 ∧ zs = []) ∨
  ∃ x, a = some x ∧ len ≤ cap ∧ cap ≤ maxLen ∧ zs.length = cap ∧ (∀ i, i < zs.length → w.cell? (x.add i) = some (.string (zs.getD i ByteArray.empty))) ∧ ∀ s ∈ zs, s.size ≤ maxLen
end Go.Proofs.Ythakafnecddliaa
end
section
namespace Go.Proofs.Ythakafnecddliaa
open Go.ChangeShapes Go.WideShapes Go.ChangeAt Go.RowKit
set_option linter.unusedVariables false
set_option maxRecDepth 20000
section
variable {H : Type} {enc : TypeId × Value → H} {W : World} {base : Nat} {spare : Nat → Bool} {held : Bool}
theorem cP : Try.prog.cellsOf 37 = 2 := by kernel_rfl
theorem cI : Try.prog.cellsOf 3 = 1 := by kernel_rfl
theorem open_pt {r : Reach} {b0 : Nat} {v : Value} {d : DataW H} {ps : List MemPlace} (hval : Value.okWide Try.prog W r b0 37 v) (hd : DataW.Trod enc Try.prog W base spare held 37 v d ps) :
    ∃ x y : Int, v = .agg #[.int .i64 x, .int .i64 y] ∧ ps = [] ∧ (Lit.int .i64 x).wf = true ∧ (Lit.int .i64 y).wf = true := by
  obtain ⟨cs, rfl, hsz, _⟩ : ∃ cs, v = .agg cs ∧ cs.size = Try.prog.cellsOf 37 ∧ Row.okWide Try.prog W r b0 37 cs := by
    simp only [Value.okWide, Try.underlying37] at hval
    exact hval
  rw [cP] at hsz
  obtain ⟨l⟩ := cs
  have hl : l.length = 2 := hsz
  obtain ⟨c0, l, rfl⟩ := List.exists_cons_of_length_eq_add_one hl
  replace hl : l.length = 1 := by simpa using hl
  obtain ⟨c1, l, rfl⟩ := List.exists_cons_of_length_eq_add_one hl
  replace hl : l.length = 0 := by simpa using hl
  obtain rfl := List.length_eq_zero_iff.1 hl
  obtain ⟨fuel, hf⟩ := hd
  obtain ⟨y0, y1, m, hx, _, hy0, hy1⟩ := trod_struct2 Try.underlying37 hf
  simp only [cI, Value.cells] at hy0 hy1
  obtain ⟨x0, e0, rfl, w0⟩ := DataW.trod_int Try.underlying3 hy0
  obtain ⟨x1, e1, rfl, w1⟩ := DataW.trod_int Try.underlying3 hy1
  simp at e0 e1
  subst e0 e1
  simp only [Prod.mk.injEq] at hx
  exact ⟨x0, x1, rfl, by simpa using hx.2, w0, w1⟩
end
end Go.Proofs.Ythakafnecddliaa
end
section
namespace Go.Proofs.Ythakafnecddliaa
open Go.ChangeShapes Go.WideShapes Go.ChangeAt Go.RowKit
set_option linter.unusedVariables false

/-- block b holds the bytes L from its beginning on, and they may be written -/
structure BytesAt (w : World) (b : Nat) (L : List UInt8) : Prop where
  cell : ∀ j (h : j < L.length), w.cell? ⟨b, j, none⟩ = some (.int .u8 ((L[j]'h).toNat : Int))
  free : ∀ j, j < L.length → w.frozen? ⟨b, j, none⟩ = false

theorem BytesAt.store {w : World} {b : Nat} {L : List UInt8} (h : BytesAt w b L) (i : Nat) (hi : i < L.length) (v : UInt8) : BytesAt (w.setCell ⟨b, i, none⟩ (.int .u8 (v.toNat : Int))) b (L.set i v) := by
  refine ⟨fun j hj => ?_, fun j hj => ?_⟩
  · rw [List.length_set] at hj
    by_cases hij : i = j
    · subst hij
      rw [List.getElem_set_self]
      exact World.cell?_setCell_same w _ _ (h.cell i hi)
    · rw [List.getElem_set_ne hij, World.cell?_setCell_other _ _ _ _ (by intro e; injection e with _ e2; exact hij e2)]
      exact h.cell j hj
  · rw [List.length_set] at hj
    rw [World.frozen?_setCell]; exact h.free j hj
theorem to_bytes (P : Program) (w : World) (src dst e : TypeId) (s : ByteArray) (hs : P.underlying src = some .string) (hd : P.underlying dst = some (.slice e)) (he : P.underlying e = some (.int .u8)) :
    ∃ c w', (convert src dst (.string s)).run P w = .ok (.slice (some ⟨w.heap.size, 0, none⟩) s.size c) w' ∧ BytesAt w' w.heap.size s.data.toList ∧ Below w.heap.size w w' ∧ w.heap.size < w'.heap.size := by
  refine ⟨_, _, run_bytes_of_string w src dst e s hs hd he, ⟨fun j hj => ?_, fun j hj => ?_⟩, ((Below.refl _ _).drew).alloc (Nat.le_refl _) _, by simp⟩
  · have hj' : j < s.data.size := by simpa using hj
    have := World.cell?_alloc_mark w.drew (bytesRow s (grownCap w s.size 0 e)) e ((bytesRow s (grownCap w s.size 0 e)).size, (bytesRow s (grownCap w s.size 0 e)).size + 1) j
    rw [bytesRow_at s _ j hj'] at this
    simpa using this
  · have hj' : j < s.data.size := by simpa using hj
    have := World.frozen?_alloc_mark w.drew (bytesRow s (grownCap w s.size 0 e)) e (bytesRow s (grownCap w s.size 0 e)).size ((bytesRow s (grownCap w s.size 0 e)).size + 1) j
    refine this.trans ?_
    have hb : j < (bytesRow s (grownCap w s.size 0 e)).size := by
      have h := bytesRow_at s (grownCap w s.size 0 e) j hj'
      rw [Array.getElem?_eq_some_iff] at h
      exact h.1
    simp; omega
theorem of_bytes (P : Program) (w : World) (src dst e : TypeId) (b cap : Nat) (L : List UInt8) (h : BytesAt w b L) (hs : P.underlying src = some (.slice e)) (he : P.underlying e = some (.int .u8)) (hd : P.underlying dst = some .string) :
    (convert src dst (.slice (some ⟨b, 0, none⟩) L.length cap)).run P w = .ok (.string ⟨L.toArray⟩) w :=
  run_convert_bytes_back (P := P) w src dst e ⟨b, 0, none⟩ cap L hs he hd (fun j hj => by
    have ea : (⟨b, 0, none⟩ : Addr).add j = ⟨b, j, none⟩ := by unfold Addr.add; split <;> simp_all
    rw [ea]; exact h.cell j hj)
end Go.Proofs.Ythakafnecddliaa
end
section
namespace Go.Proofs.Ythakafnecddliaa
open Go.ChangeShapes Go.WideShapes Go.ChangeAt Go.RowKit
set_option linter.unusedVariables false

/-- block p holds just the cells cs, and they may be written -/
def Own (w : World) (p : Nat) (T : TypeId) (cs : Array Value) : Prop := w.heap[p]? = some (.cells cs T (0, 0))
theorem Own.in_ {w : World} {p : Nat} {T : TypeId} {cs : Array Value} (h : Own w p T cs) : p < w.heap.size := by
  by_cases hp : p < w.heap.size
  · exact hp
  · unfold Own at h
    rw [Array.getElem?_eq_none (by omega)] at h
    cases h
theorem Own.made (w : World) (T : TypeId) (cs : Array Value) : Own (w.alloc (.cells cs T)) w.heap.size T cs := by
  unfold Own World.alloc
  simp
theorem Own.more {w : World} {p : Nat} {T : TypeId} {cs : Array Value} (h : Own w p T cs) (o : Obj) : Own (w.alloc o) p T cs := by
  unfold Own
  rw [Below.heap_alloc w o p h.in_]
  exact h
theorem Own.keep {w w' : World} {p : Nat} {T : TypeId} {cs : Array Value} (h : Own w p T cs) (hb : Below w.heap.size w w') : Own w' p T cs := by
  unfold Own
  rw [hb.block p h.in_]
  exact h
theorem Own.drawn {w : World} {p : Nat} {T : TypeId} {cs : Array Value} (h : Own w p T cs) : Own w.drew p T cs := h
theorem Own.drawnN {w : World} {p : Nat} {T : TypeId} {cs : Array Value} (h : Own w p T cs) (n : Nat) : Own (w.drewN n) p T cs := h
theorem Own.put {w : World} {p : Nat} {T : TypeId} {cs : Array Value} (h : Own w p T cs) (i : Nat) (v : Value) : Own (w.setCell ⟨p, i, none⟩ v) p T (cs.setIfInBounds i v) := by
  unfold Own at h ⊢
  simp [World.setCell, Array.getElem?_modify, h]
theorem Own.apart {w : World} {p : Nat} {T : TypeId} {cs : Array Value} (h : Own w p T cs) {q : Nat} (hq : p ≠ q) (i : Nat) (v : Value) : Own (w.setCell ⟨q, i, none⟩ v) p T cs := by
  unfold Own
  rw [Below.heap_setCell w ⟨q, i, none⟩ v p hq]
  exact h
theorem Own.made_at {w : World} {p : Nat} {T : TypeId} {cs : Array Value} (h : p = w.heap.size) : Own (w.alloc (.cells cs T)) p T cs := h ▸ Own.made w T cs
theorem Own.as {w : World} {p : Nat} {T : TypeId} {cs cs' : Array Value} (h : Own w p T cs) (e : cs = cs') : Own w p T cs' := e ▸ h
theorem Own.at_ {w : World} {p : Nat} {T : TypeId} {cs : Array Value} (h : Own w p T cs) : (∀ i, w.cell? ⟨p, i, none⟩ = cs[i]?) ∧ (∀ i, w.frozen? ⟨p, i, none⟩ = false) ∧ p < w.heap.size := by
  refine ⟨fun i => ?_, fun i => ?_, h.in_⟩
  · unfold Own at h; simp [World.cell?, h]
  · unfold Own at h; simp [World.frozen?, h]
theorem keep {w w' : World} (hb : Below w.heap.size w w') {p q : Nat} {v : Value} (h : w.cell? ⟨p, q, none⟩ = some v) : w'.cell? ⟨p, q, none⟩ = some v :=
  (hb.cell (p := ⟨p, q, none⟩) (cell_lt h)).trans h
theorem below_drewN {B : Nat} {a w : World} (h : Below B a w) (q : Nat) : Below B a (w.drewN q) := ⟨h.os, h.tape, h.output, h.size, h.block⟩
theorem setCell_drawn (w : World) (n : Nat) (p : Addr) (v : Value) : (w.drewN n).setCell p v = (w.setCell p v).drewN n := rfl
/-- a call behind others -/
theorem then_ {B : Nat} {a w w' : World} (h : Below B a w) (hb : Below w.heap.size w w') (hB : B ≤ w.heap.size) : Below B a w' := h.trans (hb.mono hB)
/-- as Below, and no draw was given back: what a function that the sort calls has to say -/
structure Bel (B : Nat) (w w' : World) : Prop where
  base : Below B w w'
  drawn : w.drawn ≤ w'.drawn
instance {B : Nat} {w w' : World} : Coe (Bel B w w') (Below B w w') := ⟨Bel.base⟩
section
variable {B : Nat} {a w w' : World}
theorem Bel.refl (B : Nat) (w : World) : Bel B w w := ⟨Below.refl B w, Nat.le_refl _⟩
theorem Bel.trans {c : World} (h : Bel B a w) (k : Bel B w c) : Bel B a c := ⟨h.base.trans k.base, Nat.le_trans h.drawn k.drawn⟩
theorem Bel.mono {B' : Nat} (h : Bel B w w') (hB : B' ≤ B) : Bel B' w w' := ⟨h.base.mono hB, h.drawn⟩
theorem Bel.drew (h : Bel B a w) : Bel B a w.drew := ⟨h.base.drew, Nat.le_succ_of_le h.drawn⟩
theorem Bel.alloc (h : Bel B a w) (hB : B ≤ w.heap.size) (o : Obj) : Bel B a (w.alloc o) := ⟨h.base.alloc hB o, h.drawn⟩
theorem Bel.setCell (h : Bel B a w) {p : Addr} (hp : B ≤ p.block) (u : Value) : Bel B a (w.setCell p u) := ⟨h.base.setCell hp u, h.drawn⟩
theorem Bel.size (h : Bel B w w') : w.heap.size ≤ w'.heap.size := h.base.size
theorem Bel.os (h : Bel B w w') : w'.os = w.os := h.base.os
theorem Bel.tape (h : Bel B w w') : w'.tape = w.tape := h.base.tape
theorem Bel.output (h : Bel B w w') : w'.output = w.output := h.base.output
theorem Bel.block (h : Bel B w w') (k : Nat) (hk : k < B) : w'.heap[k]? = w.heap[k]? := h.base.block k hk
theorem Bel.cell (h : Bel B w w') {p : Addr} (hp : p.block < B) : w'.cell? p = w.cell? p := h.base.cell hp
theorem Bel.heap_alloc (w : World) (o : Obj) (k : Nat) (h : k < w.heap.size) : (w.alloc o).heap[k]? = w.heap[k]? := Below.heap_alloc w o k h
theorem Bel.heap_setCell (w : World) (a : Addr) (u : Value) (k : Nat) (h : k ≠ a.block) : (w.setCell a u).heap[k]? = w.heap[k]? := Below.heap_setCell w a u k h
theorem Own.keepB {p : Nat} {T : TypeId} {cs : Array Value} (h : Own w p T cs) (hb : Bel w.heap.size w w') : Own w' p T cs := Own.keep h hb.base
theorem keepB (hb : Bel w.heap.size w w') {p q : Nat} {v : Value} (h : w.cell? ⟨p, q, none⟩ = some v) : w'.cell? ⟨p, q, none⟩ = some v := keep hb.base h
theorem bel_drewN (h : Bel B a w) (q : Nat) : Bel B a (w.drewN q) := ⟨below_drewN h.base q, Nat.le_add_right_of_le h.drawn⟩
theorem thenB (h : Bel B a w) (hb : Bel w.heap.size w w') (hB : B ≤ w.heap.size) : Bel B a w' := h.trans (hb.mono hB)
end
end Go.Proofs.Ythakafnecddliaa
end
section
namespace Go.Proofs.Ythakafnecddliaa
open Go.ChangeShapes Go.WideShapes Go.ChangeAt Go.RowKit
set_option linter.unusedVariables false

theorem tup2_eq {k k' : IntKind} {a a' b b' : Int} (h : a = a') (h' : b = b') : Ending.returned (.tuple #[.int k a, .int k' b]) = .returned (.tuple #[.int k a', .int k' b']) := by rw [h, h']
theorem timesWord_gen (a b : Int) (h0 : 0 ≤ a) (h1 : a ≤ 18446744073709551615) (h2 : 0 ≤ b) (h3 : b ≤ 18446744073709551615) (w : World) :
    Calls Try.prog 105 #[.int .u64 a, .int .u64 b] w fun e w' => e = .returned (.tuple #[.int .u64 (a * b % 18446744073709551616), .int .u64 (a * b / 18446744073709551616)]) ∧ w = w' := by
  have H := Lib.hid (tw_all a b h0 h1 h2 h3)
  go_enter Try.func105, Try.ntmps105
  go_wp2
  go_ret2
  exact ⟨tup2_eq H.out.1 H.out.2, rfl⟩
end Go.Proofs.Ythakafnecddliaa
end
section
namespace Go.Proofs.Ythakafnecddliaa
open Go.ChangeShapes Go.WideShapes Go.ChangeAt Go.RowKit Go.Shelf
set_option linter.unusedVariables false

theorem below_gen (x0 x1 x2 x3 : Int) (h : W4 x0 x1 x2 x3) (w : World) :
    Calls Try.prog 104 #[.agg #[.int .u64 x0, .int .u64 x1, .int .u64 x2, .int .u64 x3]] w fun e w' => e = .returned (.bool (decide (9223372036854775808 ≤ x3))) ∧ ∃ c, w' = w.alloc (.cells c 140) := by
  obtain ⟨a0, b0, a1, b1, a2, b2, a3, b3⟩ := h
  go_enter Try.func104, Try.ntmps104
  go_wp2
  go_ret
  exact ⟨by simp, _, rfl⟩

theorem add64 (x y c : Int) (hx : 0 ≤ x) (hy : 0 ≤ y) (hc0 : 0 ≤ c) (hc : c ≤ 1) (w : World) : (callFunc 106 #[.int .u64 x, .int .u64 y, .int .u64 c]).run Try.prog w =
    .ok (.value (.tuple #[.int .u64 ((x + y + c) % 18446744073709551616), .int .u64 ((x + y + c) / 18446744073709551616)])) w := by
  rw [run_callFunc_extern Try.func106 (by kernel_rfl) (by kernel_rfl) (by kernel_rfl) (e := add64Entry) (by kernel_rfl), run_add64 x y c (by omega) (by omega) (by omega) (by omega)]
  simp only [Result.andThen]
theorem add64_0 (x y : Int) (hx : 0 ≤ x) (hy : 0 ≤ y) (w : World) : (callFunc 106 #[.int .u64 x, .int .u64 y, .int .u64 0]).run Try.prog w =
    .ok (.value (.tuple #[.int .u64 ((x + y) % 18446744073709551616), .int .u64 ((x + y) / 18446744073709551616)])) w := by
  simpa using add64 x y 0 hx hy (Int.le_refl 0) (by decide) w
/-- the carries of a sum -/
def k1 (x0 y0 : Int) : Int := (x0 + y0) / 18446744073709551616
def kn (x y c : Int) : Int := (x + y + c) / 18446744073709551616
theorem k1_lo (x0 y0 : Int) (h : 0 ≤ x0) (h' : 0 ≤ y0) : 0 ≤ k1 x0 y0 := by unfold k1; omega
theorem k1_hi (x0 y0 : Int) (h : x0 ≤ 18446744073709551615) (h' : y0 ≤ 18446744073709551615) : k1 x0 y0 ≤ 1 := by unfold k1; omega
theorem kn_lo (x y c : Int) (h : 0 ≤ x) (h' : 0 ≤ y) (h2 : 0 ≤ c) : 0 ≤ kn x y c := by unfold kn; omega
theorem kn_hi (x y c : Int) (h : x ≤ 18446744073709551615) (h' : y ≤ 18446744073709551615) (h2 : c ≤ 1) : kn x y c ≤ 1 := by unfold kn; omega
def s1 (x0 y0 : Int) : Int := (x0 + y0) % 18446744073709551616
def sn (x y c : Int) : Int := (x + y + c) % 18446744073709551616
theorem add64_1 (x y : Int) (hx : 0 ≤ x) (hy : 0 ≤ y) (w : World) : (callFunc 106 #[.int .u64 x, .int .u64 y, .int .u64 0]).run Try.prog w =
    .ok (.value (.tuple #[.int .u64 (s1 x y), .int .u64 (k1 x y)])) w := add64_0 x y hx hy w
theorem add64_n (x y c : Int) (hx : 0 ≤ x) (hy : 0 ≤ y) (hc0 : 0 ≤ c) (hc : c ≤ 1) (w : World) : (callFunc 106 #[.int .u64 x, .int .u64 y, .int .u64 c]).run Try.prog w =
    .ok (.value (.tuple #[.int .u64 (sn x y c), .int .u64 (kn x y c)])) w := add64 x y c hx hy hc0 hc w
end Go.Proofs.Ythakafnecddliaa
end
section
namespace Go.Proofs.Ythakafnecddliaa
open Go.ChangeShapes Go.WideShapes Go.ChangeAt Go.RowKit
set_option linter.unusedVariables false

theorem eq_Int (x0 x1 x2 x3 : Int) (y0 y1 y2 y3 : Int) (w : World) : (Op.equalIn 10000 140 (.agg #[.int .u64 x0, .int .u64 x1, .int .u64 x2, .int .u64 x3]) (.agg #[.int .u64 y0, .int .u64 y1, .int .u64 y2, .int .u64 y3])).run Try.prog w = .ok (decide (x0 = y0 ∧ x1 = y1 ∧ x2 = y2 ∧ x3 = y3)) w := by
  have u3 := Try.underlying137
  have a3 := Try.isAgg137
  have z3 := Try.sizeOf137
  rw [show (10000 : Nat) = 9999 + 1 from rfl, Op.equalIn]
  simp only [Sem.run_bind, run_underlying Try.underlying140, Result.andThen_ok]
  simp only [Std.Legacy.Range.forIn_eq_forIn_range', Std.Legacy.Range.size, Nat.sub_zero, Nat.add_sub_cancel, Nat.div_one, List.range'_succ, List.range'_zero, List.forIn_cons, List.forIn_nil]
  go_simp
  by_cases h0 : x0 = y0 <;> by_cases h1 : x1 = y1 <;> by_cases h2 : x2 = y2 <;> by_cases h3 : x3 = y3 <;> simp [h0, h1, h2, h3]
theorem eq_size (x0 x1 x2 x3 : Int) (y0 y1 y2 y3 : Int) (w : World) : (Op.equalIn 10000 151 (.agg #[.int .u64 x0, .int .u64 x1, .int .u64 x2, .int .u64 x3]) (.agg #[.int .u64 y0, .int .u64 y1, .int .u64 y2, .int .u64 y3])).run Try.prog w = .ok (decide (x0 = y0 ∧ x1 = y1 ∧ x2 = y2 ∧ x3 = y3)) w := by
  have u3 := Try.underlying137
  have a3 := Try.isAgg137
  have z3 := Try.sizeOf137
  rw [show (10000 : Nat) = 9999 + 1 from rfl, Op.equalIn]
  simp only [Sem.run_bind, run_underlying Try.underlying151, Result.andThen_ok]
  simp only [Std.Legacy.Range.forIn_eq_forIn_range', Std.Legacy.Range.size, Nat.sub_zero, Nat.add_sub_cancel, Nat.div_one, List.range'_succ, List.range'_zero, List.forIn_cons, List.forIn_nil]
  go_simp
  by_cases h0 : x0 = y0 <;> by_cases h1 : x1 = y1 <;> by_cases h2 : x2 = y2 <;> by_cases h3 : x3 = y3 <;> simp [h0, h1, h2, h3]
theorem eq_arr (x0 x1 x2 x3 : Int) (y0 y1 y2 y3 : Int) (w : World) : (Op.equalIn 10000 139 (.agg #[.int .u64 x0, .int .u64 x1, .int .u64 x2, .int .u64 x3]) (.agg #[.int .u64 y0, .int .u64 y1, .int .u64 y2, .int .u64 y3])).run Try.prog w = .ok (decide (x0 = y0 ∧ x1 = y1 ∧ x2 = y2 ∧ x3 = y3)) w := by
  have u3 := Try.underlying137
  have a3 := Try.isAgg137
  have z3 := Try.sizeOf137
  rw [show (10000 : Nat) = 9999 + 1 from rfl, Op.equalIn]
  simp only [Sem.run_bind, run_underlying Try.underlying139, Result.andThen_ok]
  simp only [Std.Legacy.Range.forIn_eq_forIn_range', Std.Legacy.Range.size, Nat.sub_zero, Nat.add_sub_cancel, Nat.div_one, List.range'_succ, List.range'_zero, List.forIn_cons, List.forIn_nil]
  go_simp
  by_cases h0 : x0 = y0 <;> by_cases h1 : x1 = y1 <;> by_cases h2 : x2 = y2 <;> by_cases h3 : x3 = y3 <;> simp [h0, h1, h2, h3]
theorem dec_fit {a b : Int} (ha : Fit a) (hb : Fit b) : decide (L0 a = L0 b ∧ L1 a = L1 b ∧ L2 a = L2 b ∧ L3 a = L3 b) = decide (a = b) := by
  by_cases h : a = b
  · simp [h]
  · have : ¬ (L0 a = L0 b ∧ L1 a = L1 b ∧ L2 a = L2 b ∧ L3 a = L3 b) := fun ⟨h0, h1, h2, h3⟩ => h (ha.inj hb h0 h1 h2 h3)
    simp only [this, h]
theorem dec_siz {a b : Int} (ha : Siz a) (hb : Siz b) : decide (L0 a = L0 b ∧ L1 a = L1 b ∧ L2 a = L2 b ∧ L3 a = L3 b) = decide (a = b) := by
  by_cases h : a = b
  · simp [h]
  · have : ¬ (L0 a = L0 b ∧ L1 a = L1 b ∧ L2 a = L2 b ∧ L3 a = L3 b) := fun ⟨h0, h1, h2, h3⟩ => h (ha.inj hb h0 h1 h2 h3)
    simp only [this, h]
theorem eq_fit {a b : Int} (ha : Fit a) (hb : Fit b) (w : World) : (Op.equalIn 10000 140 (.agg #[.int .u64 (L0 a), .int .u64 (L1 a), .int .u64 (L2 a), .int .u64 (L3 a)]) (.agg #[.int .u64 (L0 b), .int .u64 (L1 b), .int .u64 (L2 b), .int .u64 (L3 b)])).run Try.prog w = .ok (decide (a = b)) w := by
  rw [eq_Int, dec_fit ha hb]
theorem eq_siz {a b : Int} (ha : Siz a) (hb : Siz b) (w : World) : (Op.equalIn 10000 151 (.agg #[.int .u64 (L0 a), .int .u64 (L1 a), .int .u64 (L2 a), .int .u64 (L3 a)]) (.agg #[.int .u64 (L0 b), .int .u64 (L1 b), .int .u64 (L2 b), .int .u64 (L3 b)])).run Try.prog w = .ok (decide (a = b)) w := by
  rw [eq_size, dec_siz ha hb]
end Go.Proofs.Ythakafnecddliaa
end
