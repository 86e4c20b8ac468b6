/- merged: Rows of digits whose block is told by a predicate; the contract of croftref03.Power: 2 to the k, k at most 300. Products of numbers by their digits, as one reckons on paper. It speaks of no function. A number through a small one, digit by digit from the top: what half and Text reckon. It speaks of no function. The contract of croftref03.half: digits through 2, rounded to nought. The contract of croftref03.Floor: the greatest whole number not above a number through 2 to the n (n at most 300 counts). -/
import Derived.Test.YtjmojddnedngaaaDoorRefY
import Derived.Test.YtjmojddnedngaaaDoorRefT
import Derived.Test.YtjmojddnedngaaaDoorRefS
import Derived.Deep.LoopGhost
import Derived.Deep.OwnRows
import Derived.Deep.DeepCutAuto
import Derived.Lib.ItoaWalk
section
namespace Go.Proofs.YtjmojddnedngaaaDoor
open Go.ChangeShapes Go.WideShapes Go.ChangeAt Go.RowKit
set_option linter.unusedVariables false

theorem digs_short {n k : Nat} (h : (n : Int) < 65536 ^ k) : (digs n).length ≤ k := by
  rcases Nat.lt_or_ge k (digs n).length with hk | hk
  · exfalso
    have hn : n ≠ 0 := by rintro rfl; rw [digs_zero] at hk; simp at hk
    obtain ⟨h1, _⟩ := digs_len hn
    have h2 : (65536 : Int) ^ k ≤ 65536 ^ ((digs n).length - 1) := by
      obtain ⟨t, ht⟩ : ∃ t, (digs n).length - 1 = k + t := ⟨(digs n).length - 1 - k, by omega⟩
      rw [ht, Int.pow_add]
      have h4 : (0 : Int) < 65536 ^ k := Int.pow_pos (by decide)
      have h5 : (0 : Int) < 65536 ^ t := Int.pow_pos (by decide)
      have := Int.mul_le_mul_of_nonneg_left (show (1 : Int) ≤ 65536 ^ t by omega) (show (0 : Int) ≤ 65536 ^ k by omega)
      omega
    omega
  · exact hk
structure RowP (w : World) (S : Nat → Prop) (a : Option Addr) (len cap : Nat) (zs : List Int) : Prop where
  hlen : zs.length = len
  hcap : len ≤ cap
  hmax : cap ≤ maxLen
  hcells : zs = [] ∨ ∃ b o, a = some ⟨b, o, none⟩ ∧ S b ∧ b < w.heap.size ∧ ∀ i z, zs[i]? = some z → w.cell? ⟨b, o + i, none⟩ = some (.int .i64 z)
theorem RowP.of {w : World} {T C : Nat} {a : Option Addr} {len cap : Nat} {zs : List Int} (h : DRow w T C a len cap zs) {S : Nat → Prop} (hS : ∀ b, b < w.heap.size → b < T ∨ C ≤ b → S b) : RowP w S a len cap zs := by
  refine ⟨h.hlen, h.hcap, h.hmax, ?_⟩
  by_cases e : zs = []
  · exact .inl e
  · rcases h.hcells with h' | ⟨b, o, ha, ht, hc⟩
    · exact .inl h'
    · obtain ⟨d, r, hd⟩ := List.exists_cons_of_ne_nil e
      have hb := cell_lt (hc 0 d (by rw [hd]; rfl))
      exact .inr ⟨b, o, ha, hS b hb ht, hb, hc⟩
theorem RowP.row {w : World} {S : Nat → Prop} {a : Option Addr} {len cap : Nat} {zs : List Int} (h : RowP w S a len cap zs) {T C : Nat} (hS : ∀ b, S b → b < w.heap.size → b < T ∨ C ≤ b) : DRow w T C a len cap zs :=
  ⟨h.hlen, h.hcap, h.hmax, h.hcells.imp id fun ⟨b, o, ha, hs, hb, hc⟩ => ⟨b, o, ha, hS b hs hb, hc⟩⟩
theorem RowP.old {w : World} {S : Nat → Prop} {a : Option Addr} {len cap : Nat} {zs : List Int} (h : RowP w S a len cap zs) (C : Nat) : DRow w w.heap.size C a len cap zs := h.row fun _ _ hb => .inl hb
theorem RowP.keep {w w' : World} {S : Nat → Prop} {a : Option Addr} {len cap : Nat} {zs : List Int} (h : RowP w S a len cap zs) (hb : Below w.heap.size w w') : RowP w' S a len cap zs :=
  ⟨h.hlen, h.hcap, h.hmax, h.hcells.imp id fun ⟨b, o, ha, hs, hl, hc⟩ => ⟨b, o, ha, hs, Nat.lt_of_lt_of_le hl hb.size, fun i z hz => Go.Proofs.YtjmojddnedngaaaDoor.keep hb (hc i z hz)⟩⟩
theorem RowP.put {w : World} {S : Nat → Prop} {a : Option Addr} {len cap : Nat} {zs : List Int} (h : RowP w S a len cap zs) {p i : Nat} (hp : ¬ S p) (u : Value) : RowP (w.setCell ⟨p, i, none⟩ u) S a len cap zs := by
  refine ⟨h.hlen, h.hcap, h.hmax, h.hcells.imp id ?_⟩
  rintro ⟨b, o, ha, hs, hl, hc⟩
  refine ⟨b, o, ha, hs, by simpa [World.setCell] using hl, fun i z hz => ?_⟩
  rw [World.cell?_of_block (w := w) (a := ⟨b, o + i, none⟩) (Below.heap_setCell w _ u b (show b ≠ p by rintro rfl; exact hp hs))]
  exact hc i z hz
theorem RowP.mono {w : World} {S S' : Nat → Prop} {a : Option Addr} {len cap : Nat} {zs : List Int} (h : RowP w S a len cap zs) (hS : ∀ b, b < w.heap.size → S b → S' b) : RowP w S' a len cap zs :=
  ⟨h.hlen, h.hcap, h.hmax, h.hcells.imp id fun ⟨b, o, ha, hs, hl, hc⟩ => ⟨b, o, ha, hS b hl hs, hl, hc⟩⟩
/-- the value of a croftref03.Num that is the number z -/
def NumP (w : World) (S : Nat → Prop) (v : Value) (z : Int) : Prop := ∃ a len cap, v = .agg #[.bool (decide (z < 0)), .slice a len cap] ∧ RowP w S a len cap (digs z.natAbs)
theorem NumP.of {w : World} {T C : Nat} {v : Value} {z : Int} (h : Num w T C v z) {S : Nat → Prop} (hS : ∀ b, b < w.heap.size → b < T ∨ C ≤ b → S b) : NumP w S v z := by
  obtain ⟨a, len, cap, h1, h2⟩ := h
  exact ⟨a, len, cap, h1, RowP.of h2 hS⟩
theorem NumP.num {w : World} {S : Nat → Prop} {v : Value} {z : Int} (h : NumP w S v z) {T C : Nat} (hS : ∀ b, S b → b < w.heap.size → b < T ∨ C ≤ b) : Num w T C v z := by
  obtain ⟨a, len, cap, h1, h2⟩ := h
  exact ⟨a, len, cap, h1, h2.row hS⟩
theorem NumP.old {w : World} {S : Nat → Prop} {v : Value} {z : Int} (h : NumP w S v z) (C : Nat) : Num w w.heap.size C v z := h.num fun _ _ hb => .inl hb
theorem NumP.keep {w w' : World} {S : Nat → Prop} {v : Value} {z : Int} (h : NumP w S v z) (hb : Below w.heap.size w w') : NumP w' S v z := by
  obtain ⟨a, len, cap, h1, h2⟩ := h
  exact ⟨a, len, cap, h1, h2.keep hb⟩
theorem NumP.put {w : World} {S : Nat → Prop} {v : Value} {z : Int} (h : NumP w S v z) {p i : Nat} (hp : ¬ S p) (u : Value) : NumP (w.setCell ⟨p, i, none⟩ u) S v z := by
  obtain ⟨a, len, cap, h1, h2⟩ := h
  exact ⟨a, len, cap, h1, h2.put hp u⟩
theorem NumP.mono {w : World} {S S' : Nat → Prop} {v : Value} {z : Int} (h : NumP w S v z) (hS : ∀ b, b < w.heap.size → S b → S' b) : NumP w S' v z := by
  obtain ⟨a, len, cap, h1, h2⟩ := h
  exact ⟨a, len, cap, h1, h2.mono hS⟩
theorem NumP.shape {w : World} {S : Nat → Prop} {v : Value} {z : Int} (h : NumP w S v z) : ∃ n a len cap, v = .agg #[.bool n, .slice a len cap] := by
  obtain ⟨a, len, cap, h1, _⟩ := h
  exact ⟨_, a, len, cap, h1⟩
/-- the number 1 in a block of its own -/
theorem one_num {w : World} {b : Nat} {ty : TypeId} (h : Own w b ty #[.int .i64 1]) {S : Nat → Prop} (hS : S b) : NumP w S (.agg #[.bool false, .slice (some ⟨b, 0, none⟩) 1 1]) 1 := by
  have e : digs (1 : Int).natAbs = [1] := by rw [show (1 : Int).natAbs = 1 from rfl, digs_pos (by decide)]; simp [digs_zero]
  refine ⟨some ⟨b, 0, none⟩, 1, 1, rfl, ?_⟩
  rw [e]
  refine ⟨rfl, Nat.le_refl _, by unfold maxLen; omega, .inr ⟨b, 0, rfl, hS, h.in_, fun i z hz => ?_⟩⟩
  match i, hz with
  | 0, hz =>
    simp at hz
    subst hz
    exact h.at_.1 0

end Go.Proofs.YtjmojddnedngaaaDoor
end
section
namespace Go.Proofs.YtjmojddnedngaaaDoor

/-- one digit's step -/
theorem mul_step {o : List Int} {k : Nat} {e c p : Int} (h : o[k]? = some e) : vl (o.set k ((e + c + p) % 65536)) + 65536 ^ (k + 1) * ((e + c + p) / 65536) = vl o + 65536 ^ k * c + 65536 ^ k * p := by
  rw [vl_set o k _ e h, Int.pow_succ, Int.mul_assoc]
  have hd := Int.mul_ediv_add_emod (e + c + p) 65536
  have hq : (e + c + p) % 65536 - e + 65536 * ((e + c + p) / 65536) = c + p := by omega
  rw [Int.add_assoc, ← Int.mul_add, hq, Int.mul_add]
  omega
/-- the invariant of the inner loop goes on -/
theorem mul_inner {o : List Int} {ys : List Int} {i j : Nat} {e c x y V : Int} (h : o[i + j]? = some e) (hy : ys[j]? = some y) (hI : vl o + 65536 ^ (i + j) * c = V + 65536 ^ i * (x * vl (ys.take j))) :
    vl (o.set (i + j) ((e + c + x * y) % 65536)) + 65536 ^ (i + (j + 1)) * ((e + c + x * y) / 65536) = V + 65536 ^ i * (x * vl (ys.take (j + 1))) := by
  rw [← Nat.add_assoc, mul_step h, hI, vl_take ys j y hy, Int.pow_add, Int.mul_add x, Int.mul_add (65536 ^ i)]
  have : (65536 : Int) ^ i * 65536 ^ j * (x * y) = 65536 ^ i * (x * (65536 ^ j * y)) := by
    rw [Int.mul_assoc, Int.mul_left_comm (65536 ^ j) x y]
  omega
theorem mul_over {o : List Int} {ys : List Int} {i j : Nat} {e c x V : Int} (h : o[i + j]? = some e) (hj : ys.length ≤ j) (hI : vl o + 65536 ^ (i + j) * c = V + 65536 ^ i * (x * vl (ys.take j))) :
    vl (o.set (i + j) ((e + c) % 65536)) + 65536 ^ (i + (j + 1)) * ((e + c) / 65536) = V + 65536 ^ i * (x * vl (ys.take (j + 1))) := by
  have := mul_step (p := 0) (c := c) h
  simp only [Int.add_zero, Int.mul_zero] at this
  rw [← Nat.add_assoc, this, hI, List.take_of_length_le hj, List.take_of_length_le (show ys.length ≤ j + 1 by omega)]
/-- what one row adds -/
theorem mul_outer {xs ys : List Int} {i : Nat} {x : Int} (hx : xs[i]? = some x) : vl (xs.take i) * vl ys + 65536 ^ i * (x * vl ys) = vl (xs.take (i + 1)) * vl ys := by
  rw [vl_take xs i x hx, Int.add_mul, Int.mul_assoc]
/-- a carry behind the last digit has its place -/
theorem mul_room {o xs ys : List Int} {i j : Nat} {c x : Int} (ho : Dg o) (hX : Dg xs) (hY : Dg ys) (hx : xs[i]? = some x) (hj : ys.length ≤ j) (hc : 0 < c) (hI : vl o + 65536 ^ (i + j) * c = vl (xs.take i) * vl ys + 65536 ^ i * (x * vl (ys.take j))) : j ≤ ys.length := by
  rw [List.take_of_length_le hj, mul_outer hx] at hI
  have h1 := vl_nonneg ho
  have h2 := vl_lt (hX.take (i + 1))
  have h3 := vl_nonneg (hX.take (i + 1))
  have h4 := vl_lt hY
  have h5 := vl_nonneg hY
  have hl : (xs.take (i + 1)).length = i + 1 := by
    obtain ⟨hi, _⟩ := List.getElem?_eq_some_iff.1 hx
    rw [List.length_take]; omega
  rw [hl] at h2
  have hP : (0 : Int) < 65536 ^ (i + 1) := Int.pow_pos (by decide)
  have hQ : (0 : Int) < 65536 ^ ys.length := Int.pow_pos (by decide)
  have h6 : vl (xs.take (i + 1)) * vl ys < 65536 ^ (i + 1) * 65536 ^ ys.length := by
    have a1 := Int.mul_le_mul_of_nonneg_left (show vl ys + 1 ≤ 65536 ^ ys.length by omega) (Int.le_of_lt hP)
    have a2 := Int.mul_le_mul_of_nonneg_right (show vl (xs.take (i + 1)) ≤ 65536 ^ (i + 1) by omega) h5
    rw [Int.mul_add, Int.mul_one] at a1
    omega
  rw [← Int.pow_add] at h6
  rcases Nat.lt_or_ge ys.length j with hlt | hge
  · exfalso
    obtain ⟨t, ht⟩ : ∃ t, i + j = i + 1 + ys.length + t := ⟨i + j - (i + 1 + ys.length), by omega⟩
    rw [ht, Int.pow_add] at hI
    have hT : (1 : Int) ≤ 65536 ^ t := Int.pow_pos (by decide)
    have hS : (0 : Int) < 65536 ^ (i + 1 + ys.length) := Int.pow_pos (by decide)
    have a3 := Int.mul_le_mul_of_nonneg_left hT (Int.le_of_lt hS)
    rw [Int.mul_one] at a3
    have a4 := Int.mul_le_mul_of_nonneg_left (show (1 : Int) ≤ c by omega) (show (0 : Int) ≤ 65536 ^ (i + 1 + ys.length) * 65536 ^ t by omega)
    rw [Int.mul_one] at a4
    omega
  · exact hge
/-- the digits' products stay within bounds -/
theorem mul_bound {e c x y : Int} (e0 : 0 ≤ e) (e1 : e ≤ 65535) (c0 : 0 ≤ c) (c1 : c ≤ 65535) (x0 : 0 ≤ x) (x1 : x ≤ 65535) (y0 : 0 ≤ y) (y1 : y ≤ 65535) : 0 ≤ x * y ∧ x * y ≤ 4294836225 ∧ 0 ≤ (e + c + x * y) / 65536 ∧ (e + c + x * y) / 65536 ≤ 65535 := by
  have h0 : 0 ≤ x * y := Int.mul_nonneg x0 y0
  have h1 : x * y ≤ 65535 * 65535 := Int.mul_le_mul x1 y1 y0 (by decide)
  omega
/-- what stands in a row of cells -/
def cells (o : List Int) : Array Value := (o.map (Value.int .i64)).toArray
theorem cells_get (o : List Int) (k : Nat) {e : Int} (h : o[k]? = some e) : (cells o)[k]? = some (.int .i64 e) := by
  simp [cells, h]
theorem cells_set (o : List Int) (k : Nat) (d : Int) : (cells o).setIfInBounds k (.int .i64 d) = cells (o.set k d) := by
  simp [cells, List.map_set]
end Go.Proofs.YtjmojddnedngaaaDoor
end
section
namespace Go.Proofs.YtjmojddnedngaaaDoor

end Go.Proofs.YtjmojddnedngaaaDoor
end
section
namespace Go.Proofs.YtjmojddnedngaaaDoor
open Go.ChangeShapes Go.WideShapes Go.ChangeAt Go.RowKit
set_option linter.unusedVariables false

theorem info_intH : (Tryd.prog.info? 3).map (fun i => (i.zero, i.size, i.bytes)) = some (some (.int .i64 0), 1, 8) := by kernel_rfl
theorem cells_made (n : Nat) : madeCells #[.int .i64 0] n = cells (List.replicate n 0) := by
  apply Array.ext'
  rw [toList_madeCells_one]
  simp [cells]
theorem num_digits (s : Bool) (a : Option Addr) (l c : Nat) (w : World) : (Instr.field 42 (.agg #[.bool s, .slice a l c]) 1).run Tryd.prog w = .ok (.slice a l c) w := by kernel_rfl
/-- a block of one's own as a row of digits -/
theorem own_drow {w : World} {p : Nat} {ty : TypeId} {o : List Int} {n T C : Nat} (h : Own w p ty (cells o)) (hl : o.length = n) (hn : n ≤ maxLen) (hC : C ≤ p) : DRow w T C (some ⟨p, 0, none⟩) n n o :=
  ⟨hl, Nat.le_refl _, hn, .inr ⟨p, 0, rfl, .inr hC, fun i z hz => by rw [Nat.zero_add, h.at_.1 i, cells_get o i hz]⟩⟩

end Go.Proofs.YtjmojddnedngaaaDoor
end
section
namespace Go.Proofs.YtjmojddnedngaaaDoor
open Go.ChangeShapes Go.WideShapes Go.ChangeAt Go.RowKit
set_option linter.unusedVariables false

theorem DRow.mono {w : World} {T C C' : Nat} {a : Option Addr} {len cap : Nat} {zs : List Int} (h : DRow w T C a len cap zs) (hC : C' ≤ C) : DRow w T C' a len cap zs :=
  ⟨h.hlen, h.hcap, h.hmax, h.hcells.imp id fun ⟨b, o, ha, ht, hc⟩ => ⟨b, o, ha, by omega, hc⟩⟩
end Go.Proofs.YtjmojddnedngaaaDoor
end
