/- merged: The contract of strconv.FormatUint at base 10: the decimal digits, for every uint64, where the table uint64pow10 holds what it holds. What the rows' condition on the listed tables gives: the table uint64pow10 holds what it holds; the door's own heap meets the condition. A fraction that came in as an argument: two numbers that a wide.Int can be. It speaks of no function. Decimal digits of a number, 18 at a time and one at a time. It speaks of no function. The contract of wide.Text: the decimal digits, where the table uint64pow10 holds what it holds. Conditions: a number that a wide.Int can be. -/
import Derived.Test.YtjmojddnedngaaaDoorShelf
import Derived.Test.YtjmojddnedngaaaDoorRefT
import Derived.Lib.ItoaMem
import Derived.Lib.AppendIntMem
import Derived.Lib.LaidTab
import Derived.BigCall
import Derived.BigGuard
import Derived.Test.YtjmojddnedngaaaDoorFbA
import Derived.Laws.IdiomArrays
import Derived.ProofKit
import Derived.LaidMore
import Derived.OpenShut
import Derived.Stop.Joined
import Derived.MakeChecks
import Derived.ChangeSame
import Derived.Lib.ItoaNum
import Derived.Test.YtjmojddnedngaaaDoorRefY
import Derived.Deep.LoopGhost
section
namespace Go.Proofs.YtjmojddnedngaaaDoor
open Go.ChangeShapes Go.WideShapes Go.ChangeAt Go.RowKit Go.Sort
set_option linter.unusedVariables false

/-- the table of the powers of ten -/
def Pow10 (w : World) : Prop := Lib.TabIs Tryd.prog w "internal/strconv.uint64pow10" .u64 Lib.pow10Tab
theorem Pow10.keep {w w' : World} (h : Pow10 w) (hb : Below w.heap.size w w') : Pow10 w' := by
  unfold Pow10 Lib.TabIs World.var? at *
  cases hg : Tryd.prog.globalNamed "internal/strconv.uint64pow10" with
  | none => simp [hg] at h
  | some g =>
    simp only [hg, Option.bind_some] at h ⊢
    have hlt : g < w.heap.size := by
      rcases Nat.lt_or_ge g w.heap.size with h' | h'
      · exact h'
      · simp [Array.getElem?_eq_none h'] at h
    rw [hb.block g hlt]
    exact h

set_option maxHeartbeats 6400000 in
set_option maxRecDepth 100000 in
theorem formatUint_in (u : Nat) (hu64 : u < 18446744073709551616) (w : World) (htab : Pow10 w) :
    Calls Tryd.prog 59 #[.int .u64 u, .int .i64 10] w fun e w' => e = .returned (.string ⟨(Lib.decDigits u).toArray⟩) ∧ Below w.heap.size w w' := by
  by_cases hs : u < 100
  · go_enter Tryd.func59, Tryd.ntmps59
    go_wp2_with (go_at_call 67; refine (Tryd.internal_strconv_small u hs _).mono ?_; rintro e w' ⟨rfl, rfl⟩)
    go_ret
    exact ⟨rfl, Below.refl _ _⟩
  · have hu1 : 1 ≤ u := by omega
    have hnd20 : Lib.nDigits u ≤ 20 := by have := Lib.numDigits_eq u hu1 hu64; split at this <;> omega
    have hal : Tryd.prog.arrayLen 111 = 24 := by simp [Program.arrayLen, Tryd.underlying111]
    have hsl : ∀ W, (Instr.sliceAt 111 (.pointer (some ⟨w.heap.size, 0, none⟩)) none (some (.int .i64 (Lib.nDigits u : Int))) none).run Tryd.prog W = .ok (.slice (some ⟨w.heap.size, 0, none⟩) (Lib.nDigits u) 24) W := fun W => by
      rw [run_sliceAt_array_h W 111 ⟨w.heap.size, 0, none⟩ (by simp [Program.arrayLen, Program.elem, Tryd.underlying111]) .i64 (Lib.nDigits u : Int) (by omega) (by rw [hal]; omega)]
      go_simp
    have hH0 := Lib.holds_zero0 w 111 (Lib.nDigits u) (by omega)
    have hfmt := Tryd.internal_strconv_formatBase10 w.heap.size 0 24 u (Array.replicate (Lib.nDigits u) 0) (w.alloc (.cells Lib.zeros24 111)) hH0 (by rw [Array.size_replicate]; exact Lib.lt_pow_nDigits u) hu64 (by rw [Array.size_replicate]; omega)
    rw [Array.size_replicate] at hfmt
    have HH0 := Lib.hid hH0
    have iu : (100 : Int) ≤ (u : Int) := by omega
    clear hH0 hal
    go_enter Tryd.func59, Tryd.ntmps59
    go_wp2_with (first
      | (go_at_call 68; refine (Tryd.internal_strconv_numDigits u hu1 hu64 _ (Lib.tabIs_alloc htab _)).mono ?_; rintro e w' ⟨rfl, rfl⟩))
    go_at_call 69
    refine hfmt.mono ?_
    rintro e w' ⟨rfl, k, v', dk, rfl, hF⟩
    have hcv : (convert 98 9 (.slice (some ⟨w.heap.size, 0, none⟩) (Lib.nDigits u) 24)).run Tryd.prog ((putRow (fun (b : UInt8) => Value.int .u8 (b.toNat : Int)) (w.alloc (.cells Lib.zeros24 111)) w.heap.size 0 dk).drewN k) = .ok (.string ⟨(Lib.decDigits u).toArray⟩) ((putRow (fun (b : UInt8) => Value.int .u8 (b.toNat : Int)) (w.alloc (.cells Lib.zeros24 111)) w.heap.size 0 dk).drewN k) := by
      have h := run_convert_bytes_back (P := Tryd.prog) ((putRow (fun (b : UInt8) => Value.int .u8 (b.toNat : Int)) (w.alloc (.cells Lib.zeros24 111)) w.heap.size 0 dk).drewN k) 98 9 5 ⟨w.heap.size, 0, none⟩ 24 (Lib.decDigits u) Tryd.underlying98 Tryd.underlying5 Tryd.underlying9 (fun j hj => by
        rw [Lib.row_is_numeral hF j hj, Lib.add_plain, World.cell?_drewN]
        exact cell?_putRow (fun (b : UInt8) => Value.int .u8 (b.toNat : Int)) _ w.heap.size 0 _ dk HH0.out (by rw [hF.size, Array.size_replicate]) j (by rw [hF.size]; rw [Lib.decDigits_length] at hj; exact hj))
      rw [Lib.decDigits_length] at h
      exact h
    go_wp2
    go_ret
    obtain ⟨os, eo⟩ := Lib.fin_at w (.cells Lib.zeros24 111) dk k 0
    refine ⟨rfl, ?_⟩
    rw [eo]
    exact Lib.below_grow _ w (Nat.le_refl _) k os
theorem formatUint_any (u : Nat) (hu64 : u < 18446744073709551616) (w : World) (htab : Pow10 w) :
    Calls Tryd.prog 52 #[.int .u64 u, .int .i64 10] w fun e w' => e = .returned (.string ⟨(Lib.decDigits u).toArray⟩) ∧ Below w.heap.size w w' := by
  go_enter Tryd.func52, Tryd.ntmps52
  go_wp2_with (go_at_call 59; refine (formatUint_in u hu64 _ htab).mono ?_; rintro e w' ⟨rfl, hb⟩)
  go_ret
  exact ⟨rfl, hb⟩
end Go.Proofs.YtjmojddnedngaaaDoor
end
section
namespace Go.Proofs.YtjmojddnedngaaaDoor
open Go.ChangeShapes Go.WideShapes Go.ChangeAt Go.RowKit
set_option linter.unusedVariables false
set_option maxRecDepth 20000

def lay3 : List (String × DataW Unit) := [("math/bits.deBruijn32tab", Rows.laid_math_bits_deBruijn32tab), ("math/bits.deBruijn64tab", Rows.laid_math_bits_deBruijn64tab), ("internal/strconv.uint64pow10", Rows.laid_internal_strconv_uint64pow10)]
theorem pow_is : (Rows.laid_internal_strconv_uint64pow10 : DataW Unit) = Lib.tabData .u64 Lib.pow10Tab := by rfl
set_option maxRecDepth 100000 in
theorem door_met (os : Os) (args : Array Value) : laidMetH Tryd.prog lay3 ((World.doorLaid Tryd.prog 400 os).forCall (fun _ _ => 0) ⟨#[], args, []⟩).memory :=
  laidMetH_of_parts3 (fuel := 8) (laidMet_of_run' 8 (by kernel_rfl) (by kernel_rfl)) (by kernel_rfl) (by kernel_rfl)
theorem pow_of {W : World} (h : laidMetH Tryd.prog lay3 W) : Pow10 W := by
  rw [MakeChecks.laidMetH_plain _ _ _ (by kernel_rfl)] at h
  obtain ⟨ps, ⟨g0, t0, cs0, f0, p0, q0, hg0, ht0, hv0, hd0, ⟨g1, t1, cs1, f1, p1, q1, hg1, ht1, hv1, hd1, ⟨g2, t2, cs2, f2, p2, q2, hg2, ht2, hv2, hd2, _, _⟩, _⟩, _⟩, _, _⟩ := h
  have hg : Tryd.prog.globalNamed "internal/strconv.uint64pow10" = some 0 := by kernel_rfl
  have ht : (Tryd.prog.globals[0]?).map (·.type) = some 120 := by kernel_rfl
  obtain rfl := Option.some.inj (hg.symm.trans hg2)
  obtain rfl := Option.some.inj (ht.symm.trans ht2)
  unfold Pow10 Lib.TabIs
  rw [pow_is] at hd2
  rw [hv2, ← Lib.cells_of_tab Tryd.underlying120 Tryd.underlying22 (by kernel_rfl) (by kernel_rfl) hd2]

section
variable {H : Type} {enc : TypeId × Value → H} {W : World} {base : Nat} {spare : Nat → Bool} {held : Bool}
theorem of_wf {x : Int} (h : (Lit.int .u64 x).wf = true) : 0 ≤ x ∧ x ≤ 18446744073709551615 := by
  have h' : (decide ((0 : Int) ≤ x) && decide (x ≤ 18446744073709551615)) = true := h
  simpa using h'
theorem c24 : Tryd.prog.cellsOf 24 = 4 := by kernel_rfl
theorem c22 : Tryd.prog.cellsOf 22 = 1 := by kernel_rfl
end
end Go.Proofs.YtjmojddnedngaaaDoor
end
section
namespace Go.Proofs.YtjmojddnedngaaaDoor
open Go.ChangeShapes Go.WideShapes Go.ChangeAt Go.RowKit
set_option linter.unusedVariables false
section
variable {H : Type} {enc : TypeId × Value → H} {W : World} {base : Nat} {spare : Nat → Bool} {held : Bool}
theorem c26 : Tryd.prog.cellsOf 26 = 8 := by kernel_rfl
theorem open4 {m : Nat} {c0 c1 c2 c3 : Value} {x : DataW H × List MemPlace} (hf : DataW.trod enc Tryd.prog W base spare held m 24 [c0, c1, c2, c3] = some x) :
    ∃ z : Int, c0 = .int .u64 (L0 z) ∧ c1 = .int .u64 (L1 z) ∧ c2 = .int .u64 (L2 z) ∧ c3 = .int .u64 (L3 z) ∧ x.2 = [] ∧ Fit z := by
  obtain ⟨y0, y1, y2, y3, m, hx, hy0, hy1, hy2, hy3⟩ := trod_array4 Tryd.underlying24 c22 hf
  obtain ⟨x0, e0, rfl, w0⟩ := DataW.trod_int Tryd.underlying22 hy0
  obtain ⟨x1, e1, rfl, w1⟩ := DataW.trod_int Tryd.underlying22 hy1
  obtain ⟨x2, e2, rfl, w2⟩ := DataW.trod_int Tryd.underlying22 hy2
  obtain ⟨x3, e3, rfl, w3⟩ := DataW.trod_int Tryd.underlying22 hy3
  simp at e0 e1 e2 e3
  subst e0 e1 e2 e3
  replace w0 := of_wf w0
  replace w1 := of_wf w1
  replace w2 := of_wf w2
  replace w3 := of_wf w3
  have hw : W4 x0 x1 x2 x3 := ⟨by omega, by omega, by omega, by omega, by omega, by omega, by omega, by omega⟩
  obtain ⟨l0, l1, l2, l3⟩ := sg4_L hw
  refine ⟨sg4 x0 x1 x2 x3, by rw [l0], by rw [l1], by rw [l2], by rw [l3], ?_, sg4_fit hw⟩
  rw [hx]; simp
set_option maxRecDepth 100000 in
/-- a ratio.Ratio that came in -/
theorem open_rat {r : Reach} {b0 : Nat} {v : Value} {d : DataW H} {ps : List MemPlace} (hval : Value.okWide Tryd.prog W r b0 26 v) (hd : DataW.Trod enc Tryd.prog W base spare held 26 v d ps) :
    ∃ p q : Int, v = .agg #[.int .u64 (L0 p), .int .u64 (L1 p), .int .u64 (L2 p), .int .u64 (L3 p), .int .u64 (L0 q), .int .u64 (L1 q), .int .u64 (L2 q), .int .u64 (L3 q)] ∧ ps = [] ∧ Fit p ∧ Fit q := by
  obtain ⟨cs, rfl, hsz, _⟩ : ∃ cs, v = .agg cs ∧ cs.size = Tryd.prog.cellsOf 26 ∧ Row.okWide Tryd.prog W r b0 26 cs := by
    simp only [Value.okWide, Tryd.underlying26] at hval
    exact hval
  rw [c26] at hsz
  obtain ⟨l⟩ := cs
  have hl : l.length = 8 := hsz
  obtain ⟨c0, l, rfl⟩ := List.exists_cons_of_length_eq_add_one hl
  replace hl : l.length = 7 := by simpa using hl
  obtain ⟨c1, l, rfl⟩ := List.exists_cons_of_length_eq_add_one hl
  replace hl : l.length = 6 := by simpa using hl
  obtain ⟨c2, l, rfl⟩ := List.exists_cons_of_length_eq_add_one hl
  replace hl : l.length = 5 := by simpa using hl
  obtain ⟨c3, l, rfl⟩ := List.exists_cons_of_length_eq_add_one hl
  replace hl : l.length = 4 := by simpa using hl
  obtain ⟨c4, l, rfl⟩ := List.exists_cons_of_length_eq_add_one hl
  replace hl : l.length = 3 := by simpa using hl
  obtain ⟨c5, l, rfl⟩ := List.exists_cons_of_length_eq_add_one hl
  replace hl : l.length = 2 := by simpa using hl
  obtain ⟨c6, l, rfl⟩ := List.exists_cons_of_length_eq_add_one hl
  replace hl : l.length = 1 := by simpa using hl
  obtain ⟨c7, l, rfl⟩ := List.exists_cons_of_length_eq_add_one hl
  replace hl : l.length = 0 := by simpa using hl
  obtain rfl := List.length_eq_zero_iff.1 hl
  obtain ⟨fuel, hf⟩ := hd
  obtain ⟨y0, y1, m, hx, _, hy0, hy1⟩ := trod_struct2 Tryd.underlying26 hf
  simp only [c24, Value.cells] at hy0 hy1
  obtain ⟨p, e0, e1, e2, e3, n0, fp⟩ := open4 hy0
  obtain ⟨q, e4, e5, e6, e7, n1, fq⟩ := open4 hy1
  subst e0 e1 e2 e3 e4 e5 e6 e7
  simp only [Prod.mk.injEq] at hx
  refine ⟨p, q, rfl, ?_, fp, fq⟩
  rw [hx.2, n0, n1]; rfl
end
end Go.Proofs.YtjmojddnedngaaaDoor
end
section
namespace Go.Proofs.YtjmojddnedngaaaDoor
open Go.Lib

theorem dec_step (n : Nat) (h : 10 ≤ n) : decDigits n = decDigits (n / 10) ++ [UInt8.ofNat (48 + n % 10)] := by
  rw [decDigits, dif_neg (by omega)]
theorem dec_one (n : Nat) (h : n < 10) : decDigits n = [UInt8.ofNat (48 + n % 10)] := by
  rw [decDigits_one h, Nat.mod_eq_of_lt h]

/-- the lowest k digits -/
def pad : Nat → Nat → List UInt8
  | 0, _ => []
  | k + 1, n => pad k (n / 10) ++ [UInt8.ofNat (48 + n % 10)]

theorem pad_zero : ∀ k : Nat, pad k 0 = List.replicate k 48
  | 0 => rfl
  | k + 1 => by
    rw [pad, Nat.zero_div, pad_zero k, List.replicate_succ']
    rfl
theorem dec_pad : ∀ (k n : Nat), n / 10 ^ k ≠ 0 → decDigits n = decDigits (n / 10 ^ k) ++ pad k n
  | 0, n, _ => by simp [pad]
  | k + 1, n, h => by
    have e : n / 10 ^ (k + 1) = n / 10 / 10 ^ k := by rw [Nat.pow_succ, Nat.mul_comm, Nat.div_div_eq_div_mul]
    rw [e] at h ⊢
    have h10 : 10 ≤ n := by
      rcases Nat.lt_or_ge n 10 with h' | h'
      · rw [Nat.div_eq_of_lt h', Nat.zero_div] at h; exact absurd rfl h
      · exact h'
    rw [dec_step n h10, dec_pad k (n / 10) h, pad, List.append_assoc]
theorem pad_mod : ∀ (k n : Nat), pad k n = pad k (n % 10 ^ k)
  | 0, _ => rfl
  | k + 1, n => by
    have e1 : n % 10 ^ (k + 1) / 10 = n / 10 % 10 ^ k := by rw [Nat.pow_succ, Nat.mul_comm, Nat.mod_mul_right_div_self]
    have e2 : n % 10 ^ (k + 1) % 10 = n % 10 := Nat.mod_mod_of_dvd _ ⟨10 ^ k, by rw [Nat.pow_succ, Nat.mul_comm]⟩
    rw [pad, pad, e1, e2, pad_mod k (n / 10)]
theorem dec_len : ∀ (k n : Nat), n < 10 ^ (k + 1) → (decDigits n).length ≤ k + 1
  | 0, n, h => by rw [dec_one n (by simpa using h)]; simp
  | k + 1, n, h => by
    rcases Nat.lt_or_ge n 10 with h' | h'
    · rw [dec_one n h']; simp
    · rw [dec_step n h']
      have := dec_len k (n / 10) (by rw [Nat.pow_succ] at h; omega)
      simp
      omega
theorem pad_dec : ∀ (k n : Nat), n < 10 ^ (k + 1) → pad (k + 1) n = List.replicate (k + 1 - (decDigits n).length) 48 ++ decDigits n
  | 0, n, h => by
    have h' : n < 10 := by simpa using h
    rw [dec_one n h']
    simp [pad]
  | k + 1, n, h => by
    rcases Nat.lt_or_ge n 10 with h' | h'
    · rw [pad, Nat.div_eq_of_lt h', pad_zero, dec_one n h']
      simp
    · have hl := dec_len k (n / 10) (by rw [Nat.pow_succ] at h; omega)
      rw [pad, pad_dec k (n / 10) (by rw [Nat.pow_succ] at h; omega), dec_step n h']
      simp
/-- 18 digits at a time -/
theorem dec_18 (n : Nat) (h : n / 1000000000000000000 ≠ 0) : decDigits n = decDigits (n / 1000000000000000000) ++ (List.replicate (18 - (decDigits (n % 1000000000000000000)).length) 48 ++ decDigits (n % 1000000000000000000)) := by
  have e := dec_pad 18 n h
  rw [pad_mod, pad_dec 17 _ (Nat.mod_lt _ (by decide))] at e
  exact e
theorem dec_len18 (n : Nat) : (decDigits (n % 1000000000000000000)).length ≤ 18 := dec_len 17 _ (Nat.mod_lt _ (by decide))
#print axioms dec_18
end Go.Proofs.YtjmojddnedngaaaDoor
end
section
namespace Go.Proofs.YtjmojddnedngaaaDoor
open Go.ChangeShapes Go.WideShapes Go.ChangeAt Go.RowKit
set_option linter.unusedVariables false

theorem ba_of {b : ByteArray} {l : List UInt8} (h : b.data.toList = l) : b = ⟨l.toArray⟩ := by
  subst h; cases b; simp
theorem ba_app (a b : ByteArray) : (a ++ b).data.toList = a.data.toList ++ b.data.toList := by
  simp
theorem ba_size (a : ByteArray) : a.size = a.data.toList.length := by rw [Array.length_toList]; rfl
theorem rep_one (c : Nat) : Lib.repeatL [(48 : UInt8)] c = List.replicate c 48 := by
  induction c with
  | zero => rfl
  | succ c ih => simp [Lib.repeatL, List.replicate_succ] at *; first | exact ih | (rw [ih]) | simp [ih]

set_option maxHeartbeats 16000000 in
set_option maxRecDepth 20000 in
theorem Text_any (a : Int) (ha : Fit a) (w : World) (hp : Pow10 w) :
    Calls Tryd.prog 44 #[.agg #[.int .u64 (L0 a), .int .u64 (L1 a), .int .u64 (L2 a), .int .u64 (L3 a)]] w fun e w' => e = .returned (.string ⟨(Lib.itoa a).toArray⟩) ∧ Below w.heap.size w w' := by
  have SA := Lib.hid (fun w => sizeOf_any a ha w)
  have BA := Lib.hid (fun w => below_o (ngB_fit ha) w)
  obtain ⟨N, hN⟩ : ∃ x : Nat, a.natAbs = x := ⟨_, rfl⟩
  obtain ⟨s, hs⟩ : ∃ x : Bool, decide (a < 0) = x := ⟨_, rfl⟩
  rw [hN] at SA
  rw [hs] at BA
  have hNs : N < 10 ^ (77 + 1) := by
    obtain ⟨_, _⟩ := ha
    have : (10 : Nat) ^ (77 + 1) = 1000000000000000000000000000000000000000000000000000000000000000000000000000000 := by decide
    omega
  have hlen := Lib.hid (dec_len 77 N hNs)
  have sN : Siz (N : Int) := by obtain ⟨_, _⟩ := ha; exact ⟨by omega, by omega⟩
  obtain ⟨res, hres⟩ : ∃ x : ByteArray, (⟨(Lib.itoa a).toArray⟩ : ByteArray) = x := ⟨_, rfl⟩
  have HR : ∀ t : ByteArray, t.data.toList = Lib.decDigits N → (if s then (⟨#[45]⟩ : ByteArray) ++ t else t) = res := fun t ht => by
    rw [← hres]
    cases s with
    | false =>
      refine ba_of ?_
      simp only [Bool.false_eq_true, if_false, ht]
      unfold Lib.itoa
      have := of_decide_eq_false hs
      rw [if_neg this, ← hN]
      congr 1
      omega
    | true =>
      refine ba_of ?_
      have := of_decide_eq_true hs
      simp only [if_true, ba_app, ht]
      unfold Lib.itoa
      rw [if_pos this, hN]
      rfl
  rw [hres]
  have HRH := Lib.hid HR
  clear hs hN hNs HR hres ha
  go_enter Tryd.func44, Tryd.ntmps44
  go_wp2_with (first
    | (go_at_call 47; refine (SA.out _).mono ?_; rintro e w1 ⟨rfl, hb1⟩))
  go_name_world W0 hW0
  have z1 := hb1.size
  have OA : Own W0 w.heap.size 24 #[.int .u64 (L0 a), .int .u64 (L1 a), .int .u64 (L2 a), .int .u64 (L3 a)] := hW0 ▸ (by
    have O1 : Own w1 w.heap.size 24 #[.int .u64 (L0 a), .int .u64 (L1 a), .int .u64 (L2 a), .int .u64 (L3 a)] := (Own.made _ _ _).keep hb1
    have O2 := O1.in_
    repeat' (first | (with_reducible assumption) | (with_reducible refine Own.drawnN ?_ _) | (with_reducible refine Own.drawn ?_) | (with_reducible refine Own.made_at ?_; first | rfl | (simp; done) | omega | (simp; omega)) | (with_reducible refine Own.more ?_ _) | (with_reducible refine Own.apart ?_ ?_ _ _; rotate_left; first | omega | (simp; done) | (simp; omega)) | (refine Own.put ?_ _ _)))
  have O4 : Own W0 w1.heap.size 58 #[.int .u64 (L0 N), .int .u64 (L1 N), .int .u64 (L2 N), .int .u64 (L3 N)] := hW0 ▸ (by repeat' (first | (with_reducible assumption) | (with_reducible refine Own.drawnN ?_ _) | (with_reducible refine Own.drawn ?_) | (with_reducible refine Own.made_at ?_; first | rfl | (simp; done) | omega | (simp; omega)) | (with_reducible refine Own.more ?_ _) | (with_reducible refine Own.apart ?_ ?_ _ _; rotate_left; first | omega | (simp; done) | (simp; omega)) | (refine Own.put ?_ _ _)))
  have hW0b : Below w.heap.size w W0 := hW0 ▸ (by
    have hB1 : Below w.heap.size w w1 := then_ ((Below.refl _ _).alloc (Nat.le_refl _) _) hb1 (by simp)
    have hB2 := hB1.size
    repeat' (first | (with_reducible exact Below.refl _ _) | (with_reducible assumption) | (with_reducible refine below_drewN ?_ _) | (with_reducible refine Below.drew ?_) | (with_reducible refine Below.alloc ?_ ?_ _) | (with_reducible refine Below.setCell ?_ ?_ _) | (with_reducible refine then_ ?_ (by with_reducible assumption) ?_) | (with_reducible exact Nat.le_refl _) | (with_reducible exact Nat.le_succ _) | (with_reducible exact Nat.le_succ_of_le (by with_reducible assumption)) | omega | (simp; done) | (simp; omega) | (exact Nat.le_succ _) | (exact Nat.le_succ_of_le (by with_reducible assumption))))
  have x1 : w.heap.size < w1.heap.size := by simp at z1; omega
  clear hW0 hb1 z1
  go_loopg [3] N (fun k s3 wr => ∃ (r : Nat) (ts : ByteArray), r = k ∧ s3 = .string ts ∧ Siz (r : Int) ∧ Hid (Lib.decDigits N = Lib.decDigits r ++ ts.data.toList) ∧ Own wr w1.heap.size 58 #[.int .u64 (L0 r), .int .u64 (L1 r), .int .u64 (L2 r), .int .u64 (L3 r)] ∧ Own wr w.heap.size 24 #[.int .u64 (L0 a), .int .u64 (L1 a), .int .u64 (L2 a), .int .u64 (L3 a)] ∧ Below w.heap.size w wr)
  case atStart =>
    exact ⟨N, ⟨#[]⟩, rfl, rfl, sN, Lib.hid (by simp), O4, OA, hW0b⟩
  case round =>
    clear OA O4 hW0b SA
    obtain ⟨r, ts, rfl, rfl, sr, HD, O4, OA, hB⟩ := hrel
    have hts : ts.size ≤ 78 := by
      have h1 := hlen.out
      rw [HD.out, List.length_append, ← ba_size] at h1
      omega
    obtain ⟨q, hq⟩ : ∃ x : Nat, r / 1000000000000000000 = x := ⟨_, rfl⟩
    obtain ⟨m, hm⟩ : ∃ x : Nat, r % 1000000000000000000 = x := ⟨_, rfl⟩
    have DV1 : ∀ w, Calls Tryd.prog 51 #[.agg #[.int .u64 (L0 (r : Int)), .int .u64 (L1 (r : Int)), .int .u64 (L2 (r : Int)), .int .u64 (L3 (r : Int))], .agg #[.int .u64 1000000000000000000, .int .u64 0, .int .u64 0, .int .u64 0]] w fun e w' => e = .returned (.tuple #[.agg #[.int .u64 (L0 (q : Int)), .int .u64 (L1 (q : Int)), .int .u64 (L2 (q : Int)), .int .u64 (L3 (q : Int))], .agg #[.int .u64 (L0 (m : Int)), .int .u64 (L1 (m : Int)), .int .u64 (L2 (m : Int)), .int .u64 (L3 (m : Int))]]) ∧ Below w.heap.size w w' := fun w => by
      have h := divide_any (r : Int) 1000000000000000000 sr ⟨by decide, by decide⟩ (by decide) w
      rw [show (r : Int) / 1000000000000000000 = (q : Int) by omega, show (r : Int) % 1000000000000000000 = (m : Int) by omega] at h
      exact h
    have hm18 : m < 1000000000000000000 := by omega
    have em : L0 (m : Int) = m := by unfold L0; omega
    obtain ⟨ds, hds⟩ : ∃ x : ByteArray, (⟨(Lib.decDigits m).toArray⟩ : ByteArray) = x := ⟨_, rfl⟩
    have dl : ds.data.toList = Lib.decDigits m := by rw [← hds]
    have dz : ds.size ≤ 18 := by
      have := dec_len18 r
      rw [hm, ← dl, ← ba_size] at this
      exact this
    have FU1 : ∀ w, Pow10 w → Calls Tryd.prog 52 #[.int .u64 (L0 (m : Int)), .int .i64 10] w fun e w' => e = .returned (.string ds) ∧ Below w.heap.size w w' := fun w hw => by
      rw [em, ← hds]
      exact formatUint_any m (by omega) w hw
    have FU := Lib.hid FU1
    have sq : Siz (q : Int) := by obtain ⟨_, _⟩ := sr; exact ⟨by omega, by omega⟩
    have hdl := Lib.hid dl
    clear FU1 em hds dl
    by_cases h0 : q = 0
    · have hfin := HRH.out (ds ++ ts) (by rw [ba_app, hdl.out, HD.out, ← hm]; congr 2; omega)
      subst h0
      have FH := Lib.hid hfin
      have EQ : ∀ w, (Op.equalIn 10000 58 (.agg #[.int .u64 0, .int .u64 0, .int .u64 0, .int .u64 0]) (.agg #[.int .u64 0, .int .u64 0, .int .u64 0, .int .u64 0])).run Tryd.prog w = .ok true w := fun w => (eq_size _ _ _ _ _ _ _ _ w).trans rfl
      have Z0 : L0 ((0 : Nat) : Int) = 0 := rfl
      have Z1 : L1 ((0 : Nat) : Int) = 0 := rfl
      have Z2 : L2 ((0 : Nat) : Int) = 0 := rfl
      have Z3 : L3 ((0 : Nat) : Int) = 0 := rfl
      simp only [Z0, Z1, Z2, Z3] at DV1
      have DV := Lib.hid DV1
      clear Z0 Z1 Z2 Z3 DV1
      clear hq hm HRH hfin
      have x4 : ¬ w1.heap.size = wr.heap.size := by have := O4.in_; omega
      have x5 : ¬ wr.heap.size = w1.heap.size := by have := O4.in_; omega
      have x6 : w.heap.size < wr.heap.size := OA.in_
      obtain ⟨P1, P2, P3⟩ := O4.at_
      go_upto_region 4 with fail
      go_at_call 51
      refine (DV.out _).mono ?_
      rintro e w2 ⟨rfl, hb2⟩
      have O42 := (O4.more _).keep hb2
      have OA2 := (OA.more _).keep hb2
      have O52 := (Own.made _ _ _).keep hb2
      have hB2 : Below w.heap.size w w2 := then_ (hB.alloc hB.size _) hb2 (by have := hB.size; simp; omega)
      clear O4 OA P1 P2 P3
      obtain ⟨P1, P2, P3⟩ := O42.at_
      obtain ⟨Q1, Q2, Q3⟩ := O52.at_
      go_upto_region 4 with fail
      go_name_world W2 hW2
      have x2 := hB2.size
      have x3 := hB.size
      obtain ⟨k1, k2, k3⟩ := only63 (w0 := w) (x0 := 0) (x1 := 0) (x2 := 0) (x3 := 0) O42 rfl
      obtain ⟨j1, j2, j3⟩ := only63 (w0 := w) (x0 := L0 m) (x1 := L1 m) (x2 := L2 m) (x3 := L3 m) (k2.own O52 x5) rfl
      have O4 : Own W2 w1.heap.size 58 #[.int .u64 0, .int .u64 0, .int .u64 0, .int .u64 0] := hW2 ▸ j2.own k1 x4
      have O5 : Own W2 wr.heap.size 58 #[.int .u64 (L0 m), .int .u64 (L1 m), .int .u64 (L2 m), .int .u64 (L3 m)] := hW2 ▸ j1
      have OA : Own W2 w.heap.size 24 #[.int .u64 (L0 a), .int .u64 (L1 a), .int .u64 (L2 a), .int .u64 (L3 a)] := hW2 ▸ j2.own (k2.own OA2 (by omega)) (by omega)
      have hW2b : Below w.heap.size w W2 := hW2 ▸ j3 _ x3 (k3 _ (by omega) hB2)
      clear k1 k2 k3 j1 j2 j3
      have hP2 : Pow10 W2 := hp.keep hW2b
      clear hW2 O42 O52 OA2 hB2 hB P1 P2 P3 Q1 Q2 Q3
      obtain ⟨P1, P2, P3⟩ := O4.at_
      obtain ⟨Q1, Q2, Q3⟩ := O5.at_
      obtain ⟨A1, A2, A3⟩ := OA.at_
      cases s <;> (
        go_wp2_with (first
          | (go_at_call 52; refine (FU.out _ hP2).mono ?_; rintro e w3 ⟨rfl, hb3⟩; have O43 := O4.keep hb3; have OA3 := OA.keep hb3; have hB3 := then_ hW2b hb3 hW2b.size; clear P1 P2 P3 Q1 Q2 Q3 A1 A2 A3; obtain ⟨P1, P2, P3⟩ := O43.at_; obtain ⟨A1, A2, A3⟩ := OA3.at_)
          | (go_at_call 28; refine (BA.out _).mono ?_; rintro e w4 ⟨rfl, hb4⟩))
        refine bodyPost_ret (by simp [results, Tryd.results44, go_sem]) rfl ⟨rets_eq FH.out, ?_⟩
        exact then_ hB3 hb4 hB3.size)
    · have hd18 := dec_18 r (by omega)
      rw [hq, hm, ← hdl.out] at hd18
      obtain ⟨zs, hzs⟩ : ∃ x : ByteArray, (⟨(List.replicate (18 - ds.size) (48 : UInt8)).toArray⟩ : ByteArray) = x := ⟨_, rfl⟩
      have zl : zs.data.toList = List.replicate (18 - ds.size) 48 := by rw [← hzs]
      have zz : zs.size = 18 - ds.size := by rw [ba_size, zl, List.length_replicate]
      have RP1 : ∀ w, Calls Tryd.prog 53 #[.string ⟨#[48]⟩, .int .i64 (18 - (ds.size : Int))] w fun e w' => e = .returned (.string zs) ∧ Below w.heap.size w w' := fun w => by
        have h := Tryd.strings_Repeat ⟨#[48]⟩ (18 - ds.size) w (by omega) (by show 1 * (18 - ds.size) ≤ _; omega)
        rw [show ((18 - ds.size : Nat) : Int) = 18 - (ds.size : Int) by omega, rep_one, hzs] at h
        exact h
      have RP := Lib.hid RP1
      have HT : Lib.decDigits N = Lib.decDigits q ++ (zs ++ ds ++ ts).data.toList := by
        rw [HD.out, hd18, ba_app, ba_app, zl, ba_size ds]
        simp only [List.append_assoc]
      have HH := Lib.hid HT
      have EQ : ∀ w, (Op.equalIn 10000 58 (.agg #[.int .u64 (L0 (q : Int)), .int .u64 (L1 (q : Int)), .int .u64 (L2 (q : Int)), .int .u64 (L3 (q : Int))]) (.agg #[.int .u64 0, .int .u64 0, .int .u64 0, .int .u64 0])).run Tryd.prog w = .ok false w := fun w => by
        have := eq_siz sq siz0 w
        rw [decide_eq_false (by omega)] at this
        exact this
      have qr : q < r := by omega
      have DV := Lib.hid DV1
      clear hq hm HRH HD hdl RP1 HT hd18 hzs zl hlen h0 DV1 BA sr
      have x4 : ¬ w1.heap.size = wr.heap.size := by have := O4.in_; omega
      have x5 : ¬ wr.heap.size = w1.heap.size := by have := O4.in_; omega
      have x6 : w.heap.size < wr.heap.size := OA.in_
      obtain ⟨P1, P2, P3⟩ := O4.at_
      go_upto_region 4 with fail
      go_at_call 51
      refine (DV.out _).mono ?_
      rintro e w2 ⟨rfl, hb2⟩
      have O42 := (O4.more _).keep hb2
      have OA2 := (OA.more _).keep hb2
      have O52 := (Own.made _ _ _).keep hb2
      have hB2 : Below w.heap.size w w2 := then_ (hB.alloc hB.size _) hb2 (by have := hB.size; simp; omega)
      clear O4 OA P1 P2 P3
      obtain ⟨P1, P2, P3⟩ := O42.at_
      obtain ⟨Q1, Q2, Q3⟩ := O52.at_
      go_upto_region 4 with fail
      go_name_world W2 hW2
      have x2 := hB2.size
      have x3 := hB.size
      obtain ⟨k1, k2, k3⟩ := only63 (w0 := w) (x0 := (L0 q)) (x1 := (L1 q)) (x2 := (L2 q)) (x3 := (L3 q)) O42 rfl
      obtain ⟨j1, j2, j3⟩ := only63 (w0 := w) (x0 := L0 m) (x1 := L1 m) (x2 := L2 m) (x3 := L3 m) (k2.own O52 x5) rfl
      have O4 : Own W2 w1.heap.size 58 #[.int .u64 (L0 q), .int .u64 (L1 q), .int .u64 (L2 q), .int .u64 (L3 q)] := hW2 ▸ j2.own k1 x4
      have O5 : Own W2 wr.heap.size 58 #[.int .u64 (L0 m), .int .u64 (L1 m), .int .u64 (L2 m), .int .u64 (L3 m)] := hW2 ▸ j1
      have OA : Own W2 w.heap.size 24 #[.int .u64 (L0 a), .int .u64 (L1 a), .int .u64 (L2 a), .int .u64 (L3 a)] := hW2 ▸ j2.own (k2.own OA2 (by omega)) (by omega)
      have hW2b : Below w.heap.size w W2 := hW2 ▸ j3 _ x3 (k3 _ (by omega) hB2)
      clear k1 k2 k3 j1 j2 j3
      have hP2 : Pow10 W2 := hp.keep hW2b
      clear hW2 O42 O52 OA2 hB2 hB P1 P2 P3 Q1 Q2 Q3
      obtain ⟨P1, P2, P3⟩ := O4.at_
      obtain ⟨Q1, Q2, Q3⟩ := O5.at_
      obtain ⟨A1, A2, A3⟩ := OA.at_
      go_wp2_with (first
        | (go_at_call 52; refine (FU.out _ hP2).mono ?_; rintro e w3 ⟨rfl, hb3⟩; have O43 := O4.keep hb3; have OA3 := OA.keep hb3; have hB3 := then_ hW2b hb3 hW2b.size; clear P1 P2 P3 Q1 Q2 Q3 A1 A2 A3; obtain ⟨P1, P2, P3⟩ := O43.at_; obtain ⟨A1, A2, A3⟩ := OA3.at_)
        | (go_at_call 53; refine (RP.out _).mono ?_; rintro e w4 ⟨rfl, hb4⟩; have O44 := O43.keep hb4; have OA4 := OA3.keep hb4; have hB4 := then_ hB3 hb4 hB3.size))
      go_roundg q
      case measure => exact qr
      case rel => exact ⟨q, _, rfl, rfl, sq, HH, O44, OA4, hB4⟩
end Go.Proofs.YtjmojddnedngaaaDoor
end
