/- merged: Small facts that the walks' ends want: equal results, what is below a world's old size. It speaks of no function. What slicing strings by whole numbers answers, as equations. It speaks of no function. The contract of strings.Clone. Condition: a text of at most 2^48 bytes. Plain mathematics of 64-bit numbers and bytes; it speaks of no program. No condition but those that each theorem names. The contract of word.isSize. No condition but the argument's own range. Bytes in a block of the call's own: what a text is as bytes, a byte that is written, bytes that are a text again. It speaks of no function. Plain mathematics of the sum of 32 bits: a register that is moved on bit by bit is linear; bytes as one number. It speaks of no program. The contracts of crc.take and crc.Sum. No condition but the arguments' own ranges, and that the parts lie where the slice says. -/
import Derived.Test.YtndhmidgnpobjaaGreatDoorRows
import Derived.WalkKit
import Derived.ProofKit
import Derived.OpenShut
import Derived.Lib.Hide
import Derived.PlainAid
import Derived.WalkLawsBesides
import Derived.Test.YtndhmidgnpobjaaGreatDoorShelf
import Derived.Below
import Derived.Lib.BitFns
import Derived.Laws.BitsAllLaws
import Derived.Laws.Bits64b
import Derived.RowKit
import Derived.Laws.IdiomStrings
section
namespace Go.Proofs.YtndhmidgnpobjaaGreatDoor
open Go.ChangeShapes Go.WideShapes Go.ChangeAt Go.RowKit
set_option linter.unusedVariables false

theorem ret_eq {k : IntKind} {a b : Int} (h : a = b) : Ending.returned (.int k a) = .returned (.int k b) := by rw [h]
theorem retb_eq {a b : Bool} (h : a = b) : Ending.returned (.bool a) = .returned (.bool b) := by rw [h]
theorem str_ne {a b : ByteArray} (h : a ≠ b) : (a.toList == b.toList) = false := by
  rw [beq_eq_false_iff_ne, ByteArray.toList_eq, ByteArray.toList_eq]
  exact fun e => h (Go.WideShapes.bytes_inj e)
theorem cell_lt {w : World} {b o : Nat} {v : Value} (h : w.cell? ⟨b, o, none⟩ = some v) : b < w.heap.size := by
  unfold World.cell? at h
  by_cases hb : b < w.heap.size
  · exact hb
  · have : w.heap[b]? = none := by simp; omega
    simp [this] at h
end Go.Proofs.YtndhmidgnpobjaaGreatDoor
end
section
namespace Go.Proofs.YtndhmidgnpobjaaGreatDoor
open Go.ChangeShapes Go.WideShapes Go.ChangeAt Go.RowKit
end Go.Proofs.YtndhmidgnpobjaaGreatDoor
end
section
namespace Go.Proofs.YtndhmidgnpobjaaGreatDoor
open Go.ChangeShapes Go.WideShapes Go.ChangeAt Go.RowKit
set_option linter.unusedVariables false
theorem clone_any (s : ByteArray) (w : World) (hs : s.size ≤ 281474976710656) :
    Calls Tryz.prog 179 #[.string s] w fun e w' => e = .returned (.string s) ∧ Below w.heap.size w w' := by
  go_enter Tryz.func179, Tryz.ntmps179
  go_wp2_with (go_at_call 218; refine (Tryz.stringslite_Clone s w (by omega)).mono ?_; rintro e w' ⟨rfl, hb⟩)
  go_ret
  exact ⟨rfl, hb⟩
end Go.Proofs.YtndhmidgnpobjaaGreatDoor
end
section
namespace Go.Proofs.YtndhmidgnpobjaaGreatDoor

end Go.Proofs.YtndhmidgnpobjaaGreatDoor
end
section
namespace Go.Proofs.YtndhmidgnpobjaaGreatDoor
open Go.ChangeShapes Go.WideShapes Go.ChangeAt Go.RowKit
set_option linter.unusedVariables false

theorem isSize_yes (x : Int) (w : World) (h0 : 0 ≤ x) (h1 : x ≤ 8) :
    Calls Tryz.prog 181 #[.int .i64 x] w fun e w' => e = .returned (.bool true) ∧ w = w' := by
  go_enter Tryz.func181, Tryz.ntmps181
  go_wp2
  go_ret
  exact ⟨rfl, rfl⟩

theorem isSize_no (x : Int) (w : World) (h0 : x < 0 ∨ 8 < x) :
    Calls Tryz.prog 181 #[.int .i64 x] w fun e w' => e = .returned (.bool false) ∧ w = w' := by
  rcases h0 with h | h
  · go_enter Tryz.func181, Tryz.ntmps181
    go_wp2
    go_ret
    exact ⟨rfl, rfl⟩
  · have h0 : 0 ≤ x := by omega
    have h8 : decide (x ≤ 8) = false := by simpa using h
    go_enter Tryz.func181, Tryz.ntmps181
    go_wp2
    go_ret
    exact ⟨rfl, rfl⟩
end Go.Proofs.YtndhmidgnpobjaaGreatDoor
end
section
namespace Go.Proofs.YtndhmidgnpobjaaGreatDoor
open Go.ChangeShapes Go.WideShapes Go.ChangeAt Go.RowKit
set_option linter.unusedVariables false

/-- block b holds the bytes L from its beginning on, and they may be written -/
structure BytesAt (w : World) (b : Nat) (L : List UInt8) : Prop where
  cell : ∀ j (h : j < L.length), w.cell? ⟨b, j, none⟩ = some (.int .u8 ((L[j]'h).toNat : Int))
  free : ∀ j, j < L.length → w.frozen? ⟨b, j, none⟩ = false

theorem BytesAt.store {w : World} {b : Nat} {L : List UInt8} (h : BytesAt w b L) (i : Nat) (hi : i < L.length) (v : UInt8) : BytesAt (w.setCell ⟨b, i, none⟩ (.int .u8 (v.toNat : Int))) b (L.set i v) := by
  refine ⟨fun j hj => ?_, fun j hj => ?_⟩
  · rw [List.length_set] at hj
    by_cases hij : i = j
    · subst hij
      rw [List.getElem_set_self]
      exact World.cell?_setCell_same w _ _ (h.cell i hi)
    · rw [List.getElem_set_ne hij, World.cell?_setCell_other _ _ _ _ (by intro e; injection e with _ e2; exact hij e2)]
      exact h.cell j hj
  · rw [List.length_set] at hj
    rw [World.frozen?_setCell]; exact h.free j hj
theorem to_bytes (P : Program) (w : World) (src dst e : TypeId) (s : ByteArray) (hs : P.underlying src = some .string) (hd : P.underlying dst = some (.slice e)) (he : P.underlying e = some (.int .u8)) :
    ∃ c w', (convert src dst (.string s)).run P w = .ok (.slice (some ⟨w.heap.size, 0, none⟩) s.size c) w' ∧ BytesAt w' w.heap.size s.data.toList ∧ Below w.heap.size w w' ∧ w.heap.size < w'.heap.size := by
  refine ⟨_, _, run_bytes_of_string w src dst e s hs hd he, ⟨fun j hj => ?_, fun j hj => ?_⟩, ((Below.refl _ _).drew).alloc (Nat.le_refl _) _, by simp⟩
  · have hj' : j < s.data.size := by simpa using hj
    have := World.cell?_alloc_mark w.drew (bytesRow s (grownCap w s.size 0 e)) e ((bytesRow s (grownCap w s.size 0 e)).size, (bytesRow s (grownCap w s.size 0 e)).size + 1) j
    rw [bytesRow_at s _ j hj'] at this
    simpa using this
  · have hj' : j < s.data.size := by simpa using hj
    have := World.frozen?_alloc_mark w.drew (bytesRow s (grownCap w s.size 0 e)) e (bytesRow s (grownCap w s.size 0 e)).size ((bytesRow s (grownCap w s.size 0 e)).size + 1) j
    refine this.trans ?_
    have hb : j < (bytesRow s (grownCap w s.size 0 e)).size := by
      have h := bytesRow_at s (grownCap w s.size 0 e) j hj'
      rw [Array.getElem?_eq_some_iff] at h
      exact h.1
    simp; omega
theorem of_bytes (P : Program) (w : World) (src dst e : TypeId) (b cap : Nat) (L : List UInt8) (h : BytesAt w b L) (hs : P.underlying src = some (.slice e)) (he : P.underlying e = some (.int .u8)) (hd : P.underlying dst = some .string) :
    (convert src dst (.slice (some ⟨b, 0, none⟩) L.length cap)).run P w = .ok (.string ⟨L.toArray⟩) w :=
  run_convert_bytes_back (P := P) w src dst e ⟨b, 0, none⟩ cap L hs he hd (fun j hj => by
    have ea : (⟨b, 0, none⟩ : Addr).add j = ⟨b, j, none⟩ := by unfold Addr.add; split <;> simp_all
    rw [ea]; exact h.cell j hj)
end Go.Proofs.YtndhmidgnpobjaaGreatDoor
end
section
namespace Go.Proofs.YtndhmidgnpobjaaGreatDoor

/-- the register moved on by one bit -/
def stp (r : Nat) : Nat := if r % 2 = 1 then (r / 2) ^^^ 3988292384 else r / 2
def stpN : Nat → Nat → Nat
  | 0, r => r
  | k + 1, r => stpN k (stp r)

theorem stp_xor (a b : Nat) : stp (a ^^^ b) = stp a ^^^ stp b := by
  unfold stp
  have h1 : (a ^^^ b) % 2 = 1 ↔ ¬(a % 2 = 1 ↔ b % 2 = 1) := by
    have ha := Nat.testBit_zero a
    have hb := Nat.testBit_zero b
    have hab := Nat.testBit_zero (a ^^^ b)
    rw [Nat.testBit_xor, ha, hb] at hab
    by_cases x : a % 2 = 1 <;> by_cases y : b % 2 = 1 <;> simp [x, y] at hab ⊢ <;> omega
  have h2 : (a ^^^ b) / 2 = (a / 2) ^^^ (b / 2) := by
    apply Nat.eq_of_testBit_eq
    intro i
    simp [Nat.testBit_div_two, Nat.testBit_xor]
  rw [h2]
  by_cases x : a % 2 = 1 <;> by_cases y : b % 2 = 1
  · rw [if_pos x, if_pos y, if_neg (by rw [h1]; simp [x, y])]
    apply Nat.eq_of_testBit_eq; intro i; simp only [Nat.testBit_xor]; cases (a / 2).testBit i <;> cases (b / 2).testBit i <;> simp
  · rw [if_pos x, if_neg y, if_pos (by rw [h1]; simp [x, y])]
    apply Nat.eq_of_testBit_eq; intro i; simp only [Nat.testBit_xor]; cases (a / 2).testBit i <;> cases (b / 2).testBit i <;> simp
  · rw [if_neg x, if_pos y, if_pos (by rw [h1]; simp [x, y])]
    apply Nat.eq_of_testBit_eq; intro i; simp only [Nat.testBit_xor]; cases (a / 2).testBit i <;> cases (b / 2).testBit i <;> simp
  · rw [if_neg x, if_neg y, if_neg (by rw [h1]; simp [x, y])]

theorem stpN_xor (k a b : Nat) : stpN k (a ^^^ b) = stpN k a ^^^ stpN k b := by
  induction k generalizing a b with
  | zero => rfl
  | succ k ih => unfold stpN; rw [stp_xor, ih]
theorem stpN_add (j k r : Nat) : stpN (j + k) r = stpN k (stpN j r) := by
  induction j generalizing r with
  | zero => simp [stpN]
  | succ j ih => rw [show j + 1 + k = (j + k) + 1 by omega]; exact ih (stp r)
theorem stp_lt (r : Nat) (h : r < 4294967296) : stp r < 4294967296 := by
  unfold stp
  split
  · exact Nat.xor_lt_two_pow (n := 32) (by omega) (by omega)
  · omega
theorem stpN_lt (k r : Nat) (h : r < 4294967296) : stpN k r < 4294967296 := by
  induction k generalizing r with
  | zero => exact h
  | succ k ih => unfold stpN; exact ih _ (stp_lt r h)
theorem stp_ne (r : Nat) (h : r < 4294967296) (h0 : r ≠ 0) : stp r ≠ 0 := by
  unfold stp
  split
  · intro hx
    have : r / 2 = 3988292384 := by
      have e : (r / 2 ^^^ 3988292384) ^^^ 3988292384 = 0 ^^^ 3988292384 := by rw [hx]
      rw [Nat.xor_assoc, Nat.xor_self, Nat.xor_zero, Nat.zero_xor] at e
      exact e
    omega
  · omega
theorem stpN_ne (k r : Nat) (h : r < 4294967296) (h0 : r ≠ 0) : stpN k r ≠ 0 := by
  induction k generalizing r with
  | zero => exact h0
  | succ k ih => unfold stpN; exact ih _ (stp_lt r h) (stp_ne r h h0)
theorem stp_two (x : Nat) : stp (2 * x) = x := by unfold stp; rw [if_neg (by omega)]; omega
theorem stpN_shift (k x : Nat) : stpN k (2 ^ k * x) = x := by
  induction k generalizing x with
  | zero => simp [stpN]
  | succ k ih => unfold stpN; rw [Nat.pow_succ, Nat.mul_comm (2 ^ k) 2, Nat.mul_assoc, stp_two, ih]

/-- bytes as one number, the lowest first -/
def num : List UInt8 → Nat
  | [] => 0
  | b :: l => b.toNat + 256 * num l
theorem num_append (l m : List UInt8) : num (l ++ m) = num l + 256 ^ l.length * num m := by
  induction l with
  | nil => simp [num]
  | cons b l ih =>
    simp only [num, List.cons_append, List.length_cons, Nat.pow_succ, ih, Nat.mul_add]
    rw [← Nat.mul_assoc, Nat.mul_comm 256 (256 ^ l.length)]
    omega
theorem add_xor (a b k : Nat) (h : a < 2 ^ k) : a + 2 ^ k * b = a ^^^ (2 ^ k * b) := by
  rw [Nat.add_comm, Nat.two_pow_add_eq_or_of_lt h]
  apply Nat.eq_of_testBit_eq
  intro i
  simp only [Nat.testBit_or, Nat.testBit_xor, Nat.testBit_two_pow_mul]
  by_cases hi : k ≤ i
  · have : a.testBit i = false := Nat.testBit_lt_two_pow (Nat.lt_of_lt_of_le h (Nat.pow_le_pow_right (by omega) hi))
    simp [this]
  · simp [hi]

/-- the register behind a text -/
def regL (r : Nat) (l : List UInt8) : Nat := l.foldl (fun r b => stpN 8 (r ^^^ b.toNat)) r
theorem regL_append (r : Nat) (l m : List UInt8) : regL r (l ++ m) = regL (regL r l) m := by unfold regL; rw [List.foldl_append]
theorem regL_snoc (r : Nat) (l : List UInt8) (b : UInt8) : regL r (l ++ [b]) = stpN 8 (regL r l ^^^ b.toNat) := by rw [regL_append]; rfl
theorem regL_lt (r : Nat) (l : List UInt8) (h : r < 4294967296) : regL r l < 4294967296 := by
  induction l generalizing r with
  | nil => exact h
  | cons b l ih => exact ih _ (stpN_lt 8 _ (Nat.xor_lt_two_pow (n := 32) h (by have := b.toNat_lt; omega)))
/-- a text moves the register on as the number that it is does, all at once -/
theorem regL_num (r : Nat) (l : List UInt8) : regL r l = stpN (8 * l.length) (r ^^^ num l) := by
  induction l generalizing r with
  | nil => simp [regL, num, stpN]
  | cons b l ih =>
    show regL (stpN 8 (r ^^^ b.toNat)) l = _
    rw [ih]
    have hb : b.toNat < 2 ^ 8 := b.toNat_lt
    have e : num (b :: l) = b.toNat ^^^ (2 ^ 8 * num l) := by rw [← add_xor _ _ _ hb]; rfl
    rw [e, List.length_cons, show 8 * (l.length + 1) = 8 + 8 * l.length by omega, stpN_add, ← Nat.xor_assoc, stpN_xor 8 (r ^^^ b.toNat), stpN_shift]

/-- the sum of a text -/
def sumL (l : List UInt8) : Nat := 4294967295 - regL 4294967295 l
theorem sumL_lt (l : List UInt8) : sumL l < 4294967296 := by unfold sumL; omega
theorem not_xor (a : Nat) (h : a < 4294967296) : 4294967295 - a = a ^^^ 4294967295 := by
  have h1 : (BitVec.ofNat 32 a ^^^ BitVec.allOnes 32).toNat = a ^^^ 4294967295 := by
    rw [BitVec.toNat_xor, BitVec.toNat_ofNat, BitVec.toNat_allOnes, Nat.mod_eq_of_lt h]
  rw [← h1, BitVec.xor_allOnes, BitVec.toNat_not, BitVec.toNat_ofNat, Nat.mod_eq_of_lt h]

/-- of a text that leaves that register, one with bits turned among 32 in a row leaves another -/
theorem turned (l m : List UInt8) (at_ x : Nat) (hl : m.length = l.length) (hx : x < 4294967296) (h0 : x ≠ 0) (ha : at_ ≤ 8 * l.length) (hn : num m = num l ^^^ (2 ^ at_ * x)) : regL 4294967295 m ≠ regL 4294967295 l := by
  rw [regL_num, regL_num, hl, hn, ← Nat.xor_assoc, stpN_xor, show 8 * l.length = at_ + (8 * l.length - at_) by omega]
  rw [stpN_add at_ _ (2 ^ at_ * x), stpN_shift]
  intro h
  have h1 := stpN_ne (8 * l.length - at_) x hx h0
  apply h1
  generalize stpN (8 * l.length - at_) x = y at *
  generalize stpN (at_ + (8 * l.length - at_)) (4294967295 ^^^ num l) = z at *
  have e : z ^^^ (z ^^^ y) = z ^^^ z := by rw [h]
  rw [← Nat.xor_assoc, Nat.xor_self, Nat.zero_xor] at e
  exact e

end Go.Proofs.YtndhmidgnpobjaaGreatDoor
end
section
namespace Go.Proofs.YtndhmidgnpobjaaGreatDoor
open Go.ChangeShapes Go.WideShapes Go.ChangeAt Go.RowKit
set_option linter.unusedVariables false

theorem take_step (y : Nat) (hy : y < 4294967296) :
    bits BinOp.xor IntKind.u32 ((y : Int) / 2) (bits BinOp.and IntKind.u32 (-bits BinOp.and IntKind.u32 (y : Int) 1 % 4294967296) 3988292384) = (stp y : Nat) := by
  have ha : bits .and .u32 (y : Int) 1 = ((y % 2 : Nat) : Int) := by
    refine (u32_and_nat y 1 hy (by omega)).trans ?_
    rw [Nat.and_one_is_mod]
  have hd : (y : Int) / 2 = ((y / 2 : Nat) : Int) := by omega
  rw [ha, hd]
  unfold stp
  by_cases h : y % 2 = 1
  · rw [if_pos h, h]
    have e : (-((1 : Nat) : Int) % 4294967296) = ((4294967295 : Nat) : Int) := by decide
    rw [e]
    have hf : bits .and .u32 ((4294967295 : Nat) : Int) 3988292384 = ((3988292384 : Nat) : Int) :=
      (u32_and_nat 4294967295 3988292384 (by omega) (by omega)).trans (by decide +kernel)
    rw [hf]
    exact u32_xor_nat _ _ (by omega) (by omega)
  · have h0 : y % 2 = 0 := by omega
    rw [if_neg h, h0]
    have e : (-((0 : Nat) : Int) % 4294967296) = ((0 : Nat) : Int) := by decide
    rw [e]
    have hf : bits .and .u32 ((0 : Nat) : Int) 3988292384 = ((0 : Nat) : Int) :=
      (u32_and_nat 0 3988292384 (by omega) (by omega)).trans (by rw [Nat.zero_and])
    rw [hf]
    refine (u32_xor_nat _ _ (by omega) (by omega)).trans ?_
    rw [Nat.xor_zero]

theorem take_any (r b : Nat) (w : World) (hr : r < 4294967296) (hb : b < 256) :
    Calls Tryz.prog 251 #[.int .u32 r, .int .u8 b] w fun e w' => e = .returned (.int .u32 (stpN 8 (r ^^^ b) : Nat)) ∧ w = w' := by
  have hx : r ^^^ b < 4294967296 := Nat.xor_lt_two_pow (n := 32) hr (by omega)
  have H0 := Lib.hid (u32_xor_nat r b hr (by omega))
  go_enter Tryz.func251, Tryz.ntmps251
  go_wp2
  go_loop [0, 5, 10] (fun x o i => ∃ j y : Nat, j ≤ 8 ∧ i = .int .i64 j ∧ x = .int .u32 (y : Nat) ∧ y < 4294967296 ∧ stpN (8 - j) y = stpN 8 (r ^^^ b)) (fun _ _ i => 8 - (intOf i).toNat)
  case atStart => exact ⟨0, r ^^^ b, by omega, rfl, by rw [H0.out], hx, rfl⟩
  case round =>
    obtain ⟨j, y, hj, rfl, rfl, hy, hs⟩ := hrel
    by_cases hlt : j < 8
    · have hs' : stpN (8 - (j + 1)) (stp y) = stpN 8 (r ^^^ b) := by rw [← hs, show 8 - j = (8 - (j + 1)) + 1 by omega]; rfl
      have HS := Lib.hid hs'; clear hs hs'
      have HT := Lib.hid (take_step y hy)
      go_wp2
      go_round
      case rel => exact ⟨j + 1, stp y, by omega, by go_num, by rw [HT.out], stp_lt y hy, HS.out⟩
      case measure => simp [intOf]; omega
    · obtain rfl : j = 8 := by omega
      have hs' : y = stpN 8 (r ^^^ b) := hs
      have HS := Lib.hid hs'; clear hs hs'
      go_wp2
      go_ret
      exact ⟨ret_eq (by rw [HS.out]), rfl⟩

/-- the strings of a slice lie in memory -/
def Strs (w : World) (a : Option Addr) (l : List ByteArray) : Prop := (l = []) ∨ ∃ b off, a = some ⟨b, off, none⟩ ∧ ∀ i (h : i < l.length), w.cell? ⟨b, off + i, none⟩ = some (.string (l[i]'h))
def cat (l : List ByteArray) : List UInt8 := l.flatMap (·.data.toList)

theorem sum_any (a : Option Addr) (n c : Nat) (l : List ByteArray) (w : World) (hl : l.length = n) (hn : n ≤ 9223372036854775807) (hs : ∀ s ∈ l, s.size ≤ 9223372036854775807) (hc : Strs w a l) :
    Calls Tryz.prog 219 #[.slice a n c] w fun e w' => e = .returned (.int .u32 (sumL (cat l) : Nat)) ∧ w = w' := by
  subst hl
  go_enter Tryz.func219, Tryz.ntmps219
  go_wp2
  go_loop [3, 5, 6, 9, 13, 14, 15] (fun r _ _ i _ _ _ => ∃ k : Nat, k ≤ l.length ∧ i = .int .i64 k ∧ r = .int .u32 (regL 4294967295 (cat (l.take k)) : Nat)) (fun _ _ _ i _ _ _ => l.length - (intOf i).toNat)
  case atStart => exact ⟨0, by omega, rfl, rfl⟩
  case round =>
    obtain ⟨k, hk, rfl, rfl⟩ := hrel
    by_cases hlt : k < l.length
    · have hkl : k < l.length := hlt
      obtain ⟨s, hsk⟩ : ∃ s, s = l[k] := ⟨_, rfl⟩
      have hsz : s.size ≤ 9223372036854775807 := hs s (by rw [hsk]; exact List.getElem_mem hkl)
      rcases hc with h0 | ⟨b, off, rfl, hc⟩
      · subst h0; simp at hkl
      have hcell : w.cell? ⟨b, off + k, none⟩ = some (.string s) := by rw [hsk]; exact hc k hkl
      clear hc hs
      have HSK := Lib.hid hsk; clear hsk
      go_wp2
      go_loop [3, 6, 15] (fun r _ i => ∃ j : Nat, j ≤ s.size ∧ i = .int .i64 j ∧ r = .int .u32 (regL 4294967295 (cat (l.take k) ++ s.data.toList.take j) : Nat)) (fun _ _ i => s.size - (intOf i).toNat)
      case atStart => exact ⟨0, by omega, rfl, by simp⟩
      case round =>
        obtain ⟨j, hj, rfl, rfl⟩ := hrel
        by_cases hjs : j < s.size
        · have hlt32 := regL_lt 4294967295 (cat (l.take k) ++ s.data.toList.take j) (by omega)
          have hb := (s[j]'hjs).toNat_lt
          have HR := Lib.hid (show stpN 8 (regL 4294967295 (cat (l.take k) ++ s.data.toList.take j) ^^^ (s[j]'hjs).toNat) = regL 4294967295 (cat (l.take k) ++ s.data.toList.take (j + 1)) by
            rw [← regL_snoc, List.append_assoc]
            congr 2
            rw [List.take_succ_eq_append_getElem (by simpa using hjs)]; rfl)
          go_wp2_with (go_at_call 251; refine (take_any _ _ _ hlt32 hb).mono ?_; rintro e w' ⟨rfl, rfl⟩)
          go_round
          case rel => exact ⟨j + 1, by omega, by go_num, by rw [HR.out]⟩
          case measure => simp [intOf]; omega
        · have HE := Lib.hid (show cat (l.take k) ++ s.data.toList.take j = cat (l.take (k + 1)) by
            have hjn : j = s.size := by omega
            have e1 : s.data.toList.take j = s.data.toList := by rw [List.take_of_length_le]; rw [hjn]; exact Nat.le_refl _
            rw [e1, List.take_succ_eq_append_getElem hkl, ← HSK.out]
            simp [cat])
          go_wp2
          go_round
          case rel => exact ⟨k + 1, by omega, by go_num, by rw [HE.out]⟩
          case measure => simp [intOf]; omega
    · obtain rfl : k = l.length := by omega
      have hr := regL_lt 4294967295 (cat l) (by omega)
      have HX := Lib.hid (show bits BinOp.xor IntKind.u32 IntKind.u32.max (regL 4294967295 (cat l) : Nat) = (sumL (cat l) : Nat) by
        have em : IntKind.u32.max = ((4294967295 : Nat) : Int) := by decide
        unfold sumL
        rw [not_xor _ hr, em, Nat.xor_comm]
        exact u32_xor_nat 4294967295 _ (by omega) hr)
      go_wp2
      go_ret
      exact ⟨ret_eq (by simpa using HX.out), rfl⟩
end Go.Proofs.YtndhmidgnpobjaaGreatDoor
end
