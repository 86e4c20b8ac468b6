/- merged: The contract of word.Get: what stands in the bytes, or nothing. No condition but the arguments' own ranges. The contract of word.Put: the lowest bytes, the lowest first, or nothing. No condition but the arguments' own ranges. The contracts of crc.Seal and crc.Open. No condition but that the text is no longer than a string may be here. Plain mathematics of marks: bytes that stand at both ends of 64. It speaks of no function. No condition but those that each theorem names. Plain mathematics of pages: the bytes of a page, what stands in any bytes, turned bits. It speaks of no function. No condition but those that each theorem names. -/
import Derived.Test.YtndhmidgnpobjaaGreatDoorCrcA
import Derived.BigQuiet
import Derived.Deep.QuietTactic
import Derived.Laws.IdiomStrings
import Derived.Test.YtndhmidgnpobjaaGreatDoorShelf
section
namespace Go.Proofs.YtndhmidgnpobjaaGreatDoor
open Go.ChangeShapes Go.WideShapes Go.ChangeAt Go.RowKit
set_option linter.unusedVariables false

/-- the byte at i, 0 behind the end -/
def bN (s : ByteArray) (i : Nat) : Nat := if h : i < s.size then (s[i]'h).toNat else 0
theorem bN_of (s : ByteArray) (i : Nat) (h : i < s.size) : bN s i = (s[i]'h).toNat := by unfold bN; rw [dif_pos h]
theorem bN_lt (s : ByteArray) (i : Nat) : bN s i < 256 := by
  unfold bN; split
  · exact UInt8.toNat_lt _
  · omega
/-- the number of the k bytes from p on -/
def getN (s : ByteArray) (p : Nat) : Nat → Nat
  | 0 => 0
  | k + 1 => getN s p k + bN s (p + k) * 2 ^ (8 * k)
theorem getN_lt (s : ByteArray) (p k : Nat) : getN s p k < 2 ^ (8 * k) := by
  induction k with
  | zero => simp [getN]
  | succ k ih =>
    have hb := bN_lt s (p + k)
    have e : (2 : Nat) ^ (8 * (k + 1)) = 256 * 2 ^ (8 * k) := by rw [show 8 * (k + 1) = 8 * k + 8 by omega, Nat.pow_add]; omega
    have h1 : bN s (p + k) * 2 ^ (8 * k) ≤ 255 * 2 ^ (8 * k) := Nat.mul_le_mul_right _ (by omega)
    unfold getN
    omega

theorem getN_top (s : ByteArray) (p k : Nat) (hk : k ≤ 8) : getN s p k < 18446744073709551616 := by
  have h1 := getN_lt s p k
  have h2 : (2 : Nat) ^ (8 * k) ≤ 2 ^ 64 := Nat.pow_le_pow_right (by omega) (by omega)
  omega
theorem get_step (s : ByteArray) (p j : Nat) (hj : j < 8) (h : p + j < s.size) :
    bits .or .u64 (getN s p j : Nat) (IntKind.u64.wrap (IntKind.u64.wrap ((s[p + j]'h).toNat : Nat) * 2 ^ (8 * j))) = (getN s p (j + 1) : Nat) := by
  rw [← bN_of s (p + j) h]
  have hb := bN_lt s (p + j)
  have ht := getN_top s p (j + 1) (by omega)
  have hu : getN s p (j + 1) = getN s p j + bN s (p + j) * 2 ^ (8 * j) := rfl
  have hl := getN_lt s p j
  have e1 : IntKind.u64.wrap ((bN s (p + j) : Nat) : Int) = (bN s (p + j) : Nat) := IntWalk.u64_in _ (by omega)
  have e2 : ((bN s (p + j) : Nat) : Int) * 2 ^ (8 * j) = ((bN s (p + j) * 2 ^ (8 * j) : Nat) : Int) := by push_cast; rfl
  rw [e1, e2, IntWalk.u64_in _ (by omega)]
  refine (u64_or_nat _ _ (by omega) (by omega)).trans ?_
  rw [hu, Nat.or_comm, nat_join (8 * j) _ _ (Nat.mul_mod_left _ _) hl, Nat.add_comm]

theorem get_no (s : ByteArray) (p k : Int) (w : World) (hs : s.size ≤ 9223372036854775807) (hp0 : -9223372036854775808 ≤ p) (hp1 : p ≤ 9223372036854775807) (hk0 : -9223372036854775808 ≤ k) (hk1 : k ≤ 9223372036854775807)
    (h : ¬ (0 ≤ k ∧ k ≤ 8 ∧ 0 ≤ p ∧ p ≤ s.size - k)) :
    Calls Tryz.prog 132 #[.string s, .int .i64 p, .int .i64 k] w fun e w' => e = .returned (.tuple #[.int .u64 0, .bool false]) ∧ w = w' := by
  by_cases h1 : k < 0 ∨ 8 < k
  · clear h
    have H := Lib.hid h1; clear h1
    go_enter Tryz.func132, Tryz.ntmps132
    go_wp2_with (go_at_call 181; refine (isSize_no _ _ H.out).mono ?_; rintro e w' ⟨rfl, rfl⟩)
    go_ret2
    exact ⟨rfl, rfl⟩
  · have k0 : 0 ≤ k := by omega
    have k8 : k ≤ 8 := by omega
    by_cases h2 : p < 0
    · clear h h1
      go_enter Tryz.func132, Tryz.ntmps132
      go_wp2_with (go_at_call 181; refine (isSize_yes _ _ (by omega) (by omega)).mono ?_; rintro e w' ⟨rfl, rfl⟩)
      go_ret2
      exact ⟨rfl, rfl⟩
    · have h3 : (s.size : Int) - k < p := by omega
      have h4 : 0 ≤ p := by omega
      clear h h1 h2
      go_enter Tryz.func132, Tryz.ntmps132
      go_wp2_with (go_at_call 181; refine (isSize_yes _ _ (by omega) (by omega)).mono ?_; rintro e w' ⟨rfl, rfl⟩)
      go_ret2
      exact ⟨rfl, rfl⟩

theorem get_yes (s : ByteArray) (p k : Nat) (w : World) (hs : s.size ≤ 9223372036854775807) (hk : k ≤ 8) (hp : p + k ≤ s.size) :
    Calls Tryz.prog 132 #[.string s, .int .i64 p, .int .i64 k] w fun e w' => e = .returned (.tuple #[.int .u64 (getN s p k), .bool true]) ∧ w = w' := by
  have h5 : (p : Int) ≤ (s.size : Int) - (k : Int) := by omega
  go_enter Tryz.func132, Tryz.ntmps132
  go_wp2_with (go_at_call 181; refine (isSize_yes _ _ (by omega) (by omega)).mono ?_; rintro e w' ⟨rfl, rfl⟩)
  go_loop [8, 9, 26] (fun n _ i => ∃ j : Nat, j ≤ k ∧ i = .int .i64 j ∧ n = .int .u64 (getN s p j)) (fun _ _ i => k - (intOf i).toNat)
  case atStart => exact ⟨0, by omega, rfl, rfl⟩
  case round =>
    obtain ⟨j, hj, rfl, rfl⟩ := hrel
    by_cases hlt : j < k
    · have hps : p + j < s.size := by omega
      have H := Lib.hid (get_step s p j (by omega) hps)
      go_wp2
      go_round
      case rel => exact ⟨j + 1, by omega, by go_num, by rw [H.out]⟩
      case measure => simp [intOf]; omega
    · go_wp2
      go_ret2
      exact ⟨by rw [show j = k by omega]; rfl, rfl⟩
end Go.Proofs.YtndhmidgnpobjaaGreatDoor
end
section
namespace Go.Proofs.YtndhmidgnpobjaaGreatDoor
open Go.ChangeShapes Go.WideShapes Go.ChangeAt Go.RowKit
set_option linter.unusedVariables false

/-- byte i of n -/
def byteAt (n i : Nat) : UInt8 := UInt8.ofNat (n / 2 ^ (8 * i))
/-- the lowest k bytes of n, the lowest first -/
def putL (n k : Nat) : List UInt8 := (List.range k).map (byteAt n)
def putCell (n j i : Nat) : Value := if i < j then .int .u8 ((byteAt n i).toNat : Nat) else .int .u8 0
def putCells (n j : Nat) : Array Value := ((List.range 8).map (putCell n j)).toArray

theorem putCells_zero (n : Nat) : putCells n 0 = #[.int .u8 0, .int .u8 0, .int .u8 0, .int .u8 0, .int .u8 0, .int .u8 0, .int .u8 0, .int .u8 0] := rfl
theorem putCells_size (n j : Nat) : (putCells n j).size = 8 := by simp [putCells]
theorem putCells_get (n j i : Nat) (hi : i < 8) : (putCells n j)[i]? = some (putCell n j i) := by
  simp [putCells, hi]
theorem putCells_set (n j : Nat) (hj : j < 8) : (putCells n j).setIfInBounds j (.int .u8 ((byteAt n j).toNat : Nat)) = putCells n (j + 1) := by
  apply Array.ext_getElem?
  intro i
  by_cases hi : i < 8
  · rw [Array.getElem?_setIfInBounds, putCells_get n (j + 1) i hi, putCells_get n j i hi, putCells_size]
    by_cases h : j = i
    · subst h; simp [hj, putCell]
    · simp only [h, if_false, putCell]
      congr 2
      simp; omega
  · rw [Array.getElem?_eq_none (by simp [putCells_size]; omega), Array.getElem?_eq_none (by simp [putCells_size]; omega)]

theorem byte_eq (n j : Nat) : (n : Int) / 2 ^ (8 * j) % 256 = ((byteAt n j).toNat : Nat) := by
  unfold byteAt
  generalize 8 * j = m
  have e : (2 : Int) ^ m = ((2 ^ m : Nat) : Int) := by push_cast; rfl
  rw [e]
  generalize 2 ^ m = p
  rw [UInt8.toNat_ofNat']
  omega

theorem put_yes (n k : Nat) (w : World) (hn : n ≤ 18446744073709551615) (hk : k ≤ 8) :
    Calls Tryz.prog 120 #[.int .u64 n, .int .i64 k] w fun e w' => e = .returned (.string ⟨(putL n k).toArray⟩) ∧ w' = w.alloc (.cells (putCells n k) 256) := by
  go_enter Tryz.func120, Tryz.ntmps120
  go_wp2_with (go_at_call 181; refine (isSize_yes _ _ (by omega) (by omega)).mono ?_; rintro e w' ⟨rfl, rfl⟩)
  go_loopw [6, 11] (fun _ i wr => ∃ j : Nat, j ≤ k ∧ i = .int .i64 j ∧ wr = w.alloc (.cells (putCells n j) 256)) (fun _ i _ => k - (intOf i).toNat)
  case atStart => exact ⟨0, by omega, rfl, by rw [putCells_zero]⟩
  case round =>
    obtain ⟨j, hj, rfl, rfl⟩ := hrel
    by_cases hlt : j < k
    · have hcell : (w.alloc (.cells (putCells n j) 256)).cell? ⟨w.heap.size, j, none⟩ = some (putCell n j j) := by
        rw [World.cell?_alloc_mark, putCells_get n j j (by omega)]
      go_wp2
      go_roundw
      case rel => exact ⟨j + 1, by omega, by go_num, by rw [byte_eq, putCells_set n j (by omega)]⟩
      case measure => simp [intOf]; omega
    · have hjk : j = k := by omega
      subst hjk
      clear hlt hj
      have hrun : ∀ c, (convert 99 9 (.slice (some ⟨w.heap.size, 0, none⟩) j c)).run Tryz.prog (w.alloc (.cells (putCells n j) 256)) = .ok (.string ⟨(putL n j).toArray⟩) (w.alloc (.cells (putCells n j) 256)) := by
        intro c
        have hc := run_convert_bytes_back (P := Tryz.prog) (w.alloc (.cells (putCells n j) 256)) 99 9 5 ⟨w.heap.size, 0, none⟩ c (putL n j) Tryz.underlying99 Tryz.underlying5 Tryz.underlying9
          (fun i hi => by
            have hij : i < j := by simpa [putL] using hi
            have ea : (⟨w.heap.size, 0, none⟩ : Addr).add i = ⟨w.heap.size, i, none⟩ := by unfold Addr.add; split <;> simp_all
            rw [ea, World.cell?_alloc_mark, putCells_get n j i (by omega)]
            simp [putCell, putL, hij])
        have hl : (putL n j).length = j := by simp [putL]
        rw [hl] at hc
        exact hc
      have hkz : (j : Int) ≤ 8 := by omega
      go_wp2
      go_ret
      exact ⟨rfl, rfl⟩
end Go.Proofs.YtndhmidgnpobjaaGreatDoor
end
section
namespace Go.Proofs.YtndhmidgnpobjaaGreatDoor.Pg
open Go.ChangeShapes Go.WideShapes Go.ChangeAt Go.RowKit
set_option linter.unusedVariables false

theorem strs_one (s : ByteArray) (w : World) : Strs (w.alloc (.cells #[.string s] 9)) (some ⟨w.heap.size, 0, none⟩) [s] :=
  Or.inr ⟨w.heap.size, 0, rfl, fun i h => by
    have hi : i = 0 := by simpa using h
    subst hi
    rw [World.cell?_alloc_mark]; rfl⟩
theorem sum_one (s : ByteArray) (w : World) (hs : s.size ≤ 1000000) :
    Calls Tryz.prog 219 #[.slice (some ⟨w.heap.size, 0, none⟩) 1 1] (w.alloc (.cells #[.string s] 9)) fun e w' => e = .returned (.int .u32 (sumL s.data.toList : Nat)) ∧ w.alloc (.cells #[.string s] 9) = w' := by
  have h := sum_any (some ⟨w.heap.size, 0, none⟩) 1 1 [s] (w.alloc (.cells #[.string s] 9)) rfl (by omega) (fun x hx => by simp at hx; subst hx; omega) (strs_one s w)
  have e : cat [s] = s.data.toList := by simp [cat]
  rw [e] at h
  exact h
theorem put4 (n : Nat) (hn : n < 4294967296) : ∃ T : ByteArray, T.size = 4 ∧ T = ⟨(putL n 4).toArray⟩ ∧ ∀ w : World, Calls Tryz.prog 120 #[.int .u64 n, .int .i64 4] w fun e w' => e = .returned (.string T) ∧ w' = w.alloc (.cells (putCells n 4) 256) :=
  ⟨⟨(putL n 4).toArray⟩, by show (putL n 4).toArray.size = 4; simp [putL], rfl, fun w => put_yes n 4 w (by omega) (by omega)⟩

theorem clone_any (s : ByteArray) (w : World) (hs : s.size ≤ 1000000) :
    Calls Tryz.prog 179 #[.string s] w fun e w' => e = .returned (.string s) ∧ Below w.heap.size w w' := by
  go_enter Tryz.func179, Tryz.ntmps179
  go_wp2_with (go_at_call 218; refine (Tryz.stringslite_Clone s w (by omega)).mono ?_; rintro e w' ⟨rfl, hb⟩)
  go_ret
  exact ⟨rfl, hb⟩

theorem extract_size (s : ByteArray) (n : Nat) (h : n ≤ s.size) : (s.extract 0 n).size = n := by
  rw [ByteArray.size_extract]; omega

end Go.Proofs.YtndhmidgnpobjaaGreatDoor.Pg
end
section
namespace Go.Proofs.YtndhmidgnpobjaaGreatDoor
open Go.ChangeShapes Go.WideShapes Go.ChangeAt Go.RowKit
set_option linter.unusedVariables false

/-- the number n in eight bytes -/
def nB (n : Nat) : ByteArray := ⟨(putL n 8).toArray⟩
/-- k noughts -/
def zB (k : Nat) : ByteArray := ⟨(List.replicate k (0 : UInt8)).toArray⟩
/-- the mark of a number and a text -/
def mkB (n : Nat) (t : ByteArray) : ByteArray := nB n ++ t ++ zB (48 - t.size) ++ nB n
theorem nB_size (n : Nat) : (nB n).size = 8 := by show (putL n 8).toArray.size = 8; simp [putL]
theorem zB_size (k : Nat) : (zB k).size = k := by show (List.replicate k (0 : UInt8)).toArray.size = k; simp
theorem mkB_size (n : Nat) (t : ByteArray) (h : t.size ≤ 48) : (mkB n t).size = 64 := by
  unfold mkB; simp only [ByteArray.size_append, nB_size, zB_size]; omega

/-- it is a mark -/
def isM (s : ByteArray) : Bool := decide (s.size = 64 ∧ getN s 0 8 = getN s 56 8)
def mN (s : ByteArray) : Nat := if isM s then getN s 0 8 else 0
def mT (s : ByteArray) : ByteArray := if isM s then s.extract 8 56 else ⟨#[]⟩
theorem mN_le (s : ByteArray) : mN s ≤ 18446744073709551615 := by
  unfold mN; split
  · have := getN_top s 0 8 (by omega); omega
  · omega

theorem getN_bytes (s t : ByteArray) (p q : Nat) : ∀ k, getN s p k = getN t q k ↔ ∀ i, i < k → bN s (p + i) = bN t (q + i) := by
  intro k
  induction k with
  | zero => simp [getN]
  | succ k ih =>
    have h1 := getN_lt s p k
    have h2 := getN_lt t q k
    have hp : 0 < (2 : Nat) ^ (8 * k) := Nat.pow_pos (by omega)
    unfold getN
    constructor
    · intro h i hi
      have hm : getN s p k = getN t q k := by
        have := congrArg (· % 2 ^ (8 * k)) h
        simpa [Nat.add_mul_mod_self_right, Nat.mod_eq_of_lt h1, Nat.mod_eq_of_lt h2] using this
      have hd : bN s (p + k) = bN t (q + k) := by
        have h3 : bN s (p + k) * 2 ^ (8 * k) = bN t (q + k) * 2 ^ (8 * k) := by omega
        exact Nat.eq_of_mul_eq_mul_right hp h3
      by_cases hik : i = k
      · subst hik; exact hd
      · exact (ih.1 hm) i (by omega)
    · intro h
      rw [h k (by omega), ih.2 (fun i hi => h i (by omega))]

theorem bN_ext (s t : ByteArray) (hs : s.size = t.size) (h : ∀ i, i < s.size → bN s i = bN t i) : s = t := by
  apply ByteArray.ext_getElem hs
  intro i h1 h2
  have := h i h1
  rw [bN_of s i h1, bN_of t i h2] at this
  exact UInt8.toNat_inj.1 this

theorem bN_extract (s : ByteArray) (a b i : Nat) (hb : b ≤ s.size) (hi : a + i < b) : bN (s.extract a b) i = bN s (a + i) := by
  have hz : (s.extract a b).size = b - a := by rw [ByteArray.size_extract]; omega
  rw [bN_of _ i (by omega), bN_of s (a + i) (by omega), ByteArray.getElem_extract]

theorem bN_left (a b : ByteArray) (i : Nat) (hi : i < a.size) : bN (a ++ b) i = bN a i := by
  rw [bN_of _ i (by rw [ByteArray.size_append]; omega), bN_of a i hi, ByteArray.getElem_append_left hi]
theorem bN_right (a b : ByteArray) (i : Nat) (hi : i < b.size) : bN (a ++ b) (a.size + i) = bN b i := by
  rw [bN_of _ _ (by rw [ByteArray.size_append]; omega), bN_of b i hi, ByteArray.getElem_append_right (by omega)]
  congr 2; omega

theorem nB_byte (n i : Nat) (hi : i < 8) : bN (nB n) i = (byteAt n i).toNat := by
  rw [bN_of _ i (by rw [nB_size]; omega)]
  simp [nB, putL, ByteArray.getElem_eq_getElem_data]
theorem nB_get (n : Nat) (hn : n ≤ 18446744073709551615) : getN (nB n) 0 8 = n := by
  have : ∀ j, j ≤ 8 → getN (nB n) 0 j = n % 2 ^ (8 * j) := by
    intro j
    induction j with
    | zero => intro _; simp [getN, Nat.mod_one]
    | succ j ih =>
      intro hj
      unfold getN
      rw [ih (by omega), Nat.zero_add, nB_byte n j (by omega), show 8 * (j + 1) = 8 * j + 8 by omega, Nat.pow_add, Nat.mod_mul]
      unfold byteAt
      rw [UInt8.toNat_ofNat', Nat.mul_comm (_ % 2 ^ 8)]
  rw [this 8 (by omega)]
  omega

theorem mkB_first (n : Nat) (t : ByteArray) (i : Nat) (hi : i < 8) : bN (mkB n t) i = bN (nB n) i := by
  unfold mkB
  have := nB_size n
  rw [bN_left _ _ _ (by simp only [ByteArray.size_append]; omega), bN_left _ _ _ (by simp only [ByteArray.size_append]; omega), bN_left _ _ _ (by omega)]
theorem mkB_last (n : Nat) (t : ByteArray) (ht : t.size ≤ 48) (i : Nat) (hi : i < 8) : bN (mkB n t) (56 + i) = bN (nB n) i := by
  unfold mkB
  have h8 := nB_size n
  have hz : (nB n ++ t ++ zB (48 - t.size)).size = 56 := by simp only [ByteArray.size_append, nB_size, zB_size]; omega
  have := bN_right (nB n ++ t ++ zB (48 - t.size)) (nB n) i (by omega)
  rw [hz] at this
  exact this
theorem mkB_is (n : Nat) (t : ByteArray) (ht : t.size ≤ 48) : isM (mkB n t) = true := by
  unfold isM
  refine decide_eq_true ⟨mkB_size n t ht, ?_⟩
  rw [getN_bytes]
  intro i hi
  rw [Nat.zero_add, mkB_first n t i hi, mkB_last n t ht i hi]
theorem mkB_num (n : Nat) (t : ByteArray) (hn : n ≤ 18446744073709551615) (ht : t.size ≤ 48) : mN (mkB n t) = n := by
  unfold mN
  rw [if_pos (mkB_is n t ht)]
  refine Eq.trans ?_ (nB_get n hn)
  rw [getN_bytes]
  intro i hi
  rw [Nat.zero_add]
  exact mkB_first n t i hi
theorem mkB_text (n : Nat) (t : ByteArray) (ht : t.size ≤ 48) : mT (mkB n t) = t ++ zB (48 - t.size) := by
  unfold mT
  rw [if_pos (mkB_is n t ht)]
  have hz := mkB_size n t ht
  have h8 := nB_size n
  have hzz := zB_size (48 - t.size)
  have z1 : ((mkB n t).extract 8 56).size = 48 := by rw [ByteArray.size_extract]; omega
  have z2 : (t ++ zB (48 - t.size)).size = 48 := by rw [ByteArray.size_append]; omega
  refine bN_ext _ _ (by omega) (fun i hi => ?_)
  rw [bN_extract _ 8 56 i (by omega) (by omega)]
  unfold mkB
  rw [bN_left _ _ _ (by simp only [ByteArray.size_append]; omega), ByteArray.append_assoc, ← h8]
  exact bN_right _ _ i (by omega)
theorem mT_size (s : ByteArray) (h : isM s = true) : (mT s).size = 48 := by
  unfold mT
  rw [if_pos h, ByteArray.size_extract]
  have := (of_decide_eq_true h).1
  omega
/-- Torn between two marks of unlike numbers it is no mark, or one of the two. -/
theorem torn (m n : Nat) (a b : ByteArray) (k : Nat) (hm : m ≤ 18446744073709551615) (hn : n ≤ 18446744073709551615) (hne : m ≠ n) (ha : a.size ≤ 48) (hb : b.size ≤ 48) (hk : k ≤ 64)
    (h : isM ((mkB m a).extract 0 k ++ (mkB n b).extract k 64) = true) :
    (mkB m a).extract 0 k ++ (mkB n b).extract k 64 = mkB m a ∨ (mkB m a).extract 0 k ++ (mkB n b).extract k 64 = mkB n b := by
  have hs := mkB_size m a ha
  have ht := mkB_size n b hb
  have s1 : ∀ i, i < 8 → bN (mkB m a) (56 + i) = bN (mkB m a) i := fun i hi => by rw [mkB_first m a i hi, mkB_last m a ha i hi]
  have t1 : ∀ i, i < 8 → bN (mkB n b) (56 + i) = bN (mkB n b) i := fun i hi => by rw [mkB_first n b i hi, mkB_last n b hb i hi]
  have hmn : ¬ ∀ i, i < 8 → bN (mkB m a) i = bN (mkB n b) i := fun hh => hne (by
    rw [← nB_get m hm, ← nB_get n hn, getN_bytes]
    intro i hi
    rw [Nat.zero_add, ← mkB_first m a i hi, ← mkB_first n b i hi]
    exact hh i hi)
  generalize mkB m a = s at *
  generalize mkB n b = t at *
  have z1 : (s.extract 0 k).size = k := by rw [ByteArray.size_extract]; omega
  have z2 : (t.extract k 64).size = 64 - k := by rw [ByteArray.size_extract]; omega
  have hu : (s.extract 0 k ++ t.extract k 64).size = 64 := by rw [ByteArray.size_append]; omega
  have lo : ∀ i, i < k → bN (s.extract 0 k ++ t.extract k 64) i = bN s i := fun i hi => by
    rw [bN_left _ _ _ (by omega), bN_extract s 0 k i (by omega) (by omega), Nat.zero_add]
  have hi_ : ∀ i, k ≤ i → i < 64 → bN (s.extract 0 k ++ t.extract k 64) i = bN t i := fun i h1 h2 => by
    have := bN_right (s.extract 0 k) (t.extract k 64) (i - k) (by omega)
    rw [z1, show k + (i - k) = i by omega] at this
    rw [this, bN_extract t k 64 (i - k) (by omega) (by omega), show k + (i - k) = i by omega]
  have he : ∀ i, i < 8 → bN (s.extract 0 k ++ t.extract k 64) i = bN (s.extract 0 k ++ t.extract k 64) (56 + i) := by
    have := (getN_bytes _ _ 0 56 8).1 (of_decide_eq_true h).2
    intro i hi
    have := this i hi
    rwa [Nat.zero_add] at this
  generalize s.extract 0 k ++ t.extract k 64 = u at *
  by_cases c1 : k ≤ 8
  · right
    refine bN_ext _ _ (by omega) (fun i hi => ?_)
    by_cases c : i < k
    · rw [he i (by omega), hi_ (56 + i) (by omega) (by omega), t1 i (by omega)]
    · exact hi_ i (by omega) (by omega)
  · by_cases c2 : k ≤ 56
    · exact absurd (fun i hi => by rw [← lo i (by omega), he i hi, hi_ (56 + i) (by omega) (by omega), t1 i hi]) hmn
    · left
      refine bN_ext _ _ (by omega) (fun i hi => ?_)
      by_cases c : i < k
      · exact lo i c
      · have := he (i - 56) (by omega)
        rw [show 56 + (i - 56) = i by omega] at this
        rw [← this, lo (i - 56) (by omega), ← s1 (i - 56) (by omega), show 56 + (i - 56) = i by omega]
end Go.Proofs.YtndhmidgnpobjaaGreatDoor
end
section
namespace Go.Proofs.YtndhmidgnpobjaaGreatDoor
open Go.ChangeShapes Go.WideShapes Go.ChangeAt Go.RowKit
set_option linter.unusedVariables false

theorem ba_ext' {a b : ByteArray} (h : a.data.toList = b.data.toList) : a = b := ByteArray.ext (Array.toList_inj.1 h)
theorem num_inj' (a b : List UInt8) (hl : a.length = b.length) (h : num a = num b) : a = b := by
  induction a generalizing b with
  | nil => cases b with
    | nil => rfl
    | cons y b => simp at hl
  | cons x a ih => cases b with
    | nil => simp at hl
    | cons y b =>
      have hx := x.toNat_lt
      have hy := y.toNat_lt
      simp only [num] at h
      have h1 : x.toNat = y.toNat := by omega
      have h2 : num a = num b := by omega
      rw [UInt8.toNat_inj.1 h1, ih b (by simpa using hl) h2]
theorem num_put4 (n : Nat) (hn : n < 4294967296) : num (putL n 4) = n := by
  have e : putL n 4 = [byteAt n 0, byteAt n 1, byteAt n 2, byteAt n 3] := rfl
  rw [e]
  simp only [num, byteAt, UInt8.toNat_ofNat']
  omega
theorem getN_list (s : ByteArray) (p k : Nat) (h : p + k ≤ s.size) : getN s p k = num ((s.data.toList.drop p).take k) := by
  induction k with
  | zero => simp [getN, num]
  | succ k ih =>
    unfold getN
    have hk : k < (s.data.toList.drop p).length := by
      have : s.data.toList.length = s.size := rfl
      rw [List.length_drop]; omega
    rw [ih (by omega), List.take_succ_eq_append_getElem hk, num_append, bN_of s (p + k) (by omega)]
    have e : (s.data.toList.drop p)[k] = s[p + k] := by rw [List.getElem_drop]; rfl
    have hl : ((s.data.toList.drop p).take k).length = k := by rw [List.length_take]; omega
    rw [e, hl, Nat.pow_mul, Nat.mul_comm]
    simp [num]
theorem extract_list (s : ByteArray) (a b : Nat) : (s.extract a b).data.toList = (s.data.toList.drop a).take (b - a) := by
  rw [ByteArray.data_extract, Array.toList_extract]
theorem len_list (s : ByteArray) : s.data.toList.length = s.size := rfl
theorem app_list (a b : ByteArray) : (a ++ b).data.toList = a.data.toList ++ b.data.toList := by rw [ByteArray.data_append]; simp

/-- the sum of bytes, as bytes -/
def smB (s : ByteArray) : ByteArray := ⟨(putL (sumL s.data.toList) 4).toArray⟩
/-- what stands ahead of a page's room, behind the sum -/
def hdB (k n : Nat) : ByteArray := ⟨#[UInt8.ofNat k]⟩ ++ ⟨(putL n 4).toArray⟩ ++ zB 7
/-- what is summed -/
def bodB (k n : Nat) (t : ByteArray) : ByteArray := hdB k n ++ t ++ zB (496 - t.size)
/-- a page's bytes -/
def pgB (k n : Nat) (t : ByteArray) : ByteArray := smB (bodB k n t) ++ bodB k n t
theorem smB_size (s : ByteArray) : (smB s).size = 4 := by show (putL (sumL s.data.toList) 4).toArray.size = 4; simp [putL]
theorem hdB_size (k n : Nat) : (hdB k n).size = 12 := by
  unfold hdB; simp only [ByteArray.size_append, zB_size]
  show 1 + (putL n 4).toArray.size + 7 = 12; simp [putL]
theorem bodB_size (k n : Nat) (t : ByteArray) (h : t.size ≤ 496) : (bodB k n t).size = 508 := by
  unfold bodB; simp only [ByteArray.size_append, hdB_size, zB_size]; omega
theorem pgB_size (k n : Nat) (t : ByteArray) (h : t.size ≤ 496) : (pgB k n t).size = 512 := by
  unfold pgB; simp only [ByteArray.size_append, smB_size, bodB_size k n t h]

/-- the error that bytes have as a page -/
def hE (s : ByteArray) : Nat :=
  if s.size ≠ 512 then 2 else if getN s 0 4 ≠ sumL (s.extract 4 s.size).data.toList then 12
  else if bN s 4 = 0 ∨ 2147483647 < getN s 5 4 ∨ s.extract 9 16 ≠ zB 7 then 2 else 0
def hK (s : ByteArray) : Nat := if hE s = 0 then bN s 4 else 0
def hN (s : ByteArray) : Nat := if hE s = 0 then getN s 5 4 else 0
def hT (s : ByteArray) : ByteArray := if hE s = 0 then s.extract 16 s.size else ⟨#[]⟩
theorem hE_le (s : ByteArray) : hE s ≤ 12 := by unfold hE; split <;> (try split) <;> (try split) <;> omega
theorem hK_le (s : ByteArray) : hK s ≤ 255 := by unfold hK; have := bN_lt s 4; split <;> omega
theorem hN_le (s : ByteArray) : hN s ≤ 2147483647 := by
  unfold hN
  split
  · rename_i h
    unfold hE at h
    split at h
    · omega
    · split at h
      · omega
      · split at h
        · omega
        · rename_i h3
          have := not_or.1 h3
          have := not_or.1 this.2
          omega
  · omega
theorem hE_size (s : ByteArray) (h : hE s = 0) : s.size = 512 := by
  unfold hE at h
  split at h
  · omega
  · rename_i h1; exact Decidable.of_not_not h1
theorem hT_size (s : ByteArray) (h : hE s = 0) : (hT s).size = 496 := by
  have := hE_size s h
  unfold hT; rw [if_pos h, ByteArray.size_extract]; omega
theorem pgB_list (k n : Nat) (t : ByteArray) : (pgB k n t).data.toList = putL (sumL (bodB k n t).data.toList) 4 ++ ([UInt8.ofNat k] ++ (putL n 4 ++ (List.replicate 7 0 ++ (t.data.toList ++ List.replicate (496 - t.size) 0)))) := by
  unfold pgB bodB hdB smB
  simp only [app_list]
  simp [zB]
theorem bodB_list (k n : Nat) (t : ByteArray) : (bodB k n t).data.toList = [UInt8.ofNat k] ++ (putL n 4 ++ (List.replicate 7 0 ++ (t.data.toList ++ List.replicate (496 - t.size) 0))) := by
  unfold bodB hdB
  simp only [app_list]
  simp [zB]
theorem drop_of {α : Type} {a b : List α} {p : Nat} (h : a.length = p) : (a ++ b).drop p = b := by subst h; simp
theorem take_of {α : Type} {a b : List α} {p : Nat} (h : a.length = p) : (a ++ b).take p = a := by subst h; simp
theorem putL_len (n k : Nat) : (putL n k).length = k := by simp [putL]
theorem pgB_sum (k n : Nat) (t : ByteArray) (h : t.size ≤ 496) : getN (pgB k n t) 0 4 = sumL ((pgB k n t).extract 4 (pgB k n t).size).data.toList := by
  have hz := pgB_size k n t h
  have e : ((pgB k n t).data.toList.drop 4) = (bodB k n t).data.toList := by
    rw [pgB_list, bodB_list, drop_of (putL_len _ _)]
  have e2 : (pgB k n t).data.toList.take 4 = putL (sumL (bodB k n t).data.toList) 4 := by rw [pgB_list, take_of (putL_len _ _)]
  have e3 : ((pgB k n t).extract 4 (pgB k n t).size).data.toList = (bodB k n t).data.toList := by
    rw [extract_list, e, List.take_of_length_le]
    rw [len_list, bodB_size k n t h]; omega
  rw [getN_list _ _ _ (by omega), List.drop_zero, e2, e3, num_put4 _ (sumL_lt _)]
theorem pgB_kind (k n : Nat) (t : ByteArray) (hk : k ≤ 255) (h : t.size ≤ 496) : bN (pgB k n t) 4 = k := by
  have hz := pgB_size k n t h
  have h1 : getN (pgB k n t) 4 1 = bN (pgB k n t) 4 := by simp [getN]
  rw [← h1, getN_list _ _ _ (by omega), pgB_list, drop_of (putL_len _ _)]
  simp [num]; omega
theorem pgB_no (k n : Nat) (t : ByteArray) (hn : n ≤ 2147483647) (h : t.size ≤ 496) : getN (pgB k n t) 5 4 = n := by
  have hz := pgB_size k n t h
  rw [getN_list _ _ _ (by omega), pgB_list, show (5 : Nat) = 4 + 1 from rfl, ← List.drop_drop, drop_of (putL_len _ _), drop_of (by rfl), take_of (putL_len _ _), num_put4 _ (by omega)]
theorem pgB_gap (k n : Nat) (t : ByteArray) (h : t.size ≤ 496) : (pgB k n t).extract 9 16 = zB 7 := by
  apply ba_ext'
  rw [extract_list, pgB_list, show (9 : Nat) = 4 + (1 + 4) from rfl, ← List.drop_drop, ← List.drop_drop, drop_of (putL_len _ _), drop_of (by rfl), drop_of (putL_len _ _)]
  exact take_of (by simp)
theorem pgB_E (k n : Nat) (t : ByteArray) (hk0 : 1 ≤ k) (hk : k ≤ 255) (hn : n ≤ 2147483647) (h : t.size ≤ 496) : hE (pgB k n t) = 0 := by
  have h1 := pgB_size k n t h
  have h2 := pgB_sum k n t h
  have h3 := pgB_kind k n t hk h
  have h4 := pgB_no k n t hn h
  have h5 := pgB_gap k n t h
  unfold hE
  rw [if_neg (by omega), if_neg (by intro hh; exact hh h2), if_neg]
  rintro (h6 | h6 | h6)
  · omega
  · omega
  · exact h6 h5
theorem pgB_K (k n : Nat) (t : ByteArray) (hk0 : 1 ≤ k) (hk : k ≤ 255) (hn : n ≤ 2147483647) (h : t.size ≤ 496) : hK (pgB k n t) = k := by
  unfold hK; rw [if_pos (pgB_E k n t hk0 hk hn h), pgB_kind k n t hk h]
theorem pgB_N (k n : Nat) (t : ByteArray) (hk0 : 1 ≤ k) (hk : k ≤ 255) (hn : n ≤ 2147483647) (h : t.size ≤ 496) : hN (pgB k n t) = n := by
  unfold hN; rw [if_pos (pgB_E k n t hk0 hk hn h), pgB_no k n t hn h]
theorem pgB_T (k n : Nat) (t : ByteArray) (hk0 : 1 ≤ k) (hk : k ≤ 255) (hn : n ≤ 2147483647) (h : t.size ≤ 496) : hT (pgB k n t) = t ++ zB (496 - t.size) := by
  have hz := pgB_size k n t h
  unfold hT; rw [if_pos (pgB_E k n t hk0 hk hn h)]
  apply ba_ext'
  rw [extract_list, pgB_list, show (16 : Nat) = 4 + (1 + (4 + 7)) from rfl, ← List.drop_drop, ← List.drop_drop, ← List.drop_drop, drop_of (putL_len _ _), drop_of (by rfl), drop_of (putL_len _ _), drop_of (by simp), app_list]
  rw [List.take_of_length_le (by simp only [List.length_append, List.length_replicate, len_list]; omega)]
  rfl

end Go.Proofs.YtndhmidgnpobjaaGreatDoor
end
