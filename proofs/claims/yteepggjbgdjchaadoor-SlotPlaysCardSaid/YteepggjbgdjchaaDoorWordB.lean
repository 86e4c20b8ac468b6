
/- The contract of word.Get: what stands in the bytes, or nothing. No condition but the arguments' own ranges. -/
import Derived.Test.YteepggjbgdjchaaDoorWordI
import Derived.BigQuiet
import Derived.Deep.QuietTactic
namespace Go.Proofs.YteepggjbgdjchaaDoor
open Go.ChangeShapes Go.WideShapes Go.ChangeAt Go.RowKit
set_option linter.unusedVariables false

/-- the byte at i, 0 behind the end -/
def bN (s : ByteArray) (i : Nat) : Nat := if h : i < s.size then (s[i]'h).toNat else 0
theorem bN_of (s : ByteArray) (i : Nat) (h : i < s.size) : bN s i = (s[i]'h).toNat := by unfold bN; rw [dif_pos h]
theorem bN_lt (s : ByteArray) (i : Nat) : bN s i < 256 := by
  unfold bN; split
  · exact UInt8.toNat_lt _
  · omega
/-- the number of the k bytes from p on -/
def getN (s : ByteArray) (p : Nat) : Nat → Nat
  | 0 => 0
  | k + 1 => getN s p k + bN s (p + k) * 2 ^ (8 * k)
theorem getN_lt (s : ByteArray) (p k : Nat) : getN s p k < 2 ^ (8 * k) := by
  induction k with
  | zero => simp [getN]
  | succ k ih =>
    have hb := bN_lt s (p + k)
    have e : (2 : Nat) ^ (8 * (k + 1)) = 256 * 2 ^ (8 * k) := by rw [show 8 * (k + 1) = 8 * k + 8 by omega, Nat.pow_add]; omega
    have h1 : bN s (p + k) * 2 ^ (8 * k) ≤ 255 * 2 ^ (8 * k) := Nat.mul_le_mul_right _ (by omega)
    unfold getN
    omega

theorem getN_top (s : ByteArray) (p k : Nat) (hk : k ≤ 8) : getN s p k < 18446744073709551616 := by
  have h1 := getN_lt s p k
  have h2 : (2 : Nat) ^ (8 * k) ≤ 2 ^ 64 := Nat.pow_le_pow_right (by omega) (by omega)
  omega
theorem get_step (s : ByteArray) (p j : Nat) (hj : j < 8) (h : p + j < s.size) :
    bits .or .u64 (getN s p j : Nat) (IntKind.u64.wrap (IntKind.u64.wrap ((s[p + j]'h).toNat : Nat) * 2 ^ (8 * j))) = (getN s p (j + 1) : Nat) := by
  rw [← bN_of s (p + j) h]
  have hb := bN_lt s (p + j)
  have ht := getN_top s p (j + 1) (by omega)
  have hu : getN s p (j + 1) = getN s p j + bN s (p + j) * 2 ^ (8 * j) := rfl
  have hl := getN_lt s p j
  have e1 : IntKind.u64.wrap ((bN s (p + j) : Nat) : Int) = (bN s (p + j) : Nat) := IntWalk.u64_in _ (by omega)
  have e2 : ((bN s (p + j) : Nat) : Int) * 2 ^ (8 * j) = ((bN s (p + j) * 2 ^ (8 * j) : Nat) : Int) := by push_cast; rfl
  rw [e1, e2, IntWalk.u64_in _ (by omega)]
  refine (u64_or_nat _ _ (by omega) (by omega)).trans ?_
  rw [hu, Nat.or_comm, nat_join (8 * j) _ _ (Nat.mul_mod_left _ _) hl, Nat.add_comm]

/-- Get finds its bytes. -/
def getOk (s : ByteArray) (p k : Int) : Bool := decide (0 ≤ k ∧ k ≤ 8 ∧ 0 ≤ p ∧ p ≤ s.size - k)

theorem get_no (s : ByteArray) (p k : Int) (w : World) (hs : s.size ≤ 9223372036854775807) (hp0 : -9223372036854775808 ≤ p) (hp1 : p ≤ 9223372036854775807) (hk0 : -9223372036854775808 ≤ k) (hk1 : k ≤ 9223372036854775807)
    (h : ¬ (0 ≤ k ∧ k ≤ 8 ∧ 0 ≤ p ∧ p ≤ s.size - k)) :
    Calls Tryd.prog 56 #[.string s, .int .i64 p, .int .i64 k] w fun e w' => e = .returned (.tuple #[.int .u64 0, .bool false]) ∧ w = w' := by
  by_cases h1 : k < 0 ∨ 8 < k
  · clear h
    have H := Lib.hid h1; clear h1
    go_enter Tryd.func56, Tryd.ntmps56
    go_wp2_with (go_at_call 64; refine (isSize_no _ _ H.out).mono ?_; rintro e w' ⟨rfl, rfl⟩)
    go_ret2
    exact ⟨rfl, rfl⟩
  · have k0 : 0 ≤ k := by omega
    have k8 : k ≤ 8 := by omega
    by_cases h2 : p < 0
    · clear h h1
      go_enter Tryd.func56, Tryd.ntmps56
      go_wp2_with (go_at_call 64; refine (isSize_yes _ _ (by omega) (by omega)).mono ?_; rintro e w' ⟨rfl, rfl⟩)
      go_ret2
      exact ⟨rfl, rfl⟩
    · have h3 : (s.size : Int) - k < p := by omega
      have h4 : 0 ≤ p := by omega
      clear h h1 h2
      go_enter Tryd.func56, Tryd.ntmps56
      go_wp2_with (go_at_call 64; refine (isSize_yes _ _ (by omega) (by omega)).mono ?_; rintro e w' ⟨rfl, rfl⟩)
      go_ret2
      exact ⟨rfl, rfl⟩

theorem get_yes (s : ByteArray) (p k : Nat) (w : World) (hs : s.size ≤ 9223372036854775807) (hk : k ≤ 8) (hp : p + k ≤ s.size) :
    Calls Tryd.prog 56 #[.string s, .int .i64 p, .int .i64 k] w fun e w' => e = .returned (.tuple #[.int .u64 (getN s p k), .bool true]) ∧ w = w' := by
  have h5 : (p : Int) ≤ (s.size : Int) - (k : Int) := by omega
  go_enter Tryd.func56, Tryd.ntmps56
  go_wp2_with (go_at_call 64; refine (isSize_yes _ _ (by omega) (by omega)).mono ?_; rintro e w' ⟨rfl, rfl⟩)
  go_loop [8, 9, 26] (fun n _ i => ∃ j : Nat, j ≤ k ∧ i = .int .i64 j ∧ n = .int .u64 (getN s p j)) (fun _ _ i => k - (intOf i).toNat)
  case atStart => exact ⟨0, by omega, rfl, rfl⟩
  case round =>
    obtain ⟨j, hj, rfl, rfl⟩ := hrel
    by_cases hlt : j < k
    · have hps : p + j < s.size := by omega
      have H := Lib.hid (get_step s p j (by omega) hps)
      go_wp2
      go_round
      case rel => exact ⟨j + 1, by omega, by go_num, by rw [H.out]⟩
      case measure => simp [intOf]; omega
    · go_wp2
      go_ret2
      exact ⟨by rw [show j = k by omega]; rfl, rfl⟩
end Go.Proofs.YteepggjbgdjchaaDoor
