
/- The contracts of crc.take and crc.Sum. No condition but the arguments' own ranges, and that the parts lie where the slice says. -/
import Derived.Test.YtjaehhjehedjoaaBase
import Derived.Test.YtjaehhjehedjoaaMathC
namespace Go.Proofs.Ytjaehhjehedjoaa
open Go.ChangeShapes Go.WideShapes Go.ChangeAt Go.RowKit
set_option linter.unusedVariables false

theorem take_step (y : Nat) (hy : y < 4294967296) :
    bits BinOp.xor IntKind.u32 ((y : Int) / 2) (bits BinOp.and IntKind.u32 (-bits BinOp.and IntKind.u32 (y : Int) 1 % 4294967296) 3988292384) = (stp y : Nat) := by
  have ha : bits .and .u32 (y : Int) 1 = ((y % 2 : Nat) : Int) := by
    refine (u32_and_nat y 1 hy (by omega)).trans ?_
    rw [Nat.and_one_is_mod]
  have hd : (y : Int) / 2 = ((y / 2 : Nat) : Int) := by omega
  rw [ha, hd]
  unfold stp
  by_cases h : y % 2 = 1
  · rw [if_pos h, h]
    have e : (-((1 : Nat) : Int) % 4294967296) = ((4294967295 : Nat) : Int) := by decide
    rw [e]
    have hf : bits .and .u32 ((4294967295 : Nat) : Int) 3988292384 = ((3988292384 : Nat) : Int) :=
      (u32_and_nat 4294967295 3988292384 (by omega) (by omega)).trans (by decide +kernel)
    rw [hf]
    exact u32_xor_nat _ _ (by omega) (by omega)
  · have h0 : y % 2 = 0 := by omega
    rw [if_neg h, h0]
    have e : (-((0 : Nat) : Int) % 4294967296) = ((0 : Nat) : Int) := by decide
    rw [e]
    have hf : bits .and .u32 ((0 : Nat) : Int) 3988292384 = ((0 : Nat) : Int) :=
      (u32_and_nat 0 3988292384 (by omega) (by omega)).trans (by rw [Nat.zero_and])
    rw [hf]
    refine (u32_xor_nat _ _ (by omega) (by omega)).trans ?_
    rw [Nat.xor_zero]

theorem take_any (r b : Nat) (w : World) (hr : r < 4294967296) (hb : b < 256) :
    Calls Try.prog 32 #[.int .u32 r, .int .u8 b] w fun e w' => e = .returned (.int .u32 (stpN 8 (r ^^^ b) : Nat)) ∧ w = w' := by
  have hx : r ^^^ b < 4294967296 := Nat.xor_lt_two_pow (n := 32) hr (by omega)
  have H0 := Lib.hid (u32_xor_nat r b hr (by omega))
  go_enter Try.func32, Try.ntmps32
  go_wp2
  go_loop [0, 5, 10] (fun x o i => ∃ j y : Nat, j ≤ 8 ∧ i = .int .i64 j ∧ x = .int .u32 (y : Nat) ∧ y < 4294967296 ∧ stpN (8 - j) y = stpN 8 (r ^^^ b)) (fun _ _ i => 8 - (intOf i).toNat)
  case atStart => exact ⟨0, r ^^^ b, by omega, rfl, by rw [H0.out], hx, rfl⟩
  case round =>
    obtain ⟨j, y, hj, rfl, rfl, hy, hs⟩ := hrel
    by_cases hlt : j < 8
    · have hs' : stpN (8 - (j + 1)) (stp y) = stpN 8 (r ^^^ b) := by rw [← hs, show 8 - j = (8 - (j + 1)) + 1 by omega]; rfl
      have HS := Lib.hid hs'; clear hs hs'
      have HT := Lib.hid (take_step y hy)
      go_wp2
      go_round
      case rel => exact ⟨j + 1, stp y, by omega, by go_num, by rw [HT.out], stp_lt y hy, HS.out⟩
      case measure => simp [intOf]; omega
    · obtain rfl : j = 8 := by omega
      have hs' : y = stpN 8 (r ^^^ b) := hs
      have HS := Lib.hid hs'; clear hs hs'
      go_wp2
      go_ret
      exact ⟨ret_eq (by rw [HS.out]), rfl⟩

/-- the strings of a slice lie in memory -/
def Strs (w : World) (a : Option Addr) (l : List ByteArray) : Prop := (l = []) ∨ ∃ b off, a = some ⟨b, off, none⟩ ∧ ∀ i (h : i < l.length), w.cell? ⟨b, off + i, none⟩ = some (.string (l[i]'h))
def cat (l : List ByteArray) : List UInt8 := l.flatMap (·.data.toList)

theorem sum_any (a : Option Addr) (n c : Nat) (l : List ByteArray) (w : World) (hl : l.length = n) (hn : n ≤ 9223372036854775807) (hs : ∀ s ∈ l, s.size ≤ 9223372036854775807) (hc : Strs w a l) :
    Calls Try.prog 18 #[.slice a n c] w fun e w' => e = .returned (.int .u32 (sumL (cat l) : Nat)) ∧ w = w' := by
  subst hl
  go_enter Try.func18, Try.ntmps18
  go_wp2
  go_loop [3, 5, 6, 9, 13, 14, 15] (fun r _ _ i _ _ _ => ∃ k : Nat, k ≤ l.length ∧ i = .int .i64 k ∧ r = .int .u32 (regL 4294967295 (cat (l.take k)) : Nat)) (fun _ _ _ i _ _ _ => l.length - (intOf i).toNat)
  case atStart => exact ⟨0, by omega, rfl, rfl⟩
  case round =>
    obtain ⟨k, hk, rfl, rfl⟩ := hrel
    by_cases hlt : k < l.length
    · have hkl : k < l.length := hlt
      obtain ⟨s, hsk⟩ : ∃ s, s = l[k] := ⟨_, rfl⟩
      have hsz : s.size ≤ 9223372036854775807 := hs s (by rw [hsk]; exact List.getElem_mem hkl)
      rcases hc with h0 | ⟨b, off, rfl, hc⟩
      · subst h0; simp at hkl
      have hcell : w.cell? ⟨b, off + k, none⟩ = some (.string s) := by rw [hsk]; exact hc k hkl
      clear hc hs
      have HSK := Lib.hid hsk; clear hsk
      go_wp2
      go_loop [3, 6, 15] (fun r _ i => ∃ j : Nat, j ≤ s.size ∧ i = .int .i64 j ∧ r = .int .u32 (regL 4294967295 (cat (l.take k) ++ s.data.toList.take j) : Nat)) (fun _ _ i => s.size - (intOf i).toNat)
      case atStart => exact ⟨0, by omega, rfl, by simp⟩
      case round =>
        obtain ⟨j, hj, rfl, rfl⟩ := hrel
        by_cases hjs : j < s.size
        · have hlt32 := regL_lt 4294967295 (cat (l.take k) ++ s.data.toList.take j) (by omega)
          have hb := (s[j]'hjs).toNat_lt
          have HR := Lib.hid (show stpN 8 (regL 4294967295 (cat (l.take k) ++ s.data.toList.take j) ^^^ (s[j]'hjs).toNat) = regL 4294967295 (cat (l.take k) ++ s.data.toList.take (j + 1)) by
            rw [← regL_snoc, List.append_assoc]
            congr 2
            rw [List.take_succ_eq_append_getElem (by simpa using hjs)]; rfl)
          go_wp2_with (go_at_call 32; refine (take_any _ _ _ hlt32 hb).mono ?_; rintro e w' ⟨rfl, rfl⟩)
          go_round
          case rel => exact ⟨j + 1, by omega, by go_num, by rw [HR.out]⟩
          case measure => simp [intOf]; omega
        · have HE := Lib.hid (show cat (l.take k) ++ s.data.toList.take j = cat (l.take (k + 1)) by
            have hjn : j = s.size := by omega
            have e1 : s.data.toList.take j = s.data.toList := by rw [List.take_of_length_le]; rw [hjn]; exact Nat.le_refl _
            rw [e1, List.take_succ_eq_append_getElem hkl, ← HSK.out]
            simp [cat])
          go_wp2
          go_round
          case rel => exact ⟨k + 1, by omega, by go_num, by rw [HE.out]⟩
          case measure => simp [intOf]; omega
    · obtain rfl : k = l.length := by omega
      have hr := regL_lt 4294967295 (cat l) (by omega)
      have HX := Lib.hid (show bits BinOp.xor IntKind.u32 IntKind.u32.max (regL 4294967295 (cat l) : Nat) = (sumL (cat l) : Nat) by
        have em : IntKind.u32.max = ((4294967295 : Nat) : Int) := by decide
        unfold sumL
        rw [not_xor _ hr, em, Nat.xor_comm]
        exact u32_xor_nat 4294967295 _ (by omega) hr)
      go_wp2
      go_ret
      exact ⟨ret_eq (by simpa using HX.out), rfl⟩
end Go.Proofs.Ytjaehhjehedjoaa
