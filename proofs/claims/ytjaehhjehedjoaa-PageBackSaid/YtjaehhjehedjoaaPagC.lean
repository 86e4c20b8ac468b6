
/- The contracts of page.Unpack, page.Number, page.Cut, and of the eighth law package's awake. Conditions: the arguments' own ranges. -/
import Derived.Test.YtjaehhjehedjoaaPagA
namespace Go.Proofs.Ytjaehhjehedjoaa
open Go.ChangeShapes Go.WideShapes Go.ChangeAt Go.RowKit
set_option linter.unusedVariables false

theorem number_any (s : ByteArray) (w : World) (hs : s.size ≤ 9223372036854775807) :
    Calls Try.prog 12 #[.string s] w fun e w' => e = .returned (.tuple #[.int .i64 (hN s), .int .i64 (hE s)]) ∧ Below w.heap.size w w' := by
  have HH := Lib.hid (fun w => head_any s w hs)
  have b1 := hN_le s
  have b2 := hE_le s
  generalize hE s = E at *
  generalize hN s = N at *
  generalize hK s = K at *
  go_enter Try.func12, Try.ntmps12
  go_wp2_with (go_at_call 19; with_reducible refine (HH.out _).mono ?_; rintro e w1 ⟨rfl, hb⟩)
  go_ret2
  exact ⟨rfl, hb⟩

/-- what Unpack answers -/
def uE (s : ByteArray) (no : Int) : Nat := if hE s ≠ 0 then hE s else if (hN s : Int) = no then 0 else 13
def uK (s : ByteArray) (no : Int) : Nat := if uE s no = 0 then hK s else 0
def uT (s : ByteArray) (no : Int) : ByteArray := if uE s no = 0 then hT s else ⟨#[]⟩
theorem uE_le (s : ByteArray) (no : Int) : uE s no ≤ 13 := by
  have := hE_le s
  unfold uE; split <;> (try split) <;> omega
theorem unpack_any (s : ByteArray) (no : Int) (w : World) (hs : s.size ≤ 9223372036854775807) :
    Calls Try.prog 11 #[.string s, .int .i64 no] w fun e w' => e = .returned (.tuple #[.int .i64 (uK s no), .string (uT s no), .int .i64 (uE s no)]) ∧ Below w.heap.size w w' := by
  have HH := Lib.hid (fun w => head_any s w hs)
  have b1 := hN_le s
  have b2 := hE_le s
  have b3 := hK_le s
  by_cases h1 : hE s = 0
  · have hz := hE_size s h1
    have hT1 : hT s = s.extract 16 s.size := by unfold hT; rw [if_pos h1]
    have hz2 := hT_size s h1
    by_cases h2 : (hN s : Int) = no
    · have e1 : uE s no = 0 := by unfold uE; rw [if_neg (by simp [h1]), if_pos h2]
      have e2 : uK s no = hK s := by unfold uK; rw [if_pos e1]
      have e3 : uT s no = s.extract 16 s.size := by unfold uT; rw [if_pos e1, hT1]
      rw [hT1] at hz2
      have HC := Lib.hid (fun w => clone_any (s.extract 16 s.size) w (by omega))
      have g1 : ((hN s : Int) != no) = false := by simp [h2]
      have q16 : (16 : Int) ≤ s.size := by omega
      rw [e1, e2, e3]
      rw [h1] at HH
      clear e1 e2 e3 hT1 h2 h1 hz
      generalize hE s = E at *
      generalize hN s = N at *
      generalize hK s = K at *
      go_enter Try.func11, Try.ntmps11
      go_wp2_with (first
        | (go_at_call 19; with_reducible refine (HH.out _).mono ?_; rintro e w1 ⟨rfl, hb⟩)
        | (go_at_call 20; with_reducible refine (HC.out _).mono ?_; rintro e w2 ⟨rfl, hb2⟩))
      go_ret3
      exact ⟨rfl, hb.trans (hb2.mono hb.size)⟩
    · have e1 : uE s no = 13 := by unfold uE; rw [if_neg (by simp [h1]), if_neg h2]
      have e2 : uK s no = 0 := by unfold uK; rw [if_neg (by omega)]
      have e3 : uT s no = ⟨#[]⟩ := by unfold uT; rw [if_neg (by omega)]
      have g1 : ((hN s : Int) != no) = true := by rw [bne_iff_ne]; exact h2
      rw [e1, e2, e3]
      rw [h1] at HH
      clear e1 e2 e3 hT1 h2 h1 hz hz2
      generalize hE s = E at *
      generalize hN s = N at *
      generalize hK s = K at *
      go_enter Try.func11, Try.ntmps11
      go_wp2_with (first
        | (go_at_call 19; with_reducible refine (HH.out _).mono ?_; rintro e w1 ⟨rfl, hb⟩))
      go_ret3
      exact ⟨rfl, hb⟩
  · have e1 : uE s no = hE s := by unfold uE; rw [if_pos h1]
    have e2 : uK s no = 0 := by unfold uK; rw [if_neg (by omega)]
    have e3 : uT s no = ⟨#[]⟩ := by unfold uT; rw [if_neg (by omega)]
    have g1 : ((hE s : Int) != 0) = true := by rw [bne_iff_ne]; omega
    rw [e1, e2, e3]
    clear e1 e2 e3 h1
    generalize hE s = E at *
    generalize hN s = N at *
    generalize hK s = K at *
    go_enter Try.func11, Try.ntmps11
    go_wp2_with (first
      | (go_at_call 19; with_reducible refine (HH.out _).mono ?_; rintro e w1 ⟨rfl, hb⟩))
    go_ret3
    exact ⟨rfl, hb⟩

theorem awake_any (w : World) :
    Calls Try.prog 10 #[] w fun e w' => e = .returned (.bool true) ∧ Below w.heap.size w w' := by
  have HP := Lib.hid (fun w => pack_yes 1 2 ⟨#[120]⟩ w (by omega) (by omega) (by omega) (by decide))
  have hz := pgB_size 1 2 ⟨#[120]⟩ (by decide)
  have h4 := pgB_kind 1 2 ⟨#[120]⟩ (by omega) (by decide)
  have h5 : bN (pgB 1 2 ⟨#[120]⟩) 5 = 2 := by
    have h1 : getN (pgB 1 2 ⟨#[120]⟩) 5 1 = bN (pgB 1 2 ⟨#[120]⟩) 5 := by simp [getN]
    rw [← h1, getN_list _ _ _ (by omega), pgB_list, show (5 : Nat) = 4 + 1 from rfl, ← List.drop_drop, drop_of (putL_len _ _), drop_of (by rfl)]
    decide +kernel
  have h16 : bN (pgB 1 2 ⟨#[120]⟩) 16 = 120 := by
    have h1 : getN (pgB 1 2 ⟨#[120]⟩) 16 1 = bN (pgB 1 2 ⟨#[120]⟩) 16 := by simp [getN]
    rw [← h1, getN_list _ _ _ (by omega), pgB_list, show (16 : Nat) = 4 + 12 from rfl, ← List.drop_drop, drop_of (putL_len _ _)]
    decide +kernel
  generalize pgB 1 2 ⟨#[120]⟩ = M at *
  have i4 : 4 < M.size := by omega
  have i5 : 5 < M.size := by omega
  have i16 : 16 < M.size := by omega
  rw [bN_of _ _ i4] at h4
  rw [bN_of _ _ i5] at h5
  rw [bN_of _ _ i16] at h16
  have z2 : (M.size : Int) = 512 := by omega
  go_enter Try.func10, Try.ntmps10
  go_wp2_with (first
    | (go_at_call 9; refine (HP.out _).mono ?_; rintro e w1 ⟨rfl, hb1⟩))
  go_ret
  exact ⟨rfl, hb1⟩
end Go.Proofs.Ytjaehhjehedjoaa
