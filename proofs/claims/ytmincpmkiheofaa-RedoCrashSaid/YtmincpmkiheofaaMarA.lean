
/- The contracts of mark.Put, mark.Get, mark.Best, of the reference's Put and Get, and of the seventh law package's awake. Conditions: the arguments' own ranges. -/
import Derived.Test.YtmincpmkiheofaaMarM
import Derived.Test.YtmincpmkiheofaaShelf
import Derived.Test.YtmincpmkiheofaaClone
import Derived.BigQuiet
import Derived.Deep.QuietTactic
import Derived.Laws.IdiomStrings
import Derived.WalkLawsBesides
namespace Go.Proofs.Ytmincpmkiheofaa
open Go.ChangeShapes Go.WideShapes Go.ChangeAt Go.RowKit
set_option linter.unusedVariables false


theorem zB_eq (k : Nat) : Lib.repeatL [0] k = List.replicate k 0 := by
  induction k with
  | zero => rfl
  | succ k ih => rw [Lib.repeatL, ih, List.replicate_succ]; rfl

theorem repeat_any (k : Nat) (w : World) (hk : k ≤ 48) :
    Calls Try.prog 62 #[.string ⟨#[0]⟩, .int .i64 k] w fun e w' => e = .returned (.string (zB k)) ∧ Below w.heap.size w w' := by
  have h := Try.strings_Repeat ⟨#[0]⟩ k w (by omega) (by show 1 * k ≤ _; omega)
  rw [show Lib.repeatL (⟨#[0]⟩ : ByteArray).data.toList k = List.replicate k 0 from zB_eq k] at h
  exact h

/-- what word.Get answers of eight bytes -/
def gv (s : ByteArray) (p : Nat) : Nat := if p + 8 ≤ s.size then getN s p 8 else 0
def gb (s : ByteArray) (p : Nat) : Bool := decide (p + 8 ≤ s.size)
theorem gv_le (s : ByteArray) (p : Nat) : gv s p ≤ 18446744073709551615 := by
  unfold gv; split
  · have := getN_top s p 8 (by omega); omega
  · omega
theorem get8 (s : ByteArray) (p : Nat) (w : World) (hs : s.size ≤ 9223372036854775807) (hp : p ≤ 1000) :
    Calls Try.prog 55 #[.string s, .int .i64 p, .int .i64 8] w fun e w' => e = .returned (.tuple #[.int .u64 (gv s p), .bool (gb s p)]) ∧ w = w' := by
  by_cases h : p + 8 ≤ s.size
  · have := get_yes s p 8 w hs (by omega) h
    unfold gv gb
    rw [if_pos h, decide_eq_true h]
    exact this
  · have := get_no s p 8 w hs (by omega) (by omega) (by omega) (by omega) (by omega)
    unfold gv gb
    rw [if_neg h, decide_eq_false h]
    exact this

theorem mput_no (n : Nat) (t : ByteArray) (w : World) (hn : n ≤ 18446744073709551615) (ht : 48 < t.size) :
    Calls Try.prog 64 #[.int .u64 n, .string t] w fun e w' => e = .returned (.tuple #[.string ⟨#[]⟩, .int .i64 3]) ∧ Below w.heap.size w w' := by
  go_enter Try.func64, Try.ntmps64
  go_wp2
  go_ret2
  exact ⟨rfl, Below.refl _ _⟩

theorem mput_yes (n : Nat) (t : ByteArray) (w : World) (hn : n ≤ 18446744073709551615) (ht : t.size ≤ 48) :
    Calls Try.prog 64 #[.int .u64 n, .string t] w fun e w' => e = .returned (.tuple #[.string (mkB n t), .int .i64 0]) ∧ Below w.heap.size w w' := by
  have HP : ∀ w : World, Calls Try.prog 65 #[.int .u64 n, .int .i64 8] w fun e w' => e = .returned (.string (nB n)) ∧ w' = w.alloc (.cells (putCells n 8) 111) := fun w => put_yes n 8 w hn (by omega)
  have HR : ∀ w : World, Calls Try.prog 62 #[.string ⟨#[0]⟩, .int .i64 (48 - (t.size : Int))] w fun e w' => e = .returned (.string (zB (48 - t.size))) ∧ Below w.heap.size w w' := fun w => by
    have := repeat_any (48 - t.size) w (by omega)
    rwa [show ((48 - t.size : Nat) : Int) = 48 - (t.size : Int) by omega] at this
  have hN := nB_size n
  have hZ := zB_size (48 - t.size)
  have HE := Lib.hid (show nB n ++ t ++ zB (48 - t.size) ++ nB n = mkB n t from rfl)
  have hN2 : (nB n).size ≤ 8 := by omega
  have hZ2 : (zB (48 - t.size)).size ≤ 48 := by omega
  clear hN hZ
  generalize nB n = NB at *
  generalize zB (48 - t.size) = ZB at *
  go_enter Try.func64, Try.ntmps64
  go_wp2_with (first
    | (go_at_call 65; refine (HP _).mono ?_; rintro e w1 ⟨rfl, rfl⟩)
    | (go_at_call 62; refine (HR _).mono ?_; rintro e w2 ⟨rfl, hb⟩))
  go_ret2
  exact ⟨by rw [HE.out]; rfl, ((Below.refl _ _).alloc (Nat.le_refl _) _).trans (hb.mono (by simp))⟩

theorem mget_any (s : ByteArray) (w : World) (hs : s.size ≤ 9223372036854775807) :
    Calls Try.prog 54 #[.string s] w fun e w' => e = .returned (.tuple #[.int .u64 (mN s), .string (mT s), .bool (isM s)]) ∧ Below w.heap.size w w' := by
  have G0 := get8 s 0
  have G56 := get8 s 56
  have b0 := gv_le s 0
  have b56 := gv_le s 56
  have hmn := mN_le s
  have HG0 : RowKit.Hid (∀ w : World, Calls Try.prog 55 #[.string s, .int .i64 0, .int .i64 8] w fun e w' => e = .returned (.tuple #[.int .u64 (gv s 0), .bool (gb s 0)]) ∧ w = w') := Lib.hid (fun w => G0 w hs (by omega))
  have HG56 : RowKit.Hid (∀ w : World, Calls Try.prog 55 #[.string s, .int .i64 56, .int .i64 8] w fun e w' => e = .returned (.tuple #[.int .u64 (gv s 56), .bool (gb s 56)]) ∧ w = w') := Lib.hid (fun w => G56 w hs (by omega))
  clear G0 G56
  by_cases h1 : s.size = 64
  · have e0 : gv s 0 = getN s 0 8 := by unfold gv; rw [if_pos (by omega)]
    have e56 : gv s 56 = getN s 56 8 := by unfold gv; rw [if_pos (by omega)]
    have h3 : ((s.size : Int) != 64) = false := by simp; omega
    by_cases h2 : getN s 0 8 = getN s 56 8
    · have hI : isM s = true := decide_eq_true ⟨h1, h2⟩
      have hN : mN s = gv s 0 := by unfold mN; rw [if_pos hI, e0]
      have hT : mT s = s.extract 8 56 := by unfold mT; rw [if_pos hI]
      rw [hN, hT, hI]
      have h4 : ((gv s 0 : Int) != (gv s 56 : Int)) = false := by rw [e0, e56, h2]; simp
      have z1 : (s.extract 8 56).size ≤ 1000 := by rw [ByteArray.size_extract]; omega
      have HC := Lib.hid (fun w => clone_any (s.extract 8 56) w (by omega))
      have g8 : (56 : Int) ≤ s.size := by omega
      clear e0 e56 h2 hI hN hT hmn h1 z1
      generalize gb s 0 = B0 at *
      generalize gb s 56 = B1 at *
      generalize gv s 0 = V0 at *
      generalize gv s 56 = V1 at *
      go_enter Try.func54, Try.ntmps54
      go_wp2_with (first
        | (go_at_call 55; (first | (with_reducible refine (HG0.out _).mono ?_) | (with_reducible refine (HG56.out _).mono ?_)); rintro e w1 ⟨rfl, rfl⟩)
        | (go_at_call 61; refine (HC.out _).mono ?_; rintro e w2 ⟨rfl, hb⟩))
      go_ret3
      exact ⟨rfl, hb⟩
    · have hI : isM s = false := decide_eq_false (fun h => h2 h.2)
      have hN : mN s = 0 := by unfold mN; rw [if_neg (by simp [hI])]
      have hT : mT s = ⟨#[]⟩ := by unfold mT; rw [if_neg (by simp [hI])]
      rw [hN, hT, hI]
      have h4 : ((gv s 0 : Int) != (gv s 56 : Int)) = true := by rw [e0, e56, bne_iff_ne]; omega
      clear e0 e56 h2 hI hN hT hmn h1
      generalize gb s 0 = B0 at *
      generalize gb s 56 = B1 at *
      generalize gv s 0 = V0 at *
      generalize gv s 56 = V1 at *
      go_enter Try.func54, Try.ntmps54
      go_wp2_with (first
        | (go_at_call 55; (first | (with_reducible refine (HG0.out _).mono ?_) | (with_reducible refine (HG56.out _).mono ?_)); rintro e w1 ⟨rfl, rfl⟩))
      go_ret3
      exact ⟨rfl, Below.refl _ _⟩
  · have hI : isM s = false := decide_eq_false (fun h => h1 h.1)
    have hN : mN s = 0 := by unfold mN; rw [if_neg (by simp [hI])]
    have hT : mT s = ⟨#[]⟩ := by unfold mT; rw [if_neg (by simp [hI])]
    rw [hN, hT, hI]
    have h3 : ((s.size : Int) != 64) = true := by rw [bne_iff_ne]; omega
    clear hI hN hT hmn h1
    generalize gb s 0 = B0 at *
    generalize gb s 56 = B1 at *
    generalize gv s 0 = V0 at *
    generalize gv s 56 = V1 at *
    go_enter Try.func54, Try.ntmps54
    go_wp2_with (first
      | (go_at_call 55; (first | (with_reducible refine (HG0.out _).mono ?_) | (with_reducible refine (HG56.out _).mono ?_)); rintro e w1 ⟨rfl, rfl⟩))
    go_ret3
    exact ⟨rfl, Below.refl _ _⟩

/-- which of two sectors, by the document: 0, 1, -1 -/
def bK (a b : ByteArray) : Int := if isM a && (!isM b || decide (mN b ≤ mN a)) then 0 else if isM b then 1 else -1
def bN_ (a b : ByteArray) : Nat := if bK a b = 0 then mN a else if bK a b = 1 then mN b else 0
def bT (a b : ByteArray) : ByteArray := if bK a b = 0 then mT a else if bK a b = 1 then mT b else ⟨#[]⟩

end Go.Proofs.Ytmincpmkiheofaa
