
/- The contracts of mark.Put, mark.Get, mark.Best, of the reference's Put and Get, and of the seventh law package's awake. Conditions: the arguments' own ranges. -/
import Derived.Test.YtidkdmdfbmjpnaaMarM
import Derived.Test.YtidkdmdfbmjpnaaShelf
import Derived.BigQuiet
import Derived.Deep.QuietTactic
import Derived.Laws.IdiomStrings
import Derived.WalkLawsBesides
namespace Go.Proofs.Ytidkdmdfbmjpnaa
open Go.ChangeShapes Go.WideShapes Go.ChangeAt Go.RowKit
set_option linter.unusedVariables false

theorem clone_any (s : ByteArray) (w : World) (hs : s.size ≤ 1000000) :
    Calls Try.prog 16 #[.string s] w fun e w' => e = .returned (.string s) ∧ Below w.heap.size w w' := by
  go_enter Try.func16, Try.ntmps16
  go_wp2_with (go_at_call 26; refine (Try.stringslite_Clone s w (by omega)).mono ?_; rintro e w' ⟨rfl, hb⟩)
  go_ret
  exact ⟨rfl, hb⟩

theorem zB_eq (k : Nat) : Lib.repeatL [0] k = List.replicate k 0 := by
  induction k with
  | zero => rfl
  | succ k ih => rw [Lib.repeatL, ih, List.replicate_succ]; rfl

theorem repeat_any (k : Nat) (w : World) (hk : k ≤ 48) :
    Calls Try.prog 14 #[.string ⟨#[0]⟩, .int .i64 k] w fun e w' => e = .returned (.string (zB k)) ∧ Below w.heap.size w w' := by
  have h := Try.strings_Repeat ⟨#[0]⟩ k w (by omega) (by show 1 * k ≤ _; omega)
  rw [show Lib.repeatL (⟨#[0]⟩ : ByteArray).data.toList k = List.replicate k 0 from zB_eq k] at h
  exact h

/-- what word.Get answers of eight bytes -/
def gv (s : ByteArray) (p : Nat) : Nat := if p + 8 ≤ s.size then getN s p 8 else 0
def gb (s : ByteArray) (p : Nat) : Bool := decide (p + 8 ≤ s.size)
theorem gv_le (s : ByteArray) (p : Nat) : gv s p ≤ 18446744073709551615 := by
  unfold gv; split
  · have := getN_top s p 8 (by omega); omega
  · omega
theorem get8 (s : ByteArray) (p : Nat) (w : World) (hs : s.size ≤ 9223372036854775807) (hp : p ≤ 1000) :
    Calls Try.prog 15 #[.string s, .int .i64 p, .int .i64 8] w fun e w' => e = .returned (.tuple #[.int .u64 (gv s p), .bool (gb s p)]) ∧ w = w' := by
  by_cases h : p + 8 ≤ s.size
  · have := get_yes s p 8 w hs (by omega) h
    unfold gv gb
    rw [if_pos h, decide_eq_true h]
    exact this
  · have := get_no s p 8 w hs (by omega) (by omega) (by omega) (by omega) (by omega)
    unfold gv gb
    rw [if_neg h, decide_eq_false h]
    exact this

theorem mput_no (n : Nat) (t : ByteArray) (w : World) (hn : n ≤ 18446744073709551615) (ht : 48 < t.size) :
    Calls Try.prog 7 #[.int .u64 n, .string t] w fun e w' => e = .returned (.tuple #[.string ⟨#[]⟩, .int .i64 3]) ∧ Below w.heap.size w w' := by
  go_enter Try.func7, Try.ntmps7
  go_wp2
  go_ret2
  exact ⟨rfl, Below.refl _ _⟩

theorem mput_yes (n : Nat) (t : ByteArray) (w : World) (hn : n ≤ 18446744073709551615) (ht : t.size ≤ 48) :
    Calls Try.prog 7 #[.int .u64 n, .string t] w fun e w' => e = .returned (.tuple #[.string (mkB n t), .int .i64 0]) ∧ Below w.heap.size w w' := by
  have HP : ∀ w : World, Calls Try.prog 13 #[.int .u64 n, .int .i64 8] w fun e w' => e = .returned (.string (nB n)) ∧ w' = w.alloc (.cells (putCells n 8) 43) := fun w => put_yes n 8 w hn (by omega)
  have HR : ∀ w : World, Calls Try.prog 14 #[.string ⟨#[0]⟩, .int .i64 (48 - (t.size : Int))] w fun e w' => e = .returned (.string (zB (48 - t.size))) ∧ Below w.heap.size w w' := fun w => by
    have := repeat_any (48 - t.size) w (by omega)
    rwa [show ((48 - t.size : Nat) : Int) = 48 - (t.size : Int) by omega] at this
  have hN := nB_size n
  have hZ := zB_size (48 - t.size)
  have HE := Lib.hid (show nB n ++ t ++ zB (48 - t.size) ++ nB n = mkB n t from rfl)
  have hN2 : (nB n).size ≤ 8 := by omega
  have hZ2 : (zB (48 - t.size)).size ≤ 48 := by omega
  clear hN hZ
  generalize nB n = NB at *
  generalize zB (48 - t.size) = ZB at *
  go_enter Try.func7, Try.ntmps7
  go_wp2_with (first
    | (go_at_call 13; refine (HP _).mono ?_; rintro e w1 ⟨rfl, rfl⟩)
    | (go_at_call 14; refine (HR _).mono ?_; rintro e w2 ⟨rfl, hb⟩))
  go_ret2
  exact ⟨by rw [HE.out]; rfl, ((Below.refl _ _).alloc (Nat.le_refl _) _).trans (hb.mono (by simp))⟩

theorem mget_any (s : ByteArray) (w : World) (hs : s.size ≤ 9223372036854775807) :
    Calls Try.prog 9 #[.string s] w fun e w' => e = .returned (.tuple #[.int .u64 (mN s), .string (mT s), .bool (isM s)]) ∧ Below w.heap.size w w' := by
  have G0 := get8 s 0
  have G56 := get8 s 56
  have b0 := gv_le s 0
  have b56 := gv_le s 56
  have hmn := mN_le s
  have HG0 : RowKit.Hid (∀ w : World, Calls Try.prog 15 #[.string s, .int .i64 0, .int .i64 8] w fun e w' => e = .returned (.tuple #[.int .u64 (gv s 0), .bool (gb s 0)]) ∧ w = w') := Lib.hid (fun w => G0 w hs (by omega))
  have HG56 : RowKit.Hid (∀ w : World, Calls Try.prog 15 #[.string s, .int .i64 56, .int .i64 8] w fun e w' => e = .returned (.tuple #[.int .u64 (gv s 56), .bool (gb s 56)]) ∧ w = w') := Lib.hid (fun w => G56 w hs (by omega))
  clear G0 G56
  by_cases h1 : s.size = 64
  · have e0 : gv s 0 = getN s 0 8 := by unfold gv; rw [if_pos (by omega)]
    have e56 : gv s 56 = getN s 56 8 := by unfold gv; rw [if_pos (by omega)]
    have h3 : ((s.size : Int) != 64) = false := by simp; omega
    by_cases h2 : getN s 0 8 = getN s 56 8
    · have hI : isM s = true := decide_eq_true ⟨h1, h2⟩
      have hN : mN s = gv s 0 := by unfold mN; rw [if_pos hI, e0]
      have hT : mT s = s.extract 8 56 := by unfold mT; rw [if_pos hI]
      rw [hN, hT, hI]
      have h4 : ((gv s 0 : Int) != (gv s 56 : Int)) = false := by rw [e0, e56, h2]; simp
      have z1 : (s.extract 8 56).size ≤ 1000 := by rw [ByteArray.size_extract]; omega
      have HC := Lib.hid (fun w => clone_any (s.extract 8 56) w (by omega))
      have g8 : (56 : Int) ≤ s.size := by omega
      clear e0 e56 h2 hI hN hT hmn h1 z1
      generalize gb s 0 = B0 at *
      generalize gb s 56 = B1 at *
      generalize gv s 0 = V0 at *
      generalize gv s 56 = V1 at *
      go_enter Try.func9, Try.ntmps9
      go_wp2_with (first
        | (go_at_call 15; (first | (with_reducible refine (HG0.out _).mono ?_) | (with_reducible refine (HG56.out _).mono ?_)); rintro e w1 ⟨rfl, rfl⟩)
        | (go_at_call 16; refine (HC.out _).mono ?_; rintro e w2 ⟨rfl, hb⟩))
      go_ret3
      exact ⟨rfl, hb⟩
    · have hI : isM s = false := decide_eq_false (fun h => h2 h.2)
      have hN : mN s = 0 := by unfold mN; rw [if_neg (by simp [hI])]
      have hT : mT s = ⟨#[]⟩ := by unfold mT; rw [if_neg (by simp [hI])]
      rw [hN, hT, hI]
      have h4 : ((gv s 0 : Int) != (gv s 56 : Int)) = true := by rw [e0, e56, bne_iff_ne]; omega
      clear e0 e56 h2 hI hN hT hmn h1
      generalize gb s 0 = B0 at *
      generalize gb s 56 = B1 at *
      generalize gv s 0 = V0 at *
      generalize gv s 56 = V1 at *
      go_enter Try.func9, Try.ntmps9
      go_wp2_with (first
        | (go_at_call 15; (first | (with_reducible refine (HG0.out _).mono ?_) | (with_reducible refine (HG56.out _).mono ?_)); rintro e w1 ⟨rfl, rfl⟩))
      go_ret3
      exact ⟨rfl, Below.refl _ _⟩
  · have hI : isM s = false := decide_eq_false (fun h => h1 h.1)
    have hN : mN s = 0 := by unfold mN; rw [if_neg (by simp [hI])]
    have hT : mT s = ⟨#[]⟩ := by unfold mT; rw [if_neg (by simp [hI])]
    rw [hN, hT, hI]
    have h3 : ((s.size : Int) != 64) = true := by rw [bne_iff_ne]; omega
    clear hI hN hT hmn h1
    generalize gb s 0 = B0 at *
    generalize gb s 56 = B1 at *
    generalize gv s 0 = V0 at *
    generalize gv s 56 = V1 at *
    go_enter Try.func9, Try.ntmps9
    go_wp2_with (first
      | (go_at_call 15; (first | (with_reducible refine (HG0.out _).mono ?_) | (with_reducible refine (HG56.out _).mono ?_)); rintro e w1 ⟨rfl, rfl⟩))
    go_ret3
    exact ⟨rfl, Below.refl _ _⟩

/-- which of two sectors, by the document: 0, 1, -1 -/
def bK (a b : ByteArray) : Int := if isM a && (!isM b || decide (mN b ≤ mN a)) then 0 else if isM b then 1 else -1
def bN_ (a b : ByteArray) : Nat := if bK a b = 0 then mN a else if bK a b = 1 then mN b else 0
def bT (a b : ByteArray) : ByteArray := if bK a b = 0 then mT a else if bK a b = 1 then mT b else ⟨#[]⟩

theorem best_any (a b : ByteArray) (w : World) (ha : a.size ≤ 9223372036854775807) (hb : b.size ≤ 9223372036854775807) :
    Calls Try.prog 12 #[.string a, .string b] w fun e w' => e = .returned (.tuple #[.int .u64 (bN_ a b), .string (bT a b), .int .i64 (bK a b)]) ∧ Below w.heap.size w w' := by
  have GA := Lib.hid (fun w => mget_any a w ha)
  have GB := Lib.hid (fun w => mget_any b w hb)
  have E := Lib.hid (show (bN_ a b, bT a b, bK a b) = (if isM a && (!isM b || decide (mN b ≤ mN a)) then (mN a, mT a, 0) else if isM b then (mN b, mT b, 1) else (0, ⟨#[]⟩, -1)) by
    unfold bN_ bT bK
    by_cases c : mN b ≤ mN a <;> cases isM a <;> cases isM b <;> simp [c])
  have ba := mN_le a
  have bb := mN_le b
  generalize bN_ a b = rn at *
  generalize bT a b = rt at *
  generalize bK a b = rk at *
  generalize mN a = na at *
  generalize mN b = nb at *
  generalize mT a = ta at *
  generalize mT b = tb at *
  generalize isM a = ia at *
  generalize isM b = ib at *
  have main : ∀ (t : Bool), t = decide (nb ≤ na) → Calls Try.prog 12 #[.string a, .string b] w fun e w' => e = .returned (.tuple #[.int .u64 rn, .string rt, .int .i64 rk]) ∧ Below w.heap.size w w' := by
    intro t ht
    have E2 : (rn, rt, rk) = (if ia && (!ib || t) then (na, ta, 0) else if ib then (nb, tb, 1) else (0, ⟨#[]⟩, -1)) := by
      rw [E.out, ht]
    have ht' := ht.symm
    clear ht E
    cases ia <;> cases ib <;> cases t <;> simp only [Bool.not_true, Bool.not_false, Bool.or_true, Bool.or_false, Bool.and_true, Bool.and_false, if_true, if_false, Bool.false_eq_true, Prod.mk.injEq] at E2
    all_goals
      obtain ⟨rfl, rfl, rfl⟩ := E2
      go_enter Try.func12, Try.ntmps12
      go_wp2_with (go_at_call 9; (first | (with_reducible refine (GA.out _).mono ?_; rintro e w1 ⟨rfl, hb1⟩) | (with_reducible refine (GB.out _).mono ?_; rintro e w2 ⟨rfl, hb2⟩)))
      go_ret3
      exact ⟨rfl, hb1.trans (hb2.mono hb1.size)⟩
  exact main _ rfl

theorem awake_any (w : World) :
    Calls Try.prog 8 #[] w fun e w' => e = .returned (.bool true) ∧ Below w.heap.size w w' := by
  obtain ⟨M, hM⟩ : ∃ M, M = mkB 7 ⟨#[97, 98]⟩ := ⟨_, rfl⟩
  have HP := Lib.hid (fun w => mput_yes 7 ⟨#[97, 98]⟩ w (by omega) (by decide))
  have z := mkB_size 7 ⟨#[97, 98]⟩ (by decide)
  have HG : ∀ w : World, Calls Try.prog 9 #[.string M] w fun e w' => e = .returned (.tuple #[.int .u64 7, .string (⟨#[97, 98]⟩ ++ zB 46), .bool true]) ∧ Below w.heap.size w w' := fun w => by
    have := mget_any M w (by rw [hM]; omega)
    rw [hM] at this ⊢
    rw [mkB_num 7 _ (by omega) (by decide), mkB_text 7 _ (by decide), mkB_is 7 _ (by decide)] at this
    exact this
  have hs : ((⟨#[97, 98]⟩ : ByteArray) ++ zB 46).size = 48 := by rw [ByteArray.size_append, zB_size]; rfl
  have he : ((⟨#[97, 98]⟩ : ByteArray) ++ zB 46).extract 0 2 = ⟨#[97, 98]⟩ := ext_left ⟨#[97, 98]⟩ (zB 46)
  rw [← hM] at HP z
  have HE : (((⟨#[97, 98]⟩ : ByteArray) ++ zB 46).extract 0 2).toList = [97, 98] := by rw [he, ByteArray.toList_eq]
  clear hM he
  generalize (⟨#[97, 98]⟩ : ByteArray) ++ zB 46 = T at *
  have HGh := Lib.hid HG
  clear HG
  have z2 : (M.size : Int) = 64 := by omega
  have z3 : (T.size : Int) = 48 := by omega
  go_enter Try.func8, Try.ntmps8
  go_wp2_with (first
    | (go_at_call 7; refine (HP.out _).mono ?_; rintro e w1 ⟨rfl, hb1⟩)
    | (go_at_call 9; refine (HGh.out _).mono ?_; rintro e w2 ⟨rfl, hb2⟩))
  go_ret
  exact ⟨rfl, hb1.trans (hb2.mono hb1.size)⟩
end Go.Proofs.Ytidkdmdfbmjpnaa
