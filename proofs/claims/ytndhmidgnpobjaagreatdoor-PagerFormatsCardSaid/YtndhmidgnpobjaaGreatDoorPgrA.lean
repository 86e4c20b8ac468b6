/- merged: The contracts of mark.Put, mark.Get, mark.Best, of the reference's Put and Get, and of the seventh law package's awake. Conditions: the arguments' own ranges. The contracts of a disk's Flush and Crash. Conditions: those that each theorem names. The contracts of the pager's small functions: places, rooms, texts, marks. Conditions: those that each theorem names. -/
import Derived.Test.YtndhmidgnpobjaaGreatDoorPagM
import Derived.Test.YtndhmidgnpobjaaGreatDoorShelf
import Derived.Test.YtndhmidgnpobjaaGreatDoorCrcA
import Derived.BigQuiet
import Derived.Deep.QuietTactic
import Derived.Laws.IdiomStrings
import Derived.WalkLawsBesides
import Derived.Test.YtndhmidgnpobjaaGreatDoorDisE
import Derived.Test.YtndhmidgnpobjaaGreatDoorPgrM
import Derived.Test.YtndhmidgnpobjaaGreatDoorPagD
import Derived.Deep.RegionWith
import Derived.Deep.DeepCutAuto
section
namespace Go.Proofs.YtndhmidgnpobjaaGreatDoor
open Go.ChangeShapes Go.WideShapes Go.ChangeAt Go.RowKit
set_option linter.unusedVariables false


theorem zB_eq (k : Nat) : Lib.repeatL [0] k = List.replicate k 0 := by
  induction k with
  | zero => rfl
  | succ k ih => rw [Lib.repeatL, ih, List.replicate_succ]; rfl

theorem repeat_any (k : Nat) (w : World) (hk : k ≤ 48) :
    Calls Tryz.prog 60 #[.string ⟨#[0]⟩, .int .i64 k] w fun e w' => e = .returned (.string (zB k)) ∧ Below w.heap.size w w' := by
  have h := Tryz.strings_Repeat ⟨#[0]⟩ k w (by omega) (by show 1 * k ≤ _; omega)
  rw [show Lib.repeatL (⟨#[0]⟩ : ByteArray).data.toList k = List.replicate k 0 from zB_eq k] at h
  exact h

/-- what word.Get answers of eight bytes -/
def gv (s : ByteArray) (p : Nat) : Nat := if p + 8 ≤ s.size then getN s p 8 else 0
def gb (s : ByteArray) (p : Nat) : Bool := decide (p + 8 ≤ s.size)
theorem gv_le (s : ByteArray) (p : Nat) : gv s p ≤ 18446744073709551615 := by
  unfold gv; split
  · have := getN_top s p 8 (by omega); omega
  · omega
theorem get8 (s : ByteArray) (p : Nat) (w : World) (hs : s.size ≤ 9223372036854775807) (hp : p ≤ 1000) :
    Calls Tryz.prog 132 #[.string s, .int .i64 p, .int .i64 8] w fun e w' => e = .returned (.tuple #[.int .u64 (gv s p), .bool (gb s p)]) ∧ w = w' := by
  by_cases h : p + 8 ≤ s.size
  · have := get_yes s p 8 w hs (by omega) h
    unfold gv gb
    rw [if_pos h, decide_eq_true h]
    exact this
  · have := get_no s p 8 w hs (by omega) (by omega) (by omega) (by omega) (by omega)
    unfold gv gb
    rw [if_neg h, decide_eq_false h]
    exact this

theorem mput_yes (n : Nat) (t : ByteArray) (w : World) (hn : n ≤ 18446744073709551615) (ht : t.size ≤ 48) :
    Calls Tryz.prog 127 #[.int .u64 n, .string t] w fun e w' => e = .returned (.tuple #[.string (mkB n t), .int .i64 0]) ∧ Below w.heap.size w w' := by
  have HP : ∀ w : World, Calls Tryz.prog 120 #[.int .u64 n, .int .i64 8] w fun e w' => e = .returned (.string (nB n)) ∧ w' = w.alloc (.cells (putCells n 8) 256) := fun w => put_yes n 8 w hn (by omega)
  have HR : ∀ w : World, Calls Tryz.prog 60 #[.string ⟨#[0]⟩, .int .i64 (48 - (t.size : Int))] w fun e w' => e = .returned (.string (zB (48 - t.size))) ∧ Below w.heap.size w w' := fun w => by
    have := repeat_any (48 - t.size) w (by omega)
    rwa [show ((48 - t.size : Nat) : Int) = 48 - (t.size : Int) by omega] at this
  have hN := nB_size n
  have hZ := zB_size (48 - t.size)
  have HE := Lib.hid (show nB n ++ t ++ zB (48 - t.size) ++ nB n = mkB n t from rfl)
  have hN2 : (nB n).size ≤ 8 := by omega
  have hZ2 : (zB (48 - t.size)).size ≤ 48 := by omega
  clear hN hZ
  generalize nB n = NB at *
  generalize zB (48 - t.size) = ZB at *
  go_enter Tryz.func127, Tryz.ntmps127
  go_wp2_with (first
    | (go_at_call 120; refine (HP _).mono ?_; rintro e w1 ⟨rfl, rfl⟩)
    | (go_at_call 60; refine (HR _).mono ?_; rintro e w2 ⟨rfl, hb⟩))
  go_ret2
  exact ⟨by rw [HE.out]; rfl, ((Below.refl _ _).alloc (Nat.le_refl _) _).trans (hb.mono (by simp))⟩

theorem mget_any (s : ByteArray) (w : World) (hs : s.size ≤ 9223372036854775807) :
    Calls Tryz.prog 185 #[.string s] w fun e w' => e = .returned (.tuple #[.int .u64 (mN s), .string (mT s), .bool (isM s)]) ∧ Below w.heap.size w w' := by
  have G0 := get8 s 0
  have G56 := get8 s 56
  have b0 := gv_le s 0
  have b56 := gv_le s 56
  have hmn := mN_le s
  have HG0 : RowKit.Hid (∀ w : World, Calls Tryz.prog 132 #[.string s, .int .i64 0, .int .i64 8] w fun e w' => e = .returned (.tuple #[.int .u64 (gv s 0), .bool (gb s 0)]) ∧ w = w') := Lib.hid (fun w => G0 w hs (by omega))
  have HG56 : RowKit.Hid (∀ w : World, Calls Tryz.prog 132 #[.string s, .int .i64 56, .int .i64 8] w fun e w' => e = .returned (.tuple #[.int .u64 (gv s 56), .bool (gb s 56)]) ∧ w = w') := Lib.hid (fun w => G56 w hs (by omega))
  clear G0 G56
  by_cases h1 : s.size = 64
  · have e0 : gv s 0 = getN s 0 8 := by unfold gv; rw [if_pos (by omega)]
    have e56 : gv s 56 = getN s 56 8 := by unfold gv; rw [if_pos (by omega)]
    have h3 : ((s.size : Int) != 64) = false := by simp; omega
    by_cases h2 : getN s 0 8 = getN s 56 8
    · have hI : isM s = true := decide_eq_true ⟨h1, h2⟩
      have hN : mN s = gv s 0 := by unfold mN; rw [if_pos hI, e0]
      have hT : mT s = s.extract 8 56 := by unfold mT; rw [if_pos hI]
      rw [hN, hT, hI]
      have h4 : ((gv s 0 : Int) != (gv s 56 : Int)) = false := by rw [e0, e56, h2]; simp
      have z1 : (s.extract 8 56).size ≤ 1000 := by rw [ByteArray.size_extract]; omega
      have HC := Lib.hid (fun w => clone_any (s.extract 8 56) w (by omega))
      have g8 : (56 : Int) ≤ s.size := by omega
      clear e0 e56 h2 hI hN hT hmn h1 z1
      generalize gb s 0 = B0 at *
      generalize gb s 56 = B1 at *
      generalize gv s 0 = V0 at *
      generalize gv s 56 = V1 at *
      go_enter Tryz.func185, Tryz.ntmps185
      go_wp2_with (first
        | (go_at_call 132; (first | (with_reducible refine (HG0.out _).mono ?_) | (with_reducible refine (HG56.out _).mono ?_)); rintro e w1 ⟨rfl, rfl⟩)
        | (go_at_call 179; refine (HC.out _).mono ?_; rintro e w2 ⟨rfl, hb⟩))
      go_ret3
      exact ⟨rfl, hb⟩
    · have hI : isM s = false := decide_eq_false (fun h => h2 h.2)
      have hN : mN s = 0 := by unfold mN; rw [if_neg (by simp [hI])]
      have hT : mT s = ⟨#[]⟩ := by unfold mT; rw [if_neg (by simp [hI])]
      rw [hN, hT, hI]
      have h4 : ((gv s 0 : Int) != (gv s 56 : Int)) = true := by rw [e0, e56, bne_iff_ne]; omega
      clear e0 e56 h2 hI hN hT hmn h1
      generalize gb s 0 = B0 at *
      generalize gb s 56 = B1 at *
      generalize gv s 0 = V0 at *
      generalize gv s 56 = V1 at *
      go_enter Tryz.func185, Tryz.ntmps185
      go_wp2_with (first
        | (go_at_call 132; (first | (with_reducible refine (HG0.out _).mono ?_) | (with_reducible refine (HG56.out _).mono ?_)); rintro e w1 ⟨rfl, rfl⟩))
      go_ret3
      exact ⟨rfl, Below.refl _ _⟩
  · have hI : isM s = false := decide_eq_false (fun h => h1 h.1)
    have hN : mN s = 0 := by unfold mN; rw [if_neg (by simp [hI])]
    have hT : mT s = ⟨#[]⟩ := by unfold mT; rw [if_neg (by simp [hI])]
    rw [hN, hT, hI]
    have h3 : ((s.size : Int) != 64) = true := by rw [bne_iff_ne]; omega
    clear hI hN hT hmn h1
    generalize gb s 0 = B0 at *
    generalize gb s 56 = B1 at *
    generalize gv s 0 = V0 at *
    generalize gv s 56 = V1 at *
    go_enter Tryz.func185, Tryz.ntmps185
    go_wp2_with (first
      | (go_at_call 132; (first | (with_reducible refine (HG0.out _).mono ?_) | (with_reducible refine (HG56.out _).mono ?_)); rintro e w1 ⟨rfl, rfl⟩))
    go_ret3
    exact ⟨rfl, Below.refl _ _⟩

/-- which of two sectors, by the document: 0, 1, -1 -/
def bK (a b : ByteArray) : Int := if isM a && (!isM b || decide (mN b ≤ mN a)) then 0 else if isM b then 1 else -1
def bN_ (a b : ByteArray) : Nat := if bK a b = 0 then mN a else if bK a b = 1 then mN b else 0
def bT (a b : ByteArray) : ByteArray := if bK a b = 0 then mT a else if bK a b = 1 then mT b else ⟨#[]⟩

theorem best_any (a b : ByteArray) (w : World) (ha : a.size ≤ 9223372036854775807) (hb : b.size ≤ 9223372036854775807) :
    Calls Tryz.prog 131 #[.string a, .string b] w fun e w' => e = .returned (.tuple #[.int .u64 (bN_ a b), .string (bT a b), .int .i64 (bK a b)]) ∧ Below w.heap.size w w' := by
  have GA := Lib.hid (fun w => mget_any a w ha)
  have GB := Lib.hid (fun w => mget_any b w hb)
  have E := Lib.hid (show (bN_ a b, bT a b, bK a b) = (if isM a && (!isM b || decide (mN b ≤ mN a)) then (mN a, mT a, 0) else if isM b then (mN b, mT b, 1) else (0, ⟨#[]⟩, -1)) by
    unfold bN_ bT bK
    by_cases c : mN b ≤ mN a <;> cases isM a <;> cases isM b <;> simp [c])
  have ba := mN_le a
  have bb := mN_le b
  generalize bN_ a b = rn at *
  generalize bT a b = rt at *
  generalize bK a b = rk at *
  generalize mN a = na at *
  generalize mN b = nb at *
  generalize mT a = ta at *
  generalize mT b = tb at *
  generalize isM a = ia at *
  generalize isM b = ib at *
  have main : ∀ (t : Bool), t = decide (nb ≤ na) → Calls Tryz.prog 131 #[.string a, .string b] w fun e w' => e = .returned (.tuple #[.int .u64 rn, .string rt, .int .i64 rk]) ∧ Below w.heap.size w w' := by
    intro t ht
    have E2 : (rn, rt, rk) = (if ia && (!ib || t) then (na, ta, 0) else if ib then (nb, tb, 1) else (0, ⟨#[]⟩, -1)) := by
      rw [E.out, ht]
    have ht' := ht.symm
    clear ht E
    cases ia <;> cases ib <;> cases t <;> simp only [Bool.not_true, Bool.not_false, Bool.or_true, Bool.or_false, Bool.and_true, Bool.and_false, if_true, if_false, Bool.false_eq_true, Prod.mk.injEq] at E2
    all_goals
      obtain ⟨rfl, rfl, rfl⟩ := E2
      go_enter Tryz.func131, Tryz.ntmps131
      go_wp2_with (go_at_call 185; (first | (with_reducible refine (GA.out _).mono ?_; rintro e w1 ⟨rfl, hb1⟩) | (with_reducible refine (GB.out _).mono ?_; rintro e w2 ⟨rfl, hb2⟩)))
      go_ret3
      exact ⟨rfl, hb1.trans (hb2.mono hb1.size)⟩
  exact main _ rfl

end Go.Proofs.YtndhmidgnpobjaaGreatDoor
end
section
namespace Go.Proofs.YtndhmidgnpobjaaGreatDoor
open Go.ChangeShapes Go.WideShapes Go.ChangeAt Go.RowKit
set_option linter.unusedVariables false
set_option linter.unusedSimpArgs false

/-- what Flush answers, and what it leaves -/
def fres (s : St) : Int × St :=
  if s.down then (11, s) else if (burn s).1 then (0, ⟨settled (fun _ => 64) s.wr 0 s.sure, [], (burn s).2.fuse, (burn s).2.down⟩) else (11, (burn s).2)
theorem flush1 (j : Int) (W : World) : Calls Tryz.prog 184 (#[.int .i64 j] ++ #[]) W fun e w' => e = .returned (.int .i64 64) ∧ W = w' := by
  show Calls Tryz.prog 184 #[.int .i64 j] W _
  go_enter Tryz.func184, Tryz.ntmps184
  go_wp2
  go_ret
  exact ⟨rfl, rfl⟩
section
variable {w : World} {d sb mb sc : Nat} {wv : Value} {n : Nat} {s : St}
theorem Wrote.of {w' : World} {s' : St} (h : DiskAt w' d sb mb sc (.slice none 0 0) n s') (hc : Chg (fp d sb mb wv) w w') (hn : wv = .slice none 0 0 ∨ True) : ∃ wv', DiskAt w' d sb mb sc wv' n s' ∧ Chg (fp d sb mb wv) w w' ∧ (wv'.ownBlock = none ∨ wv'.ownBlock = wv.ownBlock) := ⟨_, h, hc, .inl rfl⟩
set_option maxHeartbeats 1000000 in
theorem flush_any (h : DiskAt w d sb mb sc wv n s) :
    Calls Tryz.prog 126 #[.pointer (some ⟨d, 0, none⟩)] w fun e w' => e = .returned (.int .i64 (fres s).1) ∧ ∃ wv', DiskAt w' d sb mb sc wv' n (fres s).2 ∧ Chg (fp d sb mb wv) w w' ∧ (wv'.ownBlock = none ∨ wv'.ownBlock = wv.ownBlock) := by
  have HD := Lib.hid (down_any h)
  have HL := Lib.hid (lasts_any h)
  have H := Lib.hid h
  clear h
  by_cases c1 : s.down = true
  · have E := Lib.hid (show fres s = (11, s) by simp [fres, c1])
    rw [c1] at HD
    clear c1
    go_enter Tryz.func126, Tryz.ntmps126
    go_wp2_with (go_at_call 67; refine HD.out.mono ?_; rintro e w' ⟨rfl, rfl⟩)
    go_ret
    rw [E.out]
    exact ⟨rfl, wv, H.out, Chg.refl _ _, .inr rfl⟩
  have c1 : s.down = false := by simpa using c1
  rw [c1] at HD
  obtain ⟨dn, s1, hb⟩ : ∃ b s1, burn s = (b, s1) := ⟨_, _, rfl⟩
  have HW : s1.wr = s.wr ∧ s1.sure = s.sure := by have := burn_eq s; rw [hb] at this; exact this
  rw [hb] at HL
  cases dn with
  | false =>
    have E := Lib.hid (show fres s = (11, s1) by simp [fres, c1, hb])
    clear c1 hb
    go_enter Tryz.func126, Tryz.ntmps126
    go_wp2_with (first | (go_at_call 67; refine HD.out.mono ?_; rintro e w' ⟨rfl, rfl⟩) | (go_at_call 183; refine HL.out.mono ?_; rintro e w1 ⟨rfl, h1, h2, h3⟩))
    go_ret
    rw [E.out]
    exact ⟨rfl, wv, h1, h2.mono fun q _ e => .inl e, .inr rfl⟩
  | true =>
    have E := Lib.hid (show fres s = (0, ⟨settled (fun _ => 64) s1.wr 0 s1.sure, [], s1.fuse, s1.down⟩) by simp [fres, c1, hb, HW.1, HW.2])
    clear c1 hb HW
    go_enter Tryz.func126, Tryz.ntmps126
    go_wp2_with (first | (go_at_call 67; refine HD.out.mono ?_; rintro e w' ⟨rfl, rfl⟩) | (go_at_call 183; refine HL.out.mono ?_; rintro e w1 ⟨rfl, h1, h2, h3⟩) | (go_at_call 88; refine (settle_any h1 184 #[] (fun _ => 64) (fun _ _ => Nat.le_refl _) (enter_fn Tryz.func184 rfl rfl) (fun W j _ _ => flush1 _ _)).mono ?_; rintro e w2 ⟨rfl, h4, h5⟩))
    go_ret
    rw [E.out]
    exact ⟨rfl, _, h4, (h2.mono (T := fp d sb mb wv) fun q _ e => .inl e).same h5, .inl rfl⟩
end
end Go.Proofs.YtndhmidgnpobjaaGreatDoor
end
section
namespace Go.Proofs.YtndhmidgnpobjaaGreatDoor
open Go.ChangeShapes Go.WideShapes Go.ChangeAt Go.RowKit
set_option linter.unusedVariables false
set_option linter.unusedSimpArgs false

/-- a layout as a value, a page -/
def layV (d ll : Nat) : Value := .agg #[.pointer (some ⟨d, 0, none⟩), .int .i64 (ll : Int)]
def shV (no : Nat) (x : Pag) : Value := .agg #[.int .i64 (no : Int), .int .i64 (x.1 : Int), .string x.2]
def zerS : Value := .agg #[.int .i64 0, .int .i64 0, .string ⟨#[]⟩]
theorem box_one (w : World) (T : TypeId) (cs : Array Value) : Below w.heap.size w (w.alloc (.cells cs T)) := (Below.refl _ _).alloc (Nat.le_refl _) _

theorem kind_any (k : Int) (w : World) : Calls Tryz.prog 75 #[.int .i64 k] w fun e w' => e = .returned (.bool (decide (2 ≤ k) && decide (k ≤ 254))) ∧ w = w' := by
  by_cases h1 : 2 ≤ k
  · by_cases h2 : k ≤ 254
    · go_enter Tryz.func75, Tryz.ntmps75
      go_wp2
      go_ret
      exact ⟨retb_eq (by simp [h1, h2]), rfl⟩
    · go_enter Tryz.func75, Tryz.ntmps75
      go_wp2
      go_ret
      exact ⟨retb_eq (by simp [h2]), rfl⟩
  · go_enter Tryz.func75, Tryz.ntmps75
    go_wp2
    go_ret
    exact ⟨retb_eq (by simp; omega), rfl⟩
theorem place_any (d ll no : Nat) (w : World) (h1 : ll ≤ 100000) (h2 : no ≤ 4294967296) : Calls Tryz.prog 117 #[layV d ll, .int .i64 (no : Int)] w fun e w' => e = .returned (.int .i64 ((2 + ll + no * 8 : Nat) : Int)) ∧ Below w.heap.size w w' := by
  unfold layV
  go_enter Tryz.func117, Tryz.ntmps117
  go_wp2
  go_ret
  exact ⟨ret_eq (by omega), box_one _ _ _⟩
theorem full_any (t : ByteArray) (w : World) (h : t.size ≤ 496) : Calls Tryz.prog 121 #[.string t] w fun e w' => e = .returned (.string (fl t)) ∧ Below w.heap.size w w' := by
  have HR := Lib.hid (Pg.repeat_any (496 - t.size) w (by omega))
  rw [show ((496 - t.size : Nat) : Int) = 496 - (t.size : Int) by omega] at HR
  have HE := Lib.hid (show fl t = t ++ zB (496 - t.size) from rfl)
  obtain ⟨Z, hZ, hZz⟩ : ∃ Z : ByteArray, Z = zB (496 - t.size) ∧ Z.size ≤ 496 := ⟨_, rfl, by rw [zB_size]; omega⟩
  rw [← hZ] at HR HE
  clear hZ
  go_enter Tryz.func121, Tryz.ntmps121
  go_wp2_with (go_at_call 60; refine HR.out.mono ?_; rintro e w2 ⟨rfl, hb⟩)
  go_ret
  rw [HE.out]
  exact ⟨rfl, hb⟩
set_option maxRecDepth 10000 in
theorem bytes_any (no : Nat) (x : Pag) (w : World) (hx : PagOk x) (hn : no ≤ 2147483647) : Calls Tryz.prog 119 #[shV no x] w fun e w' => e = .returned (.string (pgB x.1 no x.2)) ∧ Below w.heap.size w w' := by
  obtain ⟨k, r⟩ := x
  obtain ⟨h1, h2, h3⟩ := hx
  simp only at h1 h2 h3
  have HP := Lib.hid (fun w => Pg.pack_yes k no r w h1 h2 hn (by omega))
  obtain ⟨PG, hPG⟩ : ∃ PG, PG = pgB k no r := ⟨_, rfl⟩
  unfold shV
  simp only
  rw [← hPG] at HP ⊢
  clear hPG
  go_enter Tryz.func119, Tryz.ntmps119
  go_wp2_with (go_at_call 180; refine (HP.out _).mono ?_; rintro e w2 ⟨rfl, hb⟩)
  go_ret
  exact ⟨rfl, then_ (box_one _ _ _) hb (by simp)⟩
set_option maxRecDepth 10000 in
theorem sheetOf_any (no : Nat) (s : ByteArray) (w : World) (hs : s.size ≤ 9223372036854775807) : Calls Tryz.prog 138 #[.int .i64 (no : Int), .string s] w fun e w' =>
    e = .returned (.tuple #[if Pg.uE s no = 0 then shV no (Pg.uK s no, Pg.uT s no) else zerS, .int .i64 (Pg.uE s no : Nat)]) ∧ Below w.heap.size w w' := by
  have HU := Lib.hid (fun w => Pg.unpack_any s (no : Int) w hs)
  obtain ⟨E, hE⟩ : ∃ E, E = Pg.uE s no := ⟨_, rfl⟩
  obtain ⟨K, hK⟩ : ∃ K, K = Pg.uK s no := ⟨_, rfl⟩
  obtain ⟨T, hT⟩ : ∃ T, T = Pg.uT s no := ⟨_, rfl⟩
  rw [← hE, ← hK, ← hT] at HU ⊢
  clear hE hK hT
  by_cases h : E = 0
  · subst h
    rw [if_pos rfl]
    unfold shV
    simp only
    go_enter Tryz.func138, Tryz.ntmps138
    go_wp2_with (go_at_call 194; refine (HU.out _).mono ?_; rintro e w2 ⟨rfl, hb⟩; have O := Own.keep (Own.made w 112 #[.int .i64 0, .int .i64 0, .string ⟨#[]⟩]) hb; obtain ⟨o1, o2, o3⟩ := O.at_)
    refine bodyPost_ret (by simp [results, Tryz.results138, go_sem, *]) rfl ⟨rfl, ?_⟩
    have hb2 := then_ (box_one w 112 #[.int .i64 0, .int .i64 0, .string ⟨#[]⟩]) hb (by simp)
    clear hb o1 o2 o3 O
    repeat' (first | (with_reducible exact Below.refl _ _) | (with_reducible assumption) | (with_reducible refine below_drewN ?_ _) | (with_reducible refine Below.drew ?_) | (with_reducible refine Below.alloc ?_ ?_ _) | (with_reducible refine Below.setCell ?_ ?_ _) | (with_reducible refine then_ ?_ (by with_reducible assumption) ?_) | (with_reducible exact Nat.le_refl _) | (with_reducible exact Nat.le_succ _) | (with_reducible exact Nat.le_succ_of_le (by with_reducible assumption)) | omega | (simp; done) | (simp; omega) | (exact Nat.le_succ _) | (exact Nat.le_succ_of_le (by with_reducible assumption)))
  · rw [if_neg h]
    unfold zerS
    have t0 : ((E : Int) != 0) = true := by simp; omega
    clear h
    go_enter Tryz.func138, Tryz.ntmps138
    go_wp2_with (go_at_call 194; refine (HU.out _).mono ?_; rintro e w2 ⟨rfl, hb⟩; have O := Own.keep (Own.made w 112 #[.int .i64 0, .int .i64 0, .string ⟨#[]⟩]) hb; obtain ⟨o1, o2, o3⟩ := O.at_)
    refine bodyPost_ret (by simp [results, Tryz.results138, go_sem, *]) rfl ⟨rfl, ?_⟩
    have hb2 := then_ (box_one w 112 #[.int .i64 0, .int .i64 0, .string ⟨#[]⟩]) hb (by simp)
    clear hb o1 o2 o3 O
    repeat' (first | (with_reducible exact Below.refl _ _) | (with_reducible assumption) | (with_reducible refine below_drewN ?_ _) | (with_reducible refine Below.drew ?_) | (with_reducible refine Below.alloc ?_ ?_ _) | (with_reducible refine Below.setCell ?_ ?_ _) | (with_reducible refine then_ ?_ (by with_reducible assumption) ?_) | (with_reducible exact Nat.le_refl _) | (with_reducible exact Nat.le_succ _) | (with_reducible exact Nat.le_succ_of_le (by with_reducible assumption)) | omega | (simp; done) | (simp; omega) | (exact Nat.le_succ _) | (exact Nat.le_succ_of_le (by with_reducible assumption)))
theorem mtext_any (f ll : Nat) (w : World) (hf : f ≤ 18446744073709551615) (hl : ll ≤ 18446744073709551615) : Calls Tryz.prog 128 #[.int .u64 (f : Int), .int .u64 (ll : Int)] w fun e w' =>
    e = .returned (.string (⟨(putL f 8).toArray⟩ ++ ⟨(putL ll 4).toArray⟩)) ∧ Below w.heap.size w w' := by
  have H1 := Lib.hid (fun w => show Calls Tryz.prog 120 #[.int .u64 (f : Int), .int .i64 8] w fun e w' => e = .returned (.string ⟨(putL f 8).toArray⟩) ∧ w' = w.alloc (.cells (putCells f 8) 256) from put_yes f 8 w hf (by omega))
  have H2 := Lib.hid (fun w => show Calls Tryz.prog 120 #[.int .u64 (ll : Int), .int .i64 4] w fun e w' => e = .returned (.string ⟨(putL ll 4).toArray⟩) ∧ w' = w.alloc (.cells (putCells ll 4) 256) from put_yes ll 4 w hl (by omega))
  obtain ⟨A, hA, hAz⟩ : ∃ A : ByteArray, A = ⟨(putL f 8).toArray⟩ ∧ A.size = 8 := ⟨_, rfl, by rw [put_text_size, putL_len]⟩
  obtain ⟨B, hB, hBz⟩ : ∃ B : ByteArray, B = ⟨(putL ll 4).toArray⟩ ∧ B.size = 4 := ⟨_, rfl, by rw [put_text_size, putL_len]⟩
  rw [← hA] at H1 ⊢
  rw [← hB] at H2 ⊢
  obtain ⟨C1, hC1⟩ : ∃ C1, C1 = putCells f 8 := ⟨_, rfl⟩
  obtain ⟨C2, hC2⟩ : ∃ C2, C2 = putCells ll 4 := ⟨_, rfl⟩
  rw [← hC1] at H1
  rw [← hC2] at H2
  clear hA hB hC1 hC2
  go_enter Tryz.func128, Tryz.ntmps128
  go_wp2_with (go_at_call 120; first | (with_reducible refine (H1.out _).mono ?_; rintro e w2 ⟨rfl, rfl⟩) | (with_reducible refine (H2.out _).mono ?_; rintro e w2 ⟨rfl, rfl⟩))
  go_ret
  exact ⟨rfl, (box_one _ _ _).alloc (by simp) _⟩
end Go.Proofs.YtndhmidgnpobjaaGreatDoor
end
