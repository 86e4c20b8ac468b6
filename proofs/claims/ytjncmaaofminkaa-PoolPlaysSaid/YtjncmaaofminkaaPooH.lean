
/- The document's example of a pool: the contract of the law's awake. Conditions: none. -/
import Derived.Test.YtjncmaaofminkaaPooG
namespace Go.Proofs.Ytjncmaaofminkaa
open Go.ChangeShapes Go.WideShapes Go.ChangeAt Go.RowKit
set_option linter.unusedVariables false
set_option linter.unusedSimpArgs false

section
variable {w w' : World} {B p n c : Nat} {R R' : List RF}
theorem chgPT {w w' : World} {B : Nat} (h : Chg (PT w B) w w') (hB : B ≤ w.heap.size) : Below B w w' := h.below hB fun q hq => hq.1
theorem new_at (n : Nat) (h1 : 1 ≤ n) (h2 : n ≤ 65536) (w : World) : Calls Try.prog 7 #[.int .i64 (n : Int)] w fun e w' => ∃ p, e = .returned (.tuple #[.pointer (some ⟨p, 0, none⟩), .int .i64 0]) ∧ PoolAt w' w.heap.size p n 0 [] ∧ Below w.heap.size w w' := by
  refine (new_any n h1 h2 w w.heap.size (Nat.le_refl _)).mono ?_
  rintro e w' ⟨p, m, rfl, hM, hb⟩
  exact ⟨p, rfl, ⟨m, 0, [], hM, ⟨List.Pairwise.nil, by simp⟩, Nat.le_refl _, rfl, ⟨by simp, by simp, by simp, by simp⟩, h1, h2⟩, hb⟩
theorem put_eq (h : PoolAt w B p n c R) {no : Int} {s : ByteArray} (hs : s.size ≤ 281474976710656) (hc : c < 1000000) {r : Int} (e : putR R n no s = (r, R')) : Calls Try.prog 12 #[.pointer (some ⟨p, 0, none⟩), .int .i64 no, .string s] w fun e w' =>
    e = .returned (.int .i64 r) ∧ PoolAt w' B p n (c + 1) R' ∧ Below B w w' := by
  have hb := h.base
  have := put_any h no s hs hc
  rw [e] at this
  exact this.mono fun e w' ⟨h1, h2, h3⟩ => ⟨h1, h2, chgPT h3 hb⟩
theorem set_eq (h : PoolAt w B p n c R) {no : Int} {s : ByteArray} (hs : s.size ≤ 281474976710656) (hc : c < 1000000) {r : Int} (e : setR R n no s = (r, R')) : Calls Try.prog 8 #[.pointer (some ⟨p, 0, none⟩), .int .i64 no, .string s] w fun e w' =>
    e = .returned (.int .i64 r) ∧ PoolAt w' B p n (c + 1) R' ∧ Below B w w' := by
  have hb := h.base
  have := set_any h no s hs hc
  rw [e] at this
  exact this.mono fun e w' ⟨h1, h2, h3⟩ => ⟨h1, h2, chgPT h3 hb⟩
theorem get_eq (h : PoolAt w B p n c R) {no : Int} (hc : c < 1000000) {s : ByteArray} {b : Bool} (e : getR R no = ((s, b), R')) : Calls Try.prog 11 #[.pointer (some ⟨p, 0, none⟩), .int .i64 no] w fun e w' =>
    e = .returned (.tuple #[.string s, .bool b]) ∧ PoolAt w' B p n (c + 1) R' ∧ Below B w w' := by
  have hb := h.base
  have := get_any h no hc
  rw [e] at this
  exact this.mono fun e w' ⟨h1, h2, h3⟩ => ⟨h1, h2, chgPT h3 hb⟩
end
set_option maxRecDepth 10000 in
set_option maxHeartbeats 1000000 in
theorem awake_any (w : World) : Calls Try.prog 6 #[] w fun e w' => e = .returned (.bool true) ∧ Below w.heap.size w w' := by
  have HN := Lib.hid (new_at 2 (by decide) (by decide) w)
  go_enter Try.func6, Try.ntmps6
  go_upto_region 2 with (go_at_call 7; refine HN.out.mono ?_; rintro e w1 ⟨p, rfl, hp1, hb1⟩; have P1 := Lib.hid hp1; have B1 := Lib.hid hb1; clear hp1 hb1)
  go_upto_region 3 with (go_at_call 12; refine (put_eq P1.out (s := ⟨#[97]⟩) (R' := [⟨1, ⟨#[97]⟩, false, 0⟩]) (r := 0) (by decide) (by decide) (by rfl)).mono ?_; rintro e w2 ⟨rfl, hp2, hb2⟩; have P2 := Lib.hid hp2; have B2 := Lib.hid (B1.out.trans hb2); clear hp2 hb2)
  go_upto_region 4 with (go_at_call 12; refine (put_eq P2.out (s := ⟨#[98]⟩) (R' := [⟨1, ⟨#[97]⟩, false, 0⟩, ⟨2, ⟨#[98]⟩, false, 0⟩]) (r := 0) (by decide) (by decide) (by rfl)).mono ?_; rintro e w3 ⟨rfl, hp3, hb3⟩; have P3 := Lib.hid hp3; have B3 := Lib.hid (B2.out.trans hb3); clear hp3 hb3)
  go_upto_region 5 with (go_at_call 11; refine (get_eq P3.out (s := ⟨#[97]⟩) (b := true) (R' := [⟨2, ⟨#[98]⟩, false, 0⟩, ⟨1, ⟨#[97]⟩, false, 0⟩]) (by decide) (by rfl)).mono ?_; rintro e w4 ⟨rfl, hp4, hb4⟩; have P4 := Lib.hid hp4; have B4 := Lib.hid (B3.out.trans hb4); clear hp4 hb4)
  go_upto_region 6 with (go_at_call 12; refine (put_eq P4.out (s := ⟨#[99]⟩) (R' := [⟨1, ⟨#[97]⟩, false, 0⟩, ⟨3, ⟨#[99]⟩, false, 0⟩]) (r := 0) (by decide) (by decide) (by rfl)).mono ?_; rintro e w5 ⟨rfl, hp5, hb5⟩; have P5 := Lib.hid hp5; have B5 := Lib.hid (B4.out.trans hb5); clear hp5 hb5)
  go_upto_region 7 with (go_at_call 11; refine (get_eq P5.out (s := ⟨#[]⟩) (b := false) (R' := [⟨1, ⟨#[97]⟩, false, 0⟩, ⟨3, ⟨#[99]⟩, false, 0⟩]) (by decide) (by rfl)).mono ?_; rintro e w6 ⟨rfl, hp6, hb6⟩; have P6 := Lib.hid hp6; have B6 := Lib.hid (B5.out.trans hb6); clear hp6 hb6)
  go_upto_region 8 with (go_at_call 8; refine (set_eq P6.out (s := ⟨#[120]⟩) (R' := [⟨3, ⟨#[99]⟩, false, 0⟩, ⟨1, ⟨#[120]⟩, true, 0⟩]) (r := 0) (by decide) (by decide) (by rfl)).mono ?_; rintro e w7 ⟨rfl, hp7, hb7⟩; have P7 := Lib.hid hp7; have B7 := Lib.hid (B6.out.trans hb7); clear hp7 hb7)
  go_upto_region 9 with (go_at_call 8; refine (set_eq P7.out (s := ⟨#[121]⟩) (R' := [⟨1, ⟨#[120]⟩, true, 0⟩, ⟨3, ⟨#[121]⟩, true, 0⟩]) (r := 0) (by decide) (by decide) (by rfl)).mono ?_; rintro e w8 ⟨rfl, hp8, hb8⟩; have P8 := Lib.hid hp8; have B8 := Lib.hid (B7.out.trans hb8); clear hp8 hb8)
  go_wp2_with (first
    | (go_at_call 12; refine (put_eq P8.out (s := ⟨#[100]⟩) (R' := [⟨1, ⟨#[120]⟩, true, 0⟩, ⟨3, ⟨#[121]⟩, true, 0⟩]) (r := 8) (by decide) (by decide) (by rfl)).mono ?_; rintro e w9 ⟨rfl, hp9, hb9⟩; have P9 := Lib.hid hp9; have B9 := Lib.hid (B8.out.trans hb9); clear hp9 hb9)
    | (go_at_call 15; refine (len_any P9.out).mono ?_; rintro e w' ⟨rfl, rfl⟩))
  go_ret
  exact ⟨rfl, B9.out⟩
end Go.Proofs.Ytjncmaaofminkaa
