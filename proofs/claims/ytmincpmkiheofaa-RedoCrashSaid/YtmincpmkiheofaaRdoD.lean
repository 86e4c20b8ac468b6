
/- The contracts of a log's count and read. Conditions: those that each theorem names. -/
import Derived.Test.YtmincpmkiheofaaRdoC
import Derived.BigGuard
namespace Go.Proofs.Ytmincpmkiheofaa
open Go.ChangeShapes Go.WideShapes Go.ChangeAt Go.RowKit
set_option linter.unusedVariables false
set_option linter.unusedSimpArgs false

/-- what word.Get answers of a mark's text -/
def cN (x : ByteArray) : Nat := if isM x then getN x 8 2 else 0
theorem cN_lt (x : ByteArray) : cN x < 65536 := by
  unfold cN; split
  · have := getN_lt x 8 2; omega
  · omega
theorem get2 (x : ByteArray) (w : World) :
    Calls Try.prog 55 #[.string (mT x), .int .i64 0, .int .i64 2] w fun e w' => (∃ ok : Bool, e = .returned (.tuple #[.int .u64 (cN x : Nat), .bool ok])) ∧ w = w' := by
  cases h : isM x with
  | true =>
    have hz := mT_size x h
    have hx := (of_decide_eq_true h).1
    have e : getN (mT x) 0 2 = cN x := by
      unfold cN mT
      rw [if_pos h, if_pos h, getN_bytes]
      intro i hi
      rw [bN_extract x 8 56 (0 + i) (by omega) (by omega)]
      congr 1; omega
    have := get_yes (mT x) 0 2 w (by omega) (by omega) (by omega)
    rw [e] at this
    refine this.mono ?_
    rintro e w' ⟨rfl, rfl⟩
    exact ⟨⟨true, rfl⟩, rfl⟩
  | false =>
    have e : mT x = ⟨#[]⟩ := by unfold mT; rw [if_neg (by simp [h])]
    have e2 : cN x = 0 := by unfold cN; rw [if_neg (by simp [h])]
    rw [e, e2]
    refine (get_no ⟨#[]⟩ 0 2 w (by decide) (by decide) (by decide) (by decide) (by decide) (by intro hh; exact absurd hh.2.2.2 (by decide))).mono ?_
    rintro e w' ⟨rfl, rfl⟩
    exact ⟨⟨false, rfl⟩, rfl⟩
theorem markB_is (seq n : Nat) : isM (markB seq n) = true := mkB_is seq _ (by rw [cntB_size]; omega)
theorem cnt_cN (x : ByteArray) (seq left : Nat) : cnt x seq left = if cN x ≤ 64 ∧ 1 + 9 * cN x ≤ left ∧ x = markB seq (cN x) then cN x else 0 := by
  cases h : isM x with
  | true =>
    have e : cN x = getN x 8 2 := by unfold cN; rw [if_pos h]
    rw [e]
    unfold cnt
    by_cases h0 : getN x 8 2 = 0
    · rw [if_neg (by omega)]
      split <;> omega
    · by_cases c : getN x 8 2 ≤ 64 ∧ 1 + 9 * getN x 8 2 ≤ left ∧ x = markB seq (getN x 8 2)
      · rw [if_pos c, if_pos ⟨by omega, c⟩]
      · rw [if_neg c, if_neg (fun hh => c hh.2)]
  | false =>
    have e : cN x = 0 := by unfold cN; rw [if_neg (by simp [h])]
    rw [e]
    have hn : ∀ n, x ≠ markB seq n := fun n e => by rw [e, markB_is] at h; cases h
    rw [cnt_no x seq left fun n _ _ => hn n]
    split <;> rfl
section
variable {w : World} {lg d : Nat} {l : LogS}
set_option maxRecDepth 10000 in
set_option maxHeartbeats 1000000 in
theorem count_any (h : LogAt w lg d l) (hk : l.Ok) (x : ByteArray) (hx : x.size ≤ 9223372036854775807) : Calls Try.prog 40 #[.pointer (some ⟨lg, 0, none⟩), .string x] w fun e w' => e = .returned (.int .i64 (cnt x l.next l.left : Nat)) ∧ Below w.heap.size w w' := by
  have HG := Lib.hid (mget_any x w hx)
  have HW := Lib.hid (get2 x)
  have hN := cN_lt x
  have hn := hk.next
  have hl : l.left ≤ 65536 := by have := l.left_le; have := hk.fit; omega
  have HM := Lib.hid (fun w => mof_any l.next (cN x) w hn (by omega))
  have HS := Lib.hid (fun w => sof_any (cN x) w (by omega))
  have HE := Lib.hid (cnt_cN x l.next l.left)
  have H := Lib.hid h
  have HK := Lib.hid hk
  obtain ⟨R, hR⟩ : ∃ R, cnt x l.next l.left = R := ⟨_, rfl⟩
  rw [hR] at HE ⊢
  clear h hk hR
  have hmn := mN_le x
  generalize cN x = N at *
  generalize mN x = MN at *
  generalize mT x = MT at *
  generalize isM x = MI at *
  obtain ⟨M, hM⟩ : ∃ M, M = markB l.next N := ⟨_, rfl⟩
  rw [← hM] at HM HE
  clear hM
  have wN : IntKind.i64.wrap (N : Int) = N := by rw [IntKind.wrap_i64]; omega
  go_enter Try.func40, Try.ntmps40
  go_upto_region 4 with (first
    | (go_at_call 54; refine HG.out.mono ?_; rintro e w1 ⟨rfl, hb1⟩)
    | (go_at_call 55; refine (HW.out _).mono ?_; rintro e w' ⟨⟨ok, rfl⟩, rfl⟩))
  have H1 : LogAt w1 lg d l := Own.keep H.out hb1
  have HL := Lib.hid (left_any H1 HK.out)
  have o4 : w1.cell? ⟨lg, 4, none⟩ = some (.int .u64 (l.next : Int)) := by
    have := (Own.at_ (show Own w1 lg _ (l.cells d) from H1)).1 4
    simpa [LogS.cells] using this
  have L1 := Lib.hid hb1
  replace H1 := Lib.hid H1
  clear hb1
  generalize l.left = LL at *
  have FIN : Hid (∀ (W : World) (r : Nat), Below w1.heap.size w1 W → R = r → Ending.returned (.int .i64 (r : Int)) = Ending.returned (.int .i64 (R : Int)) ∧ Below w.heap.size w W) := Lib.hid fun W r hb e => ⟨by rw [e], then_ L1.out hb L1.out.size⟩
  by_cases c1 : N ≤ 64
  · have d1 : decide ((64 : Int) < (N : Int)) = false := by simp; omega
    by_cases c2 : 1 + 9 * N ≤ LL
    · have d2 : decide ((LL : Int) < 1 + 9 * (N : Int)) = false := by simp; omega
      by_cases c3 : x = M
      · have d3 : (x.toList == M.toList) = true := by rw [c3]; simp
        have e := HE.out
        rw [if_pos ⟨c1, c2, c3⟩] at e
        have E := Lib.hid e
        clear HE e c3
        go_wp2_with (first
          | (go_at_call 35; refine (HS.out _).mono ?_; rintro e w' ⟨rfl, rfl⟩)
          | (go_at_call 22; refine HL.out.mono ?_; rintro e w' ⟨rfl, q, rfl⟩)
          | (go_at_call 49; refine (HM.out _).mono ?_; rintro e w2 ⟨rfl, hb2⟩))
        go_ret
        exact FIN.out _ _ ((below_drewN (Below.refl _ _) q).trans hb2) E.out
      · have d3 : (x.toList == M.toList) = false := str_ne c3
        have e := HE.out
        rw [if_neg (fun hh => c3 hh.2.2)] at e
        have E := Lib.hid e
        clear HE e c3
        go_wp2_with (first
          | (go_at_call 35; refine (HS.out _).mono ?_; rintro e w' ⟨rfl, rfl⟩)
          | (go_at_call 22; refine HL.out.mono ?_; rintro e w' ⟨rfl, q, rfl⟩)
          | (go_at_call 49; refine (HM.out _).mono ?_; rintro e w2 ⟨rfl, hb2⟩))
        go_ret
        exact FIN.out _ _ ((below_drewN (Below.refl _ _) q).trans hb2) E.out
    · have d2 : decide ((LL : Int) < 1 + 9 * (N : Int)) = true := by simp; omega
      have e := HE.out
      rw [if_neg (fun hh => c2 hh.2.1)] at e
      have E := Lib.hid e
      clear HE e
      go_wp2_with (first
        | (go_at_call 35; refine (HS.out _).mono ?_; rintro e w' ⟨rfl, rfl⟩)
        | (go_at_call 22; refine HL.out.mono ?_; rintro e w' ⟨rfl, q, rfl⟩)
        | (go_at_call 49; refine (HM.out _).mono ?_; rintro e w2 ⟨rfl, hb2⟩))
      go_ret
      exact FIN.out _ _ (below_drewN (Below.refl _ _) q) E.out
  · have d1 : decide ((64 : Int) < (N : Int)) = true := by simp; omega
    have e := HE.out
    rw [if_neg (fun hh => c1 hh.1)] at e
    have E := Lib.hid e
    clear HE e
    go_wp2_with (first
      | (go_at_call 35; refine (HS.out _).mono ?_; rintro e w' ⟨rfl, rfl⟩)
      | (go_at_call 22; refine HL.out.mono ?_; rintro e w' ⟨rfl, q, rfl⟩)
      | (go_at_call 49; refine (HM.out _).mono ?_; rintro e w2 ⟨rfl, hb2⟩))
    go_ret
    exact FIN.out _ _ (Below.refl _ _) E.out
end
end Go.Proofs.Ytmincpmkiheofaa
