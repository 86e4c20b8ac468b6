/- merged: The contracts of a log's count and read. Conditions: those that each theorem names. The contract of a log's read. Conditions: a disk that isn't down, sectors that there are. -/
import Derived.Test.YtndhmidgnpobjaaGreatDoorRdoC
import Derived.BigGuard
section
namespace Go.Proofs.YtndhmidgnpobjaaGreatDoor
open Go.ChangeShapes Go.WideShapes Go.ChangeAt Go.RowKit
set_option linter.unusedVariables false
set_option linter.unusedSimpArgs false

/-- what word.Get answers of a mark's text -/
def cN (x : ByteArray) : Nat := if isM x then getN x 8 2 else 0
theorem cN_lt (x : ByteArray) : cN x < 65536 := by
  unfold cN; split
  · have := getN_lt x 8 2; omega
  · omega
theorem get2 (x : ByteArray) (w : World) :
    Calls Tryz.prog 132 #[.string (mT x), .int .i64 0, .int .i64 2] w fun e w' => (∃ ok : Bool, e = .returned (.tuple #[.int .u64 (cN x : Nat), .bool ok])) ∧ w = w' := by
  cases h : isM x with
  | true =>
    have hz := mT_size x h
    have hx := (of_decide_eq_true h).1
    have e : getN (mT x) 0 2 = cN x := by
      unfold cN mT
      rw [if_pos h, if_pos h, getN_bytes]
      intro i hi
      rw [bN_extract x 8 56 (0 + i) (by omega) (by omega)]
      congr 1; omega
    have := get_yes (mT x) 0 2 w (by omega) (by omega) (by omega)
    rw [e] at this
    refine this.mono ?_
    rintro e w' ⟨rfl, rfl⟩
    exact ⟨⟨true, rfl⟩, rfl⟩
  | false =>
    have e : mT x = ⟨#[]⟩ := by unfold mT; rw [if_neg (by simp [h])]
    have e2 : cN x = 0 := by unfold cN; rw [if_neg (by simp [h])]
    rw [e, e2]
    refine (get_no ⟨#[]⟩ 0 2 w (by decide) (by decide) (by decide) (by decide) (by decide) (by intro hh; exact absurd hh.2.2.2 (by decide))).mono ?_
    rintro e w' ⟨rfl, rfl⟩
    exact ⟨⟨false, rfl⟩, rfl⟩
theorem markB_is (seq n : Nat) : isM (markB seq n) = true := mkB_is seq _ (by rw [cntB_size]; omega)
theorem cnt_cN (x : ByteArray) (seq left : Nat) : cnt x seq left = if cN x ≤ 64 ∧ 1 + 9 * cN x ≤ left ∧ x = markB seq (cN x) then cN x else 0 := by
  cases h : isM x with
  | true =>
    have e : cN x = getN x 8 2 := by unfold cN; rw [if_pos h]
    rw [e]
    unfold cnt
    by_cases h0 : getN x 8 2 = 0
    · rw [if_neg (by omega)]
      split <;> omega
    · by_cases c : getN x 8 2 ≤ 64 ∧ 1 + 9 * getN x 8 2 ≤ left ∧ x = markB seq (getN x 8 2)
      · rw [if_pos c, if_pos ⟨by omega, c⟩]
      · rw [if_neg c, if_neg (fun hh => c hh.2)]
  | false =>
    have e : cN x = 0 := by unfold cN; rw [if_neg (by simp [h])]
    rw [e]
    have hn : ∀ n, x ≠ markB seq n := fun n e => by rw [e, markB_is] at h; cases h
    rw [cnt_no x seq left fun n _ _ => hn n]
    split <;> rfl
section
variable {w : World} {lg d : Nat} {l : LogS}
set_option maxRecDepth 10000 in
set_option maxHeartbeats 1000000 in
theorem count_any (h : LogAt w lg d l) (hk : l.Ok) (x : ByteArray) (hx : x.size ≤ 9223372036854775807) : Calls Tryz.prog 190 #[.pointer (some ⟨lg, 0, none⟩), .string x] w fun e w' => e = .returned (.int .i64 (cnt x l.next l.left : Nat)) ∧ Below w.heap.size w w' := by
  have HG := Lib.hid (mget_any x w hx)
  have HW := Lib.hid (get2 x)
  have hN := cN_lt x
  have hn := hk.next
  have hl : l.left ≤ 65536 := by have := l.left_le; have := hk.fit; omega
  have HM := Lib.hid (fun w => mof_any l.next (cN x) w hn (by omega))
  have HS := Lib.hid (fun w => sof_any (cN x) w (by omega))
  have HE := Lib.hid (cnt_cN x l.next l.left)
  have H := Lib.hid h
  have HK := Lib.hid hk
  obtain ⟨R, hR⟩ : ∃ R, cnt x l.next l.left = R := ⟨_, rfl⟩
  rw [hR] at HE ⊢
  clear h hk hR
  have hmn := mN_le x
  generalize cN x = N at *
  generalize mN x = MN at *
  generalize mT x = MT at *
  generalize isM x = MI at *
  obtain ⟨M, hM⟩ : ∃ M, M = markB l.next N := ⟨_, rfl⟩
  rw [← hM] at HM HE
  clear hM
  have wN : IntKind.i64.wrap (N : Int) = N := by rw [IntKind.wrap_i64]; omega
  go_enter Tryz.func190, Tryz.ntmps190
  go_upto_region 4 with (first
    | (go_at_call 185; refine HG.out.mono ?_; rintro e w1 ⟨rfl, hb1⟩)
    | (go_at_call 132; refine (HW.out _).mono ?_; rintro e w' ⟨⟨ok, rfl⟩, rfl⟩))
  have H1 : LogAt w1 lg d l := Own.keep H.out hb1
  have HL := Lib.hid (left_any H1 HK.out)
  have o4 : w1.cell? ⟨lg, 4, none⟩ = some (.int .u64 (l.next : Int)) := by
    have := (Own.at_ (show Own w1 lg _ (l.cells d) from H1)).1 4
    simpa [LogS.cells] using this
  have L1 := Lib.hid hb1
  replace H1 := Lib.hid H1
  clear hb1
  generalize l.left = LL at *
  have FIN : Hid (∀ (W : World) (r : Nat), Below w1.heap.size w1 W → R = r → Ending.returned (.int .i64 (r : Int)) = Ending.returned (.int .i64 (R : Int)) ∧ Below w.heap.size w W) := Lib.hid fun W r hb e => ⟨by rw [e], then_ L1.out hb L1.out.size⟩
  by_cases c1 : N ≤ 64
  · have d1 : decide ((64 : Int) < (N : Int)) = false := by simp; omega
    by_cases c2 : 1 + 9 * N ≤ LL
    · have d2 : decide ((LL : Int) < 1 + 9 * (N : Int)) = false := by simp; omega
      by_cases c3 : x = M
      · have d3 : (x.toList == M.toList) = true := by rw [c3]; simp
        have e := HE.out
        rw [if_pos ⟨c1, c2, c3⟩] at e
        have E := Lib.hid e
        clear HE e c3
        go_wp2_with (first
          | (go_at_call 192; refine (HS.out _).mono ?_; rintro e w' ⟨rfl, rfl⟩)
          | (go_at_call 188; refine HL.out.mono ?_; rintro e w' ⟨rfl, q, rfl⟩)
          | (go_at_call 227; refine (HM.out _).mono ?_; rintro e w2 ⟨rfl, hb2⟩))
        go_ret
        exact FIN.out _ _ ((below_drewN (Below.refl _ _) q).trans hb2) E.out
      · have d3 : (x.toList == M.toList) = false := str_ne c3
        have e := HE.out
        rw [if_neg (fun hh => c3 hh.2.2)] at e
        have E := Lib.hid e
        clear HE e c3
        go_wp2_with (first
          | (go_at_call 192; refine (HS.out _).mono ?_; rintro e w' ⟨rfl, rfl⟩)
          | (go_at_call 188; refine HL.out.mono ?_; rintro e w' ⟨rfl, q, rfl⟩)
          | (go_at_call 227; refine (HM.out _).mono ?_; rintro e w2 ⟨rfl, hb2⟩))
        go_ret
        exact FIN.out _ _ ((below_drewN (Below.refl _ _) q).trans hb2) E.out
    · have d2 : decide ((LL : Int) < 1 + 9 * (N : Int)) = true := by simp; omega
      have e := HE.out
      rw [if_neg (fun hh => c2 hh.2.1)] at e
      have E := Lib.hid e
      clear HE e
      go_wp2_with (first
        | (go_at_call 192; refine (HS.out _).mono ?_; rintro e w' ⟨rfl, rfl⟩)
        | (go_at_call 188; refine HL.out.mono ?_; rintro e w' ⟨rfl, q, rfl⟩)
        | (go_at_call 227; refine (HM.out _).mono ?_; rintro e w2 ⟨rfl, hb2⟩))
      go_ret
      exact FIN.out _ _ (below_drewN (Below.refl _ _) q) E.out
  · have d1 : decide ((64 : Int) < (N : Int)) = true := by simp; omega
    have e := HE.out
    rw [if_neg (fun hh => c1 hh.1)] at e
    have E := Lib.hid e
    clear HE e
    go_wp2_with (first
      | (go_at_call 192; refine (HS.out _).mono ?_; rintro e w' ⟨rfl, rfl⟩)
      | (go_at_call 188; refine HL.out.mono ?_; rintro e w' ⟨rfl, q, rfl⟩)
      | (go_at_call 227; refine (HM.out _).mono ?_; rintro e w2 ⟨rfl, hb2⟩))
    go_ret
    exact FIN.out _ _ (Below.refl _ _) E.out
end
end Go.Proofs.YtndhmidgnpobjaaGreatDoor
end
section
namespace Go.Proofs.YtndhmidgnpobjaaGreatDoor
open Go.ChangeShapes Go.WideShapes Go.ChangeAt Go.RowKit
set_option linter.unusedVariables false
set_option linter.unusedSimpArgs false

/-- what is read of a sector -/
def vw (s : St) (k : Nat) : ByteArray := match lastOf s.wr (k : Int) with | some x => x.2 | none => secOf s.sure (k : Int)
theorem rres_vw (n : Nat) (s : St) (hd : s.down = false) (k : Nat) (hk : k < n) : rres n s (k : Int) = (vw s k, 0) := by
  unfold rres vw
  rw [hd, if_neg (by simp), if_neg (by omega)]
  cases lastOf s.wr (k : Int) <;> rfl
theorem vw_size {n : Nat} {s : St} (h : s.Ok n) (k : Nat) (hk : k < n) : (vw s k).size = 64 := by
  unfold vw
  cases hl : lastOf s.wr (k : Int) with
  | some x => exact (h.wr x (lastOf_mem hl).1).2
  | none =>
    show (((s.sure.drop ((k : Int).toNat * 64)).take 64).toArray).size = 64
    have := h.len
    simp
    omega
section
variable {w : World} {lg d sb mb sc : Nat} {wv : Value} {N : Nat} {s : St} {l : LogS}
set_option maxRecDepth 10000 in
set_option maxHeartbeats 1000000 in
theorem lread_any (hL : LogAt w lg d l) (hD : DiskAt w d sb mb sc wv N s) (hd : s.down = false) (at_ n : Nat) (hn : n ≤ 1000) (hf : l.from_ + l.used + at_ + n ≤ N) :
    Calls Tryz.prog 189 #[.pointer (some ⟨lg, 0, none⟩), .int .i64 (at_ : Int), .int .i64 (n : Int)] w fun e w' => ∃ b, e = .returned (.tuple #[.slice (some ⟨b, 0, none⟩) n n, .int .i64 0]) ∧ Own w' b 9 (rowS n (fun i => vw s (l.from_ + l.used + at_ + i)) n) ∧ w.heap.size ≤ b ∧ Below w.heap.size w w' := by
  have hN := hD.ok.max
  obtain ⟨g, hg⟩ : ∃ g : Nat → ByteArray, g = fun i => vw s (l.from_ + l.used + at_ + i) := ⟨_, rfl⟩
  have HR := Lib.hid (fun (k : Nat) (hk : k < n) (W : World) (hD : DiskAt W d sb mb sc wv N s) => show Calls Tryz.prog 130 #[.pointer (some ⟨d, 0, none⟩), .int .i64 ((l.from_ + l.used + at_ + k : Nat) : Int)] W fun e w' => e = .returned (.tuple #[.string (g k), .int .i64 0]) ∧ Below W.heap.size W w' from (by
    have := read_any hD ((l.from_ + l.used + at_ + k : Nat) : Int) (wf_mk (by omega) (by omega))
    rw [rres_vw N s hd _ (by omega)] at this
    rw [hg]
    exact this))
  rw [← hg]
  have HL := Lib.hid hL
  have HD := Lib.hid hD
  have HM := make_strs n (by omega) g w
  have HO := Own.made w 9 (rowS n g 0)
  obtain ⟨W0, hW0⟩ : ∃ W0, W0 = w.alloc (.cells (rowS n g 0) 9) := ⟨_, rfl⟩
  have L0 : Below w.heap.size w W0 := hW0 ▸ (Below.refl _ _).alloc (Nat.le_refl _) _
  rw [← hW0] at HM HO
  replace HO := Lib.hid HO
  replace L0 := Lib.hid L0
  clear hW0 hL hD hd hg
  obtain ⟨fr, sz, us, nx, fl⟩ := l
  simp only at hf HR
  go_enter Tryz.func189, Tryz.ntmps189
  go_wp2
  clear HM
  go_loopw [16] (fun i wr => ∃ k : Nat, k ≤ n ∧ i = .int .i64 k ∧ Own wr w.heap.size 9 (rowS n g k) ∧ Below w.heap.size w wr) (fun i wr => n - (intOf i).toNat)
  case atStart => exact ⟨0, by omega, rfl, HO.out, L0.out⟩
  case round =>
    obtain ⟨k, hk, rfl, hO, hL⟩ := hrel
    have hsz := hL.size
    replace hO := Lib.hid hO
    replace hL := Lib.hid hL
    by_cases hlt : k < n
    · have O1 : Own wr lg 207 #[.pointer (some ⟨d, 0, none⟩), .int .i64 (fr : Int), .int .i64 (sz : Int), .int .i64 (us : Int), .int .u64 (nx : Int), .bool fl] := Own.keep HL.out hL.out
      replace O1 := Lib.hid O1
      have R1 := Lib.hid (HR.out k hlt wr.drew (HD.out.below hL.out.drew))
      have e1 : ((fr + us + at_ + k : Nat) : Int) = (fr : Int) + (us : Int) + (at_ : Int) + (k : Int) := by omega
      rw [e1] at R1
      clear e1
      go_upto_region 5 with fail
      refine wp_region_seq (fun W => Own W lg 207 #[.pointer (some ⟨d, 0, none⟩), .int .i64 (fr : Int), .int .i64 (sz : Int), .int .i64 (us : Int), .int .u64 (nx : Int), .bool fl]) (0 :: 1 :: 2 :: 3 :: 4 :: 5 :: 6 :: 7 :: 8 :: 9 :: 10 :: 11 :: 12 :: 13 :: 14 :: 15 :: 16 :: 18 :: 19 :: 20 :: 21 :: 22 :: []) (3 :: 7 :: 11 :: []) (0 :: 1 :: 2 :: 3 :: 4 :: 5 :: 6 :: 7 :: 8 :: 9 :: 10 :: 11 :: 12 :: 13 :: 14 :: 15 :: 16 :: 17 :: 18 :: 19 :: 20 :: 21 :: 22 :: []) (by kernel_rfl) (by kernel_rfl) rfl (by kernel_rfl) rfl (O1.out.drawn) (by simp only [picked, List.filterMap_cons, List.filterMap_nil, List.getElem?_cons_zero, List.getElem?_cons_succ, Option.map_some]; exact rfl) ?_
      iterate 17
        refine seq_want (v := ?_) rfl rfl (fun W hS => ?_) ?_
        rotate_left
        · first
            | (conv => lhs; simp [go_sem]
               first | done | exact rfl)
            | (have hS := hS rfl
               obtain ⟨q1, q2, q3⟩ := Own.at_ hS
               conv => lhs; simp [go_sem, *]
               first | done | exact rfl)
        simp only [Act.put, List.setIfInBounds_toArray, List.set_cons_zero, List.set_cons_succ]
      refine seq_on rfl rfl fun K hK => ?_
      go_wp2_with fail
      refine R1.out.mono ?_
      rintro e w2 ⟨rfl, hb2⟩
      go_wp2
      refine hK _ _ (Own.keep O1.out.drawn hb2) ?_
      clear hK K
      iterate 5
        refine seq_want (v := ?_) rfl rfl (fun W hS => ?_) ?_
        rotate_left
        · conv => lhs; simp [go_sem]
          first | done | exact rfl
        simp only [Act.put, List.setIfInBounds_toArray, List.set_cons_zero, List.set_cons_succ]
      refine seq_end ?_
      have hL2 := Lib.hid (then_ hL.out.drew hb2 hL.out.drew.size)
      have hO2 : Own w2 w.heap.size 9 (rowS n g k) := Own.keep hO.out.drawn hb2
      obtain ⟨c1, c2, c3⟩ := hO2.at_
      have c4 := c1 k
      rw [rowS_get n g k k hlt] at c4
      have c5 := c2 k
      replace hO2 := Lib.hid hO2
      clear c1 c2 hb2
      go_wp2
      go_roundw
      case rel =>
        refine ⟨k + 1, by omega, by go_num, ?_, hL2.out.setCell (Nat.le_refl _) _⟩
        have := hO2.out.put k (.string (g k))
        rw [rowS_set n g k hlt] at this
        exact this
      case measure => simp [intOf]; omega
    · obtain rfl : k = n := by omega
      go_wp2
      go_ret2
      exact ⟨_, rfl, hO.out, Nat.le_refl _, hL.out⟩
end
end Go.Proofs.YtndhmidgnpobjaaGreatDoor
end
