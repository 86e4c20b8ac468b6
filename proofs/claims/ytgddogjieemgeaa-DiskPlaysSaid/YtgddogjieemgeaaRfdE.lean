
/- The contract of the document's disk's Crash. Conditions: those that each theorem names. -/
import Derived.Test.YtgddogjieemgeaaRfdD
namespace Go.Proofs.Ytgddogjieemgeaa
open Go.ChangeShapes Go.WideShapes Go.ChangeAt Go.RowKit
set_option linter.unusedVariables false
set_option linter.unusedSimpArgs false

section
variable {w : World} {r : Nat} {wv : Value} {n : Nat} {s : St}
set_option maxHeartbeats 2000000 in
theorem rcrash_any (h : RefAt w r wv n s) (a : Option Addr) (len cap : Nat) (zs : List Bool) (torn bytes : Int) (hz : IsBools w a len cap zs) (hsb : ∀ b o, a = some ⟨b, o, none⟩ → 0 < len → b ≠ r) :
    Calls Try.prog 22 #[.pointer (some ⟨r, 0, none⟩), .slice a len cap, .int .i64 torn, .int .i64 bytes] w fun e w' => e = .returned (.tuple #[]) ∧ RefAt w' r (.slice none 0 0) n (cres s len zs torn bytes) ∧ Chg (rfp r wv) w w' := by
  have D := Lib.hid h
  obtain ⟨va, vc, hv, hv1, hv2⟩ := h.slice
  subst hv
  have hfew := h.ok.few
  have hmx := h.ok.max
  clear h
  obtain ⟨m, hm⟩ : ∃ m, m = s.wr.length := ⟨_, rfl⟩
  rw [← hm] at hv1 hfew
  replace hm := Lib.hid hm
  unfold maxLen at hv2
  obtain ⟨hz1, hz2, hz3⟩ := hz
  unfold maxLen at hz2
  have hlen : len ≤ 9223372036854775807 := by omega
  replace hz3 := Lib.hid hz3
  replace hsb := Lib.hid hsb
  go_enter Try.func22, Try.ntmps22
  go_upto_if 11 with fail
  go_cut [3] (fun v wx => v = .int .i64 (if bytes < 0 then 0 else bytes) ∧ wx = w)
  case first =>
    by_cases c1 : bytes < 0
    · go_wp2
      go_meet
      exact ⟨by rw [if_pos c1], rfl⟩
    · go_wp2
      go_meet
      exact ⟨by rw [if_neg (by omega)], rfl⟩
  case rest =>
  obtain ⟨rfl, hw⟩ := hcut
  replace hw := hw.symm
  subst hw
  obtain ⟨b1, hb1⟩ : ∃ b1, b1 = (if bytes < 0 then 0 else bytes) := ⟨_, rfl⟩
  rw [← hb1]
  have hb1' : b1 = (bytes.toNat : Int) := by rw [hb1]; split <;> omega
  have hb0 : 0 ≤ b1 := by omega
  clear hb1
  replace hb1' := Lib.hid hb1'
  go_upto_if 13 with fail
  go_cut [3] (fun v wx => v = .int .i64 (min bytes.toNat 64 : Nat) ∧ wx = w)
  case first =>
    by_cases c1 : 64 < b1
    · go_wp2
      go_meet
      exact ⟨by have := hb1'.out; congr 1; omega, rfl⟩
    · go_wp2
      go_meet
      exact ⟨by have := hb1'.out; congr 1; omega, rfl⟩
  case rest =>
  obtain ⟨rfl, hw⟩ := hcut
  replace hw := hw.symm
  subst hw
  obtain ⟨B, hB⟩ : ∃ B : Nat, B = min bytes.toNat 64 := ⟨_, rfl⟩
  rw [← hB]
  replace hB := Lib.hid hB
  obtain ⟨o1, o2, o3⟩ := D.out.own.at_
  go_wp2
  clear o1 o2 o3
  go_loopw [8] (fun i wr => ∃ k : Nat, k ≤ m ∧ i = .int .i64 k ∧ Chg (· = r) w wr ∧ Own wr r 49 #[.string (strOf (settled (ckeep len zs torn bytes) (s.wr.take k) 0 s.sure)), .slice va m vc, .int .i64 s.fuse, .bool s.down]) (fun i wr => m - (intOf i).toNat)
  case atStart => exact ⟨0, by omega, rfl, Chg.refl _ _, by rw [hm.out]; exact D.out.own⟩
  case round =>
    obtain ⟨k, hk, rfl, hc, hO⟩ := hrel
    have hsl : (settled (ckeep len zs torn bytes) (s.wr.take k) 0 s.sure).length = n * 64 := settled_len _ n _ _ _ D.out.ok.len fun y hy => D.out.ok.wr y (List.mem_of_mem_take hy)
    obtain ⟨Lk, hLk⟩ : ∃ Lk, Lk = settled (ckeep len zs torn bytes) (s.wr.take k) 0 s.sure := ⟨_, rfl⟩
    rw [← hLk] at hO hsl
    replace hLk := Lib.hid hLk
    replace hsl := Lib.hid hsl
    obtain ⟨o1, o2, o3⟩ := hO.at_
    replace hO := Lib.hid hO
    replace hc := Lib.hid hc
    by_cases hlt : k < m
    · obtain ⟨g, c, hg, w2, w3⟩ := D.out.wcell k (by rw [← hm.out]; exact hlt)
      obtain rfl : va = some ⟨g, 0, none⟩ := by simpa using (Value.slice.inj hg).1
      obtain ⟨x, hx⟩ : ∃ x, x = s.wr[k]'(by rw [← hm.out]; exact hlt) := ⟨_, rfl⟩
      rw [← hx] at w2 w3
      have xm : x ∈ s.wr := hx ▸ List.getElem_mem _
      have hxw := D.out.ok.wr x xm
      have EL : s.wr.take (k + 1) = s.wr.take k ++ [x] := by rw [hx, List.take_succ_eq_append_getElem]
      replace EL := Lib.hid EL
      obtain ⟨x1, x2⟩ := x
      clear hx hg xm
      simp only at w2 w3 hxw
      obtain ⟨hx1, hx2⟩ := hxw
      have hgr : ¬ g = r := D.out.ne g rfl
      have w2 := hc.out.cell w2 hgr
      have w3 := hc.out.cell w3 hgr
      obtain ⟨kb, hkb⟩ : ∃ kb, kb = (decide (k < len) && zs.getD k false) := ⟨_, rfl⟩
      replace hkb := Lib.hid hkb
      replace w2 := Lib.hid w2
      replace w3 := Lib.hid w3
      go_upto_region 8 with fail
      go_cut [32] (fun v wx => v = .bool kb ∧ wx = wr)
      case first =>
        by_cases c2 : k < len
        · rcases hz3.out with h | ⟨b, o, rfl, hcell⟩
          · omega
          have hcj := hcell k c2
          have hcj := hc.out.cell hcj (hsb.out b o rfl (by omega))
          obtain ⟨y, hy⟩ : ∃ y, y = zs.getD k false := ⟨_, rfl⟩
          rw [← hy] at hcj
          have e := hkb.out
          rw [← hy] at e
          have e : kb = y := by rw [e]; simp [c2]
          replace e := Lib.hid e
          clear hy hcell
          go_wp2
          go_meet
          exact ⟨congrArg Value.bool e.out.symm, rfl⟩
        · have e : kb = false := by rw [hkb.out]; simp [c2]
          replace e := Lib.hid e
          go_wp2
          go_meet
          exact ⟨congrArg Value.bool e.out.symm, rfl⟩
      case rest =>
      obtain ⟨rfl, hw⟩ := hcut
      replace hw := hw.symm
      subst hw
      go_upto_if 32 with fail
      go_cut [9] (fun v wx => v = .int .i64 ((if kb = true then 64 else 0 : Nat) : Int) ∧ wx = wr)
      case first =>
        cases kb with
        | true =>
          go_wp2
          go_meet
          exact ⟨rfl, rfl⟩
        | false =>
          go_wp2
          go_meet
          exact ⟨rfl, rfl⟩
      case rest =>
      obtain ⟨rfl, hw⟩ := hcut
      replace hw := hw.symm
      subst hw
      obtain ⟨q1, hq1⟩ : ∃ q1 : Nat, q1 = if kb = true then 64 else 0 := ⟨_, rfl⟩
      rw [← hq1]
      replace hq1 := Lib.hid hq1
      obtain ⟨q, hq⟩ : ∃ q : Nat, q = if (k : Int) = torn then B else q1 := ⟨_, rfl⟩
      replace hq := Lib.hid hq
      go_upto_if 35 with fail
      go_cut [9] (fun v wx => v = .int .i64 (q : Int) ∧ wx = wr)
      case first =>
        by_cases c3 : (k : Int) = torn
        · have t1 : ((k : Int) == torn) = true := by rw [beq_iff_eq]; exact c3
          have e : q = B := by rw [hq.out, if_pos c3]
          replace e := Lib.hid e
          clear c3
          go_wp2
          go_meet
          exact ⟨by rw [e.out], rfl⟩
        · have t1 : ((k : Int) == torn) = false := by rw [beq_eq_false_iff_ne]; exact c3
          have e : q = q1 := by rw [hq.out, if_neg c3]
          replace e := Lib.hid e
          clear c3
          go_wp2
          go_meet
          exact ⟨by rw [e.out], rfl⟩
      case rest =>
      obtain ⟨rfl, hw⟩ := hcut
      replace hw := hw.symm
      subst hw
      have hqk : q = ckeep len zs torn bytes k := by
        rw [hq.out, hq1.out, hkb.out, hB.out]
        unfold ckeep
        split
        · rfl
        · by_cases e1 : k < len <;> cases e2 : zs.getD k false <;> simp [e1]
      have hq64 : q ≤ 64 := hqk ▸ ckeep_le _ _ _ _ _
      replace hqk := Lib.hid hqk
      replace hkb := Lib.hid hkb.out
      clear hkb hq hq1
      have us : (x2.extract 0 q).size = q := by rw [ByteArray.size_extract]; omega
      have HP := put_any wr.drew Lk (x1 * 64) (x2.extract 0 q) (by rw [us, hsl.out]; omega) (by rw [hsl.out]; omega)
      rw [show ((x1 * 64 : Nat) : Int) = (x1 : Int) * 64 by omega] at HP
      replace HP := Lib.hid HP
      have hkm : (k : Int) < m := by omega
      have hk0 : (0 : Int) ≤ k := by omega
      have mul1 : IntKind.i64.wrap ((x1 : Int) * 64) = (x1 : Int) * 64 := by rw [IntKind.wrap_i64]; omega
      have g1 : (0 : Int) ≤ q := by omega
      have g2 : (q : Int) ≤ x2.size := by omega
      have g3 : q ≤ x2.size := by omega
      replace hx2 := Lib.hid hx2
      clear us
      replace w2 := w2.out
      replace w3 := w3.out
      go_upto_region 12 with fail
      refine wp_region_seq (fun W => Own W r 49 #[.string (strOf Lk), .slice (some ⟨g, 0, none⟩) m vc, .int .i64 s.fuse, .bool s.down] ∧ W.cell? ⟨g, k * 2, none⟩ = some (.int .i64 (x1 : Int)) ∧ W.cell? ⟨g, k * 2 + 1, none⟩ = some (.string x2)) [0, 1, 2, 3, 4, 5, 6, 7, 8, 9, 10, 11, 12, 13, 14, 15, 16, 17, 18, 19, 20, 21, 22, 23, 25, 26] [4, 8, 12, 17, 21] [0, 1, 2, 3, 4, 5, 6, 7, 8, 9, 10, 11, 12, 13, 14, 15, 16, 17, 18, 19, 20, 21, 22, 23, 24, 25, 26, 27] (by kernel_rfl) (by kernel_rfl) rfl (by kernel_rfl) rfl (⟨hO.out.drawn, w2, w3⟩) (by simp only [picked, List.filterMap_cons, List.filterMap_nil, List.getElem?_cons_zero, List.getElem?_cons_succ, Option.map_some]; exact rfl) ?_
      iterate 24
        refine seq_want (v := ?_) rfl rfl (fun W hS => ?_) ?_
        rotate_left
        · first
            | (conv => lhs; simp [go_sem, hkm, hk0, hlt, mul1, g1, g2, g3]
               first | done | exact rfl)
            | (have hS := hS rfl
               obtain ⟨q1, y2, y3⟩ := hS
               obtain ⟨q1, q2, q3⟩ := q1.at_
               conv => lhs; simp [go_sem, *, hkm, hk0, hlt, mul1, g1, g2, g3]
               first | done | exact rfl)
        simp only [Act.put, List.setIfInBounds_toArray, List.set_cons_zero, List.set_cons_succ]
      refine seq_on rfl rfl fun K hK => ?_
      go_wp2_with (go_at_call 39; refine HP.out.mono ?_; rintro e w5 ⟨rfl, b5⟩)
      have hO5 := hO.out.drawn.keep b5
      refine hK _ _ ⟨hO5, keep b5 w2, keep b5 w3⟩ ?_
      clear hK K
      have G5 : Chg (· = r) w w5 := (hc.out.drew).call b5
      iterate 2
        refine seq_want (v := ?_) rfl rfl (fun W hS => ?_) ?_
        rotate_left
        · conv => lhs; simp [go_sem]
          first | done | exact rfl
        simp only [Act.put, List.setIfInBounds_toArray, List.set_cons_zero, List.set_cons_succ]
      refine seq_last rfl rfl (by kernel_rfl) rfl fun K hK => ?_
      clear w2 w3 o1 o2 o3
      obtain ⟨o1, o2, o3⟩ := hO5.at_
      replace hO5 := Lib.hid hO5
      replace G5 := Lib.hid G5
      clear b5
      go_wp2
      refine hK _ _ ?_
      clear hK K
      refine seq_end ?_
      go_wp2
      go_roundw
      case rel =>
        refine ⟨k + 1, by omega, by go_num, G5.out.set ⟨r, 0, none⟩ (.inl rfl) _, ?_⟩
        have hl : (s.wr.take k).length = k := by rw [List.length_take]; have := hm.out; omega
        rw [EL.out, settled_snoc, ← hLk.out, hl, Nat.zero_add, ← hqk.out]
        exact hO5.out.put 0 _
      case measure => simp [intOf]; omega
    · obtain rfl : k = m := by omega
      go_wp2
      go_end0
      have e : s.wr.take k = s.wr := by rw [hm.out, List.take_length]
      rw [e] at hLk
      refine ⟨rfl, ⟨?_, World.ownsRow_nil _ _ _ _, fun g hg => (by cases hg), ⟨D.out.ok.pos, D.out.ok.max, settled_len _ n _ _ _ D.out.ok.len D.out.ok.wr, by simp [cres], by simp [cres], show (Lit.int .i64 (-1)).wf = true from wf_mk (by decide) (by decide)⟩⟩, ?_⟩
      · show Own _ r _ #[.string (strOf (settled (ckeep len zs torn bytes) s.wr 0 s.sure)), _, _, _]
        rw [← hLk.out]
        exact ((hO.out.put 1 _).put 3 _).put 2 _
      · exact ((((hc.out.mono (T := rfp r (.slice va s.wr.length vc)) fun q _ e => .inl e).set ⟨r, 1, none⟩ (.inl (.inl rfl)) _).set ⟨r, 3, none⟩ (.inl (.inl rfl)) _).set ⟨r, 2, none⟩ (.inl (.inl rfl)) _)
end
end Go.Proofs.Ytgddogjieemgeaa
