/- For every number of sectors and every list of acts: where the acts are few enough and small enough and the sectors are at most 100, each call of the disk answers as the document's disk does, and leaves the bytes, the writes and the state that it leaves; for more sectors New makes a disk of just as many, or refuses them with ErrArg; the document's example of layer 6 holds: DiskPlays answers true.
Conditions: none; every input that can be read is spoken of. -/
import Derived.Test.YtgddogjieemgeaaRows
import Derived.Test.YtgddogjieemgeaaBase
import Derived.Test.YtgddogjieemgeaaPlyA
import Derived.WalkKit
import Derived.ProofKit
import Derived.OpenShut
import Derived.ShutString
import Derived.ChangeOld
import Derived.Below
import Derived.SliceStrings
namespace Go.Proofs.Ytgddogjieemgeaa.diskPlays
open Go.ChangeShapes Go.WideShapes Go.ChangeAt Go.RowKit
open Go.ChangeMaps (open_string shut_string)
set_option linter.unusedVariables false

theorem own : ownKnob Try.prog.godebug = none := by kernel_rfl
theorem laidOut : laidOutB Try.prog = true := by kernel_rfl

set_option maxHeartbeats 8000000 in
set_option maxRecDepth 100000 in
theorem walk (a0 : Int) (a1 : Option Addr) (len1 cap1 : Nat) (z1 : List ActD) (w : World) (w0 : (Lit.int .i64 a0).wf = true) (w1 : IsActs w a1 len1 cap1 z1) :
    Calls Try.prog 4 #[.int .i64 a0, .slice a1 len1 cap1] w fun e w' => e = .returned (.bool true) ∧ Below w.heap.size w w' := by
  obtain ⟨hs1, hs2⟩ := wf_i64 w0
  have hw1 := w1
  obtain ⟨hl1, hl2, hl3, hl4⟩ := w1
  unfold maxLen at hl2
  have hlen : len1 ≤ 9223372036854775807 := by omega
  replace hw1 := Lib.hid hw1
  replace hl3 := Lib.hid hl3
  replace hl4 := Lib.hid hl4
  replace w0 := Lib.hid w0
  go_enter Try.func4, Try.ntmps4
  go_wp2_with fail
  refine (awake_any _).mono ?_
  rintro e w1 ⟨rfl, b1⟩
  go_wp2_with fail
  refine (few_any w1 a1 len1 cap1 z1 (hw1.out.keep b1)).mono ?_
  rintro e w' ⟨rfl, ⟨rfl, hf⟩ | rfl⟩
  rotate_left
  · go_wp2_with fail
    refine (awake_any _).mono ?_
    rintro e w2 ⟨rfl, b2⟩
    go_wp2_with fail
    go_ret
    exact ⟨rfl, then_ b1 b2 b1.size⟩
  replace hf := Lib.hid hf
  by_cases c1 : 1 ≤ a0 ∧ a0 ≤ 65536
  rotate_left
  · go_wp2_with fail
    refine (new_no w1 a0 w0.out c1).mono ?_
    rintro e w' ⟨rfl, rfl⟩
    replace c1 := Lib.hid c1
    by_cases c2 : a0 < 1
    · go_wp2
      go_ret
      exact ⟨rfl, b1⟩
    · have c3 : 65536 < a0 := by have := c1.out; omega
      go_wp2
      go_ret
      exact ⟨rfl, b1⟩
  obtain ⟨n, rfl⟩ : ∃ n : Nat, a0 = (n : Int) := ⟨a0.toNat, by omega⟩
  have c1a : 1 ≤ n := by omega
  have c1b : n ≤ 65536 := by omega
  clear c1
  go_wp2_with fail
  refine (new_any w1 n c1a c1b).mono ?_
  rintro e w2 ⟨d, sb, mb, rfl, D2, b2, zd, zs, zm⟩
  have B2 := then_ b1 b2 b1.size
  have y1 := b1.size
  replace b1 := Lib.hid b1
  clear b2
  by_cases c2 : 100 < n
  · have HL := Lib.hid (len_any D2)
    clear D2
    go_wp2_with (go_at_call 17; refine HL.out.mono ?_; rintro e w' ⟨rfl, rfl⟩)
    go_ret
    exact ⟨rfl, B2⟩
  have c2' : n ≤ 100 := by omega
  replace D2 := Lib.hid D2
  go_wp2_with fail
  refine (rnew_any w2 n c1a c1b).mono ?_
  rintro e w3 ⟨r, rfl, R3, b3, zr⟩
  have B3 := then_ B2 b3 B2.size
  have y2 := B2.size
  have D3 := D2.out.below b3
  have q1 : ∀ q, fp d sb mb (.slice none 0 0) q → w.heap.size ≤ q := sep_new _ (by omega) (by omega) (by omega) fun g hg => by cases hg
  have q2 : ∀ q, rfp r (.slice none 0 0) q → w.heap.size ≤ q := by rintro q (rfl | h); omega; cases h
  have q3 : ∀ q, fp d sb mb (.slice none 0 0) q → ¬ rfp r (.slice none 0 0) q := by
    rintro q hq (rfl | h)
    · have := D2.out.in_ hq; omega
    · cases h
  have HP0 : PairX w (w3.alloc (.cells #[] 34)) d sb mb r n w3.heap.size #[] ⟨List.replicate (n * 64) 0, [], -1, false⟩ ⟨List.replicate (n * 64) 0, [], -1, false⟩ := by
    have hb : Below w3.heap.size w3 (w3.alloc (.cells #[] 34)) := (Below.refl _ _).alloc (Nat.le_refl _) _
    exact ⟨_, _, D3.below hb, R3.below hb, then_ B3 hb B3.size, q1, q2, q3, Own.made _ _ _, fun h => by have := D3.in_ h; omega, fun h => by have := R3.in_ h; omega⟩
  have HS0 : PairS w w3 d sb mb r n 0 := ⟨_, _, _, _, D3, R3, B3, q1, q2, q3, ⟨rfl, rfl, rfl, .inr (.inr rfl)⟩, by simp⟩
  replace HS0 := Lib.hid HS0
  clear HP0 D2 D3 R3 B3 b3 q1 q2 q3 zd zs zm zr y1 y2 B2
  go_wp2
  go_loopw [8] (fun v wr => ∃ k : Nat, k ≤ len1 ∧ v = .int .i64 k ∧ PairS w wr d sb mb r n k) (fun v wr => len1 - (intOf v).toNat)
  case atStart => exact ⟨0, by omega, rfl, HS0.out⟩
  case round =>
    obtain ⟨k, hk, rfl, HI⟩ := hrel
    have BI := HI.below
    replace HI := Lib.hid HI
    by_cases hlt : k < len1
    · rcases hl4.out with h | ⟨b0, o0, rfl, hbz, hc⟩
      · omega
      have hkl : k < z1.length := by rw [hl3.out]; exact hlt
      obtain ⟨hcell, hx⟩ := hc k hkl
      have hlf : len1 ≤ 300 := by have := hf.out.1; rw [hl3.out] at this; exact this
      obtain ⟨y, hy⟩ : ∃ y, y = z1[k]'hkl := ⟨_, rfl⟩
      rw [← hy] at hcell hx
      clear hy hc
      have hold := Lib.hid hx.old
      have hbools := Lib.hid hx.keep
      replace hx := hx.stay BI
      replace hcell := fun j hj => (BI.cell (p := ⟨b0, o0 + k * 6 + j, none⟩) hbz).trans (hcell j hj)
      have c0 := hcell 0 (by omega)
      have c1 := hcell 1 (by omega)
      have c2 := hcell 2 (by omega)
      have c3 := hcell 3 (by omega)
      have c4 := hcell 4 (by omega)
      have c5 := hcell 5 (by omega)
      obtain ⟨x0, x1, x2, x3, x4, ka, kl, kc, zs⟩ := y
      simp only [ActD.cells, List.getElem?_toArray, List.getElem?_cons_succ, List.getElem?_cons_zero, Nat.add_zero] at c0 c1 c2 c3 c4 c5
      obtain ⟨v1, v2, v3, v4, v5, v6, v7⟩ := hx
      simp only at v1 v2 v3 v4 v5 v6 v7
      have r0 := wf_u8 v1
      have r1 := wf_u8 v2
      replace v3 := Lib.hid v3
      replace v4 := Lib.hid v4
      replace v5 := Lib.hid v5
      replace BI := Lib.hid BI
      obtain ⟨r01, r02⟩ := r0
      obtain ⟨r11, r12⟩ := r1
      clear v1 v2 v7 hcell
      obtain ⟨n1, rfl⟩ : ∃ n1 : Nat, x1 = (n1 : Int) := ⟨x1.toNat, by omega⟩
      have hn1 : n1 < 256 := by omega
      have zb := fillB_size n1
      have F1 := Lib.hid (fill_any n1 hn1)
      obtain ⟨T1, hT1⟩ : ∃ T1, T1 = fillB n1 := ⟨_, rfl⟩
      rw [← hT1] at zb F1
      replace zb := Lib.hid zb
      clear hT1
      obtain ⟨dd, hdd⟩ : ∃ dd, x0 % 6 = dd := ⟨_, rfl⟩
      have hd6 : dd = 0 ∨ dd = 1 ∨ dd = 2 ∨ dd = 3 ∨ dd = 4 ∨ dd = 5 := by omega
      go_upto_region 14 with fail
      go_name_world W0 hW0e
      have hW0 : Own W0 wr.heap.size 34 #[.int .u8 x0, .int .u8 (n1 : Int), .int .i64 x2, .int .i64 x3, .string x4, .slice ka kl kc] := hW0e ▸ Own.made _ _ _
      obtain ⟨s, s', HP, TW, hlw⟩ := HI.out.box #[.int .u8 x0, .int .u8 (n1 : Int), .int .i64 x2, .int .i64 x3, .string x4, .slice ka kl kc]
      have K1 : Hid (∀ W7 {s7 s7' : St}, PairX w W7 d sb mb r n wr.heap.size #[.int .u8 x0, .int .u8 (n1 : Int), .int .i64 x2, .int .i64 x3, .string x4, .slice ka kl kc] s7 s7' → IsBools W7 ka kl kc zs) := fun W7 s7 s7' h7 => (hbools.out).keep h7.below
      have K0 := Lib.hid (v6.keep (show Below wr.heap.size wr W0 from hW0e ▸ (Below.refl _ _).alloc (Nat.le_refl _) _))
      rw [hW0e] at HP
      clear hW0e v6 c0 c1 c2 c3 c4 c5
      obtain ⟨q1, q2, q3⟩ := hW0.at_
      replace HP := Lib.hid HP
      replace TW := Lib.hid TW
      replace hW0 := Lib.hid hW0
      go_upto_block 2 with fail
      try rw [hdd]
      clear hdd
      go_cut [10] (fun v wx => v = .bool true ∧ PairB w wx d sb mb r n wr.heap.size #[.int .u8 x0, .int .u8 (n1 : Int), .int .i64 x2, .int .i64 x3, .string x4, .slice ka kl kc] (k + 1))
      case first =>
        rcases hd6 with e6 | e6 | e6 | e6 | e6 | e6
        · have t0 : (dd == 0) = true := by rw [e6]; rfl
          clear e6
          obtain ⟨tw1, tw2⟩ := TW.out.wrote n x2 T1
          have C1 := fun W h => pair_write (s := s) (s' := s') (W := W) (w := w) (d := d) (sb := sb) (mb := mb) (r := r) (n := n) (x := wr.heap.size) (cs := #[.int .u8 x0, .int .u8 (n1 : Int), .int .i64 x2, .int .i64 x3, .string x4, .slice ka kl kc]) h x2 T1 v3.out (by rw [zb.out]; decide) (by have := hlf; omega)
          have hll := wres_len n s x2 T1
          obtain ⟨z, sA, hz⟩ : ∃ z sA, wres n s x2 T1 = (z, sA) := ⟨_, _, rfl⟩
          obtain ⟨sB, hzB⟩ : ∃ sB, rwres n s' x2 T1 = (z, sB) := ⟨(rwres n s' x2 T1).2, by rw [hz] at tw1; simp only at tw1; rw [tw1]⟩
          rw [hz, hzB] at tw2
          rw [hz] at C1 hll
          have C2 := fun W h => pair_rwrite (s := sA) (s' := s') (W := W) (w := w) (d := d) (sb := sb) (mb := mb) (r := r) (n := n) (x := wr.heap.size) (cs := #[.int .u8 x0, .int .u8 (n1 : Int), .int .i64 x2, .int .i64 x3, .string x4, .slice ka kl kc]) h x2 T1 v3.out (by rw [zb.out]; decide) (by have := TW.out.wr; rw [← this]; omega)
          rw [hzB] at C2
          clear hz hzB tw1
          have TX := Lib.hid tw2
          have hlX : sA.wr.length ≤ k + 1 := by simp only at hll; omega
          clear tw2 hll
          replace C1 := Lib.hid C1
          replace C2 := Lib.hid C2
          go_upto_region 16 with fail
          refine wp_region_seq (fun W => Own W wr.heap.size 34 #[.int .u8 x0, .int .u8 (n1 : Int), .int .i64 x2, .int .i64 x3, .string x4, .slice ka kl kc]) (0 :: 1 :: 2 :: 3 :: 4 :: 7 :: 8 :: 9 :: 10 :: 11 :: 14 :: 15 :: []) (2 :: 4 :: 9 :: 11 :: []) (0 :: 1 :: 2 :: 3 :: 4 :: 7 :: 8 :: 9 :: 10 :: 11 :: 5 :: 6 :: 12 :: 13 :: 14 :: 15 :: []) (by kernel_rfl) (by kernel_rfl) rfl (by kernel_rfl) rfl (hW0.out.drawn) (by simp only [picked, List.filterMap_cons, List.filterMap_nil, List.getElem?_cons_zero, List.getElem?_cons_succ, Option.map_some]; exact rfl) ?_
          iterate 10
            refine seq_want (v := ?_) rfl rfl (fun W hS => ?_) ?_
            rotate_left
            · first
                | (conv => lhs; simp [go_sem]
                   first | done | exact rfl)
                | (have hS := hS rfl
                   obtain ⟨q1, q2, q3⟩ := hS.at_
                   conv => lhs; simp [go_sem, *]
                   first | done | exact rfl)
            simp only [Act.put, List.setIfInBounds_toArray, List.set_cons_zero, List.set_cons_succ]
          refine seq_on rfl rfl fun K hK => ?_
          go_wp2_with (go_at_call 11; refine (F1.out _).mono ?_; rintro e w5 ⟨rfl, b5⟩)
          have HP5 := (HP.out.call ((Below.refl _ _).drew)).call b5
          refine hK _ _ HP5.own ?_
          clear hK K
          replace HP5 := Lib.hid HP5
          refine seq_on rfl rfl fun K hK => ?_
          go_wp2_with (go_at_call 10; refine (C1.out _ HP5.out).mono ?_; rintro e w6 ⟨rfl, HP6⟩)
          refine hK _ _ HP6.own ?_
          clear hK K
          replace HP6 := Lib.hid HP6
          refine seq_on rfl rfl fun K hK => ?_
          go_wp2_with (go_at_call 11; refine (F1.out _).mono ?_; rintro e w7 ⟨rfl, b7⟩)
          have HP7 := HP6.out.call b7
          refine hK _ _ HP7.own ?_
          clear hK K
          replace HP7 := Lib.hid HP7
          refine seq_on rfl rfl fun K hK => ?_
          go_wp2_with (go_at_call 19; refine (C2.out _ HP7.out).mono ?_; rintro e wX ⟨rfl, HX⟩)
          refine hK _ _ HX.own ?_
          clear hK K
          replace HX := Lib.hid HX
          iterate 2
            refine seq_want (v := ?_) rfl rfl (fun W hS => ?_) ?_
            rotate_left
            · conv => lhs; simp [go_sem]
              first | done | exact rfl
            simp only [Act.put, List.setIfInBounds_toArray, List.set_cons_zero, List.set_cons_succ]
          refine seq_end ?_
          go_wp2
          go_meet
          exact ⟨rfl, sA, sB, HX.out, TX.out, hlX⟩
        · have t0 : (dd == 0) = false := by rw [e6]; rfl
          have t1 : (dd == 1) = true := by rw [e6]; rfl
          clear e6
          obtain ⟨tw1, tw2⟩ := TW.out.flushed
          have C1 := fun W h => pair_flush (s := s) (s' := s') (W := W) (w := w) (d := d) (sb := sb) (mb := mb) (r := r) (n := n) (x := wr.heap.size) (cs := #[.int .u8 x0, .int .u8 (n1 : Int), .int .i64 x2, .int .i64 x3, .string x4, .slice ka kl kc]) h 
          have hll := fres_len s
          obtain ⟨z, sA, hz⟩ : ∃ z sA, fres s = (z, sA) := ⟨_, _, rfl⟩
          obtain ⟨sB, hzB⟩ : ∃ sB, rfres s' = (z, sB) := ⟨(rfres s').2, by rw [hz] at tw1; simp only at tw1; rw [tw1]⟩
          rw [hz, hzB] at tw2
          rw [hz] at C1 hll
          have C2 := fun W h => pair_rflush (s := sA) (s' := s') (W := W) (w := w) (d := d) (sb := sb) (mb := mb) (r := r) (n := n) (x := wr.heap.size) (cs := #[.int .u8 x0, .int .u8 (n1 : Int), .int .i64 x2, .int .i64 x3, .string x4, .slice ka kl kc]) h 
          rw [hzB] at C2
          clear hz hzB tw1
          have TX := Lib.hid tw2
          have hlX : sA.wr.length ≤ k + 1 := by simp only at hll; omega
          clear tw2 hll
          replace C1 := Lib.hid C1
          replace C2 := Lib.hid C2
          go_wp2_with (first
            | (go_at_call 12; refine (C1.out _ HP.out).mono ?_; rintro e w7 ⟨rfl, HP7⟩)
            | (go_at_call 20; refine (C2.out _ HP7).mono ?_; rintro e wX ⟨rfl, HX⟩))
          go_meet
          exact ⟨rfl, sA, sB, HX, TX.out, hlX⟩
        · have t0 : (dd == 0) = false := by rw [e6]; rfl
          have t1 : (dd == 1) = false := by rw [e6]; rfl
          have t2 : (dd == 2) = true := by rw [e6]; rfl
          clear e6
          have TX := Lib.hid (TW.out.armed x3)
          go_wp2_with (first
            | (go_at_call 13; refine (pair_fuse HP.out x3 v4.out).mono ?_; rintro e w7 ⟨rfl, HP7⟩; obtain ⟨q1, q2, q3⟩ := HP7.own.at_)
            | (go_at_call 21; refine (pair_arm HP7 x3 v4.out).mono ?_; rintro e wX ⟨rfl, HX⟩))
          go_meet
          exact ⟨rfl, _, _, HX, TX.out, Nat.le_succ_of_le hlw⟩
        · have t0 : (dd == 0) = false := by rw [e6]; rfl
          have t1 : (dd == 1) = false := by rw [e6]; rfl
          have t2 : (dd == 2) = false := by rw [e6]; rfl
          have t3 : (dd == 3) = true := by rw [e6]; rfl
          clear e6
          have TX := Lib.hid (TW.out.crashed kl zs x3 x2)
          go_wp2_with (first
            | (go_at_call 14; refine (pair_crash HP.out _ _ _ zs _ _ K0.out hold.out).mono ?_; rintro e w7 ⟨rfl, HP7⟩; obtain ⟨q1, q2, q3⟩ := HP7.own.at_)
            | (go_at_call 22; refine (pair_rcrash HP7 _ _ _ zs _ _ (K1.out _ HP7) hold.out).mono ?_; rintro e wX ⟨rfl, HX⟩))
          go_meet
          exact ⟨rfl, _, _, HX, TX.out, by simp [cres]⟩
        · have t0 : (dd == 0) = false := by rw [e6]; rfl
          have t1 : (dd == 1) = false := by rw [e6]; rfl
          have t2 : (dd == 2) = false := by rw [e6]; rfl
          have t3 : (dd == 3) = false := by rw [e6]; rfl
          have t4 : (dd == 4) = true := by rw [e6]; rfl
          clear e6
          have ER := TW.out.read n x2
          have C1 := fun W h => pair_read (s := s) (s' := s') (W := W) (w := w) (d := d) (sb := sb) (mb := mb) (r := r) (n := n) (x := wr.heap.size) (cs := #[.int .u8 x0, .int .u8 (n1 : Int), .int .i64 x2, .int .i64 x3, .string x4, .slice ka kl kc]) h x2 v3.out
          have C2 := fun W h => pair_rread (s := s) (s' := s') (W := W) (w := w) (d := d) (sb := sb) (mb := mb) (r := r) (n := n) (x := wr.heap.size) (cs := #[.int .u8 x0, .int .u8 (n1 : Int), .int .i64 x2, .int .i64 x3, .string x4, .slice ka kl kc]) h x2 v3.out
          rw [ER] at C2
          obtain ⟨y1, y2, hy⟩ : ∃ y1 y2, rres n s x2 = (y1, y2) := ⟨_, _, rfl⟩
          rw [hy] at C1 C2
          clear hy ER
          replace C1 := Lib.hid C1
          replace C2 := Lib.hid C2
          go_wp2_with (first
            | (go_at_call 15; refine (C1.out _ HP.out).mono ?_; rintro e w7 ⟨rfl, HP7⟩; obtain ⟨q1, q2, q3⟩ := HP7.own.at_)
            | (go_at_call 23; refine (C2.out _ HP7).mono ?_; rintro e wX ⟨rfl, rfl⟩))
          go_meet
          exact ⟨rfl, _, _, HP7, TW.out, Nat.le_succ_of_le hlw⟩
        · have t0 : (dd == 0) = false := by rw [e6]; rfl
          have t1 : (dd == 1) = false := by rw [e6]; rfl
          have t2 : (dd == 2) = false := by rw [e6]; rfl
          have t3 : (dd == 3) = false := by rw [e6]; rfl
          have t4 : (dd == 4) = false := by rw [e6]; rfl
          have t5 : (dd == 5) = true := by rw [e6]; rfl
          clear e6
          obtain ⟨tw1, tw2⟩ := TW.out.wrote n x2 x4
          have C1 := fun W h => pair_write (s := s) (s' := s') (W := W) (w := w) (d := d) (sb := sb) (mb := mb) (r := r) (n := n) (x := wr.heap.size) (cs := #[.int .u8 x0, .int .u8 (n1 : Int), .int .i64 x2, .int .i64 x3, .string x4, .slice ka kl kc]) h x2 x4 v3.out v5.out (by have := hlf; omega)
          have hll := wres_len n s x2 x4
          obtain ⟨z, sA, hz⟩ : ∃ z sA, wres n s x2 x4 = (z, sA) := ⟨_, _, rfl⟩
          obtain ⟨sB, hzB⟩ : ∃ sB, rwres n s' x2 x4 = (z, sB) := ⟨(rwres n s' x2 x4).2, by rw [hz] at tw1; simp only at tw1; rw [tw1]⟩
          rw [hz, hzB] at tw2
          rw [hz] at C1 hll
          have C2 := fun W h => pair_rwrite (s := sA) (s' := s') (W := W) (w := w) (d := d) (sb := sb) (mb := mb) (r := r) (n := n) (x := wr.heap.size) (cs := #[.int .u8 x0, .int .u8 (n1 : Int), .int .i64 x2, .int .i64 x3, .string x4, .slice ka kl kc]) h x2 x4 v3.out v5.out (by have := TW.out.wr; rw [← this]; omega)
          rw [hzB] at C2
          clear hz hzB tw1
          have TX := Lib.hid tw2
          have hlX : sA.wr.length ≤ k + 1 := by simp only at hll; omega
          clear tw2 hll
          replace C1 := Lib.hid C1
          replace C2 := Lib.hid C2
          go_upto_region 30 with fail
          refine wp_region_seq (fun W => Own W wr.heap.size 34 #[.int .u8 x0, .int .u8 (n1 : Int), .int .i64 x2, .int .i64 x3, .string x4, .slice ka kl kc]) (0 :: 1 :: 2 :: 3 :: 4 :: 6 :: 7 :: 8 :: 9 :: 10 :: 12 :: 13 :: []) (2 :: 4 :: 8 :: 10 :: []) (0 :: 1 :: 2 :: 3 :: 4 :: 6 :: 7 :: 8 :: 9 :: 10 :: 5 :: 11 :: 12 :: 13 :: []) (by kernel_rfl) (by kernel_rfl) rfl (by kernel_rfl) rfl (hW0.out.drawn) (by simp only [picked, List.filterMap_cons, List.filterMap_nil, List.getElem?_cons_zero, List.getElem?_cons_succ, Option.map_some]; exact rfl) ?_
          iterate 10
            refine seq_want (v := ?_) rfl rfl (fun W hS => ?_) ?_
            rotate_left
            · first
                | (conv => lhs; simp [go_sem]
                   first | done | exact rfl)
                | (have hS := hS rfl
                   obtain ⟨q1, q2, q3⟩ := hS.at_
                   conv => lhs; simp [go_sem, *]
                   first | done | exact rfl)
            simp only [Act.put, List.setIfInBounds_toArray, List.set_cons_zero, List.set_cons_succ]
          refine seq_on rfl rfl fun K hK => ?_
          go_wp2_with (go_at_call 10; refine (C1.out _ (HP.out.call ((Below.refl _ _).drew))).mono ?_; rintro e w6 ⟨rfl, HP6⟩)
          refine hK _ _ HP6.own ?_
          clear hK K
          replace HP6 := Lib.hid HP6
          refine seq_on rfl rfl fun K hK => ?_
          go_wp2_with (go_at_call 19; refine (C2.out _ HP6.out).mono ?_; rintro e wX ⟨rfl, HX⟩)
          refine hK _ _ HX.own ?_
          clear hK K
          replace HX := Lib.hid HX
          iterate 2
            refine seq_want (v := ?_) rfl rfl (fun W hS => ?_) ?_
            rotate_left
            · conv => lhs; simp [go_sem]
              first | done | exact rfl
            simp only [Act.put, List.setIfInBounds_toArray, List.set_cons_zero, List.set_cons_succ]
          refine seq_end ?_
          go_wp2
          go_meet
          exact ⟨rfl, sA, sB, HX.out, TX.out, hlX⟩
      case rest =>
        obtain ⟨rfl, sA, sB, HX, TX, hlX⟩ := hcut
        replace HX := Lib.hid HX
        replace TX := Lib.hid TX
        clear HP TW hW0 K0
        go_upto_region 31 with fail
        have HY := HX.out.call ((Below.refl _ _).drew)
        obtain ⟨A1, A2, A3, A4, A5, va, vc, OR⟩ := pair_asks HY
        replace HY := Lib.hid HY
        rw [← TX.out.sure, ← TX.out.wr, ← TX.out.down] at OR
        obtain ⟨f7, hf7⟩ : ∃ f, f = sB.fuse := ⟨_, rfl⟩
        rw [← hf7] at OR
        obtain ⟨T7, hT7⟩ : ∃ T, T = strOf sA.sure := ⟨_, rfl⟩
        rw [← hT7] at OR A4
        obtain ⟨m7, hm7⟩ : ∃ m, m = sA.wr.length := ⟨_, rfl⟩
        rw [← hm7] at OR A3
        obtain ⟨d7, hd7⟩ : ∃ m, m = sA.down := ⟨_, rfl⟩
        rw [← hd7] at OR A2
        clear hf7 hT7 hm7 hd7
        replace A1 := Lib.hid A1
        replace A2 := Lib.hid A2
        replace A3 := Lib.hid A3
        replace A4 := Lib.hid A4
        replace A5 := Lib.hid A5
        replace OR := Lib.hid OR
        refine wp_region_seq (fun W => Own W r 49 #[.string T7, .slice va m7 vc, .int .i64 f7, .bool d7]) (0 :: 1 :: 2 :: 3 :: 5 :: 6 :: 7 :: 8 :: 9 :: 10 :: 11 :: 12 :: 13 :: 15 :: 16 :: 17 :: 18 :: 19 :: 20 :: 21 :: 22 :: 24 :: 25 :: 26 :: 27 :: 28 :: 29 :: 30 :: 31 :: 33 :: 35 :: 36 :: []) (8 :: 18 :: 27 :: []) (0 :: 1 :: 2 :: 3 :: 5 :: 6 :: 7 :: 8 :: 9 :: 4 :: 10 :: 11 :: 12 :: 13 :: 15 :: 16 :: 17 :: 18 :: 14 :: 19 :: 20 :: 21 :: 22 :: 24 :: 25 :: 26 :: 27 :: 23 :: 28 :: 29 :: 30 :: 31 :: 33 :: 32 :: 34 :: 35 :: 36 :: []) (by kernel_rfl) (by kernel_rfl) rfl (by kernel_rfl) rfl (OR.out) (by simp only [picked, List.filterMap_cons, List.filterMap_nil, List.getElem?_cons_zero, List.getElem?_cons_succ, Option.map_some]; exact rfl) ?_
        iterate 9
          refine seq_want (v := ?_) rfl rfl (fun W hS => ?_) ?_
          rotate_left
          · first
              | (conv => lhs; simp [go_sem]
                 first | done | exact rfl)
              | (have hS := hS rfl
                 obtain ⟨q1, q2, q3⟩ := hS.at_
                 conv => lhs; simp [go_sem, *]
                 first | done | exact rfl)
          simp only [Act.put, List.setIfInBounds_toArray, List.set_cons_zero, List.set_cons_succ]
        refine seq_on rfl rfl fun K hK => ?_
        go_wp2_with (go_at_call 24; refine A3.out.mono ?_; rintro e w' ⟨rfl, rfl⟩)
        refine hK _ _ OR.out ?_
        clear hK K
        iterate 8
          refine seq_want (v := ?_) rfl rfl (fun W hS => ?_) ?_
          rotate_left
          · first
              | (conv => lhs; simp [go_sem]
                 first | done | exact rfl)
              | (have hS := hS rfl
                 obtain ⟨q1, q2, q3⟩ := hS.at_
                 conv => lhs; simp [go_sem, *]
                 first | done | exact rfl)
          simp only [Act.put, List.setIfInBounds_toArray, List.set_cons_zero, List.set_cons_succ]
        refine seq_on rfl rfl fun K hK => ?_
        go_wp2_with (go_at_call 16; refine A2.out.mono ?_; rintro e w' ⟨rfl, rfl⟩)
        refine hK _ _ OR.out ?_
        clear hK K
        iterate 8
          refine seq_want (v := ?_) rfl rfl (fun W hS => ?_) ?_
          rotate_left
          · first
              | (conv => lhs; simp [go_sem]
                 first | done | exact rfl)
              | (have hS := hS rfl
                 obtain ⟨q1, q2, q3⟩ := hS.at_
                 conv => lhs; simp [go_sem, *]
                 first | done | exact rfl)
          simp only [Act.put, List.setIfInBounds_toArray, List.set_cons_zero, List.set_cons_succ]
        refine seq_on rfl rfl fun K hK => ?_
        go_wp2_with (go_at_call 25; refine A4.out.mono ?_; rintro e w' ⟨rfl, rfl⟩)
        refine hK _ _ OR.out ?_
        clear hK K
        iterate 5
          refine seq_want (v := ?_) rfl rfl (fun W hS => ?_) ?_
          rotate_left
          · first
              | (conv => lhs; simp [go_sem]
                 first | done | exact rfl)
              | (have hS := hS rfl
                 obtain ⟨q1, q2, q3⟩ := hS.at_
                 conv => lhs; simp [go_sem, *]
                 first | done | exact rfl)
          simp only [Act.put, List.setIfInBounds_toArray, List.set_cons_zero, List.set_cons_succ]
        refine seq_on rfl rfl fun K hK => ?_
        go_wp2_with (go_at_call 17; refine A1.out.mono ?_; rintro e w' ⟨rfl, rfl⟩)
        refine hK _ _ OR.out ?_
        clear hK K
        refine seq_on rfl rfl fun K hK => ?_
        go_wp2_with (go_at_call 26; refine A5.out.mono ?_; rintro e w' ⟨rfl, rfl⟩)
        refine hK _ _ OR.out ?_
        clear hK K
        iterate 2
          refine seq_want (v := ?_) rfl rfl (fun W hS => ?_) ?_
          rotate_left
          · conv => lhs; simp [go_sem]
            first | done | exact rfl
          simp only [Act.put, List.setIfInBounds_toArray, List.set_cons_zero, List.set_cons_succ]
        refine seq_end ?_
        go_wp2
        go_roundw
        case rel => exact ⟨k + 1, by omega, by go_num, HY.out.drop TX.out hlX⟩
        case measure => simp [intOf]; omega
    · obtain rfl : k = len1 := by omega
      have BI := BI
      go_wp2
      go_ret
      exact ⟨rfl, BI⟩

set_option maxRecDepth 100000 in
theorem lifted (os : Os) (started : os.Started) (H : Type) (enc : TypeId × Value → H) :
    ReturnsInHanded {} Try.checked os 4 .any (Rows.diskPlaysSpec.pre6 enc Try.prog Try.f4 Rows.diskPlaysRow.domain false) (Rows.diskPlaysSpec.post enc Try.prog Try.f4 false true false false) := by
  refine returnsInHanded_of_change (C := Try.checked) own started (by kernel_rfl) Try.func4
    (ChangeSpec.witness6 (enc := enc) (C := Try.checked) false ⟨#[], #[.int .i64 0, .slice none 0 0], []⟩ 8 (by kernel_rfl) (by kernel_rfl) (by kernel_rfl) (by kernel_rfl)) ?_
  intro W base args ds gs before hval0 hW hcnd _
  have hval : ∀ (j : Nat) t v, Try.f4.params[j]? = some t → args[j]? = some v → Value.okWide Try.prog W .any base t v := hval0
  have hW' := hW
  obtain ⟨p, q, hA0, hV, rfl, hfz, hnd⟩ := hW
  have hA : DataW.TrodAll enc Try.prog W 0 (fun _ => true) true Try.f4.params.toList args.toList ds p := hA0
  rw [Try.params4] at hA hval
  obtain ⟨v0, vs0, d0, ds0, p0, q0, hargs, rfl, rfl, h0, r0⟩ := trodAll_cons hA
  obtain ⟨v1, vs1, d1, ds1, p1, q1, rfl, rfl, rfl, h1, r1⟩ := trodAll_cons r0
  obtain ⟨rfl, rfl, rfl⟩ := trodAll_nil r1
  obtain rfl : args = #[v0, v1] := by cases args; simp_all
  obtain ⟨rfl, rfl⟩ := trodVars_none hV
  obtain ⟨a0, rfl, rfl, rfl, w0⟩ := open_int Try.underlying3 (hval 0 3 v0 rfl rfl) h0
  have k1 := h1
  have lt1 : ∀ x ∈ p1, x.block < W.heap.size := by obtain ⟨m, hm⟩ := k1; exact DataW.trod_lt m _ _ _ hm
  obtain ⟨a1, len1, cap1, rfl⟩ := okWide_slice Try.underlying22 (hval 1 22 v1 rfl rfl)
  obtain ⟨z1, w1⟩ : ∃ z, IsActs W a1 len1 cap1 z := by
    obtain ⟨fuel, hf⟩ := h1
    obtain ⟨a, l, c, z, e, hz⟩ := open_acts hf
    simp [Value.cells] at e
    obtain ⟨rfl, rfl, rfl⟩ := e
    exact ⟨z, hz⟩
  clear hA0 hval0
  refine (walk a0 a1 len1 cap1 z1 W w0 w1).mono fun e W' ⟨he, bel⟩ => ?_
  subst he
  exact ⟨_, rfl, _, _, _, [], _, [], hW', trodAll_mk1 (shut_bool Try.underlying4 _), (trodAll_cons_mk (shut_int Try.underlying3 w0) (trodAll_cons_mk (Below.trod laidOut (by kernel_rfl) (of_decide_eq_true (by kernel_rfl)) k1 bel lt1) trodAll_mk0)), rfl, bel.frame _, fun h => by cases h⟩

theorem over : Rows.diskPlaysRow.holds Try.pinned (OpenSpec.ofChange Rows.diskPlaysSpec) :=
  OpenClaim.holds_of_wide 4 Try.f4 rfl rfl rfl rfl rfl rfl rfl ⟨rfl, rfl, rfl, rfl, rfl⟩ rfl rfl rfl rfl rfl (by kernel_rfl) Try.func4 (by kernel_rfl)
    (of_decide_eq_true (by kernel_rfl)) (by unfold Func.isWrapper; first | (rw [if_pos (by decide +kernel)]; kernel_rfl) | (rw [if_neg (by decide +kernel)]; exact ⟨rfl, rfl⟩))
    (fun os started H enc _ => lifted os started H enc)

/-- THE STATEMENT -/
theorem proved : Rows.DiskPlaysSaid := over
#print axioms proved
end Go.Proofs.Ytgddogjieemgeaa.diskPlays
