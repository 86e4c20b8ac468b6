/- For every uint8, every uint64 and every list of acts: where the acts are few enough and small enough, behind each crash, whatever of the pending writes it keeps, tears or loses, and wherever the power went, the transactions are there whose Append was OK, and perhaps the one under way, wholly, and nothing else: RedoCrash answers true.
Conditions: none; every input that can be read is spoken of. -/
import Derived.Test.YtmincpmkiheofaaRows
import Derived.Test.YtmincpmkiheofaaBase
import Derived.Test.YtmincpmkiheofaaActS
import Derived.Test.YtmincpmkiheofaaRdlN
import Derived.Test.YtmincpmkiheofaaRdlS
import Derived.Test.YtmincpmkiheofaaCraB
import Derived.Test.YtmincpmkiheofaaCraD
import Derived.WalkKit
import Derived.ProofKit
import Derived.OpenShut
import Derived.ShutString
import Derived.ChangeOld
import Derived.Below
import Derived.SliceStrings
namespace Go.Proofs.Ytmincpmkiheofaa.redoCrash
open Go.ChangeShapes Go.WideShapes Go.ChangeAt Go.RowKit
open Go.ChangeMaps (open_string shut_string)
set_option linter.unusedVariables false

theorem own : ownKnob Try.prog.godebug = none := by kernel_rfl
theorem laidOut : laidOutB Try.prog = true := by kernel_rfl

set_option maxHeartbeats 16000000 in
set_option maxRecDepth 100000 in
theorem walk (a0 : Int) (a1 : Int) (a2 : Option Addr) (len2 cap2 : Nat) (z2 : List ActD) (w : World) (w0 : (Lit.int .u8 a0).wf = true) (w1 : (Lit.int .u64 a1).wf = true) (w2 : IsActs w a2 len2 cap2 z2) :
    Calls Try.prog 3 #[.int .u8 a0, .int .u64 a1, .slice a2 len2 cap2] w fun e w' => e = .returned (.bool true) ∧ Below w.heap.size w w' := by
  have r5 : 0 ≤ a1 ∧ a1 ≤ 18446744073709551615 := by
    have h := w1
    simp [Lit.wf, IntKind.min, IntKind.max, IntKind.signed, IntKind.bits] at h
    omega
  obtain ⟨sq, hsq⟩ : ∃ sq : Nat, a1 = (sq : Int) := ⟨a1.toNat, by omega⟩
  subst hsq
  have hsq : sq ≤ 18446744073709551615 := by omega
  clear r5 w1
  obtain ⟨rz1, rz2⟩ := wf_u8 w0
  clear w0
  obtain ⟨at_, hat⟩ : ∃ at_ : Nat, a0 % 9 = (at_ : Int) := ⟨(a0 % 9).toNat, by omega⟩
  have hat8 : at_ ≤ 8 := by omega
  obtain ⟨sz, hsz⟩ : ∃ sz : Nat, (150 : Int) - (at_ : Int) - 5 = (sz : Int) := ⟨145 - at_, by omega⟩
  have hfit : at_ + sz ≤ 150 := by omega
  have hsz1 : 1 ≤ sz := by omega
  have hw1 := w2
  obtain ⟨hl1, hl2, hl3, hl4⟩ := w2
  unfold maxLen at hl2
  have hlen : len2 ≤ 9223372036854775807 := by omega
  replace hw1 := Lib.hid hw1
  replace hl3 := Lib.hid hl3
  replace hl4 := Lib.hid hl4
  go_enter Try.func3, Try.ntmps3
  go_wp2_with fail
  refine (awaken_any _).mono ?_
  rintro e w1 ⟨rfl, b1⟩
  go_wp2_with fail
  refine (few_any w1 a2 len2 cap2 z2 (hw1.out.keep b1)).mono ?_
  rintro e w' ⟨rfl, ⟨rfl, hf⟩ | rfl⟩
  rotate_left
  · go_wp2_with fail
    refine (awaken_any _).mono ?_
    rintro e w2 ⟨rfl, b2⟩
    go_wp2_with fail
    go_ret
    exact ⟨rfl, then_ b1 b2 b1.size⟩
  replace hf := Lib.hid hf
  go_wp2_with fail
  refine (new_any w1 150 (by omega) (by omega)).mono ?_
  rintro e w2 ⟨d, sb, mb, rfl, D2, b2, zd, zs, zm⟩
  have z1' := b1.size
  have B2 := then_ b1 b2 b1.size
  have hnew := sep_new' (wv := .slice none 0 0) w.heap.size (by omega) (by omega) (by omega) (fun g hg => by cases hg) (d := d) (sb := sb) (mb := mb)
  change DiskAt w2 d sb mb (150 * 64) (.slice none 0 0) 150 (fresh 150) at D2
  have HO := open_any D2 rfl at_ sz sq hfit hsz1 hsq
  rw [fresh_none] at HO
  replace HO := Lib.hid HO
  go_wp2_with fail
  refine HO.out.mono ?_
  rintro e w3 ⟨lg0, v, rfl, hlg, hL3, hT, hb3⟩
  have S3 := Ses.open_ (w0 := w) (seq := sq) (ts := []) D2 rfl hnew B2 hfit hlg hL3 (Nat.zero_le _) hb3
  have e0 : (sq + ([] : List (Nat × List ByteArray)).length) % 18446744073709551616 = sq := by show (sq + 0) % 18446744073709551616 = sq; omega
  rw [e0] at S3
  change Ses w w3 lg0 d sb mb (150 * 64) (.slice none 0 0) 150 (fresh 150) ⟨at_, sz, 0, sq, false⟩ at S3
  obtain ⟨ta, tc, rfl, ht1, ht2, -⟩ := hT.open_
  have C3 := Lib.hid (Crashy.rest (seq := sq) (way := []) (crashy_new (seq := sq) hfit) rfl)
  have M3 := Lib.hid (And.intro (TxOwn.nil w3 45 (Apart w lg0 d sb mb (.slice none 0 0))) (StrsIn.nil w3 (Apart w lg0 d sb mb (.slice none 0 0))))
  replace S3 := Lib.hid S3
  clear HO hL3 hT hb3 D2 b1 b2 B2 hnew zd zs zm ht1 ht2 hlg e0 z1'
  obtain ⟨SC, hSC⟩ : ∃ SC : Nat, SC = 150 * 64 := ⟨_, rfl⟩
  rw [← hSC] at S3
  clear hSC
  go_wp2
  go_loopw [11, 14, 15, 16, 17] (fun v11 v14 v15 v16 v17 wr => ∃ (k lg us nx : Nat) (fl : Bool) (wv : Value) (s : St) (ts : List (Nat × List ByteArray)) (way : List ByteArray), k ≤ len2 ∧ v17 = .int .i64 k ∧ v11 = .pointer (some ⟨lg, 0, none⟩) ∧ v15 = .int .u64 (nx : Int) ∧ us = long ts ∧ nx = (sq + ts.length) % 18446744073709551616 ∧ Ses w wr lg d sb mb SC wv 150 s ⟨at_, sz, us, nx, fl⟩ ∧ (TxOwn wr 45 (Apart w lg d sb mb wv) v14 ts ∧ StrsIn wr (Apart w lg d sb mb wv) v16 way) ∧ Crashy s at_ sz sq ts way ∧ (fl = false → way = [])) (fun v11 v14 v15 v16 v17 wr => len2 - (intOf v17).toNat)
  case atStart => exact ⟨0, lg0, 0, sq, false, _, _, [], [], by omega, rfl, rfl, rfl, rfl, by show sq = (sq + 0) % 18446744073709551616; omega, S3.out, M3.out, C3.out, fun _ => rfl⟩
  case round =>
    clear S3 C3 M3
    obtain ⟨k, lg, us, nx, fl, wv, s, ts, way, hk, rfl, rfl, rfl, hus, hnx, HI, hM, hC, hwy⟩ := hrel
    have BI := HI.below
    have hus2 : us ≤ sz := HI.ok.used
    have hnx2 : nx ≤ 18446744073709551615 := HI.ok.next
    obtain ⟨sa, sc2, rfl, hs1, hs2⟩ := hM.1.shape
    obtain ⟨wa, wc, rfl, hy1, hy2, -⟩ := hM.2.open_
    have hnos := hC.nos hsq
    obtain ⟨tl, htl⟩ : ∃ tl, tl = ts.length := ⟨_, rfl⟩
    obtain ⟨wl, hwl⟩ : ∃ wl, wl = way.length := ⟨_, rfl⟩
    rw [← htl] at hM hs1 hnos ⊢
    rw [← hwl] at hM hy1 ⊢
    have htl2 := hnos.2
    have HTL := Lib.hid htl
    have HWL := Lib.hid hwl
    have HUS := Lib.hid hus
    have HNX := Lib.hid hnx
    have HNO := Lib.hid hnos.1
    replace HI := Lib.hid HI
    replace hM := Lib.hid hM
    replace hC := Lib.hid hC
    have HWY := Lib.hid hwy
    unfold maxLen at hs2 hy2
    clear hwy hnos htl hwl hus hnx
    by_cases hlt : k < len2
    rotate_left
    · obtain rfl : k = len2 := by omega
      go_wp2
      go_ret
      exact ⟨rfl, BI⟩
    rcases hl4.out with h | ⟨b0, o0, rfl, hbz, hc⟩
    · omega
    have hkl : k < z2.length := by rw [hl3.out]; exact hlt
    obtain ⟨hcell, hx⟩ := hc k hkl
    have hlf : len2 ≤ 40 := by have := hf.out.1; rw [hl3.out] at this; exact this
    obtain ⟨y, hy⟩ : ∃ y, y = z2[k]'hkl := ⟨_, rfl⟩
    rw [← hy] at hcell hx
    clear hy hc
    have hold := Lib.hid hx.old
    replace hx := hx.stay BI
    replace hcell := fun j hj => (BI.cell (p := ⟨b0, o0 + k * 6 + j, none⟩) hbz).trans (hcell j hj)
    have c0 := hcell 0 (by omega)
    have c1 := hcell 1 (by omega)
    have c2 := hcell 2 (by omega)
    have c3 := hcell 3 (by omega)
    have c4 := hcell 4 (by omega)
    have c5 := hcell 5 (by omega)
    obtain ⟨Y, hY⟩ : ∃ Y, Y = y := ⟨_, rfl⟩
    obtain ⟨x0, x1, x2, ka, kl, kc, zs, x4, x5⟩ := y
    simp only [ActD.cells, List.getElem?_toArray, List.getElem?_cons_succ, List.getElem?_cons_zero, Nat.add_zero] at c0 c1 c2 c3 c4 c5
    obtain ⟨v1, v2, v3, v5, v6, v4, v7⟩ := hx
    simp only at v1 v2 v3 v4 v5 v6 v7
    obtain ⟨r01, r02⟩ := wf_u8 v1
    obtain ⟨r21, r22⟩ := wf_i64 v3
    obtain ⟨r41, r42⟩ := wf_i64 v4
    obtain ⟨r51, r52⟩ := wf_i64 v7
    have V2 := Lib.hid v2
    have V3 := Lib.hid v3
    replace v5 := Lib.hid v5
    have hkz := v5.out.1
    have hkz2 := v5.out.2.1
    unfold maxLen at hkz2
    replace BI := Lib.hid BI
    have HYc := Lib.hid hY
    clear v1 v2 v3 v4 v6 v7 hcell hY
    obtain ⟨U, hU⟩ : ∃ U, IntKind.u64.wrap x2 = U := ⟨_, rfl⟩
    have hU0 : 0 ≤ U := by rw [← hU]; simp [IntKind.wrap, IntKind.signed, IntKind.bits]; omega
    go_upto_region 16 with fail
    go_name_world W0 hW0e
    have O0 : Own W0 wr.heap.size 38 #[.int .u8 x0, .int .u8 x1, .int .i64 x2, .slice ka kl kc, .int .i64 x4, .int .i64 x5] := hW0e ▸ Own.made _ _ _
    have b0' : Below wr.heap.size wr W0 := hW0e ▸ (Below.refl _ _).alloc (Nat.le_refl _) _
    have HI0 := HI.out.next b0'
    have hM0 := Lib.hid (And.intro (hM.out.1.below b0') (hM.out.2.below b0'))
    have K0 := Lib.hid (v5.out.keep b0')
    clear hW0e b0' c0 c1 c2 c3 c4 c5 HI v5 hM
    have ob := O0.at_
    obtain ⟨q1, q2, q3⟩ := ob
    replace HI0 := Lib.hid HI0
    obtain ⟨R6, hR6⟩ : ∃ R6, x0 % 6 = R6 := ⟨_, rfl⟩
    have hR60 : 0 ≤ R6 ∧ R6 < 6 := by omega
    by_cases e4 : R6 = 4
    · subst e4
      have HFU := Lib.hid (HI0.out.fuse (U % 40) (wf_mk (by omega) (by omega)))
      go_wp2_with (go_at_call 11; refine HFU.out.mono ?_; rintro e w7 ⟨rfl, wv7, S7, hc7, hf7⟩)
      have N7 := Lib.hid (apart_turn hc7 hf7 hM0.out)
      replace S7 := Lib.hid S7
      clear hc7 hf7
      go_roundw
      case rel => exact ⟨k + 1, lg, us, nx, fl, wv7, _, ts, way, by omega, by go_num, rfl, rfl, HUS.out, HNX.out, S7.out, N7.out, hC.out, HWY.out⟩
      case measure => simp [intOf]; omega
    have d4 : (R6 == 4) = false := by rw [beq_eq_false_iff_ne]; exact e4
    by_cases e3 : R6 = 3
    · subst e3
      have HCR := Lib.hid (HI0.out.crash ka kl kc zs x4 x5 K0.out hold.out)
      go_upto_region 21 with (go_at_call 12; refine HCR.out.mono ?_; rintro e w7 ⟨rfl, D7, n7, B7, hc7, hf7⟩)
      have hcut := hC.out.cut (by omega) kl zs x4 x5
      obtain ⟨s7, hs7⟩ : ∃ s7, s7 = cres s kl zs x4 x5 := ⟨_, rfl⟩
      have hd7 : s7.down = false := by rw [hs7]; rfl
      have hw7 : s7.wr = [] := by rw [hs7]; rfl
      rw [← hs7] at D7 hcut
      have HO := open_any D7 hd7 at_ sz sq hfit hsz1 hsq
      have HCT := Lib.hid (fun (W' : World) (lg' : Nat) (h : w7.heap.size ≤ lg') (hb : Below w7.heap.size w7 W') => show TxOwn W' 45 (Apart w lg' d sb mb (.slice none 0 0)) (.slice sa tl sc2) ts ∧ StrsIn W' (Apart w lg' d sb mb (.slice none 0 0)) (.slice wa wl wc) way from (by
        have h0 := hc7.size
        have h1 := apart_cut hc7 hf7 (by omega : W0.heap.size ≤ lg') hM0.out
        exact ⟨h1.1.below hb, h1.2.below hb⟩))
      have HD7 := Lib.hid (And.intro D7 (And.intro n7 B7))
      have HW7 := Lib.hid (And.intro hd7 hw7)
      clear hs7 hd7 hw7 D7 n7 B7 hc7 hf7 HCR
      rcases hcut with ⟨eT, hC7⟩ | ⟨hne, eT, hC7⟩
      · rw [eT] at HO
        replace HO := Lib.hid HO
        have hnoT := (hC7.nos hsq)
        have hlT : us ≤ sz := hus2
        have hlong : long ts ≤ sz := by rw [← HUS.out]; exact hus2
        have HC7 := Lib.hid hC7
        have HNT := Lib.hid hnoT.1
        have hTl := hnoT.2
        clear eT hC7 hnoT
        go_upto_region 22 with (go_at_call 10; refine HO.out.mono ?_; rintro e w8 ⟨lg8, v8, rfl, hlg8, hL8, hT8, hb8⟩)
        have S8 := Ses.open_ (w0 := w) (seq := sq) (ts := ts) HD7.out.1 HW7.out.2 HD7.out.2.1 HD7.out.2.2 hfit hlg8 hL8 hlong hb8
        have N8 := HCT.out w8 lg8 hlg8 hb8
        have hlz : lg8 < w8.heap.size := hL8.in_
        have HP := plain_own w8 _ v8 ts hT8 (by omega)
        obtain ⟨va8, vc8, rfl, -, -, -⟩ := hT8.open_
        have HAPT := Lib.hid (fun (W2 : World) (v : Value) (h : TxOwn W2 45 (fun b => lg8 < b ∨ w8.heap.size ≤ b) v ts) => opened_apart HD7.out.1 hlg8 hlz HD7.out.2.2 h)
        replace S8 := Lib.hid S8
        replace N8 := Lib.hid N8
        replace HP := Lib.hid HP
        clear hT8 hL8 hb8 HO hlg8 hlz HCT
        go_upto_region 25 with (go_at_call 13; refine HP.out.mono ?_; rintro e w9 ⟨v9, rfl, hT9, -, hb9⟩)
        replace hT9 := HAPT.out w9 v9 hT9
        have S9 := Lib.hid (S8.out.next hb9)
        have N9 := Lib.hid (And.intro (N8.out.1.below hb9) (N8.out.2.below hb9))
        obtain ⟨ga, gc, rfl, hg1, hg2⟩ := hT9.shape
        unfold maxLen at hg2
        have HS := same_any w9 _ _ _ (.slice sa tl sc2) ts ts hT9.in_ N9.out.1.in_ HNT.out HNO.out
        rw [decide_eq_true (rfl : ts = ts)] at HS
        replace HS := Lib.hid HS
        replace hT9 := Lib.hid hT9
        clear hb9
        go_wp2_with (go_at_call 14; refine HS.out.mono ?_; rintro e w10 ⟨rfl, qs, rfl⟩)
        have S10 := S9.out.next (below_drewN (Below.refl _ _) qs)
        rw [← HUS.out, ← HNX.out] at S10
        replace S10 := Lib.hid S10
        have N10 := Lib.hid (And.intro (N9.out.1.below (below_drewN (Below.refl _ _) qs)) (StrsIn.nil (w9.drewN qs) (Apart w lg8 d sb mb (.slice none 0 0))))
        go_roundw
        case rel => exact ⟨k + 1, lg8, us, nx, false, _, s7, ts, [], by omega, by go_num, rfl, rfl, HUS.out, HNX.out, S10.out, N10.out, HC7.out, (fun _ => rfl)⟩
        case measure => simp [intOf]; omega
      · rw [eT] at HO
        replace HO := Lib.hid HO
        have hnoT := (hC7.nos hsq)
        rw [← HNX.out] at HO hnoT hC7
        obtain ⟨TS, hTS⟩ : ∃ TS, TS = ts ++ [(nx, way)] := ⟨_, rfl⟩
        have hneq : decide (TS = ts) = false := decide_eq_false fun h => by have := congrArg List.length (hTS.symm.trans h); simp at this
        rw [← hTS] at HO hnoT hC7
        have hlong : long TS ≤ sz := by
          have h := (hC7 (fun _ => 64) (fun _ => Nat.le_refl _))
          rcases h with h | ⟨h, -⟩
          · exact h.fit
          · exact absurd rfl h
        have HTS := Lib.hid hTS
        have hwl0 : 0 < wl := by rw [HWL.out]; exact List.length_pos_iff.2 hne
        have dwl : ((wl : Int) == 0) = false := by rw [beq_eq_false_iff_ne]; omega
        clear hTS hne
        have HC7 := Lib.hid hC7
        have HNT := Lib.hid hnoT.1
        have hTl := hnoT.2
        clear eT hC7 hnoT
        go_upto_region 22 with (go_at_call 10; refine HO.out.mono ?_; rintro e w8 ⟨lg8, v8, rfl, hlg8, hL8, hT8, hb8⟩)
        have S8 := Ses.open_ (w0 := w) (seq := sq) (ts := TS) HD7.out.1 HW7.out.2 HD7.out.2.1 HD7.out.2.2 hfit hlg8 hL8 hlong hb8
        have N8 := HCT.out w8 lg8 hlg8 hb8
        have hlz : lg8 < w8.heap.size := hL8.in_
        have HP := plain_own w8 _ v8 TS hT8 (by omega)
        obtain ⟨va8, vc8, rfl, -, -, -⟩ := hT8.open_
        have HAPT := Lib.hid (fun (W2 : World) (v : Value) (h : TxOwn W2 45 (fun b => lg8 < b ∨ w8.heap.size ≤ b) v TS) => opened_apart HD7.out.1 hlg8 hlz HD7.out.2.2 h)
        replace S8 := Lib.hid S8
        replace N8 := Lib.hid N8
        replace HP := Lib.hid HP
        clear hT8 hL8 hb8 HO hlg8 hlz HCT
        go_upto_region 25 with (go_at_call 13; refine HP.out.mono ?_; rintro e w9 ⟨v9, rfl, hT9, -, hb9⟩)
        replace hT9 := HAPT.out w9 v9 hT9
        have S9 := Lib.hid (S8.out.next hb9)
        have N9 := Lib.hid (And.intro (N8.out.1.below hb9) (N8.out.2.below hb9))
        obtain ⟨ga, gc, rfl, hg1, hg2⟩ := hT9.shape
        unfold maxLen at hg2
        have HS := same_any w9 _ _ _ (.slice sa tl sc2) TS ts hT9.in_ N9.out.1.in_ HNT.out HNO.out
        rw [hneq] at HS
        obtain ⟨LT, hLT⟩ : ∃ LT, LT = long TS := ⟨_, rfl⟩
        obtain ⟨TL, hTL⟩ : ∃ TL, TL = TS.length := ⟨_, rfl⟩
        rw [← hTL] at hT9 hg1 HS ⊢
        replace HS := Lib.hid HS
        replace hT9 := Lib.hid hT9
        clear hb9 hneq
        have S9b := S9.out
        obtain ⟨NX, hNX⟩ : ∃ NX, NX = (sq + TS.length) % 18446744073709551616 := ⟨_, rfl⟩
        rw [← hLT, ← hNX] at S9b
        replace S9b := Lib.hid S9b
        have hNX2 : IntKind.u64.wrap ((nx : Int) + 1) = (NX : Int) := by
          have h1 := HNX.out
          have h2 : TS.length = ts.length + 1 := by rw [HTS.out]; simp
          rw [IntKind.wrap_u64]; omega
        have HNX7 := Lib.hid hNX
        have HLT7 := Lib.hid hLT
        clear hNX hLT hTL
        go_upto_region 26 with (go_at_call 14; refine HS.out.mono ?_; rintro e w10 ⟨rfl, qs, rfl⟩)
        obtain ⟨W1, hW1⟩ : ∃ W1, W1 = w9.drewN qs := ⟨_, rfl⟩
        have hbW : Below w9.heap.size w9 W1 := hW1 ▸ below_drewN (Below.refl _ _) qs
        rw [← hW1]
        have S10 := Lib.hid (S9b.out.next hbW)
        have N10 := Lib.hid (And.intro (N9.out.1.below hbW) (N9.out.2.below hbW))
        have hT10 := Lib.hid (hT9.out.below hbW)
        clear hW1 hbW
        obtain ⟨i0, hi0, hz0, hz1, hz2⟩ := info_parts info_rtx
        have hlt' : ts.length ≤ 1000 := by rw [← HTL.out]; omega
        go_wp2_with (first
          | (at_builtin; refine wpList_append2 rfl _ _ 34 rfl (.slice (some ⟨W1.heap.size, 0, none⟩) 0 0) (.slice sa tl sc2) rfl rfl (copy_all N10.out.1 hlt' _ _ i0 (.agg #[.int .u64 0, .slice none 0 0]) Try.underlying34 hi0 hz0 hz1 hz2 rfl (fun q hq => S10.out.apart hq)) (fun v11 w11 hR11 => ?_)
             have b11 := hR11.2.1
             have o11 := hR11.2.2
             have t11 : TxOwn w11 45 (Apart w lg8 d sb mb (.slice none 0 0)) v11 ts := hR11.1
             have p11 : StrsIn w11 (fun b => Apart w lg8 d sb mb (.slice none 0 0) b ∧ b < W1.heap.size) (.slice wa wl wc) way := (N10.out.2.mono fun b hb h => ⟨h, hb⟩).below b11
             have S11 := Lib.hid (S10.out.next b11)
             have R11 := Lib.hid (And.intro b11 (And.intro o11 (And.intro t11 p11)))
             clear hR11 b11 o11 t11 p11)
          | (at_builtin; refine wpList_append2 rfl _ _ 34 rfl v11 (.slice (some ⟨w11.heap.size, 0, none⟩) 1 1) rfl rfl (grow_two R11.out.2.2.1 ((Below.refl _ _).alloc (Nat.le_refl _) _) R11.out.1.size R11.out.2.2.2 R11.out.2.1 nx hlt' _ _ i0 (.agg #[.int .u64 0, .slice none 0 0]) Try.underlying34 hi0 hz0 hz1 hz2 rfl _ (fun j x hx => pair_drawn _ _ _ _ j hx) (fun q hq => S11.out.apart hq)) (fun v12 w12 hR12 => ?_)
             have b12 : Below W1.heap.size W1 w12 := R11.out.1.trans hR12.2
             have t12 : TxOwn w12 45 (Apart w lg8 d sb mb (.slice none 0 0)) v12 TS := by rw [HTS.out]; exact hR12.1
             have HS2 := same_any w12 _ _ _ v12 TS TS (hT10.out.below b12).in_ t12.in_ HNT.out HNT.out
             rw [decide_eq_true (rfl : TS = TS)] at HS2
             replace HS2 := Lib.hid HS2
             have S12 := Lib.hid (S10.out.next b12)
             have hT12 := Lib.hid (hT10.out.below b12)
             clear hR12 b12 t12)
          | (go_at_call 14; refine HS2.out.mono ?_; rintro e w13 ⟨rfl, q2s, rfl⟩))
        have S13 := Lib.hid (S12.out.next (below_drewN (Below.refl _ _) q2s))
        have N13 := Lib.hid (And.intro (hT12.out.below (below_drewN (Below.refl _ _) q2s)) (StrsIn.nil (w12.drewN q2s) (Apart w lg8 d sb mb (.slice none 0 0))))
        go_roundw
        case rel => exact ⟨k + 1, lg8, LT, NX, false, _, s7, TS, [], by omega, by go_num, rfl, by go_num, HLT7.out, HNX7.out, S13.out, N13.out, HC7.out, (fun _ => rfl)⟩
        case measure => simp [intOf]; omega
    have d3 : (R6 == 3) = false := by rw [beq_eq_false_iff_ne]; exact e3
    by_cases e5 : R6 = 5
    · subst e5
      go_wp2
      go_roundw
      case rel => exact ⟨k + 1, lg, us, nx, fl, wv, s, ts, way, by omega, by go_num, rfl, rfl, HUS.out, HNX.out, HI0.out, hM0.out, hC.out, HWY.out⟩
      case measure => simp [intOf]; omega
    have HPG := Lib.hid (pages_any W0 Y (by rw [HYc.out]; exact V2.out) (by rw [HYc.out]; exact V3.out))
    have hn5 := nPg_le Y
    have hpln := pgL_len Y.byte.toNat (nPg Y)
    obtain ⟨n, hn⟩ : ∃ n, n = nPg Y := ⟨_, rfl⟩
    rw [← hn] at HPG hn5 hpln
    obtain ⟨ps, hps⟩ : ∃ ps, ps = pgL Y.byte.toNat n := ⟨_, rfl⟩
    rw [← hps] at HPG hpln
    have hAG : (#[.int .u8 x0, .int .u8 x1, .int .i64 x2, .slice ka kl kc, .int .i64 x4, .int .i64 x5] : Array Value) = Y.cells := by rw [HYc.out]; rfl
    rw [← hAG] at HPG
    have HLN := Lib.hid hpln
    clear hn hps hAG hpln
    have h012 : R6 = 0 ∨ R6 = 1 ∨ R6 = 2 := by omega
    clear e4 e5 e3
    rcases h012 with rfl | rfl | rfl
    · go_upto_region 35 with (go_at_call 15; refine HPG.out.mono ?_; rintro e w7 ⟨v7, rfl, hs7, hb7⟩)
      have S7 := HI0.out.next hb7
      have hst : StrsIn w7 (fun b => Apart w lg d sb mb wv b ∧ W0.heap.size ≤ b) v7 ps := hs7.mono fun b _ hb => ⟨HI0.out.apart hb, hb⟩
      have hst2 := hst.mono (T := fun b => ¬ fp d sb mb wv b) fun b _ h => h.1.1.1
      obtain ⟨pa, pc, rfl, hp1, hp2, -⟩ := hst.open_
      have HAP := S7.append _ _ hst2
      have hdown := down_any S7.disk
      have hok7 := S7.disk.ok
      have hcl7 := S7.clean
      have hall := ares_three 150 s ⟨at_, sz, us, nx, fl⟩ ps S7.ok S7.fit (by rw [HLN.out]; exact hn5)
      rw [HLN.out] at hst hp1 HAP ⊢
      have hM7 := Lib.hid (And.intro (hM0.out.1.below hb7) (hM0.out.2.below hb7))
      have hob := Lib.hid hM0.out.1.own_lt
      replace S7 := Lib.hid S7
      replace HAP := Lib.hid HAP
      replace hst := Lib.hid hst
      clear hs7 hb7 hst2
      obtain ⟨DN, hDN⟩ : ∃ DN, DN = s.down := ⟨_, rfl⟩
      rw [← hDN] at hdown hall
      replace hdown := Lib.hid hdown
      rcases hall with ⟨c, fl2, h1, h2, h3, e⟩ | ⟨s', ha, hf, h4, hd, hr, hw', e⟩ | ⟨s', ha, hf, h4, hd, hr, e⟩
      · have HA2 := HAP.out
        rw [e] at HA2
        replace HA2 := Lib.hid HA2
        have hwy2 : fl2 = false → way = [] := fun h => HWY.out (h3 h)
        replace hwy2 := Lib.hid hwy2
        have tc0 : (c == 0) = false := by rw [beq_eq_false_iff_ne]; exact h1
        clear e HAP h3 h1 hok7 hcl7
        cases DN with
        | true =>
          clear hDN h2
          go_wp2_with (first
          | (go_at_call 16; refine hdown.out.mono ?_; rintro e w' ⟨rfl, rfl⟩)
          | (go_at_call 17; refine HA2.out.mono ?_; rintro e w8 ⟨rfl, wv8, S8, hc8, hf8⟩))
          have N8 := Lib.hid (apart_turn hc8 hf8 hM7.out)
          replace S8 := Lib.hid S8
          clear hc8 hf8
          go_roundw
          case rel => exact ⟨k + 1, lg, us, nx, fl2, wv8, s, ts, way, by omega, by go_num, rfl, rfl, HUS.out, HNX.out, S8.out, N8.out, hC.out, hwy2.out⟩
          case measure => simp [intOf]; omega
        | false =>
          have tc1 : (c == 11) = false := by rw [beq_eq_false_iff_ne]; exact h2 rfl
          clear hDN h2
          go_wp2_with (first
          | (go_at_call 16; refine hdown.out.mono ?_; rintro e w' ⟨rfl, rfl⟩)
          | (go_at_call 17; refine HA2.out.mono ?_; rintro e w8 ⟨rfl, wv8, S8, hc8, hf8⟩))
          have N8 := Lib.hid (apart_turn hc8 hf8 hM7.out)
          replace S8 := Lib.hid S8
          clear hc8 hf8
          go_roundw
          case rel => exact ⟨k + 1, lg, us, nx, fl2, wv8, s, ts, way, by omega, by go_num, rfl, rfl, HUS.out, HNX.out, S8.out, N8.out, hC.out, hwy2.out⟩
          case measure => simp [intOf]; omega
      · subst hd
        obtain rfl : fl = false := hf
        have hwn := HWY.out rfl
        have hran := Crashy.ran (N := 150) (ps := ps) (by have h := hC.out; rw [hwn] at h; exact h) hok7 (hcl7 rfl) hfit (by omega) ha (by rw [HLN.out]; omega) (by rw [← HUS.out]; exact h4) (e := 0) (s' := s') (by rw [← HUS.out, ← HNX.out]; exact hr)
        rw [← HNX.out] at hran
        have HA2 := HAP.out
        rw [e] at HA2
        replace HA2 := Lib.hid HA2
        have h4' : 1 + 9 * n ≤ sz - us := by have h := h4; rw [HLN.out] at h; exact h
        replace hran := Lib.hid (hran.1 rfl hw')
        have HWN := Lib.hid hwn
        clear e HAP hok7 hcl7 hr ha h4 hDN hwn
        have HW' := Lib.hid hw'
        clear hw'
        go_upto_region 38 with (first
          | (go_at_call 16; refine hdown.out.mono ?_; rintro e w' ⟨rfl, rfl⟩)
          | (go_at_call 17; refine HA2.out.mono ?_; rintro e w8 ⟨rfl, wv8, S8, hc8, hf8⟩))
        change Ses w w8 lg d sb mb SC wv8 150 s' ⟨at_, sz, us + (1 + 9 * ps.length), (nx + 1) % 18446744073709551616, false⟩ at S8
        have N8 := apart_turn hc8 hf8 hM7.out
        have P9 : StrsIn w8 (fun b => Apart w lg d sb mb wv8 b ∧ W0.heap.size ≤ b) (.slice pa n pc) ps := (by
          have k1 : StrsIn w7 (fun b => (Apart w lg d sb mb wv b ∧ W0.heap.size ≤ b) ∧ b < w7.heap.size) (.slice pa n pc) ps := hst.out.mono fun b hb h => ⟨h, hb⟩
          exact (k1.keep hc8 fun b _ h e => e.elim h.1.1.1.1 h.1.1.1.2).mono fun b _ h => ⟨⟨⟨fun e => h.1.1.1.1 (hf8 b h.2 e), h.1.1.1.2⟩, h.1.1.2⟩, h.1.2⟩)
        obtain ⟨i0, hi0, hz0, hz1, hz2⟩ := info_parts info_rtx
        have hlt' : ts.length ≤ 1000 := by rw [← HTL.out]; omega
        have S8h := Lib.hid S8
        have N8h := Lib.hid N8
        have P9h := Lib.hid P9
        clear S8 N8 P9 hc8 hf8
        go_wp2_with (at_builtin; refine wpList_append2 rfl _ _ 34 rfl _ _ rfl rfl (grow_one N8h.out.1 ((Below.refl _ _).alloc (Nat.le_refl _) _) P9h.out hob.out nx hlt' _ _ i0 (.agg #[.int .u64 0, .slice none 0 0]) Try.underlying34 hi0 hz0 hz1 hz2 rfl _ (fun j x hx => pair_drawn _ _ _ _ j hx) (fun q hq => S8h.out.apart hq)) (fun v' w9 hR9 => ?_))
        have hT9 : TxOwn w9 45 (Apart w lg d sb mb wv8) v' (ts ++ [(nx, ps)]) := hR9.1
        have hC9 := hR9.2.1
        have hA9 := hR9.2.2
        have S9 := S8h.out.other hC9 hA9
        obtain ⟨ya, yc, rfl, hy1', hy2'⟩ := hT9.shape
        have N9 := Lib.hid (And.intro hT9 (StrsIn.none (w' := w9) (Q := Apart w lg d sb mb wv8) (v := .slice wa wl wc) (by have h := N8h.out.2; rw [HWN.out] at h; exact h)))
        replace S9 := Lib.hid S9
        clear hC9 hA9 hT9
        obtain ⟨NX, hNX⟩ : ∃ NX, NX = (nx + 1) % 18446744073709551616 := ⟨_, rfl⟩
        have hNX2 : IntKind.u64.wrap ((nx : Int) + 1) = (NX : Int) := by rw [IntKind.wrap_u64]; omega
        have S10 := S9.out
        rw [← hNX] at S10
        have hNX3 := Lib.hid (show NX = (sq + (ts ++ [(nx, ps)]).length) % 18446744073709551616 by have := HNX.out; rw [hNX, List.length_append, this]; simp; omega)
        have hUS3 := Lib.hid (show us + (1 + 9 * ps.length) = long (ts ++ [(nx, ps)]) by rw [long_snoc, HUS.out])
        have C10 := hran
        replace S10 := Lib.hid S10
        clear hNX
        go_wp2
        go_roundw
        case rel => exact ⟨k + 1, lg, _, NX, false, wv8, s', ts ++ [(nx, ps)], [], by omega, by go_num, rfl, by go_num, hUS3.out, hNX3.out, S10.out, N9.out, C10.out, (fun _ => rfl)⟩
        case measure => simp [intOf]; omega
      · subst hd
        obtain rfl : fl = false := hf
        have hwn := HWY.out rfl
        have hran := Crashy.ran (N := 150) (ps := ps) (by have h := hC.out; rw [hwn] at h; exact h) hok7 (hcl7 rfl) hfit (by omega) ha (by rw [HLN.out]; omega) (by rw [← HUS.out]; exact h4) (e := 11) (s' := s') (by rw [← HUS.out, ← HNX.out]; exact hr)
        rw [← HNX.out] at hran
        have HA2 := HAP.out
        rw [e] at HA2
        replace HA2 := Lib.hid HA2
        have h4' : 1 + 9 * n ≤ sz - us := by have h := h4; rw [HLN.out] at h; exact h
        replace hran := Lib.hid hran.2
        have HWN := Lib.hid hwn
        clear e HAP hok7 hcl7 hr ha h4 hDN hwn
        have hC3 := hran
        go_wp2_with (first
          | (go_at_call 16; refine hdown.out.mono ?_; rintro e w' ⟨rfl, rfl⟩)
          | (go_at_call 17; refine HA2.out.mono ?_; rintro e w8 ⟨rfl, wv8, S8, hc8, hf8⟩))
        have N8 := apart_turn hc8 hf8 hM7.out
        have P8 := (apart_turn hc8 hf8 (And.intro hM7.out.1 (hst.out.mono (T := Apart w lg d sb mb wv) fun b _ h => h.1))).2
        have N9 := Lib.hid (And.intro N8.1 P8)
        replace S8 := Lib.hid S8
        clear hc8 hf8 N8 P8
        go_roundw
        case rel => exact ⟨k + 1, lg, us, nx, true, wv8, s', ts, ps, by omega, by go_num, rfl, rfl, HUS.out, HNX.out, S8.out, N9.out, hC3.out, (fun h => by cases h)⟩
        case measure => simp [intOf]; omega
    · go_upto_region 35 with (go_at_call 15; refine HPG.out.mono ?_; rintro e w7 ⟨v7, rfl, hs7, hb7⟩)
      have S7 := HI0.out.next hb7
      have hst : StrsIn w7 (fun b => Apart w lg d sb mb wv b ∧ W0.heap.size ≤ b) v7 ps := hs7.mono fun b _ hb => ⟨HI0.out.apart hb, hb⟩
      have hst2 := hst.mono (T := fun b => ¬ fp d sb mb wv b) fun b _ h => h.1.1.1
      obtain ⟨pa, pc, rfl, hp1, hp2, -⟩ := hst.open_
      have HAP := S7.append _ _ hst2
      have hdown := down_any S7.disk
      have hok7 := S7.disk.ok
      have hcl7 := S7.clean
      have hall := ares_three 150 s ⟨at_, sz, us, nx, fl⟩ ps S7.ok S7.fit (by rw [HLN.out]; exact hn5)
      rw [HLN.out] at hst hp1 HAP ⊢
      have hM7 := Lib.hid (And.intro (hM0.out.1.below hb7) (hM0.out.2.below hb7))
      have hob := Lib.hid hM0.out.1.own_lt
      replace S7 := Lib.hid S7
      replace HAP := Lib.hid HAP
      replace hst := Lib.hid hst
      clear hs7 hb7 hst2
      obtain ⟨DN, hDN⟩ : ∃ DN, DN = s.down := ⟨_, rfl⟩
      rw [← hDN] at hdown hall
      replace hdown := Lib.hid hdown
      rcases hall with ⟨c, fl2, h1, h2, h3, e⟩ | ⟨s', ha, hf, h4, hd, hr, hw', e⟩ | ⟨s', ha, hf, h4, hd, hr, e⟩
      · have HA2 := HAP.out
        rw [e] at HA2
        replace HA2 := Lib.hid HA2
        have hwy2 : fl2 = false → way = [] := fun h => HWY.out (h3 h)
        replace hwy2 := Lib.hid hwy2
        have tc0 : (c == 0) = false := by rw [beq_eq_false_iff_ne]; exact h1
        clear e HAP h3 h1 hok7 hcl7
        cases DN with
        | true =>
          clear hDN h2
          go_wp2_with (first
          | (go_at_call 16; refine hdown.out.mono ?_; rintro e w' ⟨rfl, rfl⟩)
          | (go_at_call 17; refine HA2.out.mono ?_; rintro e w8 ⟨rfl, wv8, S8, hc8, hf8⟩))
          have N8 := Lib.hid (apart_turn hc8 hf8 hM7.out)
          replace S8 := Lib.hid S8
          clear hc8 hf8
          go_roundw
          case rel => exact ⟨k + 1, lg, us, nx, fl2, wv8, s, ts, way, by omega, by go_num, rfl, rfl, HUS.out, HNX.out, S8.out, N8.out, hC.out, hwy2.out⟩
          case measure => simp [intOf]; omega
        | false =>
          have tc1 : (c == 11) = false := by rw [beq_eq_false_iff_ne]; exact h2 rfl
          clear hDN h2
          go_wp2_with (first
          | (go_at_call 16; refine hdown.out.mono ?_; rintro e w' ⟨rfl, rfl⟩)
          | (go_at_call 17; refine HA2.out.mono ?_; rintro e w8 ⟨rfl, wv8, S8, hc8, hf8⟩))
          have N8 := Lib.hid (apart_turn hc8 hf8 hM7.out)
          replace S8 := Lib.hid S8
          clear hc8 hf8
          go_roundw
          case rel => exact ⟨k + 1, lg, us, nx, fl2, wv8, s, ts, way, by omega, by go_num, rfl, rfl, HUS.out, HNX.out, S8.out, N8.out, hC.out, hwy2.out⟩
          case measure => simp [intOf]; omega
      · subst hd
        obtain rfl : fl = false := hf
        have hwn := HWY.out rfl
        have hran := Crashy.ran (N := 150) (ps := ps) (by have h := hC.out; rw [hwn] at h; exact h) hok7 (hcl7 rfl) hfit (by omega) ha (by rw [HLN.out]; omega) (by rw [← HUS.out]; exact h4) (e := 0) (s' := s') (by rw [← HUS.out, ← HNX.out]; exact hr)
        rw [← HNX.out] at hran
        have HA2 := HAP.out
        rw [e] at HA2
        replace HA2 := Lib.hid HA2
        have h4' : 1 + 9 * n ≤ sz - us := by have h := h4; rw [HLN.out] at h; exact h
        replace hran := Lib.hid (hran.1 rfl hw')
        have HWN := Lib.hid hwn
        clear e HAP hok7 hcl7 hr ha h4 hDN hwn
        have HW' := Lib.hid hw'
        clear hw'
        go_upto_region 38 with (first
          | (go_at_call 16; refine hdown.out.mono ?_; rintro e w' ⟨rfl, rfl⟩)
          | (go_at_call 17; refine HA2.out.mono ?_; rintro e w8 ⟨rfl, wv8, S8, hc8, hf8⟩))
        change Ses w w8 lg d sb mb SC wv8 150 s' ⟨at_, sz, us + (1 + 9 * ps.length), (nx + 1) % 18446744073709551616, false⟩ at S8
        have N8 := apart_turn hc8 hf8 hM7.out
        have P9 : StrsIn w8 (fun b => Apart w lg d sb mb wv8 b ∧ W0.heap.size ≤ b) (.slice pa n pc) ps := (by
          have k1 : StrsIn w7 (fun b => (Apart w lg d sb mb wv b ∧ W0.heap.size ≤ b) ∧ b < w7.heap.size) (.slice pa n pc) ps := hst.out.mono fun b hb h => ⟨h, hb⟩
          exact (k1.keep hc8 fun b _ h e => e.elim h.1.1.1.1 h.1.1.1.2).mono fun b _ h => ⟨⟨⟨fun e => h.1.1.1.1 (hf8 b h.2 e), h.1.1.1.2⟩, h.1.1.2⟩, h.1.2⟩)
        obtain ⟨i0, hi0, hz0, hz1, hz2⟩ := info_parts info_rtx
        have hlt' : ts.length ≤ 1000 := by rw [← HTL.out]; omega
        have S8h := Lib.hid S8
        have N8h := Lib.hid N8
        have P9h := Lib.hid P9
        clear S8 N8 P9 hc8 hf8
        go_wp2_with (at_builtin; refine wpList_append2 rfl _ _ 34 rfl _ _ rfl rfl (grow_one N8h.out.1 ((Below.refl _ _).alloc (Nat.le_refl _) _) P9h.out hob.out nx hlt' _ _ i0 (.agg #[.int .u64 0, .slice none 0 0]) Try.underlying34 hi0 hz0 hz1 hz2 rfl _ (fun j x hx => pair_drawn _ _ _ _ j hx) (fun q hq => S8h.out.apart hq)) (fun v' w9 hR9 => ?_))
        have hT9 : TxOwn w9 45 (Apart w lg d sb mb wv8) v' (ts ++ [(nx, ps)]) := hR9.1
        have hC9 := hR9.2.1
        have hA9 := hR9.2.2
        have S9 := S8h.out.other hC9 hA9
        obtain ⟨ya, yc, rfl, hy1', hy2'⟩ := hT9.shape
        have N9 := Lib.hid (And.intro hT9 (StrsIn.none (w' := w9) (Q := Apart w lg d sb mb wv8) (v := .slice wa wl wc) (by have h := N8h.out.2; rw [HWN.out] at h; exact h)))
        replace S9 := Lib.hid S9
        clear hC9 hA9 hT9
        obtain ⟨NX, hNX⟩ : ∃ NX, NX = (nx + 1) % 18446744073709551616 := ⟨_, rfl⟩
        have hNX2 : IntKind.u64.wrap ((nx : Int) + 1) = (NX : Int) := by rw [IntKind.wrap_u64]; omega
        have S10 := S9.out
        rw [← hNX] at S10
        have hNX3 := Lib.hid (show NX = (sq + (ts ++ [(nx, ps)]).length) % 18446744073709551616 by have := HNX.out; rw [hNX, List.length_append, this]; simp; omega)
        have hUS3 := Lib.hid (show us + (1 + 9 * ps.length) = long (ts ++ [(nx, ps)]) by rw [long_snoc, HUS.out])
        have C10 := hran
        replace S10 := Lib.hid S10
        clear hNX
        go_wp2
        go_roundw
        case rel => exact ⟨k + 1, lg, _, NX, false, wv8, s', ts ++ [(nx, ps)], [], by omega, by go_num, rfl, by go_num, hUS3.out, hNX3.out, S10.out, N9.out, C10.out, (fun _ => rfl)⟩
        case measure => simp [intOf]; omega
      · subst hd
        obtain rfl : fl = false := hf
        have hwn := HWY.out rfl
        have hran := Crashy.ran (N := 150) (ps := ps) (by have h := hC.out; rw [hwn] at h; exact h) hok7 (hcl7 rfl) hfit (by omega) ha (by rw [HLN.out]; omega) (by rw [← HUS.out]; exact h4) (e := 11) (s' := s') (by rw [← HUS.out, ← HNX.out]; exact hr)
        rw [← HNX.out] at hran
        have HA2 := HAP.out
        rw [e] at HA2
        replace HA2 := Lib.hid HA2
        have h4' : 1 + 9 * n ≤ sz - us := by have h := h4; rw [HLN.out] at h; exact h
        replace hran := Lib.hid hran.2
        have HWN := Lib.hid hwn
        clear e HAP hok7 hcl7 hr ha h4 hDN hwn
        have hC3 := hran
        go_wp2_with (first
          | (go_at_call 16; refine hdown.out.mono ?_; rintro e w' ⟨rfl, rfl⟩)
          | (go_at_call 17; refine HA2.out.mono ?_; rintro e w8 ⟨rfl, wv8, S8, hc8, hf8⟩))
        have N8 := apart_turn hc8 hf8 hM7.out
        have P8 := (apart_turn hc8 hf8 (And.intro hM7.out.1 (hst.out.mono (T := Apart w lg d sb mb wv) fun b _ h => h.1))).2
        have N9 := Lib.hid (And.intro N8.1 P8)
        replace S8 := Lib.hid S8
        clear hc8 hf8 N8 P8
        go_roundw
        case rel => exact ⟨k + 1, lg, us, nx, true, wv8, s', ts, ps, by omega, by go_num, rfl, rfl, HUS.out, HNX.out, S8.out, N9.out, hC3.out, (fun h => by cases h)⟩
        case measure => simp [intOf]; omega
    · go_upto_region 35 with (go_at_call 15; refine HPG.out.mono ?_; rintro e w7 ⟨v7, rfl, hs7, hb7⟩)
      have S7 := HI0.out.next hb7
      have hst : StrsIn w7 (fun b => Apart w lg d sb mb wv b ∧ W0.heap.size ≤ b) v7 ps := hs7.mono fun b _ hb => ⟨HI0.out.apart hb, hb⟩
      have hst2 := hst.mono (T := fun b => ¬ fp d sb mb wv b) fun b _ h => h.1.1.1
      obtain ⟨pa, pc, rfl, hp1, hp2, -⟩ := hst.open_
      have HAP := S7.append _ _ hst2
      have hdown := down_any S7.disk
      have hok7 := S7.disk.ok
      have hcl7 := S7.clean
      have hall := ares_three 150 s ⟨at_, sz, us, nx, fl⟩ ps S7.ok S7.fit (by rw [HLN.out]; exact hn5)
      rw [HLN.out] at hst hp1 HAP ⊢
      have hM7 := Lib.hid (And.intro (hM0.out.1.below hb7) (hM0.out.2.below hb7))
      have hob := Lib.hid hM0.out.1.own_lt
      replace S7 := Lib.hid S7
      replace HAP := Lib.hid HAP
      replace hst := Lib.hid hst
      clear hs7 hb7 hst2
      obtain ⟨DN, hDN⟩ : ∃ DN, DN = s.down := ⟨_, rfl⟩
      rw [← hDN] at hdown hall
      replace hdown := Lib.hid hdown
      rcases hall with ⟨c, fl2, h1, h2, h3, e⟩ | ⟨s', ha, hf, h4, hd, hr, hw', e⟩ | ⟨s', ha, hf, h4, hd, hr, e⟩
      · have HA2 := HAP.out
        rw [e] at HA2
        replace HA2 := Lib.hid HA2
        have hwy2 : fl2 = false → way = [] := fun h => HWY.out (h3 h)
        replace hwy2 := Lib.hid hwy2
        have tc0 : (c == 0) = false := by rw [beq_eq_false_iff_ne]; exact h1
        clear e HAP h3 h1 hok7 hcl7
        cases DN with
        | true =>
          clear hDN h2
          go_wp2_with (first
          | (go_at_call 16; refine hdown.out.mono ?_; rintro e w' ⟨rfl, rfl⟩)
          | (go_at_call 17; refine HA2.out.mono ?_; rintro e w8 ⟨rfl, wv8, S8, hc8, hf8⟩))
          have N8 := Lib.hid (apart_turn hc8 hf8 hM7.out)
          replace S8 := Lib.hid S8
          clear hc8 hf8
          go_roundw
          case rel => exact ⟨k + 1, lg, us, nx, fl2, wv8, s, ts, way, by omega, by go_num, rfl, rfl, HUS.out, HNX.out, S8.out, N8.out, hC.out, hwy2.out⟩
          case measure => simp [intOf]; omega
        | false =>
          have tc1 : (c == 11) = false := by rw [beq_eq_false_iff_ne]; exact h2 rfl
          clear hDN h2
          go_wp2_with (first
          | (go_at_call 16; refine hdown.out.mono ?_; rintro e w' ⟨rfl, rfl⟩)
          | (go_at_call 17; refine HA2.out.mono ?_; rintro e w8 ⟨rfl, wv8, S8, hc8, hf8⟩))
          have N8 := Lib.hid (apart_turn hc8 hf8 hM7.out)
          replace S8 := Lib.hid S8
          clear hc8 hf8
          go_roundw
          case rel => exact ⟨k + 1, lg, us, nx, fl2, wv8, s, ts, way, by omega, by go_num, rfl, rfl, HUS.out, HNX.out, S8.out, N8.out, hC.out, hwy2.out⟩
          case measure => simp [intOf]; omega
      · subst hd
        obtain rfl : fl = false := hf
        have hwn := HWY.out rfl
        have hran := Crashy.ran (N := 150) (ps := ps) (by have h := hC.out; rw [hwn] at h; exact h) hok7 (hcl7 rfl) hfit (by omega) ha (by rw [HLN.out]; omega) (by rw [← HUS.out]; exact h4) (e := 0) (s' := s') (by rw [← HUS.out, ← HNX.out]; exact hr)
        rw [← HNX.out] at hran
        have HA2 := HAP.out
        rw [e] at HA2
        replace HA2 := Lib.hid HA2
        have h4' : 1 + 9 * n ≤ sz - us := by have h := h4; rw [HLN.out] at h; exact h
        replace hran := Lib.hid (hran.1 rfl hw')
        have HWN := Lib.hid hwn
        clear e HAP hok7 hcl7 hr ha h4 hDN hwn
        have HW' := Lib.hid hw'
        clear hw'
        go_upto_region 38 with (first
          | (go_at_call 16; refine hdown.out.mono ?_; rintro e w' ⟨rfl, rfl⟩)
          | (go_at_call 17; refine HA2.out.mono ?_; rintro e w8 ⟨rfl, wv8, S8, hc8, hf8⟩))
        change Ses w w8 lg d sb mb SC wv8 150 s' ⟨at_, sz, us + (1 + 9 * ps.length), (nx + 1) % 18446744073709551616, false⟩ at S8
        have N8 := apart_turn hc8 hf8 hM7.out
        have P9 : StrsIn w8 (fun b => Apart w lg d sb mb wv8 b ∧ W0.heap.size ≤ b) (.slice pa n pc) ps := (by
          have k1 : StrsIn w7 (fun b => (Apart w lg d sb mb wv b ∧ W0.heap.size ≤ b) ∧ b < w7.heap.size) (.slice pa n pc) ps := hst.out.mono fun b hb h => ⟨h, hb⟩
          exact (k1.keep hc8 fun b _ h e => e.elim h.1.1.1.1 h.1.1.1.2).mono fun b _ h => ⟨⟨⟨fun e => h.1.1.1.1 (hf8 b h.2 e), h.1.1.1.2⟩, h.1.1.2⟩, h.1.2⟩)
        obtain ⟨i0, hi0, hz0, hz1, hz2⟩ := info_parts info_rtx
        have hlt' : ts.length ≤ 1000 := by rw [← HTL.out]; omega
        have S8h := Lib.hid S8
        have N8h := Lib.hid N8
        have P9h := Lib.hid P9
        clear S8 N8 P9 hc8 hf8
        go_wp2_with (at_builtin; refine wpList_append2 rfl _ _ 34 rfl _ _ rfl rfl (grow_one N8h.out.1 ((Below.refl _ _).alloc (Nat.le_refl _) _) P9h.out hob.out nx hlt' _ _ i0 (.agg #[.int .u64 0, .slice none 0 0]) Try.underlying34 hi0 hz0 hz1 hz2 rfl _ (fun j x hx => pair_drawn _ _ _ _ j hx) (fun q hq => S8h.out.apart hq)) (fun v' w9 hR9 => ?_))
        have hT9 : TxOwn w9 45 (Apart w lg d sb mb wv8) v' (ts ++ [(nx, ps)]) := hR9.1
        have hC9 := hR9.2.1
        have hA9 := hR9.2.2
        have S9 := S8h.out.other hC9 hA9
        obtain ⟨ya, yc, rfl, hy1', hy2'⟩ := hT9.shape
        have N9 := Lib.hid (And.intro hT9 (StrsIn.none (w' := w9) (Q := Apart w lg d sb mb wv8) (v := .slice wa wl wc) (by have h := N8h.out.2; rw [HWN.out] at h; exact h)))
        replace S9 := Lib.hid S9
        clear hC9 hA9 hT9
        obtain ⟨NX, hNX⟩ : ∃ NX, NX = (nx + 1) % 18446744073709551616 := ⟨_, rfl⟩
        have hNX2 : IntKind.u64.wrap ((nx : Int) + 1) = (NX : Int) := by rw [IntKind.wrap_u64]; omega
        have S10 := S9.out
        rw [← hNX] at S10
        have hNX3 := Lib.hid (show NX = (sq + (ts ++ [(nx, ps)]).length) % 18446744073709551616 by have := HNX.out; rw [hNX, List.length_append, this]; simp; omega)
        have hUS3 := Lib.hid (show us + (1 + 9 * ps.length) = long (ts ++ [(nx, ps)]) by rw [long_snoc, HUS.out])
        have C10 := hran
        replace S10 := Lib.hid S10
        clear hNX
        go_wp2
        go_roundw
        case rel => exact ⟨k + 1, lg, _, NX, false, wv8, s', ts ++ [(nx, ps)], [], by omega, by go_num, rfl, by go_num, hUS3.out, hNX3.out, S10.out, N9.out, C10.out, (fun _ => rfl)⟩
        case measure => simp [intOf]; omega
      · subst hd
        obtain rfl : fl = false := hf
        have hwn := HWY.out rfl
        have hran := Crashy.ran (N := 150) (ps := ps) (by have h := hC.out; rw [hwn] at h; exact h) hok7 (hcl7 rfl) hfit (by omega) ha (by rw [HLN.out]; omega) (by rw [← HUS.out]; exact h4) (e := 11) (s' := s') (by rw [← HUS.out, ← HNX.out]; exact hr)
        rw [← HNX.out] at hran
        have HA2 := HAP.out
        rw [e] at HA2
        replace HA2 := Lib.hid HA2
        have h4' : 1 + 9 * n ≤ sz - us := by have h := h4; rw [HLN.out] at h; exact h
        replace hran := Lib.hid hran.2
        have HWN := Lib.hid hwn
        clear e HAP hok7 hcl7 hr ha h4 hDN hwn
        have hC3 := hran
        go_wp2_with (first
          | (go_at_call 16; refine hdown.out.mono ?_; rintro e w' ⟨rfl, rfl⟩)
          | (go_at_call 17; refine HA2.out.mono ?_; rintro e w8 ⟨rfl, wv8, S8, hc8, hf8⟩))
        have N8 := apart_turn hc8 hf8 hM7.out
        have P8 := (apart_turn hc8 hf8 (And.intro hM7.out.1 (hst.out.mono (T := Apart w lg d sb mb wv) fun b _ h => h.1))).2
        have N9 := Lib.hid (And.intro N8.1 P8)
        replace S8 := Lib.hid S8
        clear hc8 hf8 N8 P8
        go_roundw
        case rel => exact ⟨k + 1, lg, us, nx, true, wv8, s', ts, ps, by omega, by go_num, rfl, rfl, HUS.out, HNX.out, S8.out, N9.out, hC3.out, (fun h => by cases h)⟩
        case measure => simp [intOf]; omega

set_option maxRecDepth 100000 in
theorem lifted (os : Os) (started : os.Started) (H : Type) (enc : TypeId × Value → H) :
    ReturnsInHanded {} Try.checked os 3 .any (Rows.redoCrashSpec.pre6 enc Try.prog Try.f3 Rows.redoCrashRow.domain false) (Rows.redoCrashSpec.post enc Try.prog Try.f3 false true false false) := by
  refine returnsInHanded_of_change (C := Try.checked) own started (by kernel_rfl) Try.func3
    (ChangeSpec.witness6 (enc := enc) (C := Try.checked) false ⟨#[], #[.int .u8 0, .int .u64 0, .slice none 0 0], []⟩ 8 (by kernel_rfl) (by kernel_rfl) (by kernel_rfl) (by kernel_rfl)) ?_
  intro W base args ds gs before hval0 hW hcnd _
  have hval : ∀ (j : Nat) t v, Try.f3.params[j]? = some t → args[j]? = some v → Value.okWide Try.prog W .any base t v := hval0
  have hW' := hW
  obtain ⟨p, q, hA0, hV, rfl, hfz, hnd⟩ := hW
  have hA : DataW.TrodAll enc Try.prog W 0 (fun _ => true) true Try.f3.params.toList args.toList ds p := hA0
  rw [Try.params3] at hA hval
  obtain ⟨v0, vs0, d0, ds0, p0, q0, hargs, rfl, rfl, h0, r0⟩ := trodAll_cons hA
  obtain ⟨v1, vs1, d1, ds1, p1, q1, rfl, rfl, rfl, h1, r1⟩ := trodAll_cons r0
  obtain ⟨v2, vs2, d2, ds2, p2, q2, rfl, rfl, rfl, h2, r2⟩ := trodAll_cons r1
  obtain ⟨rfl, rfl, rfl⟩ := trodAll_nil r2
  obtain rfl : args = #[v0, v1, v2] := by cases args; simp_all
  obtain ⟨rfl, rfl⟩ := trodVars_none hV
  obtain ⟨a0, rfl, rfl, rfl, w0⟩ := open_int Try.underlying5 (hval 0 5 v0 rfl rfl) h0
  obtain ⟨a1, rfl, rfl, rfl, w1⟩ := open_int Try.underlying22 (hval 1 22 v1 rfl rfl) h1
  have k2 := h2
  have lt2 : ∀ x ∈ p2, x.block < W.heap.size := by obtain ⟨m, hm⟩ := k2; exact DataW.trod_lt m _ _ _ hm
  obtain ⟨a2, len2, cap2, rfl⟩ := okWide_slice Try.underlying23 (hval 2 23 v2 rfl rfl)
  obtain ⟨z2, w2⟩ : ∃ z, IsActs W a2 len2 cap2 z := by
    obtain ⟨fuel, hf⟩ := h2
    obtain ⟨a, l, c, z, e, hz⟩ := open_acts hf
    simp [Value.cells] at e
    obtain ⟨rfl, rfl, rfl⟩ := e
    exact ⟨z, hz⟩
  clear hA0 hval0
  refine (walk a0 a1 a2 len2 cap2 z2 W w0 w1 w2).mono fun e W' ⟨he, bel⟩ => ?_
  subst he
  exact ⟨_, rfl, _, _, _, [], _, [], hW', trodAll_mk1 (shut_bool Try.underlying4 _), (trodAll_cons_mk (shut_int Try.underlying5 w0) (trodAll_cons_mk (shut_int Try.underlying22 w1) (trodAll_cons_mk (Below.trod laidOut (by kernel_rfl) (of_decide_eq_true (by kernel_rfl)) k2 bel lt2) trodAll_mk0))), rfl, bel.frame _, fun h => by cases h⟩

theorem over : Rows.redoCrashRow.holds Try.pinned (OpenSpec.ofChange Rows.redoCrashSpec) :=
  OpenClaim.holds_of_wide 3 Try.f3 rfl rfl rfl rfl rfl rfl rfl ⟨rfl, rfl, rfl, rfl, rfl⟩ rfl rfl rfl rfl rfl (by kernel_rfl) Try.func3 (by kernel_rfl)
    (of_decide_eq_true (by kernel_rfl)) (by unfold Func.isWrapper; first | (rw [if_pos (by decide +kernel)]; kernel_rfl) | (rw [if_neg (by decide +kernel)]; exact ⟨rfl, rfl⟩))
    (fun os started H enc _ => lifted os started H enc)

/-- THE STATEMENT -/
theorem proved : Rows.RedoCrashSaid := over
#print axioms proved
end Go.Proofs.Ytmincpmkiheofaa.redoCrash
