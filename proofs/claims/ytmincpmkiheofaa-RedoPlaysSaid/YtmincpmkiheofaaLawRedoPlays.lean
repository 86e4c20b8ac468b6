/- For every uint64 and every list of acts: where the acts are few enough and small enough, each call of a log on a disk of 150 sectors, and of the disk, in every order, answers what the document says, and what stands behind each crash is what the reference reads out of the disk's bytes; the document's example of layer 9 holds: RedoPlays answers true.
Conditions: none; every input that can be read is spoken of. -/
import Derived.Test.YtmincpmkiheofaaRows
import Derived.Test.YtmincpmkiheofaaBase
import Derived.Test.YtmincpmkiheofaaActS
import Derived.Test.YtmincpmkiheofaaRdlN
import Derived.Test.YtmincpmkiheofaaRdlS
import Derived.Test.YtmincpmkiheofaaRdrB
import Derived.WalkKit
import Derived.ProofKit
import Derived.OpenShut
import Derived.ShutString
import Derived.ChangeOld
import Derived.Below
import Derived.SliceStrings
namespace Go.Proofs.Ytmincpmkiheofaa.redoPlays
open Go.ChangeShapes Go.WideShapes Go.ChangeAt Go.RowKit
open Go.ChangeMaps (open_string shut_string)
set_option linter.unusedVariables false

theorem own : ownKnob Try.prog.godebug = none := by kernel_rfl
theorem laidOut : laidOutB Try.prog = true := by kernel_rfl

set_option maxHeartbeats 16000000 in
set_option maxRecDepth 100000 in
theorem walk (a0 : Int) (a1 : Option Addr) (len1 cap1 : Nat) (z1 : List ActD) (w : World) (w0 : (Lit.int .u64 a0).wf = true) (w1 : IsActs w a1 len1 cap1 z1) :
    Calls Try.prog 4 #[.int .u64 a0, .slice a1 len1 cap1] w fun e w' => e = .returned (.bool true) ∧ Below w.heap.size w w' := by
  have r5 : 0 ≤ a0 ∧ a0 ≤ 18446744073709551615 := by
    have h := w0
    simp [Lit.wf, IntKind.min, IntKind.max, IntKind.signed, IntKind.bits] at h
    omega
  obtain ⟨sq, hsq⟩ : ∃ sq : Nat, a0 = (sq : Int) := ⟨a0.toNat, by omega⟩
  subst hsq
  have hsq : sq ≤ 18446744073709551615 := by omega
  clear r5 w0
  have hw1 := w1
  obtain ⟨hl1, hl2, hl3, hl4⟩ := w1
  unfold maxLen at hl2
  have hlen : len1 ≤ 9223372036854775807 := by omega
  replace hw1 := Lib.hid hw1
  replace hl3 := Lib.hid hl3
  replace hl4 := Lib.hid hl4
  go_enter Try.func4, Try.ntmps4
  go_wp2_with fail
  refine (awaken_any _).mono ?_
  rintro e w1 ⟨rfl, b1⟩
  go_wp2_with fail
  refine (few_any w1 a1 len1 cap1 z1 (hw1.out.keep b1)).mono ?_
  rintro e w' ⟨rfl, ⟨rfl, hf⟩ | rfl⟩
  rotate_left
  · go_wp2_with fail
    refine (awaken_any _).mono ?_
    rintro e w2 ⟨rfl, b2⟩
    go_wp2_with fail
    go_ret
    exact ⟨rfl, then_ b1 b2 b1.size⟩
  replace hf := Lib.hid hf
  go_wp2_with fail
  refine (new_any w1 150 (by omega) (by omega)).mono ?_
  rintro e w2 ⟨d, sb, mb, rfl, D2, b2, zd, zs, zm⟩
  have z1' := b1.size
  have B2 := then_ b1 b2 b1.size
  have hnew := sep_new' (wv := .slice none 0 0) w.heap.size (by omega) (by omega) (by omega) (fun g hg => by cases hg) (d := d) (sb := sb) (mb := mb)
  change DiskAt w2 d sb mb (150 * 64) (.slice none 0 0) 150 (fresh 150) at D2
  have HO := open_any D2 rfl 3 100 sq (by omega) (by omega) hsq
  rw [fresh_none] at HO
  replace HO := Lib.hid HO
  go_wp2_with fail
  refine HO.out.mono ?_
  rintro e w3 ⟨lg0, v, rfl, hlg, hL3, hT, hb3⟩
  have S3 := Ses.open_ (w0 := w) (seq := sq) (ts := []) D2 rfl hnew B2 (by omega) hlg hL3 (Nat.zero_le _) hb3
  have e0 : (sq + ([] : List (Nat × List ByteArray)).length) % 18446744073709551616 = sq := by show (sq + 0) % 18446744073709551616 = sq; omega
  rw [e0] at S3
  change Ses w w3 lg0 d sb mb (150 * 64) (.slice none 0 0) 150 (fresh 150) ⟨3, 100, 0, sq, false⟩ at S3
  obtain ⟨ta, tc, rfl, ht1, ht2, -⟩ := hT.open_
  replace S3 := Lib.hid S3
  clear HO hL3 hT hb3 D2 b1 b2 B2 hnew zd zs zm ht1 ht2 hlg e0 z1'
  obtain ⟨SC, hSC⟩ : ∃ SC : Nat, SC = 150 * 64 := ⟨_, rfl⟩
  rw [← hSC] at S3
  clear hSC
  go_wp2
  go_loopw [7, 10, 11, 12, 13] (fun v7 v10 v11 v12 v13 wr => ∃ (k lg us nx : Nat) (fl : Bool) (wv : Value) (s : St), k ≤ len1 ∧ v13 = .int .i64 k ∧ v7 = .pointer (some ⟨lg, 0, none⟩) ∧ v10 = .int .i64 (us : Int) ∧ v11 = .int .u64 (nx : Int) ∧ v12 = .bool fl ∧ Ses w wr lg d sb mb SC wv 150 s ⟨3, 100, us, nx, fl⟩ ∧ (fl = false → s.down = false)) (fun v7 v10 v11 v12 v13 wr => len1 - (intOf v13).toNat)
  case atStart => exact ⟨0, lg0, 0, sq, false, _, _, by omega, rfl, rfl, rfl, rfl, rfl, S3.out, fun _ => rfl⟩
  case round =>
    clear S3
    obtain ⟨k, lg, us, nx, fl, wv, s, hk, rfl, rfl, rfl, rfl, rfl, HI, hdn⟩ := hrel
    have BI := HI.below
    have hus : us ≤ 100 := HI.ok.used
    have hnx : nx ≤ 18446744073709551615 := HI.ok.next
    replace HI := Lib.hid HI
    have HDN := Lib.hid hdn
    clear hdn
    by_cases hlt : k < len1
    rotate_left
    · obtain rfl : k = len1 := by omega
      go_wp2
      go_ret
      exact ⟨rfl, BI⟩
    rcases hl4.out with h | ⟨b0, o0, rfl, hbz, hc⟩
    · omega
    have hkl : k < z1.length := by rw [hl3.out]; exact hlt
    obtain ⟨hcell, hx⟩ := hc k hkl
    have hlf : len1 ≤ 40 := by have := hf.out.1; rw [hl3.out] at this; exact this
    obtain ⟨y, hy⟩ : ∃ y, y = z1[k]'hkl := ⟨_, rfl⟩
    rw [← hy] at hcell hx
    clear hy hc
    have hold := Lib.hid hx.old
    replace hx := hx.stay BI
    replace hcell := fun j hj => (BI.cell (p := ⟨b0, o0 + k * 6 + j, none⟩) hbz).trans (hcell j hj)
    have c0 := hcell 0 (by omega)
    have c1 := hcell 1 (by omega)
    have c2 := hcell 2 (by omega)
    have c3 := hcell 3 (by omega)
    have c4 := hcell 4 (by omega)
    have c5 := hcell 5 (by omega)
    obtain ⟨Y, hY⟩ : ∃ Y, Y = y := ⟨_, rfl⟩
    obtain ⟨x0, x1, x2, ka, kl, kc, zs, x4, x5⟩ := y
    simp only [ActD.cells, List.getElem?_toArray, List.getElem?_cons_succ, List.getElem?_cons_zero, Nat.add_zero] at c0 c1 c2 c3 c4 c5
    obtain ⟨v1, v2, v3, v5, v6, v4, v7⟩ := hx
    simp only at v1 v2 v3 v4 v5 v6 v7
    obtain ⟨r01, r02⟩ := wf_u8 v1
    obtain ⟨r21, r22⟩ := wf_i64 v3
    obtain ⟨r41, r42⟩ := wf_i64 v4
    obtain ⟨r51, r52⟩ := wf_i64 v7
    have V2 := Lib.hid v2
    have V3 := Lib.hid v3
    replace v5 := Lib.hid v5
    have hkz := v5.out.1
    have hkz2 := v5.out.2.1
    unfold maxLen at hkz2
    replace BI := Lib.hid BI
    have HYc := Lib.hid hY
    clear v1 v2 v3 v4 v6 v7 hcell hY
    obtain ⟨U, hU⟩ : ∃ U, IntKind.u64.wrap x2 = U := ⟨_, rfl⟩
    have hU0 : 0 ≤ U := by rw [← hU]; simp [IntKind.wrap, IntKind.signed, IntKind.bits]; omega
    go_upto_region 10 with fail
    go_name_world W0 hW0e
    have O0 : Own W0 wr.heap.size 38 #[.int .u8 x0, .int .u8 x1, .int .i64 x2, .slice ka kl kc, .int .i64 x4, .int .i64 x5] := hW0e ▸ Own.made _ _ _
    have b0' : Below wr.heap.size wr W0 := hW0e ▸ (Below.refl _ _).alloc (Nat.le_refl _) _
    have HI0 := HI.out.next b0'
    have K0 := Lib.hid (v5.out.keep b0')
    clear hW0e b0' c0 c1 c2 c3 c4 c5 HI v5
    have ob := O0.at_
    obtain ⟨q1, q2, q3⟩ := ob
    replace HI0 := Lib.hid HI0
    obtain ⟨R6, hR6⟩ : ∃ R6, x0 % 6 = R6 := ⟨_, rfl⟩
    have hR60 : 0 ≤ R6 ∧ R6 < 6 := by omega
    cases fl with
    | true =>
      by_cases e4 : R6 = 4
      · subst e4
        have HFU := Lib.hid (HI0.out.fuse (U % 40) (wf_mk (by omega) (by omega)))
        go_upto_region 46 with (go_at_call 11; refine HFU.out.mono ?_; rintro e w7 ⟨rfl, wv7, S7, -, -⟩)
        replace S7 := Lib.hid S7
        have hnxt := next_any S7.out.log
        rw [show (((⟨3, 100, us, nx, true⟩ : LogS).next : Nat) : Int) = (nx : Int) from rfl] at hnxt
        have hlft := left_any S7.out.log S7.out.ok
        rw [show (((⟨3, 100, us, nx, true⟩ : LogS).left : Nat) : Int) = 0 from by rfl] at hlft
        have HNXT := Lib.hid hnxt
        have HLFT := Lib.hid hlft
        clear hnxt hlft
        go_wp2_with (first
          | (go_at_call 21; refine HNXT.out.mono ?_; rintro e w' ⟨rfl, rfl⟩)
          | (go_at_call 22; refine HLFT.out.mono ?_; rintro e w' ⟨rfl, qq, rfl⟩))
        go_roundw
        case rel => exact ⟨k + 1, lg, us, nx, true, _, _, by omega, by go_num, rfl, rfl, rfl, rfl, S7.out.next (below_drewN (Below.refl _ _) _), (fun h => by cases h)⟩
        case measure => simp [intOf]; omega
      have d4 : (R6 == 4) = false := by rw [beq_eq_false_iff_ne]; exact e4
      by_cases e5 : R6 = 5
      · subst e5
        have HRE := Lib.hid (restart_no HI0.out.log rfl)
        go_upto_region 46 with (go_at_call 18; refine HRE.out.mono ?_; rintro e w' ⟨rfl, rfl⟩)
        have hnxt := next_any HI0.out.log
        rw [show (((⟨3, 100, us, nx, true⟩ : LogS).next : Nat) : Int) = (nx : Int) from rfl] at hnxt
        have hlft := left_any HI0.out.log HI0.out.ok
        rw [show (((⟨3, 100, us, nx, true⟩ : LogS).left : Nat) : Int) = 0 from by rfl] at hlft
        have HNXT := Lib.hid hnxt
        have HLFT := Lib.hid hlft
        clear hnxt hlft
        go_wp2_with (first
          | (go_at_call 21; refine HNXT.out.mono ?_; rintro e w' ⟨rfl, rfl⟩)
          | (go_at_call 22; refine HLFT.out.mono ?_; rintro e w' ⟨rfl, qq, rfl⟩))
        go_roundw
        case rel => exact ⟨k + 1, lg, us, nx, true, _, _, by omega, by go_num, rfl, rfl, rfl, rfl, HI0.out.next (below_drewN (Below.refl _ _) _), (fun h => by cases h)⟩
        case measure => simp [intOf]; omega
      have d5 : (R6 == 5) = false := by rw [beq_eq_false_iff_ne]; exact e5
      by_cases e3 : R6 = 3
      · subst e3
        have HCR := Lib.hid (HI0.out.crash ka kl kc zs x4 x5 K0.out hold.out)
        go_upto_region 41 with (go_at_call 12; refine HCR.out.mono ?_; rintro e w7 ⟨rfl, D7, n7, B7, -, -⟩)
        obtain ⟨s7, hs7⟩ : ∃ s7, s7 = cres s kl zs x4 x5 := ⟨_, rfl⟩
        have hd7 : s7.down = false := by rw [hs7]; rfl
        have hw7 : s7.wr = [] := by rw [hs7]; rfl
        rw [← hs7] at D7
        have HO := open_any D7 hd7 3 100 sq (by omega) (by omega) hsq
        rw [stands_img D7.ok hw7 3 100 sq (by omega)] at HO
        have zIM : (strOf s7.sure).size = 9600 := by have h := D7.ok.len; show (s7.sure.toArray).size = 9600; simp; omega
        have HIMG := fun (W : World) (hb : Below w7.heap.size w7 W) => image_any (D7.below hb)
        obtain ⟨IMG, hIMG⟩ : ∃ IMG, IMG = strOf s7.sure := ⟨_, rfl⟩
        rw [← hIMG] at HO zIM HIMG
        have hslc : ∀ W : World, (Instr.slice 9 (.string IMG) (some (.int .i64 192)) (some (.int .i64 6592)) none).run Try.prog W = .ok (.string (IMG.extract (64 * 3) (64 * (3 + 100)))) W := fun W => slice_both W IMG 192 6592 (by omega) (by omega) _ _ rfl rfl
        have zSL : (IMG.extract (64 * 3) (64 * (3 + 100))).size = 64 * 100 := by rw [ByteArray.size_extract]; omega
        obtain ⟨SL, hSL⟩ : ∃ SL, SL = IMG.extract (64 * 3) (64 * (3 + 100)) := ⟨_, rfl⟩
        rw [← hSL] at HO hslc zSL
        have HST := Lib.hid (fun w => rstands_any SL 100 sq w zSL (by omega) hsq)
        have hseqs := stands_seq (fA SL) (100 + 1) 0 100 sq hsq
        have hlong := stands_long (fA SL) (100 + 1) 0 100 sq
        change ∀ t ∈ standsAt (fA SL) 100 sq, _ at hseqs
        change long (standsAt (fA SL) 100 sq) ≤ 100 at hlong
        have hge := long_ge (standsAt (fA SL) 100 sq)
        obtain ⟨TS, hTS⟩ : ∃ TS, TS = standsAt (fA SL) 100 sq := ⟨_, rfl⟩
        rw [← hTS] at HO HST hseqs hlong hge
        have HSE := Lib.hid hseqs
        have HIMGh := Lib.hid HIMG
        have HSLC := Lib.hid hslc
        have HD7 := Lib.hid (And.intro D7 (And.intro n7 B7))
        have HW7 := Lib.hid (And.intro hd7 hw7)
        replace HO := Lib.hid HO
        clear hs7 hd7 hw7 D7 n7 B7 hIMG hSL hTS hseqs hslc HIMG zIM zSL HCR
        go_upto_region 42 with (go_at_call 10; refine HO.out.mono ?_; rintro e w8 ⟨lg8, v8, rfl, hlg8, hL8, hT8, hb8⟩)
        have S8 := Ses.open_ (w0 := w) (seq := sq) (ts := TS) HD7.out.1 HW7.out.2 HD7.out.2.1 HD7.out.2.2 (by omega) hlg8 hL8 hlong hb8
        replace S8 := Lib.hid S8
        replace hT8 := Lib.hid hT8
        have HI8 := Lib.hid (HIMGh.out w8 hb8)
        clear hL8 hb8 HO hlg8
        have hsl8 := HSLC.out w8
        go_upto_region 43 with (first
          | (go_at_call 20; refine HI8.out.mono ?_; rintro e w' ⟨rfl, rfl⟩)
          | (go_at_call 19; refine (HST.out _).mono ?_; rintro e w9 ⟨v9, rfl, hT9, hb9⟩))
        have HP := plain_any w9 _ v8 TS (hT8.out.below hb9) (by omega)
        obtain ⟨va, vc, rfl, -, -, -⟩ := hT9.open_
        have S9 := Lib.hid (S8.out.next hb9)
        replace hT9 := Lib.hid hT9
        replace HP := Lib.hid HP
        clear hb9 hsl8
        go_wp2_with fail
        refine HP.out.mono ?_
        rintro e w10 ⟨v10, rfl, hT10, hb10⟩
        have HS := same_any w10 _ _ v10 _ TS TS hT10 (hT9.out.below hb10) HSE.out HSE.out
        rw [decide_eq_true (rfl : TS = TS)] at HS
        have S10 := Lib.hid (S9.out.next hb10)
        replace HS := Lib.hid HS
        clear hT10 hb10 HP
        go_upto_region 46 with (go_at_call 14; refine HS.out.mono ?_; rintro e w11 ⟨rfl, qs, rfl⟩)
        obtain ⟨LT, hLT⟩ : ∃ LT, LT = long TS := ⟨_, rfl⟩
        obtain ⟨TL, hTL⟩ : ∃ TL, TL = TS.length := ⟨_, rfl⟩
        rw [← hLT, ← hTL] at S10
        rw [← hLT] at hlong hge ⊢
        rw [← hTL] at hge ⊢
        clear hLT hTL
        obtain ⟨NX, hNX⟩ : ∃ NX, NX = (sq + TL) % 18446744073709551616 := ⟨_, rfl⟩
        have hNX2 : IntKind.u64.wrap ((sq : Int) + (TL : Int)) = (NX : Int) := by rw [IntKind.wrap_u64]; omega
        rw [← hNX] at S10
        have S11 := Lib.hid (S10.out.next (below_drewN (Below.refl _ _) qs))
        have HW := Lib.hid (fun (_ : True) => HW7.out.1)
        clear hNX
        have hnxt := next_any S11.out.log
        rw [show (((⟨3, 100, LT, NX, false⟩ : LogS).next : Nat) : Int) = (NX : Int) from rfl] at hnxt
        have hlft := left_any S11.out.log S11.out.ok
        rw [show (((⟨3, 100, LT, NX, false⟩ : LogS).left : Nat) : Int) = 100 - (LT : Int) from by show ((100 - (LT) : Nat) : Int) = _; omega] at hlft
        have HNXT := Lib.hid hnxt
        have HLFT := Lib.hid hlft
        clear hnxt hlft
        go_wp2_with (first
          | (go_at_call 21; refine HNXT.out.mono ?_; rintro e w' ⟨rfl, rfl⟩)
          | (go_at_call 22; refine HLFT.out.mono ?_; rintro e w' ⟨rfl, qq, rfl⟩))
        go_roundw
        case rel => exact ⟨k + 1, lg8, LT, NX, false, _, _, by omega, by go_num, rfl, rfl, rfl, rfl, S10.out.next (below_drewN (Below.refl _ _) _), (fun _ => HW7.out.1)⟩
        case measure => simp [intOf]; omega
      have d3 : (R6 == 3) = false := by rw [beq_eq_false_iff_ne]; exact e3
      have HPG := Lib.hid (pages_any W0 Y (by rw [HYc.out]; exact V2.out) (by rw [HYc.out]; exact V3.out))
      have hn5 := nPg_le Y
      have hap := arePg_pgL Y.byte.toNat (nPg Y)
      have hpln := pgL_len Y.byte.toNat (nPg Y)
      obtain ⟨n, hn⟩ : ∃ n, n = nPg Y := ⟨_, rfl⟩
      rw [← hn] at HPG hn5 hap hpln
      obtain ⟨ps, hps⟩ : ∃ ps, ps = pgL Y.byte.toNat n := ⟨_, rfl⟩
      rw [← hps] at HPG hap hpln
      have hAG : (#[.int .u8 x0, .int .u8 x1, .int .i64 x2, .slice ka kl kc, .int .i64 x4, .int .i64 x5] : Array Value) = Y.cells := by rw [HYc.out]; rfl
      rw [← hAG] at HPG
      clear hn hps hAG
      go_upto_region 12 with (go_at_call 15; refine HPG.out.mono ?_; rintro e w7 ⟨v7, rfl, hs7, hb7⟩)
      have S7 := HI0.out.next hb7
      have hst := hs7.mono (T := fun b => ¬ fp d sb mb wv b) fun b _ hb h => by have := HI0.out.disk.in_ h; omega
      obtain ⟨pa, pc, rfl, hp1, hp2, -⟩ := hst.open_
      rw [hpln] at hst hp1 ⊢
      have HAP := S7.append _ _ hst
      have hdown := down_any S7.disk
      have hall := ares_all 150 s ⟨3, 100, us, nx, true⟩ ps S7.ok S7.fit
      rw [hap, hpln] at hall
      replace S7 := Lib.hid S7
      replace HAP := Lib.hid HAP
      clear hs7 hb7 hst HPG
      obtain ⟨DN, hDN⟩ : ∃ DN, DN = s.down := ⟨_, rfl⟩
      rw [← hDN] at hdown
      replace hdown := Lib.hid hdown
      clear hDN
      rcases hall with ⟨h1, e⟩ | ⟨h1, -, e⟩ | ⟨-, h, -⟩ | ⟨-, h, -⟩ | ⟨-, h, -⟩ | ⟨s', -, h, -⟩ | ⟨s', -, h, -⟩
      rotate_left 2
      · cases h
      · cases h
      · cases h
      · cases h
      · cases h
      · have h0 : n = 0 := by simpa using h1
        have dz : ((n : Int) == 0) = true := by rw [beq_iff_eq]; omega
        clear h0
        have HA2 := HAP.out
        rw [e] at HA2
        replace HA2 := Lib.hid HA2
        clear e h1 HAP
        go_upto_region 46 with (first
          | (go_at_call 16; refine hdown.out.mono ?_; rintro e w' ⟨rfl, rfl⟩)
          | (go_at_call 17; refine HA2.out.mono ?_; rintro e w8 ⟨rfl, wv8, S8, -, -⟩))
        replace S8 := Lib.hid S8
        have hnxt := next_any S8.out.log
        rw [show (((⟨3, 100, us, nx, true⟩ : LogS).next : Nat) : Int) = (nx : Int) from rfl] at hnxt
        have hlft := left_any S8.out.log S8.out.ok
        rw [show (((⟨3, 100, us, nx, true⟩ : LogS).left : Nat) : Int) = 0 from by rfl] at hlft
        have HNXT := Lib.hid hnxt
        have HLFT := Lib.hid hlft
        clear hnxt hlft
        go_wp2_with (first
          | (go_at_call 21; refine HNXT.out.mono ?_; rintro e w' ⟨rfl, rfl⟩)
          | (go_at_call 22; refine HLFT.out.mono ?_; rintro e w' ⟨rfl, qq, rfl⟩))
        go_roundw
        case rel => exact ⟨k + 1, lg, us, nx, true, _, _, by omega, by go_num, rfl, rfl, rfl, rfl, S8.out.next (below_drewN (Below.refl _ _) _), (fun h => by cases h)⟩
        case measure => simp [intOf]; omega
      · have h0 : 0 < n := by simpa using h1
        have dz : ((n : Int) == 0) = false := by rw [beq_eq_false_iff_ne]; omega
        have HA2 := HAP.out
        rw [e] at HA2
        replace HA2 := Lib.hid HA2
        clear e h1 HAP
        go_upto_region 46 with (first
          | (go_at_call 16; refine hdown.out.mono ?_; rintro e w' ⟨rfl, rfl⟩)
          | (go_at_call 17; refine HA2.out.mono ?_; rintro e w8 ⟨rfl, wv8, S8, -, -⟩))
        replace S8 := Lib.hid S8
        have hnxt := next_any S8.out.log
        rw [show (((⟨3, 100, us, nx, true⟩ : LogS).next : Nat) : Int) = (nx : Int) from rfl] at hnxt
        have hlft := left_any S8.out.log S8.out.ok
        rw [show (((⟨3, 100, us, nx, true⟩ : LogS).left : Nat) : Int) = 0 from by rfl] at hlft
        have HNXT := Lib.hid hnxt
        have HLFT := Lib.hid hlft
        clear hnxt hlft
        go_wp2_with (first
          | (go_at_call 21; refine HNXT.out.mono ?_; rintro e w' ⟨rfl, rfl⟩)
          | (go_at_call 22; refine HLFT.out.mono ?_; rintro e w' ⟨rfl, qq, rfl⟩))
        go_roundw
        case rel => exact ⟨k + 1, lg, us, nx, true, _, _, by omega, by go_num, rfl, rfl, rfl, rfl, S8.out.next (below_drewN (Below.refl _ _) _), (fun h => by cases h)⟩
        case measure => simp [intOf]; omega
    | false =>
      have HD0 := Lib.hid (HDN.out rfl)
      clear HDN
      by_cases e4 : R6 = 4
      · subst e4
        have HFU := Lib.hid (HI0.out.fuse (U % 40) (wf_mk (by omega) (by omega)))
        go_upto_region 46 with (go_at_call 11; refine HFU.out.mono ?_; rintro e w7 ⟨rfl, wv7, S7, -, -⟩)
        replace S7 := Lib.hid S7
        have hnxt := next_any S7.out.log
        rw [show (((⟨3, 100, us, nx, false⟩ : LogS).next : Nat) : Int) = (nx : Int) from rfl] at hnxt
        have hlft := left_any S7.out.log S7.out.ok
        rw [show (((⟨3, 100, us, nx, false⟩ : LogS).left : Nat) : Int) = 100 - (us : Int) from by show ((100 - (us) : Nat) : Int) = _; omega] at hlft
        have HNXT := Lib.hid hnxt
        have HLFT := Lib.hid hlft
        clear hnxt hlft
        go_wp2_with (first
          | (go_at_call 21; refine HNXT.out.mono ?_; rintro e w' ⟨rfl, rfl⟩)
          | (go_at_call 22; refine HLFT.out.mono ?_; rintro e w' ⟨rfl, qq, rfl⟩))
        go_roundw
        case rel => exact ⟨k + 1, lg, us, nx, false, _, _, by omega, by go_num, rfl, rfl, rfl, rfl, S7.out.next (below_drewN (Below.refl _ _) _), (fun _ => HD0.out)⟩
        case measure => simp [intOf]; omega
      have d4 : (R6 == 4) = false := by rw [beq_eq_false_iff_ne]; exact e4
      by_cases e5 : R6 = 5
      · subst e5
        have HRE := Lib.hid (HI0.out.restart rfl)
        go_upto_region 46 with (go_at_call 18; refine HRE.out.mono ?_; rintro e w7 ⟨rfl, wv7, S7, -, -⟩)
        change Ses w w7 lg d sb mb SC wv7 150 s ⟨3, 100, 0, nx, false⟩ at S7
        replace S7 := Lib.hid S7
        have hnxt := next_any S7.out.log
        rw [show (((⟨3, 100, 0, nx, false⟩ : LogS).next : Nat) : Int) = (nx : Int) from rfl] at hnxt
        have hlft := left_any S7.out.log S7.out.ok
        rw [show (((⟨3, 100, 0, nx, false⟩ : LogS).left : Nat) : Int) = 100 - 0 from by show ((100 - (0) : Nat) : Int) = _; omega] at hlft
        have HNXT := Lib.hid hnxt
        have HLFT := Lib.hid hlft
        clear hnxt hlft
        go_wp2_with (first
          | (go_at_call 21; refine HNXT.out.mono ?_; rintro e w' ⟨rfl, rfl⟩)
          | (go_at_call 22; refine HLFT.out.mono ?_; rintro e w' ⟨rfl, qq, rfl⟩))
        go_roundw
        case rel => exact ⟨k + 1, lg, 0, nx, false, _, _, by omega, by go_num, rfl, by go_num, rfl, rfl, S7.out.next (below_drewN (Below.refl _ _) _), (fun _ => HD0.out)⟩
        case measure => simp [intOf]; omega
      have d5 : (R6 == 5) = false := by rw [beq_eq_false_iff_ne]; exact e5
      by_cases e3 : R6 = 3
      · subst e3
        have HCR := Lib.hid (HI0.out.crash ka kl kc zs x4 x5 K0.out hold.out)
        go_upto_region 41 with (go_at_call 12; refine HCR.out.mono ?_; rintro e w7 ⟨rfl, D7, n7, B7, -, -⟩)
        obtain ⟨s7, hs7⟩ : ∃ s7, s7 = cres s kl zs x4 x5 := ⟨_, rfl⟩
        have hd7 : s7.down = false := by rw [hs7]; rfl
        have hw7 : s7.wr = [] := by rw [hs7]; rfl
        rw [← hs7] at D7
        have HO := open_any D7 hd7 3 100 sq (by omega) (by omega) hsq
        rw [stands_img D7.ok hw7 3 100 sq (by omega)] at HO
        have zIM : (strOf s7.sure).size = 9600 := by have h := D7.ok.len; show (s7.sure.toArray).size = 9600; simp; omega
        have HIMG := fun (W : World) (hb : Below w7.heap.size w7 W) => image_any (D7.below hb)
        obtain ⟨IMG, hIMG⟩ : ∃ IMG, IMG = strOf s7.sure := ⟨_, rfl⟩
        rw [← hIMG] at HO zIM HIMG
        have hslc : ∀ W : World, (Instr.slice 9 (.string IMG) (some (.int .i64 192)) (some (.int .i64 6592)) none).run Try.prog W = .ok (.string (IMG.extract (64 * 3) (64 * (3 + 100)))) W := fun W => slice_both W IMG 192 6592 (by omega) (by omega) _ _ rfl rfl
        have zSL : (IMG.extract (64 * 3) (64 * (3 + 100))).size = 64 * 100 := by rw [ByteArray.size_extract]; omega
        obtain ⟨SL, hSL⟩ : ∃ SL, SL = IMG.extract (64 * 3) (64 * (3 + 100)) := ⟨_, rfl⟩
        rw [← hSL] at HO hslc zSL
        have HST := Lib.hid (fun w => rstands_any SL 100 sq w zSL (by omega) hsq)
        have hseqs := stands_seq (fA SL) (100 + 1) 0 100 sq hsq
        have hlong := stands_long (fA SL) (100 + 1) 0 100 sq
        change ∀ t ∈ standsAt (fA SL) 100 sq, _ at hseqs
        change long (standsAt (fA SL) 100 sq) ≤ 100 at hlong
        have hge := long_ge (standsAt (fA SL) 100 sq)
        obtain ⟨TS, hTS⟩ : ∃ TS, TS = standsAt (fA SL) 100 sq := ⟨_, rfl⟩
        rw [← hTS] at HO HST hseqs hlong hge
        have HSE := Lib.hid hseqs
        have HIMGh := Lib.hid HIMG
        have HSLC := Lib.hid hslc
        have HD7 := Lib.hid (And.intro D7 (And.intro n7 B7))
        have HW7 := Lib.hid (And.intro hd7 hw7)
        replace HO := Lib.hid HO
        clear hs7 hd7 hw7 D7 n7 B7 hIMG hSL hTS hseqs hslc HIMG zIM zSL HCR
        go_upto_region 42 with (go_at_call 10; refine HO.out.mono ?_; rintro e w8 ⟨lg8, v8, rfl, hlg8, hL8, hT8, hb8⟩)
        have S8 := Ses.open_ (w0 := w) (seq := sq) (ts := TS) HD7.out.1 HW7.out.2 HD7.out.2.1 HD7.out.2.2 (by omega) hlg8 hL8 hlong hb8
        replace S8 := Lib.hid S8
        replace hT8 := Lib.hid hT8
        have HI8 := Lib.hid (HIMGh.out w8 hb8)
        clear hL8 hb8 HO hlg8
        have hsl8 := HSLC.out w8
        go_upto_region 43 with (first
          | (go_at_call 20; refine HI8.out.mono ?_; rintro e w' ⟨rfl, rfl⟩)
          | (go_at_call 19; refine (HST.out _).mono ?_; rintro e w9 ⟨v9, rfl, hT9, hb9⟩))
        have HP := plain_any w9 _ v8 TS (hT8.out.below hb9) (by omega)
        obtain ⟨va, vc, rfl, -, -, -⟩ := hT9.open_
        have S9 := Lib.hid (S8.out.next hb9)
        replace hT9 := Lib.hid hT9
        replace HP := Lib.hid HP
        clear hb9 hsl8
        go_wp2_with fail
        refine HP.out.mono ?_
        rintro e w10 ⟨v10, rfl, hT10, hb10⟩
        have HS := same_any w10 _ _ v10 _ TS TS hT10 (hT9.out.below hb10) HSE.out HSE.out
        rw [decide_eq_true (rfl : TS = TS)] at HS
        have S10 := Lib.hid (S9.out.next hb10)
        replace HS := Lib.hid HS
        clear hT10 hb10 HP
        go_upto_region 46 with (go_at_call 14; refine HS.out.mono ?_; rintro e w11 ⟨rfl, qs, rfl⟩)
        obtain ⟨LT, hLT⟩ : ∃ LT, LT = long TS := ⟨_, rfl⟩
        obtain ⟨TL, hTL⟩ : ∃ TL, TL = TS.length := ⟨_, rfl⟩
        rw [← hLT, ← hTL] at S10
        rw [← hLT] at hlong hge ⊢
        rw [← hTL] at hge ⊢
        clear hLT hTL
        obtain ⟨NX, hNX⟩ : ∃ NX, NX = (sq + TL) % 18446744073709551616 := ⟨_, rfl⟩
        have hNX2 : IntKind.u64.wrap ((sq : Int) + (TL : Int)) = (NX : Int) := by rw [IntKind.wrap_u64]; omega
        rw [← hNX] at S10
        have S11 := Lib.hid (S10.out.next (below_drewN (Below.refl _ _) qs))
        have HW := Lib.hid (fun (_ : True) => HW7.out.1)
        clear hNX
        have hnxt := next_any S11.out.log
        rw [show (((⟨3, 100, LT, NX, false⟩ : LogS).next : Nat) : Int) = (NX : Int) from rfl] at hnxt
        have hlft := left_any S11.out.log S11.out.ok
        rw [show (((⟨3, 100, LT, NX, false⟩ : LogS).left : Nat) : Int) = 100 - (LT : Int) from by show ((100 - (LT) : Nat) : Int) = _; omega] at hlft
        have HNXT := Lib.hid hnxt
        have HLFT := Lib.hid hlft
        clear hnxt hlft
        go_wp2_with (first
          | (go_at_call 21; refine HNXT.out.mono ?_; rintro e w' ⟨rfl, rfl⟩)
          | (go_at_call 22; refine HLFT.out.mono ?_; rintro e w' ⟨rfl, qq, rfl⟩))
        go_roundw
        case rel => exact ⟨k + 1, lg8, LT, NX, false, _, _, by omega, by go_num, rfl, rfl, rfl, rfl, S10.out.next (below_drewN (Below.refl _ _) _), (fun _ => HW7.out.1)⟩
        case measure => simp [intOf]; omega
      have d3 : (R6 == 3) = false := by rw [beq_eq_false_iff_ne]; exact e3
      have HPG := Lib.hid (pages_any W0 Y (by rw [HYc.out]; exact V2.out) (by rw [HYc.out]; exact V3.out))
      have hn5 := nPg_le Y
      have hap := arePg_pgL Y.byte.toNat (nPg Y)
      have hpln := pgL_len Y.byte.toNat (nPg Y)
      obtain ⟨n, hn⟩ : ∃ n, n = nPg Y := ⟨_, rfl⟩
      rw [← hn] at HPG hn5 hap hpln
      obtain ⟨ps, hps⟩ : ∃ ps, ps = pgL Y.byte.toNat n := ⟨_, rfl⟩
      rw [← hps] at HPG hap hpln
      have hAG : (#[.int .u8 x0, .int .u8 x1, .int .i64 x2, .slice ka kl kc, .int .i64 x4, .int .i64 x5] : Array Value) = Y.cells := by rw [HYc.out]; rfl
      rw [← hAG] at HPG
      clear hn hps hAG
      go_upto_region 12 with (go_at_call 15; refine HPG.out.mono ?_; rintro e w7 ⟨v7, rfl, hs7, hb7⟩)
      have S7 := HI0.out.next hb7
      have hst := hs7.mono (T := fun b => ¬ fp d sb mb wv b) fun b _ hb h => by have := HI0.out.disk.in_ h; omega
      obtain ⟨pa, pc, rfl, hp1, hp2, -⟩ := hst.open_
      rw [hpln] at hst hp1 ⊢
      have HAP := S7.append _ _ hst
      have hdown := down_any S7.disk
      have hall := ares_all 150 s ⟨3, 100, us, nx, false⟩ ps S7.ok S7.fit
      rw [hap, hpln] at hall
      replace S7 := Lib.hid S7
      replace HAP := Lib.hid HAP
      clear hs7 hb7 hst HPG
      have hdn0 := HD0.out
      rw [hdn0] at hdown
      replace hdown := Lib.hid hdown
      rcases hall with ⟨h1, e⟩ | ⟨-, h, -⟩ | ⟨-, -, h, -⟩ | ⟨h1, -, -, h4, e⟩ | ⟨-, -, -, -, h, -⟩ | ⟨s', h1, -, -, h4, -, -, hd', -, -, e⟩ | ⟨s', h1, -, -, h4, -, -, hd', -, e⟩
      · have h0 : n = 0 := by simpa using h1
        have dz : ((n : Int) == 0) = true := by rw [beq_iff_eq]; omega
        clear h0
        have HA2 := HAP.out
        rw [e] at HA2
        replace HA2 := Lib.hid HA2
        clear e h1 HAP
        go_upto_region 46 with (first
          | (go_at_call 16; refine hdown.out.mono ?_; rintro e w' ⟨rfl, rfl⟩)
          | (go_at_call 17; refine HA2.out.mono ?_; rintro e w8 ⟨rfl, wv8, S8, -, -⟩))
        replace S8 := Lib.hid S8
        have hnxt := next_any S8.out.log
        rw [show (((⟨3, 100, us, nx, false⟩ : LogS).next : Nat) : Int) = (nx : Int) from rfl] at hnxt
        have hlft := left_any S8.out.log S8.out.ok
        rw [show (((⟨3, 100, us, nx, false⟩ : LogS).left : Nat) : Int) = 100 - (us : Int) from by show ((100 - (us) : Nat) : Int) = _; omega] at hlft
        have HNXT := Lib.hid hnxt
        have HLFT := Lib.hid hlft
        clear hnxt hlft
        go_wp2_with (first
          | (go_at_call 21; refine HNXT.out.mono ?_; rintro e w' ⟨rfl, rfl⟩)
          | (go_at_call 22; refine HLFT.out.mono ?_; rintro e w' ⟨rfl, qq, rfl⟩))
        go_roundw
        case rel => exact ⟨k + 1, lg, us, nx, false, _, _, by omega, by go_num, rfl, rfl, rfl, rfl, S8.out.next (below_drewN (Below.refl _ _) _), (fun _ => HD0.out)⟩
        case measure => simp [intOf]; omega
      · cases h
      · omega
      · have h0 : 0 < n := by simpa using h1
        have h4' : 100 - us < 1 + 9 * n := h4
        have dz : ((n : Int) == 0) = false := by rw [beq_eq_false_iff_ne]; omega
        have df : decide ((100 : Int) - (us : Int) < 1 + 9 * (n : Int)) = true := by simp; omega
        have HA2 := HAP.out
        rw [e] at HA2
        replace HA2 := Lib.hid HA2
        clear e h1 HAP
        go_upto_region 46 with (first
          | (go_at_call 16; refine hdown.out.mono ?_; rintro e w' ⟨rfl, rfl⟩)
          | (go_at_call 17; refine HA2.out.mono ?_; rintro e w8 ⟨rfl, wv8, S8, -, -⟩))
        replace S8 := Lib.hid S8
        have hnxt := next_any S8.out.log
        rw [show (((⟨3, 100, us, nx, false⟩ : LogS).next : Nat) : Int) = (nx : Int) from rfl] at hnxt
        have hlft := left_any S8.out.log S8.out.ok
        rw [show (((⟨3, 100, us, nx, false⟩ : LogS).left : Nat) : Int) = 100 - (us : Int) from by show ((100 - (us) : Nat) : Int) = _; omega] at hlft
        have HNXT := Lib.hid hnxt
        have HLFT := Lib.hid hlft
        clear hnxt hlft
        go_wp2_with (first
          | (go_at_call 21; refine HNXT.out.mono ?_; rintro e w' ⟨rfl, rfl⟩)
          | (go_at_call 22; refine HLFT.out.mono ?_; rintro e w' ⟨rfl, qq, rfl⟩))
        go_roundw
        case rel => exact ⟨k + 1, lg, us, nx, false, _, _, by omega, by go_num, rfl, rfl, rfl, rfl, S8.out.next (below_drewN (Below.refl _ _) _), (fun _ => HD0.out)⟩
        case measure => simp [intOf]; omega
      · rw [hdn0] at h; cases h
      · have h0 : 0 < n := by simpa using h1
        have h4' : 1 + 9 * n ≤ 100 - us := h4
        have dz : ((n : Int) == 0) = false := by rw [beq_eq_false_iff_ne]; omega
        have df : decide ((100 : Int) - (us : Int) < 1 + 9 * (n : Int)) = false := by simp; omega
        obtain ⟨US, hUS⟩ : ∃ US, US = us + (1 + 9 * n) := ⟨_, rfl⟩
        obtain ⟨NX, hNX⟩ : ∃ NX, NX = (nx + 1) % 18446744073709551616 := ⟨_, rfl⟩
        have hUS2 : (us : Int) + 1 + 9 * (n : Int) = (US : Int) := by omega
        have hNX2 : IntKind.u64.wrap ((nx : Int) + 1) = (NX : Int) := by rw [IntKind.wrap_u64]; omega
        have e' : ares 150 s ⟨3, 100, us, nx, false⟩ ps = (0, s', ⟨3, 100, US, NX, false⟩) := by rw [e, hUS, hNX]; rfl
        clear e hUS hNX
        have e := e'
        clear e'
        have HD' := Lib.hid hd'
        have HA2 := HAP.out
        rw [e] at HA2
        replace HA2 := Lib.hid HA2
        clear e h1 HAP
        go_upto_region 46 with (first
          | (go_at_call 16; refine hdown.out.mono ?_; rintro e w' ⟨rfl, rfl⟩)
          | (go_at_call 17; refine HA2.out.mono ?_; rintro e w8 ⟨rfl, wv8, S8, -, -⟩))
        replace S8 := Lib.hid S8
        have hnxt := next_any S8.out.log
        rw [show (((⟨3, 100, US, NX, false⟩ : LogS).next : Nat) : Int) = (NX : Int) from rfl] at hnxt
        have hlft := left_any S8.out.log S8.out.ok
        rw [show (((⟨3, 100, US, NX, false⟩ : LogS).left : Nat) : Int) = 100 - (US : Int) from by show ((100 - (US) : Nat) : Int) = _; omega] at hlft
        have HNXT := Lib.hid hnxt
        have HLFT := Lib.hid hlft
        clear hnxt hlft
        go_wp2_with (first
          | (go_at_call 21; refine HNXT.out.mono ?_; rintro e w' ⟨rfl, rfl⟩)
          | (go_at_call 22; refine HLFT.out.mono ?_; rintro e w' ⟨rfl, qq, rfl⟩))
        go_roundw
        case rel => exact ⟨k + 1, lg, US, NX, false, _, _, by omega, by go_num, rfl, rfl, rfl, rfl, S8.out.next (below_drewN (Below.refl _ _) _), (fun _ => HD'.out)⟩
        case measure => simp [intOf]; omega
      · have h0 : 0 < n := by simpa using h1
        have h4' : 1 + 9 * n ≤ 100 - us := h4
        have dz : ((n : Int) == 0) = false := by rw [beq_eq_false_iff_ne]; omega
        have df : decide ((100 : Int) - (us : Int) < 1 + 9 * (n : Int)) = false := by simp; omega
        have HD' := Lib.hid hd'
        have HA2 := HAP.out
        rw [e] at HA2
        replace HA2 := Lib.hid HA2
        clear e h1 HAP
        go_upto_region 25 with (first
          | (go_at_call 16; refine hdown.out.mono ?_; rintro e w' ⟨rfl, rfl⟩)
          | (go_at_call 17; refine HA2.out.mono ?_; rintro e w8 ⟨rfl, wv8, S8, -, -⟩))
        change Ses w w8 lg d sb mb SC wv8 150 s' ⟨3, 100, us, nx, true⟩ at S8
        have hdown2 := down_any S8.disk
        rw [hd'] at hdown2
        have HDW := Lib.hid hdown2
        clear hdown2
        replace S8 := Lib.hid S8
        go_upto_region 46 with (go_at_call 16; refine HDW.out.mono ?_; rintro e w' ⟨rfl, rfl⟩)
        have hnxt := next_any S8.out.log
        rw [show (((⟨3, 100, us, nx, true⟩ : LogS).next : Nat) : Int) = (nx : Int) from rfl] at hnxt
        have hlft := left_any S8.out.log S8.out.ok
        rw [show (((⟨3, 100, us, nx, true⟩ : LogS).left : Nat) : Int) = 0 from by rfl] at hlft
        have HNXT := Lib.hid hnxt
        have HLFT := Lib.hid hlft
        clear hnxt hlft
        go_wp2_with (first
          | (go_at_call 21; refine HNXT.out.mono ?_; rintro e w' ⟨rfl, rfl⟩)
          | (go_at_call 22; refine HLFT.out.mono ?_; rintro e w' ⟨rfl, qq, rfl⟩))
        go_roundw
        case rel => exact ⟨k + 1, lg, us, nx, true, _, _, by omega, by go_num, rfl, rfl, rfl, rfl, S8.out.next (below_drewN (Below.refl _ _) _), (fun h => by cases h)⟩
        case measure => simp [intOf]; omega

set_option maxRecDepth 100000 in
theorem lifted (os : Os) (started : os.Started) (H : Type) (enc : TypeId × Value → H) :
    ReturnsInHanded {} Try.checked os 4 .any (Rows.redoPlaysSpec.pre6 enc Try.prog Try.f4 Rows.redoPlaysRow.domain false) (Rows.redoPlaysSpec.post enc Try.prog Try.f4 false true false false) := by
  refine returnsInHanded_of_change (C := Try.checked) own started (by kernel_rfl) Try.func4
    (ChangeSpec.witness6 (enc := enc) (C := Try.checked) false ⟨#[], #[.int .u64 0, .slice none 0 0], []⟩ 8 (by kernel_rfl) (by kernel_rfl) (by kernel_rfl) (by kernel_rfl)) ?_
  intro W base args ds gs before hval0 hW hcnd _
  have hval : ∀ (j : Nat) t v, Try.f4.params[j]? = some t → args[j]? = some v → Value.okWide Try.prog W .any base t v := hval0
  have hW' := hW
  obtain ⟨p, q, hA0, hV, rfl, hfz, hnd⟩ := hW
  have hA : DataW.TrodAll enc Try.prog W 0 (fun _ => true) true Try.f4.params.toList args.toList ds p := hA0
  rw [Try.params4] at hA hval
  obtain ⟨v0, vs0, d0, ds0, p0, q0, hargs, rfl, rfl, h0, r0⟩ := trodAll_cons hA
  obtain ⟨v1, vs1, d1, ds1, p1, q1, rfl, rfl, rfl, h1, r1⟩ := trodAll_cons r0
  obtain ⟨rfl, rfl, rfl⟩ := trodAll_nil r1
  obtain rfl : args = #[v0, v1] := by cases args; simp_all
  obtain ⟨rfl, rfl⟩ := trodVars_none hV
  obtain ⟨a0, rfl, rfl, rfl, w0⟩ := open_int Try.underlying22 (hval 0 22 v0 rfl rfl) h0
  have k1 := h1
  have lt1 : ∀ x ∈ p1, x.block < W.heap.size := by obtain ⟨m, hm⟩ := k1; exact DataW.trod_lt m _ _ _ hm
  obtain ⟨a1, len1, cap1, rfl⟩ := okWide_slice Try.underlying23 (hval 1 23 v1 rfl rfl)
  obtain ⟨z1, w1⟩ : ∃ z, IsActs W a1 len1 cap1 z := by
    obtain ⟨fuel, hf⟩ := h1
    obtain ⟨a, l, c, z, e, hz⟩ := open_acts hf
    simp [Value.cells] at e
    obtain ⟨rfl, rfl, rfl⟩ := e
    exact ⟨z, hz⟩
  clear hA0 hval0
  refine (walk a0 a1 len1 cap1 z1 W w0 w1).mono fun e W' ⟨he, bel⟩ => ?_
  subst he
  exact ⟨_, rfl, _, _, _, [], _, [], hW', trodAll_mk1 (shut_bool Try.underlying4 _), (trodAll_cons_mk (shut_int Try.underlying22 w0) (trodAll_cons_mk (Below.trod laidOut (by kernel_rfl) (of_decide_eq_true (by kernel_rfl)) k1 bel lt1) trodAll_mk0)), rfl, bel.frame _, fun h => by cases h⟩

theorem over : Rows.redoPlaysRow.holds Try.pinned (OpenSpec.ofChange Rows.redoPlaysSpec) :=
  OpenClaim.holds_of_wide 4 Try.f4 rfl rfl rfl rfl rfl rfl rfl ⟨rfl, rfl, rfl, rfl, rfl⟩ rfl rfl rfl rfl rfl (by kernel_rfl) Try.func4 (by kernel_rfl)
    (of_decide_eq_true (by kernel_rfl)) (by unfold Func.isWrapper; first | (rw [if_pos (by decide +kernel)]; kernel_rfl) | (rw [if_neg (by decide +kernel)]; exact ⟨rfl, rfl⟩))
    (fun os started H enc _ => lifted os started H enc)

/-- THE STATEMENT -/
theorem proved : Rows.RedoPlaysSaid := over
#print axioms proved
end Go.Proofs.Ytmincpmkiheofaa.redoPlays
