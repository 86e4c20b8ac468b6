/- For every uint8, every list of acts, every int, every text and every bool: where the acts and the text are few enough, a frame that is dirty, or pinned, stays in a pool of so many frames with what was set last, till Clean, Drop or Unpin, and there are never more frames than room: PoolKeeps answers true.
Conditions: none; every input that can be read is spoken of. -/
import Derived.Test.YtjncmaaofminkaaRows
import Derived.Test.YtjncmaaofminkaaBase
import Derived.Test.YtjncmaaofminkaaPooK
import Derived.Test.YtjncmaaofminkaaActP
import Derived.WalkKit
import Derived.ProofKit
import Derived.OpenShut
import Derived.ShutString
import Derived.ChangeOld
import Derived.Below
import Derived.SliceStrings
import Derived.SizedLaws
namespace Go.Proofs.Ytjncmaaofminkaa.poolKeeps
open Go.ChangeShapes Go.WideShapes Go.ChangeAt Go.RowKit
open Go.ChangeMaps (open_string shut_string)
set_option linter.unusedVariables false

theorem own : ownKnob Try.prog.godebug = none := by kernel_rfl
theorem laidOut : laidOutB Try.prog = true := by kernel_rfl

set_option maxHeartbeats 16000000 in
set_option maxRecDepth 100000 in
theorem walk (a0 : Int) (a1 : Option Addr) (len1 cap1 : Nat) (z1 : List ActD) (a2 : Int) (a3 : ByteArray) (a4 : Bool) (w : World) (w0 : (Lit.int .u8 a0).wf = true) (w1 : IsActs w a1 len1 cap1 z1) (w2 : (Lit.int .i64 a2).wf = true) (w3 : a3.size ≤ maxLen) :
    Calls Try.prog 3 #[.int .u8 a0, .slice a1 len1 cap1, .int .i64 a2, .string a3, .bool a4] w fun e w' => e = .returned (.bool true) ∧ Below w.heap.size w w' := by
  obtain ⟨rz1, rz2⟩ := wf_u8 w0
  clear w0 w2
  obtain ⟨k, hk⟩ : ∃ k : Nat, (1 : Int) + a0 = (k : Int) := ⟨(1 + a0).toNat, by omega⟩
  have hk1 : 1 ≤ k := by omega
  have hk2 : k ≤ 65536 := by omega
  have hw1 := w1
  obtain ⟨hl1, hl2, hl3, hl4, hl5⟩ := w1
  unfold maxLen at hl2
  unfold maxLen at w3
  have hlen : len1 ≤ 9223372036854775807 := by omega
  replace hw1 := Lib.hid hw1
  replace hl3 := Lib.hid hl3
  replace hl4 := Lib.hid hl4
  replace hl5 := Lib.hid hl5
  go_enter Try.func3, Try.ntmps3
  go_wp2_with fail
  refine (awake_any _).mono ?_
  rintro e w1 ⟨rfl, b1⟩
  have zz := b1.size
  by_cases h400 : 400 < len1
  · go_wp2_with (go_at_call 6; refine (awake_any _).mono ?_; rintro e w2 ⟨rfl, b2⟩)
    go_ret
    exact ⟨rfl, then_ b1 b2 zz⟩
  by_cases h1000 : 1000 < a3.size
  · go_wp2_with (go_at_call 6; refine (awake_any _).mono ?_; rintro e w2 ⟨rfl, b2⟩)
    go_ret
    exact ⟨rfl, then_ b1 b2 zz⟩
  have hsz : a3.size ≤ 281474976710656 := by omega
  have HSZ := Lib.hid hsz
  have B1 := Lib.hid b1
  clear b1 hsz
  have HN := Lib.hid (new_at k hk1 hk2 w1)
  have E1 := Lib.hid (show setR [] k a2 a3 = (0, [⟨a2, a3, true, 0⟩]) by
    unfold setR look addR roomR
    simp
    rw [if_pos (by omega)]
    simp)
  go_upto_region 5 with (go_at_call 7; refine HN.out.mono ?_; rintro e w2 ⟨p, rfl, hp2, b2⟩; have P2 := Lib.hid hp2; have B2 := Lib.hid (then_ B1.out b2 zz); clear hp2 b2)
  have HS := Lib.hid (set_eq P2.out HSZ.out (by omega) E1.out)
  cases a4 with
  | false =>
    go_upto_region 10 with (go_at_call 8; refine HS.out.mono ?_; rintro e w3 ⟨rfl, hp3, b3⟩; have P3 := Lib.hid hp3; have B3 := Lib.hid (B2.out.trans (b3.mono zz)); clear hp3 b3)
    have K3 : Hid (KK w3 w1.heap.size p k 3 a2 a3 false) := ⟨_, P3.out.more (by omega), ⟨_, List.mem_cons_self .., rfl, rfl, .inr ⟨rfl, rfl⟩⟩⟩
    clear P3 P2 B2 B1 HS HN E1
    go_loopw [14] (fun v14 wr => ∃ kk : Nat, kk ≤ len1 ∧ v14 = .int .i64 kk ∧ KK wr w1.heap.size p k (3 + 2 * kk) a2 a3 false ∧ Below w.heap.size w wr) (fun v14 wr => len1 - (intOf v14).toNat)
    case atStart => exact ⟨0, by omega, rfl, K3.out, B3.out⟩
    case round =>
      clear K3 B3
      obtain ⟨kk, hkk, rfl, HI, BI⟩ := hrel
      by_cases hlt : kk < len1
      rotate_left
      · obtain rfl : kk = len1 := by omega
        go_wp2
        go_ret
        exact ⟨rfl, BI⟩
      rcases hl5.out with h | ⟨b0, o0, rfl, hbz, hc⟩
      · omega
      have hkl : kk < z1.length := by rw [hl3.out]; exact hlt
      obtain ⟨hcell, hx⟩ := hc kk hkl
      have hys := hl4.out _ (List.getElem_mem hkl)
      obtain ⟨y, hy⟩ : ∃ y, y = z1[kk]'hkl := ⟨_, rfl⟩
      rw [← hy] at hcell hx hys
      clear hy hc
      replace hcell := fun j hj => (BI.cell (p := ⟨b0, o0 + kk * 3 + j, none⟩) hbz).trans (hcell j hj)
      have c0 := hcell 0 (by omega)
      have c1 := hcell 1 (by omega)
      have c2 := hcell 2 (by omega)
      obtain ⟨x0, x1, x2⟩ := y
      simp only [ActD.cells, List.getElem?_toArray, List.getElem?_cons_succ, List.getElem?_cons_zero, Nat.add_zero] at c0 c1 c2
      obtain ⟨v1, v2, v3⟩ := hx
      simp only at v1 v2 v3 hys
      obtain ⟨r01, r02⟩ := wf_u8 v1
      have HYS := Lib.hid hys
      replace BI := Lib.hid BI
      replace HI := Lib.hid HI
      clear v1 v2 v3 hcell hkl hys
      go_upto_region 13 with fail
      go_name_world W0 hW0e
      have O0 : Own W0 wr.heap.size 31 #[.int .u8 x0, .int .i64 x1, .string x2] := hW0e ▸ Own.made _ _ _
      have b0' : Below wr.heap.size wr W0 := hW0e ▸ (Below.refl _ _).alloc (Nat.le_refl _) _
      have HI0 := HI.out.below b0'
      have BI0 := then_ BI.out b0' BI.out.size
      clear hW0e b0' c0 c1 c2 HI BI
      obtain ⟨q1, q2, q3⟩ := O0.at_
      replace HI0 := Lib.hid HI0
      replace BI0 := Lib.hid BI0
      clear O0
      obtain ⟨R7, hR7⟩ : ∃ R7, x0 % 7 = R7 := ⟨_, rfl⟩
      have hR70 : 0 ≤ R7 ∧ R7 < 7 := by omega
      obtain ⟨cc, hcc⟩ : ∃ cc, cc = 3 + 2 * kk := ⟨_, rfl⟩
      have hcl : cc < 900 := by omega
      rw [← hcc] at HI0
      have HCC := Lib.hid hcc
      clear hcc
      by_cases e0 : R7 = 0
      · subst e0
        have HC := Lib.hid (HI0.out.get_ x1 (by omega))
        go_upto_region 32 with (go_at_call 11; refine HC.out.mono ?_; rintro e w7 ⟨t7, d7, rfl, k7, b7⟩)
        have K7 := Lib.hid k7
        have B7 := Lib.hid (BI0.out.trans (b7.mono zz))
        clear k7 b7
        have HG := Lib.hid (K7.out.mine (by omega))
        go_upto_region 33 with (go_at_call 11; refine HG.out.mono ?_; rintro e w8 ⟨rfl, k8, b8⟩; have K8 := Lib.hid k8; have B8 := Lib.hid (B7.out.trans (b8.mono zz)); clear k8 b8)
        have HLN := Lib.hid K8.out.len_
        go_wp2_with (go_at_call 15; refine HLN.out.mono ?_; rintro e w9 ⟨m9, rfl, hm9, rfl⟩)
        go_roundw
        case rel => exact ⟨kk + 1, by omega, by go_num, by have := K8.out; rw [HCC.out] at this; exact this, B8.out⟩
        case measure => simp [intOf]; omega
      by_cases e1 : R7 = 1
      · subst e1
        have HC := Lib.hid (HI0.out.put_ x1 x2 HYS.out (by omega))
        go_upto_region 32 with (go_at_call 12; refine HC.out.mono ?_; rintro e w7 ⟨r7, rfl, k7, b7⟩)
        have K7 := Lib.hid k7
        have B7 := Lib.hid (BI0.out.trans (b7.mono zz))
        clear k7 b7
        have HG := Lib.hid (K7.out.mine (by omega))
        go_upto_region 33 with (go_at_call 11; refine HG.out.mono ?_; rintro e w8 ⟨rfl, k8, b8⟩; have K8 := Lib.hid k8; have B8 := Lib.hid (B7.out.trans (b8.mono zz)); clear k8 b8)
        have HLN := Lib.hid K8.out.len_
        go_wp2_with (go_at_call 15; refine HLN.out.mono ?_; rintro e w9 ⟨m9, rfl, hm9, rfl⟩)
        go_roundw
        case rel => exact ⟨kk + 1, by omega, by go_num, by have := K8.out; rw [HCC.out] at this; exact this, B8.out⟩
        case measure => simp [intOf]; omega
      by_cases e2 : R7 = 2
      · subst e2
        by_cases hx1 : x1 = a2
        · subst hx1
          have K7 := Lib.hid HI0.out.more
          have B7 := BI0
          go_upto_region 32 with fail
          have HG := Lib.hid (K7.out.mine (by omega))
          go_upto_region 33 with (go_at_call 11; refine HG.out.mono ?_; rintro e w8 ⟨rfl, k8, b8⟩; have K8 := Lib.hid k8; have B8 := Lib.hid (B7.out.trans (b8.mono zz)); clear k8 b8)
          have HLN := Lib.hid K8.out.len_
          go_wp2_with (go_at_call 15; refine HLN.out.mono ?_; rintro e w9 ⟨m9, rfl, hm9, rfl⟩)
          go_roundw
          case rel => exact ⟨kk + 1, by omega, by go_num, by have := K8.out; rw [HCC.out] at this; exact this, B8.out⟩
          case measure => simp [intOf]; omega
        · have HC := Lib.hid (HI0.out.set_ x1 hx1 x2 HYS.out (by omega))
          go_upto_region 32 with (go_at_call 8; refine HC.out.mono ?_; rintro e w7 ⟨r7, rfl, k7, b7⟩)
          have K7 := Lib.hid k7
          have B7 := Lib.hid (BI0.out.trans (b7.mono zz))
          clear k7 b7
          have HG := Lib.hid (K7.out.mine (by omega))
          go_upto_region 33 with (go_at_call 11; refine HG.out.mono ?_; rintro e w8 ⟨rfl, k8, b8⟩; have K8 := Lib.hid k8; have B8 := Lib.hid (B7.out.trans (b8.mono zz)); clear k8 b8)
          have HLN := Lib.hid K8.out.len_
          go_wp2_with (go_at_call 15; refine HLN.out.mono ?_; rintro e w9 ⟨m9, rfl, hm9, rfl⟩)
          go_roundw
          case rel => exact ⟨kk + 1, by omega, by go_num, by have := K8.out; rw [HCC.out] at this; exact this, B8.out⟩
          case measure => simp [intOf]; omega
      by_cases e3 : R7 = 3
      · subst e3
        have HC := Lib.hid (HI0.out.pin_ x1 (by omega))
        go_upto_region 32 with (go_at_call 9; refine HC.out.mono ?_; rintro e w7 ⟨d7, rfl, k7, b7⟩)
        have K7 := Lib.hid k7
        have B7 := Lib.hid (BI0.out.trans (b7.mono zz))
        clear k7 b7
        have HG := Lib.hid (K7.out.mine (by omega))
        go_upto_region 33 with (go_at_call 11; refine HG.out.mono ?_; rintro e w8 ⟨rfl, k8, b8⟩; have K8 := Lib.hid k8; have B8 := Lib.hid (B7.out.trans (b8.mono zz)); clear k8 b8)
        have HLN := Lib.hid K8.out.len_
        go_wp2_with (go_at_call 15; refine HLN.out.mono ?_; rintro e w9 ⟨m9, rfl, hm9, rfl⟩)
        go_roundw
        case rel => exact ⟨kk + 1, by omega, by go_num, by have := K8.out; rw [HCC.out] at this; exact this, B8.out⟩
        case measure => simp [intOf]; omega
      by_cases e4 : R7 = 4
      · subst e4
        by_cases hx1 : x1 = a2
        · subst hx1
          have K7 := Lib.hid HI0.out.more
          have B7 := BI0
          go_upto_region 32 with fail
          have HG := Lib.hid (K7.out.mine (by omega))
          go_upto_region 33 with (go_at_call 11; refine HG.out.mono ?_; rintro e w8 ⟨rfl, k8, b8⟩; have K8 := Lib.hid k8; have B8 := Lib.hid (B7.out.trans (b8.mono zz)); clear k8 b8)
          have HLN := Lib.hid K8.out.len_
          go_wp2_with (go_at_call 15; refine HLN.out.mono ?_; rintro e w9 ⟨m9, rfl, hm9, rfl⟩)
          go_roundw
          case rel => exact ⟨kk + 1, by omega, by go_num, by have := K8.out; rw [HCC.out] at this; exact this, B8.out⟩
          case measure => simp [intOf]; omega
        · have HC := Lib.hid (HI0.out.unpin_ x1 hx1 (by omega))
          go_upto_region 32 with (go_at_call 13; refine HC.out.mono ?_; rintro e w7 ⟨d7, rfl, k7, b7⟩)
          have K7 := Lib.hid k7
          have B7 := Lib.hid (BI0.out.trans (b7.mono zz))
          clear k7 b7
          have HG := Lib.hid (K7.out.mine (by omega))
          go_upto_region 33 with (go_at_call 11; refine HG.out.mono ?_; rintro e w8 ⟨rfl, k8, b8⟩; have K8 := Lib.hid k8; have B8 := Lib.hid (B7.out.trans (b8.mono zz)); clear k8 b8)
          have HLN := Lib.hid K8.out.len_
          go_wp2_with (go_at_call 15; refine HLN.out.mono ?_; rintro e w9 ⟨m9, rfl, hm9, rfl⟩)
          go_roundw
          case rel => exact ⟨kk + 1, by omega, by go_num, by have := K8.out; rw [HCC.out] at this; exact this, B8.out⟩
          case measure => simp [intOf]; omega
      by_cases e5 : R7 = 5
      · subst e5
        have K7 := Lib.hid HI0.out.more
        have B7 := BI0
        go_upto_region 32 with fail
        have HG := Lib.hid (K7.out.mine (by omega))
        go_upto_region 33 with (go_at_call 11; refine HG.out.mono ?_; rintro e w8 ⟨rfl, k8, b8⟩; have K8 := Lib.hid k8; have B8 := Lib.hid (B7.out.trans (b8.mono zz)); clear k8 b8)
        have HLN := Lib.hid K8.out.len_
        go_wp2_with (go_at_call 15; refine HLN.out.mono ?_; rintro e w9 ⟨m9, rfl, hm9, rfl⟩)
        go_roundw
        case rel => exact ⟨kk + 1, by omega, by go_num, by have := K8.out; rw [HCC.out] at this; exact this, B8.out⟩
        case measure => simp [intOf]; omega
      by_cases e6 : R7 = 6
      · subst e6
        have K7 := Lib.hid HI0.out.more
        have B7 := BI0
        go_upto_region 32 with fail
        have HG := Lib.hid (K7.out.mine (by omega))
        go_upto_region 33 with (go_at_call 11; refine HG.out.mono ?_; rintro e w8 ⟨rfl, k8, b8⟩; have K8 := Lib.hid k8; have B8 := Lib.hid (B7.out.trans (b8.mono zz)); clear k8 b8)
        have HLN := Lib.hid K8.out.len_
        go_wp2_with (go_at_call 15; refine HLN.out.mono ?_; rintro e w9 ⟨m9, rfl, hm9, rfl⟩)
        go_roundw
        case rel => exact ⟨kk + 1, by omega, by go_num, by have := K8.out; rw [HCC.out] at this; exact this, B8.out⟩
        case measure => simp [intOf]; omega
      omega
  | true =>
    have E2 := Lib.hid (show pinR [⟨a2, a3, true, 0⟩] a2 = (true, [⟨a2, a3, true, 1⟩]) by
      unfold pinR look upd up
      simp)
    go_upto_region 6 with (first
      | (go_at_call 8; refine HS.out.mono ?_; rintro e w3 ⟨rfl, hp3, b3⟩; have P3 := Lib.hid hp3; have B3 := Lib.hid (B2.out.trans (b3.mono zz)); have HPI := pin_any P3.out a2 (by omega); rw [E2.out] at HPI; replace HPI := Lib.hid HPI; clear hp3 b3)
      | (go_at_call 9; refine HPI.out.mono ?_; rintro e w4 ⟨rfl, hp4, c4⟩; have P4 := Lib.hid hp4; have B4 := Lib.hid (B3.out.trans ((chgPT c4 P3.out.base).mono zz)); clear hp4 c4))
    have HCL := Lib.hid (clean_any P4.out)
    go_upto_region 10 with (go_at_call 10; refine HCL.out.mono ?_; rintro e w5 ⟨rfl, hp5, c5⟩; have P5 := Lib.hid hp5; have B5 := Lib.hid (B4.out.trans ((chgPT c5 P4.out.base).mono zz)); clear hp5 c5)
    have K3 : Hid (KK w5 w1.heap.size p k 3 a2 a3 true) := ⟨_, P5.out.more (by omega), ⟨_, List.mem_cons_self .., rfl, rfl, .inl ⟨rfl, Nat.le_refl _, rfl⟩⟩⟩
    have B3 := B5
    clear P5 P4 P3 P2 B2 B1 HS HN E1 E2 HCL HPI B4 B5
    go_loopw [14] (fun v14 wr => ∃ kk : Nat, kk ≤ len1 ∧ v14 = .int .i64 kk ∧ KK wr w1.heap.size p k (3 + 2 * kk) a2 a3 true ∧ Below w.heap.size w wr) (fun v14 wr => len1 - (intOf v14).toNat)
    case atStart => exact ⟨0, by omega, rfl, K3.out, B3.out⟩
    case round =>
      clear K3 B3
      obtain ⟨kk, hkk, rfl, HI, BI⟩ := hrel
      by_cases hlt : kk < len1
      rotate_left
      · obtain rfl : kk = len1 := by omega
        go_wp2
        go_ret
        exact ⟨rfl, BI⟩
      rcases hl5.out with h | ⟨b0, o0, rfl, hbz, hc⟩
      · omega
      have hkl : kk < z1.length := by rw [hl3.out]; exact hlt
      obtain ⟨hcell, hx⟩ := hc kk hkl
      have hys := hl4.out _ (List.getElem_mem hkl)
      obtain ⟨y, hy⟩ : ∃ y, y = z1[kk]'hkl := ⟨_, rfl⟩
      rw [← hy] at hcell hx hys
      clear hy hc
      replace hcell := fun j hj => (BI.cell (p := ⟨b0, o0 + kk * 3 + j, none⟩) hbz).trans (hcell j hj)
      have c0 := hcell 0 (by omega)
      have c1 := hcell 1 (by omega)
      have c2 := hcell 2 (by omega)
      obtain ⟨x0, x1, x2⟩ := y
      simp only [ActD.cells, List.getElem?_toArray, List.getElem?_cons_succ, List.getElem?_cons_zero, Nat.add_zero] at c0 c1 c2
      obtain ⟨v1, v2, v3⟩ := hx
      simp only at v1 v2 v3 hys
      obtain ⟨r01, r02⟩ := wf_u8 v1
      have HYS := Lib.hid hys
      replace BI := Lib.hid BI
      replace HI := Lib.hid HI
      clear v1 v2 v3 hcell hkl hys
      go_upto_region 13 with fail
      go_name_world W0 hW0e
      have O0 : Own W0 wr.heap.size 31 #[.int .u8 x0, .int .i64 x1, .string x2] := hW0e ▸ Own.made _ _ _
      have b0' : Below wr.heap.size wr W0 := hW0e ▸ (Below.refl _ _).alloc (Nat.le_refl _) _
      have HI0 := HI.out.below b0'
      have BI0 := then_ BI.out b0' BI.out.size
      clear hW0e b0' c0 c1 c2 HI BI
      obtain ⟨q1, q2, q3⟩ := O0.at_
      replace HI0 := Lib.hid HI0
      replace BI0 := Lib.hid BI0
      clear O0
      obtain ⟨R7, hR7⟩ : ∃ R7, x0 % 7 = R7 := ⟨_, rfl⟩
      have hR70 : 0 ≤ R7 ∧ R7 < 7 := by omega
      obtain ⟨cc, hcc⟩ : ∃ cc, cc = 3 + 2 * kk := ⟨_, rfl⟩
      have hcl : cc < 900 := by omega
      rw [← hcc] at HI0
      have HCC := Lib.hid hcc
      clear hcc
      by_cases e0 : R7 = 0
      · subst e0
        have HC := Lib.hid (HI0.out.get_ x1 (by omega))
        go_upto_region 32 with (go_at_call 11; refine HC.out.mono ?_; rintro e w7 ⟨t7, d7, rfl, k7, b7⟩)
        have K7 := Lib.hid k7
        have B7 := Lib.hid (BI0.out.trans (b7.mono zz))
        clear k7 b7
        have HG := Lib.hid (K7.out.mine (by omega))
        go_upto_region 33 with (go_at_call 11; refine HG.out.mono ?_; rintro e w8 ⟨rfl, k8, b8⟩; have K8 := Lib.hid k8; have B8 := Lib.hid (B7.out.trans (b8.mono zz)); clear k8 b8)
        have HLN := Lib.hid K8.out.len_
        go_wp2_with (go_at_call 15; refine HLN.out.mono ?_; rintro e w9 ⟨m9, rfl, hm9, rfl⟩)
        go_roundw
        case rel => exact ⟨kk + 1, by omega, by go_num, by have := K8.out; rw [HCC.out] at this; exact this, B8.out⟩
        case measure => simp [intOf]; omega
      by_cases e1 : R7 = 1
      · subst e1
        have HC := Lib.hid (HI0.out.put_ x1 x2 HYS.out (by omega))
        go_upto_region 32 with (go_at_call 12; refine HC.out.mono ?_; rintro e w7 ⟨r7, rfl, k7, b7⟩)
        have K7 := Lib.hid k7
        have B7 := Lib.hid (BI0.out.trans (b7.mono zz))
        clear k7 b7
        have HG := Lib.hid (K7.out.mine (by omega))
        go_upto_region 33 with (go_at_call 11; refine HG.out.mono ?_; rintro e w8 ⟨rfl, k8, b8⟩; have K8 := Lib.hid k8; have B8 := Lib.hid (B7.out.trans (b8.mono zz)); clear k8 b8)
        have HLN := Lib.hid K8.out.len_
        go_wp2_with (go_at_call 15; refine HLN.out.mono ?_; rintro e w9 ⟨m9, rfl, hm9, rfl⟩)
        go_roundw
        case rel => exact ⟨kk + 1, by omega, by go_num, by have := K8.out; rw [HCC.out] at this; exact this, B8.out⟩
        case measure => simp [intOf]; omega
      by_cases e2 : R7 = 2
      · subst e2
        by_cases hx1 : x1 = a2
        · subst hx1
          have K7 := Lib.hid HI0.out.more
          have B7 := BI0
          go_upto_region 32 with fail
          have HG := Lib.hid (K7.out.mine (by omega))
          go_upto_region 33 with (go_at_call 11; refine HG.out.mono ?_; rintro e w8 ⟨rfl, k8, b8⟩; have K8 := Lib.hid k8; have B8 := Lib.hid (B7.out.trans (b8.mono zz)); clear k8 b8)
          have HLN := Lib.hid K8.out.len_
          go_wp2_with (go_at_call 15; refine HLN.out.mono ?_; rintro e w9 ⟨m9, rfl, hm9, rfl⟩)
          go_roundw
          case rel => exact ⟨kk + 1, by omega, by go_num, by have := K8.out; rw [HCC.out] at this; exact this, B8.out⟩
          case measure => simp [intOf]; omega
        · have HC := Lib.hid (HI0.out.set_ x1 hx1 x2 HYS.out (by omega))
          go_upto_region 32 with (go_at_call 8; refine HC.out.mono ?_; rintro e w7 ⟨r7, rfl, k7, b7⟩)
          have K7 := Lib.hid k7
          have B7 := Lib.hid (BI0.out.trans (b7.mono zz))
          clear k7 b7
          have HG := Lib.hid (K7.out.mine (by omega))
          go_upto_region 33 with (go_at_call 11; refine HG.out.mono ?_; rintro e w8 ⟨rfl, k8, b8⟩; have K8 := Lib.hid k8; have B8 := Lib.hid (B7.out.trans (b8.mono zz)); clear k8 b8)
          have HLN := Lib.hid K8.out.len_
          go_wp2_with (go_at_call 15; refine HLN.out.mono ?_; rintro e w9 ⟨m9, rfl, hm9, rfl⟩)
          go_roundw
          case rel => exact ⟨kk + 1, by omega, by go_num, by have := K8.out; rw [HCC.out] at this; exact this, B8.out⟩
          case measure => simp [intOf]; omega
      by_cases e3 : R7 = 3
      · subst e3
        have HC := Lib.hid (HI0.out.pin_ x1 (by omega))
        go_upto_region 32 with (go_at_call 9; refine HC.out.mono ?_; rintro e w7 ⟨d7, rfl, k7, b7⟩)
        have K7 := Lib.hid k7
        have B7 := Lib.hid (BI0.out.trans (b7.mono zz))
        clear k7 b7
        have HG := Lib.hid (K7.out.mine (by omega))
        go_upto_region 33 with (go_at_call 11; refine HG.out.mono ?_; rintro e w8 ⟨rfl, k8, b8⟩; have K8 := Lib.hid k8; have B8 := Lib.hid (B7.out.trans (b8.mono zz)); clear k8 b8)
        have HLN := Lib.hid K8.out.len_
        go_wp2_with (go_at_call 15; refine HLN.out.mono ?_; rintro e w9 ⟨m9, rfl, hm9, rfl⟩)
        go_roundw
        case rel => exact ⟨kk + 1, by omega, by go_num, by have := K8.out; rw [HCC.out] at this; exact this, B8.out⟩
        case measure => simp [intOf]; omega
      by_cases e4 : R7 = 4
      · subst e4
        by_cases hx1 : x1 = a2
        · subst hx1
          have K7 := Lib.hid HI0.out.more
          have B7 := BI0
          go_upto_region 32 with fail
          have HG := Lib.hid (K7.out.mine (by omega))
          go_upto_region 33 with (go_at_call 11; refine HG.out.mono ?_; rintro e w8 ⟨rfl, k8, b8⟩; have K8 := Lib.hid k8; have B8 := Lib.hid (B7.out.trans (b8.mono zz)); clear k8 b8)
          have HLN := Lib.hid K8.out.len_
          go_wp2_with (go_at_call 15; refine HLN.out.mono ?_; rintro e w9 ⟨m9, rfl, hm9, rfl⟩)
          go_roundw
          case rel => exact ⟨kk + 1, by omega, by go_num, by have := K8.out; rw [HCC.out] at this; exact this, B8.out⟩
          case measure => simp [intOf]; omega
        · have HC := Lib.hid (HI0.out.unpin_ x1 hx1 (by omega))
          go_upto_region 32 with (go_at_call 13; refine HC.out.mono ?_; rintro e w7 ⟨d7, rfl, k7, b7⟩)
          have K7 := Lib.hid k7
          have B7 := Lib.hid (BI0.out.trans (b7.mono zz))
          clear k7 b7
          have HG := Lib.hid (K7.out.mine (by omega))
          go_upto_region 33 with (go_at_call 11; refine HG.out.mono ?_; rintro e w8 ⟨rfl, k8, b8⟩; have K8 := Lib.hid k8; have B8 := Lib.hid (B7.out.trans (b8.mono zz)); clear k8 b8)
          have HLN := Lib.hid K8.out.len_
          go_wp2_with (go_at_call 15; refine HLN.out.mono ?_; rintro e w9 ⟨m9, rfl, hm9, rfl⟩)
          go_roundw
          case rel => exact ⟨kk + 1, by omega, by go_num, by have := K8.out; rw [HCC.out] at this; exact this, B8.out⟩
          case measure => simp [intOf]; omega
      by_cases e5 : R7 = 5
      · subst e5
        have HC := Lib.hid (HI0.out.clean_)
        go_upto_region 32 with (go_at_call 10; refine HC.out.mono ?_; rintro e w7 ⟨rfl, k7, b7⟩)
        have K7 := Lib.hid k7
        have B7 := Lib.hid (BI0.out.trans (b7.mono zz))
        clear k7 b7
        have HG := Lib.hid (K7.out.mine (by omega))
        go_upto_region 33 with (go_at_call 11; refine HG.out.mono ?_; rintro e w8 ⟨rfl, k8, b8⟩; have K8 := Lib.hid k8; have B8 := Lib.hid (B7.out.trans (b8.mono zz)); clear k8 b8)
        have HLN := Lib.hid K8.out.len_
        go_wp2_with (go_at_call 15; refine HLN.out.mono ?_; rintro e w9 ⟨m9, rfl, hm9, rfl⟩)
        go_roundw
        case rel => exact ⟨kk + 1, by omega, by go_num, by have := K8.out; rw [HCC.out] at this; exact this, B8.out⟩
        case measure => simp [intOf]; omega
      by_cases e6 : R7 = 6
      · subst e6
        have HC := Lib.hid (HI0.out.drop_)
        go_upto_region 32 with (go_at_call 14; refine HC.out.mono ?_; rintro e w7 ⟨rfl, k7, b7⟩)
        have K7 := Lib.hid k7
        have B7 := Lib.hid (BI0.out.trans (b7.mono zz))
        clear k7 b7
        have HG := Lib.hid (K7.out.mine (by omega))
        go_upto_region 33 with (go_at_call 11; refine HG.out.mono ?_; rintro e w8 ⟨rfl, k8, b8⟩; have K8 := Lib.hid k8; have B8 := Lib.hid (B7.out.trans (b8.mono zz)); clear k8 b8)
        have HLN := Lib.hid K8.out.len_
        go_wp2_with (go_at_call 15; refine HLN.out.mono ?_; rintro e w9 ⟨m9, rfl, hm9, rfl⟩)
        go_roundw
        case rel => exact ⟨kk + 1, by omega, by go_num, by have := K8.out; rw [HCC.out] at this; exact this, B8.out⟩
        case measure => simp [intOf]; omega
      omega

set_option maxRecDepth 100000 in
theorem lifted (os : Os) (started : os.Started) (H : Type) (enc : TypeId × Value → H) :
    ReturnsInHanded {} Try.checked os 3 .any (Rows.poolKeepsSpec.pre6 enc Try.prog Try.f3 Rows.poolKeepsRow.domain false) (Rows.poolKeepsSpec.post enc Try.prog Try.f3 false true false false) := by
  refine returnsInHanded_of_change_sized (C := Try.checked) own started (by kernel_rfl) Try.func3
    (ChangeSpec.witness6 (enc := enc) (C := Try.checked) false ⟨#[], #[.int .u8 0, .slice none 0 0, .int .i64 0, .string ByteArray.empty, .bool false], []⟩ 8 (by kernel_rfl) (by kernel_rfl) (by kernel_rfl) (by kernel_rfl)) ?_
  intro W base args ds gs before hval0 hW hcnd hwt _
  have hval : ∀ (j : Nat) t v, Try.f3.params[j]? = some t → args[j]? = some v → Value.okWide Try.prog W .any base t v := hval0
  have hW' := hW
  obtain ⟨p, q, hA0, hV, rfl, hfz, hnd⟩ := hW
  have hA : DataW.TrodAll enc Try.prog W 0 (fun _ => true) true Try.f3.params.toList args.toList ds p := hA0
  rw [Try.params3] at hA hval
  obtain ⟨v0, vs0, d0, ds0, p0, q0, hargs, rfl, rfl, h0, r0⟩ := trodAll_cons hA
  obtain ⟨v1, vs1, d1, ds1, p1, q1, rfl, rfl, rfl, h1, r1⟩ := trodAll_cons r0
  obtain ⟨v2, vs2, d2, ds2, p2, q2, rfl, rfl, rfl, h2, r2⟩ := trodAll_cons r1
  obtain ⟨v3, vs3, d3, ds3, p3, q3, rfl, rfl, rfl, h3, r3⟩ := trodAll_cons r2
  obtain ⟨v4, vs4, d4, ds4, p4, q4, rfl, rfl, rfl, h4, r4⟩ := trodAll_cons r3
  obtain ⟨rfl, rfl, rfl⟩ := trodAll_nil r4
  obtain rfl : args = #[v0, v1, v2, v3, v4] := by cases args; simp_all
  obtain ⟨rfl, rfl⟩ := trodVars_none hV
  obtain ⟨a0, rfl, rfl, rfl, w0⟩ := open_int Try.underlying5 (hval 0 5 v0 rfl rfl) h0
  have k1 := h1
  have lt1 : ∀ x ∈ p1, x.block < W.heap.size := by obtain ⟨m, hm⟩ := k1; exact DataW.trod_lt m _ _ _ hm
  have wt1 : ∀ q ∈ d1.weights Try.prog 22, q ≤ reachBytes := fun q hq => by have := List.all_eq_true.1 hwt q (DataW.weights_mem_each (j := 1) rfl rfl q hq); simpa using this
  obtain ⟨a1, len1, cap1, rfl⟩ := okWide_slice Try.underlying22 (hval 1 22 v1 rfl rfl)
  obtain ⟨z1, w1⟩ : ∃ z, IsActs W a1 len1 cap1 z := by
    obtain ⟨fuel, hf⟩ := h1
    obtain ⟨a, l, c, z, e, hz⟩ := open_acts hf wt1
    simp [Value.cells] at e
    obtain ⟨rfl, rfl, rfl⟩ := e
    exact ⟨z, hz⟩
  obtain ⟨a2, rfl, rfl, rfl, w2⟩ := open_int Try.underlying3 (hval 2 3 v2 rfl rfl) h2
  obtain ⟨a3, rfl, rfl, rfl, w3⟩ := open_string Try.underlying9 (hval 3 9 v3 rfl rfl) h3
  obtain ⟨a4, rfl, rfl, rfl⟩ := open_bool Try.underlying4 (hval 4 4 v4 rfl rfl) h4
  clear hA0 hval0
  refine (walk a0 a1 len1 cap1 z1 a2 a3 a4 W w0 w1 w2 w3).mono fun e W' ⟨he, bel⟩ => ?_
  subst he
  exact ⟨_, rfl, _, _, _, [], _, [], hW', trodAll_mk1 (shut_bool Try.underlying4 _), (trodAll_cons_mk (shut_int Try.underlying5 w0) (trodAll_cons_mk (Below.trod laidOut (by kernel_rfl) (of_decide_eq_true (by kernel_rfl)) k1 bel lt1) (trodAll_cons_mk (shut_int Try.underlying3 w2) (trodAll_cons_mk (shut_string Try.underlying9 w3) (trodAll_cons_mk (shut_bool Try.underlying4 _) trodAll_mk0))))), rfl, bel.frame _, fun h => by cases h⟩

theorem over : Rows.poolKeepsRow.holds Try.pinned (OpenSpec.ofChange Rows.poolKeepsSpec) :=
  OpenClaim.holds_of_wide 3 Try.f3 rfl rfl rfl rfl rfl rfl rfl ⟨rfl, rfl, rfl, rfl, rfl⟩ rfl rfl rfl rfl rfl (by kernel_rfl) Try.func3 (by kernel_rfl)
    (of_decide_eq_true (by kernel_rfl)) (by unfold Func.isWrapper; first | (rw [if_pos (by decide +kernel)]; kernel_rfl) | (rw [if_neg (by decide +kernel)]; exact ⟨rfl, rfl⟩))
    (fun os started H enc _ => lifted os started H enc)

/-- THE STATEMENT -/
theorem proved : Rows.PoolKeepsSaid := over
#print axioms proved
end Go.Proofs.Ytjncmaaofminkaa.poolKeeps
