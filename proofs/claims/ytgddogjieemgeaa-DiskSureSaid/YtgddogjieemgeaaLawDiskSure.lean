/- For every list of acts, every sector and every byte: where the acts are few enough and small enough, what was written to the sector and flushed is read there behind each act, whatever crashes come, and behind a last crash; the document's example of layer 6 holds: DiskSure answers true.
Conditions: none; every input that can be read is spoken of. -/
import Derived.Test.YtgddogjieemgeaaRows
import Derived.Test.YtgddogjieemgeaaBase
import Derived.Test.YtgddogjieemgeaaDisK
import Derived.WalkKit
import Derived.ProofKit
import Derived.OpenShut
import Derived.ShutString
import Derived.ChangeOld
import Derived.Below
import Derived.SliceStrings
namespace Go.Proofs.Ytgddogjieemgeaa.diskSure
open Go.ChangeShapes Go.WideShapes Go.ChangeAt Go.RowKit
open Go.ChangeMaps (open_string shut_string)
set_option linter.unusedVariables false

theorem own : ownKnob Try.prog.godebug = none := by kernel_rfl
theorem laidOut : laidOutB Try.prog = true := by kernel_rfl

set_option maxHeartbeats 4000000 in
set_option maxRecDepth 100000 in
theorem walk (a0 : Option Addr) (len0 cap0 : Nat) (z0 : List ActD) (a1 : Int) (a2 : Int) (w : World) (w0 : IsActs w a0 len0 cap0 z0) (w1 : (Lit.int .u8 a1).wf = true) (w2 : (Lit.int .u8 a2).wf = true) :
    Calls Try.prog 3 #[.slice a0 len0 cap0, .int .u8 a1, .int .u8 a2] w fun e w' => e = .returned (.bool true) ∧ Below w.heap.size w w' := by
  have hi := wf_u8 w1
  have hb := wf_u8 w2
  obtain ⟨i, hii, hi8⟩ : ∃ i : Nat, (i : Int) = a1 % 8 ∧ i < 8 := ⟨(a1 % 8).toNat, by omega, by omega⟩
  obtain ⟨b, rfl⟩ : ∃ b : Nat, a2 = (b : Int) := ⟨a2.toNat, by omega⟩
  have hb' : b < 256 := by omega
  have F := Lib.hid (fill_any b hb')
  have hT := fillB_size b
  obtain ⟨T, hTe⟩ : ∃ T, T = fillB b := ⟨_, rfl⟩
  rw [← hTe] at F hT
  have hw0 := w0
  obtain ⟨hl1, hl2, hl3, hl4⟩ := w0
  unfold maxLen at hl2
  have hlen : len0 ≤ 9223372036854775807 := by omega
  replace hw0 := Lib.hid hw0
  replace hl3 := Lib.hid hl3
  replace hl4 := Lib.hid hl4
  replace hii := Lib.hid hii
  replace hT := Lib.hid hT
  obtain ⟨hi1, hi2⟩ := hi
  obtain ⟨hb1, hb2⟩ := hb
  clear hTe w1 w2
  go_enter Try.func3, Try.ntmps3
  go_wp2_with fail
  refine (awake_any _).mono ?_
  rintro e w1 ⟨rfl, b1⟩
  go_wp2_with fail
  refine (few_any w1 a0 len0 cap0 z0 (hw0.out.keep b1)).mono ?_
  rintro e w' ⟨rfl, ⟨rfl, hf⟩ | rfl⟩
  rotate_left
  · go_wp2_with fail
    refine (awake_any _).mono ?_
    rintro e w2 ⟨rfl, b2⟩
    go_wp2_with fail
    go_ret
    exact ⟨rfl, then_ b1 b2 b1.size⟩
  replace hf := Lib.hid hf
  go_wp2_with fail
  refine (new_any w1 8 (by omega) (by omega)).mono ?_
  rintro e w2 ⟨d, sb, mb, rfl, D2, b2, zd, zs, zm⟩
  have z1 := b1.size
  have B2 := then_ b1 b2 b1.size
  replace b1 := Lib.hid b1
  clear b2
  have zd' : w.heap.size ≤ d := by omega
  have zs' : w.heap.size ≤ sb := by omega
  have zm' : w.heap.size ≤ mb := by omega
  have ei : (a1 % 8) = (i : Int) := hii.out.symm
  clear zd zs zm
  have E1 : wres 8 ⟨List.replicate 512 0, [], -1, false⟩ i T = (0, ⟨List.replicate 512 0, [(i, T)], -1, false⟩) := by
    simp [wres, burn, hT.out]; omega
  have E2 : fres ⟨List.replicate 512 0, [(i, T)], -1, false⟩ = (0, ⟨settled (fun _ => 64) [(i, T)] 0 (List.replicate 512 0), [], -1, false⟩) := by
    simp [fres, burn]
  change DiskAt w2 d sb mb 512 (.slice none 0 0) 8 ⟨List.replicate 512 0, [], -1, false⟩ at D2
  replace E1 := Lib.hid E1
  replace E2 := Lib.hid E2
  go_wp2_with fail
  refine (F.out w2).mono ?_
  rintro e w3 ⟨rfl, b3⟩
  have D3 := D2.below b3
  have B3 := then_ B2 b3 B2.size
  clear D2 B2 b3
  go_wp2_with fail
  have H := write_any D3 i T (wf_mk (by omega) (by omega)) (by rw [hT.out]; decide) (by decide)
  rw [E1.out] at H
  refine H.mono ?_
  rintro e w4 ⟨rfl, wv4, D4, c4, l4⟩
  clear H
  have B4 := B3.trans (c4.below B3.size (sep_new _ zd' zs' zm' fun g hg => by cases hg))
  have O4 := own_of l4 B3.size (fun g hg => by cases hg)
  clear D3 c4 l4 B3
  go_wp2_with fail
  have H := flush_any D4
  rw [E2.out] at H
  refine H.mono ?_
  rintro e w5 ⟨rfl, wv5, D5, c5, l5⟩
  clear H
  have B5 := B4.trans (c5.below B4.size (sep_new _ zd' zs' zm' O4))
  have SA := sure_start hi8 hT.out ⟨wv5, D5, own_of' l5 O4⟩ B5 zd' zs' zm'
  clear D4 D5 c5 l5 O4 B4 B5 E1 E2
  replace SA := Lib.hid SA
  go_wp2
  go_loopw [10] (fun v wr => ∃ k : Nat, k ≤ len0 ∧ v = .int .i64 k ∧ SureAt w wr d sb mb i T k) (fun v wr => len0 - (intOf v).toNat)
  case atStart => exact ⟨0, by omega, rfl, SA.out⟩
  case round =>
    obtain ⟨k, hk, rfl, HI⟩ := hrel
    have BI := HI.below
    replace HI := Lib.hid HI
    by_cases hlt : k < len0
    · rcases hl4.out with h | ⟨b0, o0, rfl, hbz, hc⟩
      · omega
      have hkl : k < z0.length := by rw [hl3.out]; exact hlt
      obtain ⟨hcell, hx⟩ := hc k hkl
      have hkf := hf.out.2 k hkl
      have hlf : len0 ≤ 300 := by have := hf.out.1; rw [hl3.out] at this; exact this
      obtain ⟨y, hy⟩ : ∃ y, y = z0[k]'hkl := ⟨_, rfl⟩
      rw [← hy] at hcell hx hkf
      clear hy hc
      have hold := Lib.hid hx.old
      replace hx := hx.stay BI
      replace hcell := fun j hj => (BI.cell (p := ⟨b0, o0 + k * 6 + j, none⟩) hbz).trans (hcell j hj)
      have c0 := hcell 0 (by omega)
      have c1 := hcell 1 (by omega)
      have c2 := hcell 2 (by omega)
      have c3 := hcell 3 (by omega)
      have c4 := hcell 4 (by omega)
      have c5 := hcell 5 (by omega)
      obtain ⟨x0, x1, x2, x3, x4, ka, kl, kc, zs⟩ := y
      simp only [ActD.cells, List.getElem?_toArray, List.getElem?_cons_succ, List.getElem?_cons_zero, Nat.add_zero] at c0 c1 c2 c3 c4 c5
      obtain ⟨v1, v2, v3, v4, v5, v6, v7⟩ := hx
      simp only at v1 v2 v3 v4 v5 v6 v7
      have r0 := wf_u8 v1
      have r1 := wf_u8 v2
      have r2 := wf_i64 v3
      have r3 := wf_i64 v4
      replace v4 := Lib.hid v4
      replace v6 := Lib.hid v6
      replace v7 := Lib.hid v7
      replace BI := Lib.hid BI
      obtain ⟨r01, r02⟩ := r0
      obtain ⟨r11, r12⟩ := r1
      obtain ⟨r21, r22⟩ := r2
      obtain ⟨r31, r32⟩ := r3
      clear v1 v2 v3 v5 hcell hkf
      obtain ⟨U, hU⟩ : ∃ U, IntKind.u64.wrap x2 = U := ⟨_, rfl⟩
      have hU0 : 0 ≤ U := by rw [← hU]; simp [IntKind.wrap, IntKind.signed, IntKind.bits]; omega
      obtain ⟨ta, hta⟩ : ∃ ta, ((i : Int) + 1 + U % 7) % 8 = ta := ⟨_, rfl⟩
      have ht0 : 0 ≤ ta := by omega
      have ht7 : ta ≤ 7 := by omega
      have htn : ta ≠ (i : Int) := by omega
      replace htn := Lib.hid htn
      obtain ⟨n1, rfl⟩ : ∃ n1 : Nat, x1 = (n1 : Int) := ⟨x1.toNat, by omega⟩
      have hn1 : n1 < 256 := by omega
      have zb := fillB_size n1
      have F1 := Lib.hid (fill_any n1 hn1)
      obtain ⟨T1, hT1⟩ : ∃ T1, T1 = fillB n1 := ⟨_, rfl⟩
      rw [← hT1] at zb F1
      replace zb := Lib.hid zb
      clear hT1
      go_upto_region 13 with fail
      go_name_world W0 hW0e
      have O0 : Own W0 wr.heap.size 34 #[.int .u8 x0, .int .u8 (n1 : Int), .int .i64 x2, .int .i64 x3, .string x4, .slice ka kl kc] := hW0e ▸ Own.made _ _ _
      have b0 : Below wr.heap.size wr W0 := hW0e ▸ (Below.refl _ _).alloc (Nat.le_refl _) _
      have HI0 := HI.out.call b0
      clear hW0e
      have ob := O0.at_
      obtain ⟨q1, q2, q3⟩ := ob
      have K0 := Lib.hid (v6.out.keep b0)
      clear b0
      replace HI0 := Lib.hid HI0
      replace O0 := Lib.hid O0
      have hd6 : x0 % 6 = 0 ∨ x0 % 6 = 1 ∨ x0 % 6 = 2 ∨ x0 % 6 = 3 ∨ x0 % 6 = 4 ∨ x0 % 6 = 5 := by omega
      have key : ∃ dd, dd = x0 % 6 := ⟨_, rfl⟩
      clear key c0 c1 c2 c3 c4 c5
      rcases hd6 with e6 | e6 | e6 | e6 | e6 | e6
      · go_upto_region 22 with (first
          | (go_at_call 11; refine (F1.out _).mono ?_; rintro e w6 ⟨rfl, b6⟩; have HI6 := Lib.hid (HI0.out.call b6))
          | (go_at_call 10; refine (sure_write HI6.out (by omega) ta T1 htn.out ht0 (by omega) (by rw [zb.out]; decide)).mono ?_; rintro e w7 ⟨r7, rfl, HX⟩))
        replace HX := Lib.hid HX
        go_wp2_with fail
        refine (sure_read HX.out hi8).mono ?_
        rintro e w8 ⟨dn, rfl, HY, HD⟩
        replace HD := Lib.hid HD
        replace HY := Lib.hid HY
        cases dn with
        | true =>
          go_wp2_with (go_at_call 16; refine HD.out.mono ?_; rintro e w' ⟨rfl, rfl⟩)
          go_roundw
          case rel => exact ⟨k + 1, by omega, by go_num, HY.out⟩
          case measure => simp [intOf]; omega
        | false =>
          go_wp2_with (first
            | (go_at_call 16; refine HD.out.mono ?_; rintro e w' ⟨rfl, rfl⟩)
            | (go_at_call 11; refine (F.out _).mono ?_; rintro e w9 ⟨rfl, b9⟩; replace HY := Lib.hid (HY.out.call b9)))
          go_roundw
          case rel => exact ⟨k + 1, by omega, by go_num, HY.out⟩
          case measure => simp [intOf]; omega
      · go_upto_region 22 with (first
          | (go_at_call 12; refine (sure_flush HI0.out).mono ?_; rintro e w7 ⟨r7, rfl, HX⟩))
        replace HX := HX.more (Nat.le_succ k)
        replace HX := Lib.hid HX
        go_wp2_with fail
        refine (sure_read HX.out hi8).mono ?_
        rintro e w8 ⟨dn, rfl, HY, HD⟩
        replace HD := Lib.hid HD
        replace HY := Lib.hid HY
        cases dn with
        | true =>
          go_wp2_with (go_at_call 16; refine HD.out.mono ?_; rintro e w' ⟨rfl, rfl⟩)
          go_roundw
          case rel => exact ⟨k + 1, by omega, by go_num, HY.out⟩
          case measure => simp [intOf]; omega
        | false =>
          go_wp2_with (first
            | (go_at_call 16; refine HD.out.mono ?_; rintro e w' ⟨rfl, rfl⟩)
            | (go_at_call 11; refine (F.out _).mono ?_; rintro e w9 ⟨rfl, b9⟩; replace HY := Lib.hid (HY.out.call b9)))
          go_roundw
          case rel => exact ⟨k + 1, by omega, by go_num, HY.out⟩
          case measure => simp [intOf]; omega
      · go_upto_region 22 with (first
          | (go_at_call 13; refine (sure_fuse HI0.out _ v4.out).mono ?_; rintro e w7 ⟨rfl, HX⟩))
        replace HX := HX.more (Nat.le_succ k)
        replace HX := Lib.hid HX
        go_wp2_with fail
        refine (sure_read HX.out hi8).mono ?_
        rintro e w8 ⟨dn, rfl, HY, HD⟩
        replace HD := Lib.hid HD
        replace HY := Lib.hid HY
        cases dn with
        | true =>
          go_wp2_with (go_at_call 16; refine HD.out.mono ?_; rintro e w' ⟨rfl, rfl⟩)
          go_roundw
          case rel => exact ⟨k + 1, by omega, by go_num, HY.out⟩
          case measure => simp [intOf]; omega
        | false =>
          go_wp2_with (first
            | (go_at_call 16; refine HD.out.mono ?_; rintro e w' ⟨rfl, rfl⟩)
            | (go_at_call 11; refine (F.out _).mono ?_; rintro e w9 ⟨rfl, b9⟩; replace HY := Lib.hid (HY.out.call b9)))
          go_roundw
          case rel => exact ⟨k + 1, by omega, by go_num, HY.out⟩
          case measure => simp [intOf]; omega
      · go_upto_region 22 with (first
          | (go_at_call 14; refine (sure_crash HI0.out _ _ _ zs _ _ K0.out hold.out).mono ?_; rintro e w7 ⟨rfl, HX, HZ⟩))
        clear HZ
        replace HX := HX.more (Nat.le_succ k)
        replace HX := Lib.hid HX
        go_wp2_with fail
        refine (sure_read HX.out hi8).mono ?_
        rintro e w8 ⟨dn, rfl, HY, HD⟩
        replace HD := Lib.hid HD
        replace HY := Lib.hid HY
        cases dn with
        | true =>
          go_wp2_with (go_at_call 16; refine HD.out.mono ?_; rintro e w' ⟨rfl, rfl⟩)
          go_roundw
          case rel => exact ⟨k + 1, by omega, by go_num, HY.out⟩
          case measure => simp [intOf]; omega
        | false =>
          go_wp2_with (first
            | (go_at_call 16; refine HD.out.mono ?_; rintro e w' ⟨rfl, rfl⟩)
            | (go_at_call 11; refine (F.out _).mono ?_; rintro e w9 ⟨rfl, b9⟩; replace HY := Lib.hid (HY.out.call b9)))
          go_roundw
          case rel => exact ⟨k + 1, by omega, by go_num, HY.out⟩
          case measure => simp [intOf]; omega
      · go_upto_region 22 with fail
        have HX := HI0.out.more (Nat.le_succ k)
        replace HX := Lib.hid HX
        go_wp2_with fail
        refine (sure_read HX.out hi8).mono ?_
        rintro e w8 ⟨dn, rfl, HY, HD⟩
        replace HD := Lib.hid HD
        replace HY := Lib.hid HY
        cases dn with
        | true =>
          go_wp2_with (go_at_call 16; refine HD.out.mono ?_; rintro e w' ⟨rfl, rfl⟩)
          go_roundw
          case rel => exact ⟨k + 1, by omega, by go_num, HY.out⟩
          case measure => simp [intOf]; omega
        | false =>
          go_wp2_with (first
            | (go_at_call 16; refine HD.out.mono ?_; rintro e w' ⟨rfl, rfl⟩)
            | (go_at_call 11; refine (F.out _).mono ?_; rintro e w9 ⟨rfl, b9⟩; replace HY := Lib.hid (HY.out.call b9)))
          go_roundw
          case rel => exact ⟨k + 1, by omega, by go_num, HY.out⟩
          case measure => simp [intOf]; omega
      · go_upto_region 22 with (first
          | (go_at_call 11; refine (F1.out _).mono ?_; rintro e w6 ⟨rfl, b6⟩; have HI6 := Lib.hid (HI0.out.call b6))
          | (go_at_call 10; refine (sure_write HI6.out (by omega) ta T1 htn.out ht0 (by omega) (by rw [zb.out]; decide)).mono ?_; rintro e w7 ⟨r7, rfl, HX⟩))
        replace HX := Lib.hid HX
        go_wp2_with fail
        refine (sure_read HX.out hi8).mono ?_
        rintro e w8 ⟨dn, rfl, HY, HD⟩
        replace HD := Lib.hid HD
        replace HY := Lib.hid HY
        cases dn with
        | true =>
          go_wp2_with (go_at_call 16; refine HD.out.mono ?_; rintro e w' ⟨rfl, rfl⟩)
          go_roundw
          case rel => exact ⟨k + 1, by omega, by go_num, HY.out⟩
          case measure => simp [intOf]; omega
        | false =>
          go_wp2_with (first
            | (go_at_call 16; refine HD.out.mono ?_; rintro e w' ⟨rfl, rfl⟩)
            | (go_at_call 11; refine (F.out _).mono ?_; rintro e w9 ⟨rfl, b9⟩; replace HY := Lib.hid (HY.out.call b9)))
          go_roundw
          case rel => exact ⟨k + 1, by omega, by go_num, HY.out⟩
          case measure => simp [intOf]; omega
    · obtain rfl : k = len0 := by omega
      go_wp2_with fail
      refine (sure_crash HI.out none 0 0 [] (-1) 0 ⟨Nat.le_refl _, Nat.zero_le _, .inl rfl⟩ (fun b o h _ => by cases h)).mono ?_
      rintro e w7 ⟨rfl, HX, s7, D7, G7, hd7⟩
      have H := read_any D7 i (wf_mk (by omega) (by omega))
      rw [G7.read hi8, hd7] at H
      have B7 := HX.below
      replace H := Lib.hid H
      clear HX G7 hd7
      go_wp2_with fail
      refine H.out.mono ?_
      rintro e w8 ⟨rfl, b8⟩
      have B8 := then_ B7 b8 B7.size
      clear H b8 D7
      go_wp2_with (go_at_call 11; refine (F.out _).mono ?_; rintro e w9 ⟨rfl, b9⟩)
      go_ret
      exact ⟨rfl, then_ B8 b9 B8.size⟩

set_option maxRecDepth 100000 in
theorem lifted (os : Os) (started : os.Started) (H : Type) (enc : TypeId × Value → H) :
    ReturnsInHanded {} Try.checked os 3 .any (Rows.diskSureSpec.pre6 enc Try.prog Try.f3 Rows.diskSureRow.domain false) (Rows.diskSureSpec.post enc Try.prog Try.f3 false true false false) := by
  refine returnsInHanded_of_change (C := Try.checked) own started (by kernel_rfl) Try.func3
    (ChangeSpec.witness6 (enc := enc) (C := Try.checked) false ⟨#[], #[.slice none 0 0, .int .u8 0, .int .u8 0], []⟩ 8 (by kernel_rfl) (by kernel_rfl) (by kernel_rfl) (by kernel_rfl)) ?_
  intro W base args ds gs before hval0 hW hcnd _
  have hval : ∀ (j : Nat) t v, Try.f3.params[j]? = some t → args[j]? = some v → Value.okWide Try.prog W .any base t v := hval0
  have hW' := hW
  obtain ⟨p, q, hA0, hV, rfl, hfz, hnd⟩ := hW
  have hA : DataW.TrodAll enc Try.prog W 0 (fun _ => true) true Try.f3.params.toList args.toList ds p := hA0
  rw [Try.params3] at hA hval
  obtain ⟨v0, vs0, d0, ds0, p0, q0, hargs, rfl, rfl, h0, r0⟩ := trodAll_cons hA
  obtain ⟨v1, vs1, d1, ds1, p1, q1, rfl, rfl, rfl, h1, r1⟩ := trodAll_cons r0
  obtain ⟨v2, vs2, d2, ds2, p2, q2, rfl, rfl, rfl, h2, r2⟩ := trodAll_cons r1
  obtain ⟨rfl, rfl, rfl⟩ := trodAll_nil r2
  obtain rfl : args = #[v0, v1, v2] := by cases args; simp_all
  obtain ⟨rfl, rfl⟩ := trodVars_none hV
  have k0 := h0
  have lt0 : ∀ x ∈ p0, x.block < W.heap.size := by obtain ⟨m, hm⟩ := k0; exact DataW.trod_lt m _ _ _ hm
  obtain ⟨a0, len0, cap0, rfl⟩ := okWide_slice Try.underlying22 (hval 0 22 v0 rfl rfl)
  obtain ⟨z0, w0⟩ : ∃ z, IsActs W a0 len0 cap0 z := by
    obtain ⟨fuel, hf⟩ := h0
    obtain ⟨a, l, c, z, e, hz⟩ := open_acts hf
    simp [Value.cells] at e
    obtain ⟨rfl, rfl, rfl⟩ := e
    exact ⟨z, hz⟩
  obtain ⟨a1, rfl, rfl, rfl, w1⟩ := open_int Try.underlying5 (hval 1 5 v1 rfl rfl) h1
  obtain ⟨a2, rfl, rfl, rfl, w2⟩ := open_int Try.underlying5 (hval 2 5 v2 rfl rfl) h2
  clear hA0 hval0
  refine (walk a0 len0 cap0 z0 a1 a2 W w0 w1 w2).mono fun e W' ⟨he, bel⟩ => ?_
  subst he
  exact ⟨_, rfl, _, _, _, [], _, [], hW', trodAll_mk1 (shut_bool Try.underlying4 _), (trodAll_cons_mk (Below.trod laidOut (by kernel_rfl) (of_decide_eq_true (by kernel_rfl)) k0 bel lt0) (trodAll_cons_mk (shut_int Try.underlying5 w1) (trodAll_cons_mk (shut_int Try.underlying5 w2) trodAll_mk0))), rfl, bel.frame _, fun h => by cases h⟩

theorem over : Rows.diskSureRow.holds Try.pinned (OpenSpec.ofChange Rows.diskSureSpec) :=
  OpenClaim.holds_of_wide 3 Try.f3 rfl rfl rfl rfl rfl rfl rfl ⟨rfl, rfl, rfl, rfl, rfl⟩ rfl rfl rfl rfl rfl (by kernel_rfl) Try.func3 (by kernel_rfl)
    (of_decide_eq_true (by kernel_rfl)) (by unfold Func.isWrapper; first | (rw [if_pos (by decide +kernel)]; kernel_rfl) | (rw [if_neg (by decide +kernel)]; exact ⟨rfl, rfl⟩))
    (fun os started H enc _ => lifted os started H enc)

/-- THE STATEMENT -/
theorem proved : Rows.DiskSureSaid := over
#print axioms proved
end Go.Proofs.Ytgddogjieemgeaa.diskSure
