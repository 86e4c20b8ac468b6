/- For every string, two ints and a uint64: where the string has at most 30000 bytes, opening the stretch of a disk of just these bytes answers the transactions, the sectors left and the next number that the reference reads out of the stretch's bytes, and leaves the disk as it was, where the bytes are whole sectors and the stretch lies on them, and is refused with ErrArg and nothing else otherwise; the document's example of layer 9 holds: RedoOpens answers true.
Conditions: none; every input that can be read is spoken of. -/
import Derived.Test.YtmincpmkiheofaaRows
import Derived.Test.YtmincpmkiheofaaBase
import Derived.Test.YtmincpmkiheofaaRdlN
import Derived.Test.YtmincpmkiheofaaRdlS
import Derived.Test.YtmincpmkiheofaaRdrB
import Derived.Test.YtmincpmkiheofaaDisH
import Derived.WalkKit
import Derived.ProofKit
import Derived.OpenShut
import Derived.ShutString
import Derived.ChangeOld
import Derived.Below
import Derived.SliceStrings
namespace Go.Proofs.Ytmincpmkiheofaa.redoOpens
open Go.ChangeShapes Go.WideShapes Go.ChangeAt Go.RowKit
open Go.ChangeMaps (open_string shut_string)
set_option linter.unusedVariables false

theorem own : ownKnob Try.prog.godebug = none := by kernel_rfl
theorem laidOut : laidOutB Try.prog = true := by kernel_rfl

set_option maxHeartbeats 8000000 in
set_option maxRecDepth 100000 in
theorem walk (a0 : ByteArray) (a1 : Int) (a2 : Int) (a3 : Int) (w : World) (w0 : a0.size ≤ maxLen) (w1 : (Lit.int .i64 a1).wf = true) (w2 : (Lit.int .i64 a2).wf = true) (w3 : (Lit.int .u64 a3).wf = true) :
    Calls Try.prog 5 #[.string a0, .int .i64 a1, .int .i64 a2, .int .u64 a3] w fun e w' => e = .returned (.bool true) ∧ Below w.heap.size w w' := by
  unfold maxLen at w0
  obtain ⟨r1, r2⟩ := wf_i64 w1
  obtain ⟨r3, r4⟩ := wf_i64 w2
  have r5 : 0 ≤ a3 ∧ a3 ≤ 18446744073709551615 := by
    have h := w3
    simp [Lit.wf, IntKind.min, IntKind.max, IntKind.signed, IntKind.bits] at h
    omega
  obtain ⟨sq, hsq⟩ : ∃ sq : Nat, a3 = (sq : Int) := ⟨a3.toNat, by omega⟩
  subst hsq
  have hsq : sq ≤ 18446744073709551615 := by omega
  have W2 := Lib.hid w2
  clear r5 w3 w1 w2
  by_cases c1 : 30000 < a0.size
  · have d1 : decide ((30000 : Int) < (a0.size : Int)) = true := by simp; omega
    go_enter Try.func5, Try.ntmps5
    go_wp2_with fail
    refine (awaken_any _).mono ?_
    rintro e w1 ⟨rfl, b1⟩
    go_wp2_with (go_at_call 7; refine (awaken_any _).mono ?_; rintro e w2 ⟨rfl, b2⟩)
    go_ret
    exact ⟨rfl, then_ b1 b2 b1.size⟩
  have d1 : decide ((30000 : Int) < (a0.size : Int)) = false := by simp; omega
  by_cases c2 : ¬ a0.size % 64 = 0 ∨ a0.size = 0 ∨ 65536 * 64 < a0.size
  · have HLN := Lib.hid (fun w => load_no w a0 c2 (by omega))
    clear c2
    go_enter Try.func5, Try.ntmps5
    go_wp2_with (first
      | (go_at_call 7; refine (awaken_any _).mono ?_; rintro e w1 ⟨rfl, b1⟩)
      | (go_at_call 23; refine (HLN.out _).mono ?_; rintro e w' ⟨rfl, rfl⟩)
      | (go_at_call 10; refine (open_nil _ _ _ _).mono ?_; rintro e w' ⟨rfl, rfl⟩))
    go_ret
    exact ⟨rfl, b1⟩
  obtain ⟨n, hn⟩ : ∃ n : Nat, a0.size = n * 64 := ⟨a0.size / 64, by omega⟩
  have hn1 : 1 ≤ n := by omega
  have hn2 : n ≤ 468 := by omega
  have HLY := Lib.hid (fun w => load_any w a0 n hn hn1 (by omega))
  have HN := Lib.hid hn
  have hz64 : (a0.size : Int) = 64 * (n : Int) := by omega
  clear c2 hn
  go_enter Try.func5, Try.ntmps5
  go_wp2_with fail
  refine (awaken_any _).mono ?_
  rintro e w1 ⟨rfl, b1⟩
  go_wp2_with fail
  refine (HLY.out _).mono ?_
  rintro e w2 ⟨d, sb, mb, sc, rfl, D2, b2⟩
  have B2 := then_ b1 b2 b1.size
  have z2 := B2.size
  replace B2 := Lib.hid B2
  replace D2 := Lib.hid D2
  clear b1 b2 HLY
  have HLen := Lib.hid (len_any D2.out)
  by_cases c3 : a1 < 0 ∨ a2 < 1 ∨ (n : Int) - a2 < a1
  · have HON := Lib.hid (open_no D2.out a1 a2 (sq : Int) W2.out c3)
    have arms : True := trivial
    clear arms
    go_wp2_with fail
    refine HON.out.mono ?_
    rintro e w' ⟨rfl, rfl⟩
    by_cases e1 : a1 < 0
    · have t1 : decide (a1 < 0) = true := by simpa using e1
      clear c3 e1
      go_wp2
      go_ret
      exact ⟨rfl, B2.out⟩
    have t1 : decide (a1 < 0) = false := by simpa using e1
    by_cases e2 : a2 < 1
    · have t2 : decide (a2 < 1) = true := by simpa using e2
      clear c3 e2
      go_wp2
      go_ret
      exact ⟨rfl, B2.out⟩
    have t2 : decide (a2 < 1) = false := by simpa using e2
    by_cases e3 : (n : Int) < a1
    · have t3 : decide ((n : Int) < a1) = true := by simpa using e3
      clear c3 e3
      go_wp2_with (go_at_call 24; refine HLen.out.mono ?_; rintro e w' ⟨rfl, rfl⟩)
      go_ret
      exact ⟨rfl, B2.out⟩
    have t3 : decide ((n : Int) < a1) = false := by simpa using e3
    have t4 : decide ((n : Int) - a1 < a2) = true := by simp; omega
    clear c3
    go_wp2_with (go_at_call 24; refine HLen.out.mono ?_; rintro e w' ⟨rfl, rfl⟩)
    go_ret
    exact ⟨rfl, B2.out⟩
  obtain ⟨fr, hfr⟩ : ∃ fr : Nat, a1 = (fr : Int) := ⟨a1.toNat, by omega⟩
  obtain ⟨sz, hszz⟩ : ∃ sz : Nat, a2 = (sz : Int) := ⟨a2.toNat, by omega⟩
  subst hfr hszz
  have f1 : fr + sz ≤ n := by omega
  have f2 : 1 ≤ sz := by omega
  have HO := open_any D2.out rfl fr sz sq f1 f2 hsq
  have hsl : 64 * (fr + sz) ≤ a0.size := by rw [HN.out]; omega
  obtain ⟨SL, hSL⟩ : ∃ SL, SL = a0.extract (64 * fr) (64 * (fr + sz)) := ⟨_, rfl⟩
  have hSLz : SL.size = 64 * sz := by rw [hSL, ByteArray.size_extract]; omega
  have himg : standsAt (st ⟨a0.data.toList, [], -1, false⟩ fr) sz sq = standsAt (fA SL) sz sq := by
    rw [hSL]
    exact stands_img (N := n) D2.out.ok rfl fr sz sq f1
  rw [himg] at HO
  have HST := Lib.hid (fun w => rstands_any SL sz sq w hSLz (by omega) hsq)
  have hseqs := stands_seq (fA SL) (sz + 1) 0 sz sq hsq
  have hlong := stands_long (fA SL) (sz + 1) 0 sz sq
  change ∀ t ∈ standsAt (fA SL) sz sq, _ at hseqs
  change long (standsAt (fA SL) sz sq) ≤ sz at hlong
  have hge := long_ge (standsAt (fA SL) sz sq)
  obtain ⟨TS, hTS⟩ : ∃ TS, TS = standsAt (fA SL) sz sq := ⟨_, rfl⟩
  rw [← hTS] at HO HST hseqs hlong hge
  have HSE := Lib.hid hseqs
  have hslice : ∀ W : World, (Instr.slice 9 (.string a0) (some (.int .i64 (64 * (fr : Int)))) (some (.int .i64 (64 * ((fr : Int) + (sz : Int))))) none).run Try.prog W = .ok (.string SL) W := fun W => by
    rw [hSL]; exact slice_both W a0 _ _ (by omega) hsl _ _ (by omega) (by omega)
  have HSLI := Lib.hid hslice
  have HIM : Hid (strOf a0.data.toList = a0) := Lib.hid rfl
  replace HO := Lib.hid HO
  clear himg hTS hSL hSLz hseqs hslice hsl c3
  have t1 : decide ((fr : Int) < 0) = false := by simp
  have t2 : decide ((sz : Int) < 1) = false := by simp; omega
  have t3 : decide ((n : Int) < (fr : Int)) = false := by simp; omega
  have t4 : decide ((n : Int) - (fr : Int) < (sz : Int)) = false := by simp; omega
  go_wp2_with fail
  refine HO.out.mono ?_
  rintro e w3 ⟨lg, v, rfl, hlg, hL3, hT3, hb3⟩
  have D3 := Lib.hid (D2.out.below hb3)
  have HLen3 := Lib.hid (len_any D3.out)
  have B3 := Lib.hid (then_ B2.out hb3 z2)
  replace hL3 := Lib.hid hL3
  replace hT3 := Lib.hid hT3
  clear hb3 HO
  go_upto_region 7 with (go_at_call 24; refine HLen3.out.mono ?_; rintro e w' ⟨rfl, rfl⟩)
  have hsl7 := HSLI.out w3
  go_upto_region 8 with (go_at_call 19; refine (HST.out _).mono ?_; rintro e w4 ⟨vw4, rfl, hT4, hb4⟩)
  have HP := plain_any w4 _ v TS (hT3.out.below hb4) (by omega)
  obtain ⟨va, vc, rfl, -, -, -⟩ := hT4.open_
  have hL4 := Lib.hid (show LogAt w4 lg d _ from Own.keep hL3.out hb4)
  have D4 := Lib.hid (D3.out.below hb4)
  have B4 := Lib.hid (then_ B3.out hb4 B3.out.size)
  replace hT4 := Lib.hid hT4
  replace HP := Lib.hid HP
  clear hb4 hsl7
  go_wp2_with fail
  refine HP.out.mono ?_
  rintro e w5 ⟨v5, rfl, hT5, hb5⟩
  have HS := same_any w5 _ _ v5 _ TS TS hT5 (hT4.out.below hb5) HSE.out HSE.out
  rw [decide_eq_true (rfl : TS = TS)] at HS
  have hL5 := Lib.hid (show LogAt w5 lg d _ from Own.keep hL4.out hb5)
  have D5 := Lib.hid (D4.out.below hb5)
  have B5 := Lib.hid (then_ B4.out hb5 B4.out.size)
  replace HS := Lib.hid HS
  clear hT5 hb5 HP
  go_wp2_with fail
  refine HS.out.mono ?_
  rintro e w6 ⟨rfl, q, rfl⟩
  have hok : LogS.Ok ⟨fr, sz, long TS, (sq + TS.length) % 18446744073709551616, false⟩ := ⟨by show fr + sz ≤ 65536; omega, hlong, by show (sq + TS.length) % 18446744073709551616 ≤ _; omega⟩
  have hle := left_any (show LogAt (w5.drewN q) lg d _ from hL5.out) hok
  rw [show ((LogS.left ⟨fr, sz, long TS, (sq + TS.length) % 18446744073709551616, false⟩ : Nat) : Int) = (sz : Int) - (long TS : Int) by show ((sz - long TS : Nat) : Int) = _; omega] at hle
  have HLe := Lib.hid hle
  have hnx := fun (W : World) (hL : LogAt W lg d ⟨fr, sz, long TS, (sq + TS.length) % 18446744073709551616, false⟩) => next_any hL
  rw [show (((⟨fr, sz, long TS, (sq + TS.length) % 18446744073709551616, false⟩ : LogS).next : Nat) : Int) = ((sq : Int) + (TS.length : Int)) % 18446744073709551616 by show (((sq + TS.length) % 18446744073709551616 : Nat) : Int) = _; omega] at hnx
  have HNx := Lib.hid hnx
  clear hok hle hnx
  have D6 := Lib.hid (D5.out.below (below_drewN (Below.refl _ _) q))
  have L6 := Lib.hid (show LogAt (w5.drewN q) lg d _ from hL5.out)
  have B6 := Lib.hid (below_drewN B5.out q)
  obtain ⟨LT, hLT⟩ : ∃ LT, LT = long TS := ⟨_, rfl⟩
  obtain ⟨TL, hTL⟩ : ∃ TL, TL = TS.length := ⟨_, rfl⟩
  have HLT := Lib.hid hLT
  have HTL := Lib.hid hTL
  rw [← hLT] at HLe hlong hge ⊢
  rw [← hTL] at HNx hge ⊢
  clear hLT hTL
  go_wp2_with fail
  refine HLe.out.mono ?_
  rintro e w7 ⟨rfl, q2, rfl⟩
  have D7 := Lib.hid (D6.out.below (below_drewN (Below.refl _ _) q2))
  have L7 := Lib.hid (show LogAt ((w5.drewN q).drewN q2) lg d _ from L6.out)
  have B7 := Lib.hid (below_drewN B6.out q2)
  have hima := fun (W : World) (hD : DiskAt W d sb mb sc (.slice none 0 0) n ⟨a0.data.toList, [], -1, false⟩) => image_any hD
  simp only [HIM.out] at hima
  have HIMA := Lib.hid hima
  have HPEN := Lib.hid (fun (W : World) (hD : DiskAt W d sb mb sc (.slice none 0 0) n ⟨a0.data.toList, [], -1, false⟩) => pending_any hD)
  clear hima
  have dd : (a0.toList == a0.toList) = true := by simp
  go_wp2_with (first
    | (go_at_call 21; refine (HNx.out _ (by rw [HTL.out]; exact L7.out)).mono ?_; rintro e w' ⟨rfl, rfl⟩)
    | (go_at_call 20; (first | refine (HIMA.out _ (D5.out.below (below_drewN (Below.refl _ _) _))).mono ?_ | refine (HIMA.out _ (D6.out.below (below_drewN (Below.refl _ _) _))).mono ?_); rintro e w' ⟨rfl, rfl⟩)
    | (go_at_call 25; (first | refine (HPEN.out _ (D5.out.below (below_drewN (Below.refl _ _) _))).mono ?_ | refine (HPEN.out _ (D6.out.below (below_drewN (Below.refl _ _) _))).mono ?_); rintro e w' ⟨rfl, rfl⟩))
  go_ret
  exact ⟨rfl, below_drewN B5.out _⟩

set_option maxRecDepth 100000 in
theorem lifted (os : Os) (started : os.Started) (H : Type) (enc : TypeId × Value → H) :
    ReturnsInHanded {} Try.checked os 5 .any (Rows.redoOpensSpec.pre6 enc Try.prog Try.f5 Rows.redoOpensRow.domain false) (Rows.redoOpensSpec.post enc Try.prog Try.f5 false true false false) := by
  refine returnsInHanded_of_change (C := Try.checked) own started (by kernel_rfl) Try.func5
    (ChangeSpec.witness6 (enc := enc) (C := Try.checked) false ⟨#[], #[.string ByteArray.empty, .int .i64 0, .int .i64 0, .int .u64 0], []⟩ 8 (by kernel_rfl) (by kernel_rfl) (by kernel_rfl) (by kernel_rfl)) ?_
  intro W base args ds gs before hval0 hW hcnd _
  have hval : ∀ (j : Nat) t v, Try.f5.params[j]? = some t → args[j]? = some v → Value.okWide Try.prog W .any base t v := hval0
  have hW' := hW
  obtain ⟨p, q, hA0, hV, rfl, hfz, hnd⟩ := hW
  have hA : DataW.TrodAll enc Try.prog W 0 (fun _ => true) true Try.f5.params.toList args.toList ds p := hA0
  rw [Try.params5] at hA hval
  obtain ⟨v0, vs0, d0, ds0, p0, q0, hargs, rfl, rfl, h0, r0⟩ := trodAll_cons hA
  obtain ⟨v1, vs1, d1, ds1, p1, q1, rfl, rfl, rfl, h1, r1⟩ := trodAll_cons r0
  obtain ⟨v2, vs2, d2, ds2, p2, q2, rfl, rfl, rfl, h2, r2⟩ := trodAll_cons r1
  obtain ⟨v3, vs3, d3, ds3, p3, q3, rfl, rfl, rfl, h3, r3⟩ := trodAll_cons r2
  obtain ⟨rfl, rfl, rfl⟩ := trodAll_nil r3
  obtain rfl : args = #[v0, v1, v2, v3] := by cases args; simp_all
  obtain ⟨rfl, rfl⟩ := trodVars_none hV
  obtain ⟨a0, rfl, rfl, rfl, w0⟩ := open_string Try.underlying9 (hval 0 9 v0 rfl rfl) h0
  obtain ⟨a1, rfl, rfl, rfl, w1⟩ := open_int Try.underlying3 (hval 1 3 v1 rfl rfl) h1
  obtain ⟨a2, rfl, rfl, rfl, w2⟩ := open_int Try.underlying3 (hval 2 3 v2 rfl rfl) h2
  obtain ⟨a3, rfl, rfl, rfl, w3⟩ := open_int Try.underlying22 (hval 3 22 v3 rfl rfl) h3
  clear hA0 hval0
  refine (walk a0 a1 a2 a3 W w0 w1 w2 w3).mono fun e W' ⟨he, bel⟩ => ?_
  subst he
  exact ⟨_, rfl, _, _, _, [], _, [], hW', trodAll_mk1 (shut_bool Try.underlying4 _), (trodAll_cons_mk (shut_string Try.underlying9 w0) (trodAll_cons_mk (shut_int Try.underlying3 w1) (trodAll_cons_mk (shut_int Try.underlying3 w2) (trodAll_cons_mk (shut_int Try.underlying22 w3) trodAll_mk0)))), rfl, bel.frame _, fun h => by cases h⟩

theorem over : Rows.redoOpensRow.holds Try.pinned (OpenSpec.ofChange Rows.redoOpensSpec) :=
  OpenClaim.holds_of_wide 5 Try.f5 rfl rfl rfl rfl rfl rfl rfl ⟨rfl, rfl, rfl, rfl, rfl⟩ rfl rfl rfl rfl rfl (by kernel_rfl) Try.func5 (by kernel_rfl)
    (of_decide_eq_true (by kernel_rfl)) (by unfold Func.isWrapper; first | (rw [if_pos (by decide +kernel)]; kernel_rfl) | (rw [if_neg (by decide +kernel)]; exact ⟨rfl, rfl⟩))
    (fun os started H enc _ => lifted os started H enc)

/-- THE STATEMENT -/
theorem proved : Rows.RedoOpensSaid := over
#print axioms proved
end Go.Proofs.Ytmincpmkiheofaa.redoOpens
