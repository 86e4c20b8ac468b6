/- For every string and int: where the string has at most 40000 bytes, the disk of just these bytes, whatever was on it, is formatted with a log of that many sectors, and is opened behind that as a pager that tells a new pager's one page, with room for as many pages as the sectors behind the log have, and writes nothing more; where there is no such disk, or the log has less than 10 sectors or leaves less than 10, Format answers ErrArg; the document's example of layer 11 holds: PagerFormats answers true.
Conditions: none; every input that can be read is spoken of. -/
import Derived.Test.YtndhmidgnpobjaaGreatDoorRows
import Derived.Test.YtndhmidgnpobjaaGreatDoorCrcA
import Derived.Test.YtndhmidgnpobjaaGreatDoorPgvG
import Derived.WalkKit
import Derived.ProofKit
import Derived.OpenShut
import Derived.ShutString
import Derived.ChangeOld
import Derived.Below
import Derived.SliceStrings
import Derived.Deep.DeepHandedRow
import Derived.Lib.LaidTab
import Derived.Test.YtndhmidgnpobjaaGreatDoorCards
import Derived.Test.YtndhmidgnpobjaaGreatDoorTie
import Derived.LaidMore
import Derived.Stop.Joined
import Derived.SevenTiedAt
namespace Go.Proofs.YtndhmidgnpobjaaGreatDoor.pagerFormats
open Go.ChangeShapes Go.WideShapes Go.ChangeAt Go.RowKit
open Go.ChangeMaps (open_string shut_string)
set_option linter.unusedVariables false

theorem own : ownKnob Tryz.prog.godebug = none := by kernel_rfl
theorem laidOut : laidOutB Tryz.prog = true := by kernel_rfl

set_option maxRecDepth 10000 in
set_option maxHeartbeats 4000000 in
theorem walk (a0 : ByteArray) (a1 : Int) (w : World) (w0 : a0.size ≤ maxLen) (w1 : (Lit.int .i64 a1).wf = true) :
    Calls Tryz.prog 5 #[.string a0, .int .i64 a1] w fun e w' => e = .returned (.bool true) ∧ Below w.heap.size w w' := by
  unfold maxLen at w0
  have AW := Lib.hid (fun W => paw_any W)
  by_cases c1 : 40000 < a0.size
  · have d1 : decide ((40000 : Int) < (a0.size : Int)) = true := by simp; omega
    clear c1
    go_enter Tryz.func5, Tryz.ntmps5
    go_upto_region 2 with (go_at_call 11; refine (AW.out _).mono ?_; rintro e w1 ⟨rfl, hb1⟩; have B1 := Lib.hid hb1; clear hb1)
    go_wp2_with (go_at_call 11; refine (AW.out _).mono ?_; rintro e w2 ⟨rfl, hb2⟩; have B2 := Lib.hid (then_ B1.out hb2 B1.out.size); clear hb2)
    go_ret
    exact ⟨rfl, B2.out⟩
  have d1 : decide ((40000 : Int) < (a0.size : Int)) = false := by simp; omega
  by_cases c2 : ¬ a0.size % 64 = 0 ∨ a0.size = 0 ∨ 65536 * 64 < a0.size
  · have HLN := Lib.hid (fun w => load_no w a0 c2 (by omega))
    have ON := Lib.hid (fun W => fmt_nil a1 W)
    clear c1 c2
    go_enter Tryz.func5, Tryz.ntmps5
    go_wp2_with (first
      | (go_at_call 11; refine (AW.out _).mono ?_; rintro e w1 ⟨rfl, hb1⟩; have B1 := Lib.hid hb1; clear hb1)
      | (go_at_call 40; refine (HLN.out _).mono ?_; rintro e w' ⟨rfl, rfl⟩)
      | (go_at_call 14; refine (ON.out _).mono ?_; rintro e w2 ⟨rfl, hb2⟩; have B2 := Lib.hid (then_ B1.out hb2 B1.out.size); clear hb2))
    go_ret
    exact ⟨rfl, B2.out⟩
  obtain ⟨n, hn⟩ : ∃ n : Nat, a0.size = n * 64 := ⟨a0.size / 64, by omega⟩
  have HLY := Lib.hid (fun w => load_o w a0 n hn (by omega) (by omega))
  have n1 : n ≤ 625 := by omega
  by_cases c3 : a1 < 10 ∨ (n : Int) - 10 < a1
  · have OR := Lib.hid (fun B d W (h : DiskO W B d n ⟨a0.data.toList, [], -1, false⟩) => fmt_bad h a1 w1 c3)
    have key : ∀ (T : Prop), (decide (a1 < 10) = true → T) → (decide (a1 < 10) = false → decide ((n : Int) < a1) = true → T) → (decide (a1 < 10) = false → decide ((n : Int) < a1) = false → IntKind.i64.wrap ((n : Int) - a1) = (n : Int) - a1 → decide ((n : Int) - a1 < 10) = true → T) → T := fun T f g k => by
      by_cases h : a1 < 10
      · exact f (by simpa using h)
      · by_cases h2 : (n : Int) < a1
        · exact g (by simpa using h) (by simpa using h2)
        · exact k (by simpa using h) (by simp; omega) (by rw [IntKind.wrap_i64]; omega) (by simp; omega)
    clear c1 c2 c3 hn n1
    refine key _ (fun t1 => ?_) (fun t1 t2 => ?_) fun t1 t2 tw t3 => ?_
    all_goals
      clear key
      go_enter Tryz.func5, Tryz.ntmps5
      go_wp2_with (first
        | (go_at_call 11; refine (AW.out _).mono ?_; rintro e w1 ⟨rfl, hb1⟩; have B1 := Lib.hid hb1; clear hb1)
        | (go_at_call 40; refine (HLY.out _).mono ?_; rintro e w2 ⟨d, rfl, hd2, hb2⟩; have D2 := Lib.hid hd2; have B2 := Lib.hid (then_ B1.out hb2 B1.out.size); clear hb2 hd2)
        | (go_at_call 14; refine (OR.out _ _ _ D2.out).mono ?_; rintro e w3 ⟨rfl, hb3⟩; have D3 := Lib.hid (D2.out.below hb3); have B3 := Lib.hid (then_ B2.out hb3 B2.out.size); clear hb3)
        | (go_at_call 41; refine (len_o D3.out).mono ?_; rintro e w' ⟨rfl, rfl⟩))
      go_ret
      exact ⟨rfl, B3.out⟩
  obtain ⟨ll, rfl⟩ : ∃ ll : Nat, a1 = (ll : Int) := ⟨a1.toNat, by omega⟩
  have h10 : 10 ≤ ll := by omega
  have hN : ll + 10 ≤ n := by omega
  have t1 : decide ((ll : Int) < 10) = false := by simp; omega
  have t2 : decide ((n : Int) < (ll : Int)) = false := by simp; omega
  have tw : IntKind.i64.wrap ((n : Int) - (ll : Int)) = (n : Int) - (ll : Int) := by rw [IntKind.wrap_i64]; omega
  have t3 : decide ((n : Int) - (ll : Int) < 10) = false := by simp; omega
  have u1 : IntKind.i64.wrap ((n : Int) - 2) = (n : Int) - 2 := by rw [IntKind.wrap_i64]; omega
  have u2 : IntKind.i64.wrap ((n : Int) - 2 - (ll : Int)) = (n : Int) - 2 - (ll : Int) := by rw [IntKind.wrap_i64]; omega
  have u3 : IntKind.i64.wrap (((n : Int) - 2 - (ll : Int)).tdiv 8) = (((n - 2 - ll) / 8 : Nat) : Int) := by
    rw [Int.tdiv_eq_ediv_of_nonneg (by omega), IntKind.wrap_i64]; omega
  clear c1 c2 c3 hn n1 w1
  go_enter Tryz.func5, Tryz.ntmps5
  go_upto_region 4 with (first
    | (go_at_call 11; refine (AW.out _).mono ?_; rintro e w1 ⟨rfl, hb1⟩; have B1 := Lib.hid hb1; clear hb1)
    | (go_at_call 40; refine (HLY.out _).mono ?_; rintro e w2 ⟨d, rfl, hd2, hb2⟩; have D2 := Lib.hid hd2; have B2 := Lib.hid (then_ B1.out hb2 B1.out.size); have ZB := Lib.hid B1.out.size; clear hb2 hd2))
  have FO := Lib.hid (fmt_o D2.out rfl (show (-1 : Int) < 0 by decide) (Nat.zero_le _) h10 hN)
  go_upto_region 5 with (go_at_call 14; refine FO.out.mono ?_; rintro e w3 ⟨rfl, hb3, s3, hF3, hd3⟩; have D3 := Lib.hid hd3; have F3 := Lib.hid hF3; have B3 := Lib.hid (B2.out.trans (hb3.mono ZB.out)); clear hd3 hF3 hb3)
  go_upto_region 7 with (go_at_call 41; refine (len_o D3.out).mono ?_; rintro e w' ⟨rfl, rfl⟩)
  have OO := Lib.hid (open_o D3.out F3.out h10 hN 2 (by decide) (by decide))
  go_upto_region 10 with (go_at_call 15; refine OO.out.mono ?_; rintro e w4 ⟨P, p, Bp, rfl, hn4, hp4, hb4⟩; have P4 := Lib.hid hp4; have N4 := Lib.hid hn4; have B4 := Lib.hid (then_ B3.out hb4 B3.out.size); clear hp4 hn4 hb4)
  have NR := Lib.hid (N4.out.root)
  have NW := Lib.hid (N4.out.wr)
  have TO := told_o P4.out N4.out
  have NM := Lib.hid (show P.most = (n - 2 - ll) / 8 from N4.out.most)
  have NN := Lib.hid (show P.N = n from N4.out.N)
  obtain ⟨r, hr⟩ : ∃ r, r = P.root := ⟨_, rfl⟩
  rw [← hr] at TO NR
  unfold stC at TO
  replace TO := Lib.hid TO
  clear hr N4
  go_upto_region 11 with (go_at_call 16; refine TO.out.mono ?_; rintro e w5 ⟨⟨ka, kc, ra, rc, rfl, hs5⟩, hp5, hb5⟩; have P5 := Lib.hid hp5; have S5 := Lib.hid hs5; have B5 := Lib.hid (B4.out.trans (hb5.mono ZB.out)); clear hp5 hs5 hb5)
  go_name_world W6 hW6
  have O6 : Own W6 w5.heap.size 38 #[.slice ka 1 kc, .slice ra 1 rc, .slice none 0 0, .int .u64 (r 0 : Int), .int .u64 (r 1 : Int), .int .u64 (r 2 : Int), .int .u64 (r 3 : Int), .int .u64 (r 4 : Int), .int .u64 (r 5 : Int), .int .u64 (r 6 : Int), .int .u64 (r 7 : Int)] := by
    rw [← hW6]
    exact Own.made_at rfl
  have b56 : Below w5.heap.size w5 W6 := by
    rw [← hW6]
    exact (Below.refl _ _).alloc (Nat.le_refl _) _
  have P6 := Lib.hid (P5.out.below b56)
  have S6 := Lib.hid (S5.out.below b56)
  have B6 := Lib.hid (then_ B5.out b56 B5.out.size)
  replace O6 := Lib.hid O6
  clear hW6 b56
  refine wp_region_seq (fun W => Own W w5.heap.size 38 #[.slice ka 1 kc, .slice ra 1 rc, .slice none 0 0, .int .u64 (r 0 : Int), .int .u64 (r 1 : Int), .int .u64 (r 2 : Int), .int .u64 (r 3 : Int), .int .u64 (r 4 : Int), .int .u64 (r 5 : Int), .int .u64 (r 6 : Int), .int .u64 (r 7 : Int)]) (0 :: 1 :: 2 :: 4 :: 5 :: 8 :: 9 :: 10 :: 12 :: 14 :: 15 :: 16 :: 17 :: 18 :: 19 :: 20 :: 21 :: 23 :: 24 :: 25 :: []) (2 :: []) (0 :: 1 :: 2 :: 3 :: 4 :: 5 :: 6 :: 7 :: 8 :: 9 :: 10 :: 12 :: 15 :: 11 :: 13 :: 14 :: 16 :: 17 :: 18 :: 19 :: 20 :: 21 :: 22 :: 23 :: 24 :: 25 :: []) (by kernel_rfl) (by kernel_rfl) rfl (by kernel_rfl) rfl (O6.out.drawn) (by simp only [picked, List.filterMap_cons, List.filterMap_nil, List.getElem?_cons_zero, List.getElem?_cons_succ, Option.map_some]; exact rfl) ?_
  iterate 3
    refine seq_want (v := ?_) rfl rfl (fun W hS => ?_) ?_
    rotate_left
    · first
        | (conv => lhs; simp [go_sem]
           first | done | exact rfl)
        | (have hS := hS rfl
           obtain ⟨q1, q2, q3⟩ := Own.at_ hS
           conv => lhs; simp [go_sem, *]
           first | done | exact rfl)
    simp only [Act.put, List.setIfInBounds_toArray, List.set_cons_zero, List.set_cons_succ]
  refine seq_on rfl rfl fun K hK => ?_
  go_wp2_with (go_at_call 28; refine (rnew_any 1 2 _ (by decide) (by decide)).mono ?_; rintro e w7 ⟨p7, rfl, hr7, hb7⟩; have C7 := Lib.hid (((Below.refl W6.heap.size W6).drew).trans hb7); have R7 := Lib.hid (ref_new hr7); clear hr7 hb7)
  refine hK _ _ (O6.out.keep C7.out) ?_
  clear hK K
  have O7 := Lib.hid (O6.out.keep C7.out)
  have P7 := Lib.hid (P6.out.below C7.out)
  have S7 := Lib.hid (S6.out.below C7.out)
  have B7 := Lib.hid (then_ B6.out C7.out B6.out.size)
  obtain ⟨sk, sr, sf, wk, wr, wf, vd, hR7, hs7⟩ := R7.out
  have G7 := Lib.hid hR7
  have T7 := Lib.hid hs7
  clear hR7 hs7 C7 R7 O6 P6 S6 B6
  iterate 2
    refine seq_want (v := ?_) rfl rfl (fun W hS => ?_) ?_
    rotate_left
    · conv => lhs; simp [go_sem]
      first | done | exact rfl
    simp only [Act.put, List.setIfInBounds_toArray, List.set_cons_zero, List.set_cons_succ]
  refine seq_on rfl rfl fun K hK => ?_
  obtain ⟨k1, k2, k3⟩ := G7.out.at_
  go_wp2
  refine hK _ _ O7.out ?_
  clear hK K k1 k2 k3
  have SM := same_o S7.out NR.out T7.out
  unfold stC at SM
  replace SM := Lib.hid SM
  refine seq_on rfl rfl fun K hK => ?_
  go_wp2_with (go_at_call 27; refine SM.out.mono ?_; rintro e w8 ⟨rfl, hb8⟩; have C8 := Lib.hid hb8; clear hb8)
  refine hK _ _ (O7.out.keep C8.out) ?_
  clear hK K
  have O8 := Lib.hid (O7.out.keep C8.out)
  have P8 := Lib.hid (P7.out.below C8.out)
  have B8 := Lib.hid (then_ B7.out C8.out B7.out.size)
  clear O7 P7 S7 B7 C8 G7 T7 SM
  iterate 5
    refine seq_want (v := ?_) rfl rfl (fun W hS => ?_) ?_
    rotate_left
    · conv => lhs; simp [go_sem]
      first | done | exact rfl
    simp only [Act.put, List.setIfInBounds_toArray, List.set_cons_zero, List.set_cons_succ]
  refine seq_on rfl rfl fun K hK => ?_
  have HM := pmost_any P8.out
  rw [NM.out] at HM
  replace HM := Lib.hid HM
  go_wp2_with (go_at_call 38; refine HM.out.mono ?_; rintro e w9 ⟨rfl, hb9⟩; have C9 := Lib.hid hb9; clear hb9)
  refine hK _ _ (O8.out.keep C9.out) ?_
  clear hK K
  have O9 := Lib.hid (O8.out.keep C9.out)
  have P9 := P8.out.below C9.out
  have B9 := Lib.hid (then_ B8.out C9.out B8.out.size)
  have D9 := P9.disk
  rw [NN.out] at D9
  replace D9 := Lib.hid D9
  clear O8 P8 B8 C9 HM P9
  refine seq_on rfl rfl fun K hK => ?_
  go_wp2_with (go_at_call 41; refine (len_o D9.out).mono ?_; rintro e w' ⟨rfl, rfl⟩)
  refine hK _ _ O9.out ?_
  clear hK K
  iterate 7
    refine seq_want (v := ?_) rfl rfl (fun W hS => ?_) ?_
    rotate_left
    · conv => lhs; simp [go_sem, u1, u2, u3]
      first | done | exact rfl
    simp only [Act.put, List.setIfInBounds_toArray, List.set_cons_zero, List.set_cons_succ]
  refine seq_on rfl rfl fun K hK => ?_
  go_wp2_with (go_at_call 42; refine (pend_o D9.out NW.out).mono ?_; rintro e w' ⟨rfl, rfl⟩)
  refine hK _ _ O9.out ?_
  clear hK K
  iterate 3
    refine seq_want (v := ?_) rfl rfl (fun W hS => ?_) ?_
    rotate_left
    · conv => lhs; simp [go_sem]
      first | done | exact rfl
    simp only [Act.put, List.setIfInBounds_toArray, List.set_cons_zero, List.set_cons_succ]
  refine seq_end ?_
  go_wp2
  go_ret
  exact ⟨rfl, B9.out⟩

def litV : DataW Unit → Value
  | .lit (.int k n) => .int k n
  | _ => .int .u8 0
def rowV : DataW Unit → Array Value
  | .agg l => (l.map litV).toArray
  | _ => #[]
/-- A WORLD FOR THE WITNESS: the door's, and the pinned table as it is pinned. -/
noncomputable def laidWorld (os : Os) : World :=
  { World.doorLaid Tryz.prog 400 os with heap := (World.doorLaid Tryz.prog 400 os).heap.modify 1 fun
      | .cells _ t frozen => .cells (rowV Go.Pinned.utf8First) t frozen
      | o => o }
theorem laid_met (os : Os) : laidMet Tryz.prog Rows.pagerFormatsRow.laid ((laidWorld os).forCall (fun _ _ => 0) ⟨#[], #[.string ByteArray.empty, .int .i64 0], []⟩).memory :=
  laidMet_of_run' 8 (by kernel_rfl) (by kernel_rfl)
theorem reads (os : Os) {H : Type} (enc : TypeId × Value → H) : ∃ places, DataW.whole enc Tryz.prog ((laidWorld os).forCall (fun _ _ => 0) ⟨#[], #[.string ByteArray.empty, .int .i64 0], []⟩).memory Tryz.f5.params.toList Rows.pagerFormatsSpec.vars false (#[.string ByteArray.empty, .int .i64 0] : Array Value).toList 8 = some ([.lit (.string []), .lit (.int .i64 0)], [], places) :=
  ⟨[], by kernel_rfl⟩
set_option maxRecDepth 100000 in
theorem lifted (os : Os) (started : os.Started) (H : Type) (enc : TypeId × Value → H) (F : Stop.Interp) :
    ReturnsInHanded {} Tryz.checked os 5 .any ((OpenSpec.ofChange Rows.pagerFormatsSpec).preRow enc Tryz.prog Tryz.f5 Rows.pagerFormatsRow.domain false Rows.pagerFormatsRow.laid) (((OpenSpec.ofChange Rows.pagerFormatsSpec).at F).post enc Tryz.prog Tryz.f5 false true false false) := by
  obtain ⟨places, hx⟩ := reads os enc
  refine returnsInHanded_of_row (C := Tryz.checked) (s := OpenSpec.ofChange Rows.pagerFormatsSpec) own started (by kernel_rfl) Tryz.func5
    (witness_row_at (enc := enc) (C := Tryz.checked) false (laidWorld os) #[.string ByteArray.empty, .int .i64 0] rfl (by kernel_rfl) (by kernel_rfl) (by kernel_rfl)
      (OpenSpec.preRow_of_cond 8 hx (by kernel_rfl) (fun k hk => by cases hk) (by kernel_rfl) (laid_met os))) ?_
  intro W base args ds gs before hval0 hW _ _ _ hL _ _
  have hval : ∀ (j : Nat) t v, Tryz.f5.params[j]? = some t → args[j]? = some v → Value.okWide Tryz.prog W .any base t v := hval0
  have hW' := hW
  obtain ⟨p, q, hA0, hV, rfl, hfz, hnd⟩ := hW
  have hA : DataW.TrodAll enc Tryz.prog W 0 (fun _ => true) true Tryz.f5.params.toList args.toList ds p := hA0
  rw [Tryz.params5] at hA hval
  obtain ⟨v0, vs0, d0, ds0, p0, q0, hargs, rfl, rfl, h0, r0⟩ := trodAll_cons hA
  obtain ⟨v1, vs1, d1, ds1, p1, q1, rfl, rfl, rfl, h1, r1⟩ := trodAll_cons r0
  obtain ⟨rfl, rfl, rfl⟩ := trodAll_nil r1
  obtain rfl : args = #[v0, v1] := by cases args; simp_all
  obtain ⟨rfl, rfl⟩ := trodVars_none hV
  obtain ⟨a0, rfl, rfl, rfl, w0⟩ := open_string Tryz.underlying9 (hval 0 9 v0 rfl rfl) h0
  obtain ⟨a1, rfl, rfl, rfl, w1⟩ := open_int Tryz.underlying3 (hval 1 3 v1 rfl rfl) h1
  clear hA0 hval0
  refine (walk a0 a1 W w0 w1).mono fun e W' ⟨he, bel⟩ => ?_
  subst he
  exact ⟨_, rfl, _, _, _, [], _, [], hW', trodAll_mk1 (shut_bool Tryz.underlying4 _), (trodAll_cons_mk (shut_string Tryz.underlying9 w0) (trodAll_cons_mk (shut_int Tryz.underlying3 w1) trodAll_mk0)), rfl, bel.frame _, fun h => by cases h⟩

theorem over : Rows.PagerFormatsSaid :=
  OpenClaim.holds_of_cond 5 Tryz.f5 rfl rfl rfl rfl rfl rfl rfl ⟨rfl, rfl, rfl, rfl, rfl⟩ rfl rfl rfl rfl rfl (by kernel_rfl) Tryz.func5 (by kernel_rfl)
    (of_decide_eq_true (by kernel_rfl)) (by unfold Func.isWrapper; first | (rw [if_pos (by decide +kernel)]; kernel_rfl) | (rw [if_neg (by decide +kernel)]; exact ⟨rfl, rfl⟩))
    (fun os started H enc _ F => by rw [OpenClaim.pre_eq_preRow]; exact lifted os started H enc F)

/-- THE STATEMENT -/
theorem proved : Rows.PagerFormatsCardSaid :=
  Claim7.holds_tied_plain_at .later [] [.data, .pinned] true (true, "28874e39ba8c8f9497e939afab2c54ff5b30085821baa06210cd2432478f5838") false
    over (fun _ h => by cases h) (by kernel_rfl) (fun _ h => by cases h) pagerFormats_row_tie rfl ⟨rfl, rfl⟩ (by kernel_rfl) rfl
    (fun f fn hf hfn => by
      obtain rfl : f = 5 := Option.some.inj ((show Tryz.prog.funcNamed "croft/croftlaw11.PagerFormats" = some 5 by kernel_rfl).symm.trans hf) |>.symm
      obtain rfl : fn = Tryz.f5 := (Option.some.inj (Tryz.func5.symm.trans hfn)).symm
      exact ⟨by kernel_rfl, fun j t ht => by
        rw [Tryz.params5] at ht
        have hm : t ∈ [9, 3] := by simpa using Array.mem_of_getElem? ht
        have hall : ([9, 3].all fun u => !Tryz.prog.wantsStandIn u) = true := by kernel_rfl
        exact (show Tryz.prog.wantsStandIn t = false by simpa using List.all_eq_true.1 hall t hm)⟩)
    (by kernel_rfl)
#print axioms proved
end Go.Proofs.YtndhmidgnpobjaaGreatDoor.pagerFormats
