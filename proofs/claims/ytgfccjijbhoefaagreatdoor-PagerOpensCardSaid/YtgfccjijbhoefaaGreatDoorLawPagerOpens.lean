/- For every string and two ints: where the string has at most 40000 bytes, the disk of just these bytes is opened as a pager, or refused with ErrBad, and neither writes; what is opened has at least one page and no more than it has room for, Read answers ErrArg just if there is no such page, Root OK just if there is such a root; no disk, and room for less than 2 or more than 65536 pages, are refused with ErrArg; the document's example of layer 11 holds: PagerOpens answers true.
Conditions: none; every input that can be read is spoken of. -/
import Derived.Test.YtgfccjijbhoefaaGreatDoorRows
import Derived.Test.YtgfccjijbhoefaaGreatDoorCrcA
import Derived.Test.YtgfccjijbhoefaaGreatDoorLawPagerNil
import Derived.WalkKit
import Derived.ProofKit
import Derived.OpenShut
import Derived.ShutString
import Derived.ChangeOld
import Derived.Below
import Derived.SliceStrings
import Derived.Deep.DeepHandedRow
import Derived.Lib.LaidTab
import Derived.Test.YtgfccjijbhoefaaGreatDoorCards
import Derived.Test.YtgfccjijbhoefaaGreatDoorTie
import Derived.LaidMore
import Derived.Stop.Joined
import Derived.SevenTiedAt
namespace Go.Proofs.YtgfccjijbhoefaaGreatDoor.pagerOpens
open Go.ChangeShapes Go.WideShapes Go.ChangeAt Go.RowKit
open Go.ChangeMaps (open_string shut_string)
set_option linter.unusedVariables false

theorem str_self (s : ByteArray) : strOf s.data.toList = s := by
  apply ba_ext'
  simp [strOf]

theorem own : ownKnob Tryz.prog.godebug = none := by kernel_rfl
theorem laidOut : laidOutB Tryz.prog = true := by kernel_rfl

set_option maxRecDepth 10000 in
set_option maxHeartbeats 4000000 in
theorem walk (a0 : ByteArray) (a1 : Int) (a2 : Int) (w : World) (w0 : a0.size ≤ maxLen) (w1 : (Lit.int .i64 a1).wf = true) (w2 : (Lit.int .i64 a2).wf = true) :
    Calls Tryz.prog 5 #[.string a0, .int .i64 a1, .int .i64 a2] w fun e w' => e = .returned (.bool true) ∧ Below w.heap.size w w' := by
  unfold maxLen at w0
  have AW := Lib.hid (fun W => paw_any W)
  by_cases c1 : 40000 < a0.size
  · have d1 : decide ((40000 : Int) < (a0.size : Int)) = true := by simp; omega
    clear c1
    go_enter Tryz.func5, Tryz.ntmps5
    go_upto_region 2 with (go_at_call 8; refine (AW.out _).mono ?_; rintro e w1 ⟨rfl, hb1⟩; have B1 := Lib.hid hb1; clear hb1)
    go_wp2_with (go_at_call 8; refine (AW.out _).mono ?_; rintro e w2 ⟨rfl, hb2⟩; have B2 := Lib.hid (then_ B1.out hb2 B1.out.size); clear hb2)
    go_ret
    exact ⟨rfl, B2.out⟩
  have d1 : decide ((40000 : Int) < (a0.size : Int)) = false := by simp; omega
  by_cases c2 : ¬ a0.size % 64 = 0 ∨ a0.size = 0 ∨ 65536 * 64 < a0.size
  · have HLN := Lib.hid (fun w => load_no w a0 c2 (by omega))
    have ON := Lib.hid (fun W => popen_nil a1 W)
    clear c1 c2
    go_enter Tryz.func5, Tryz.ntmps5
    go_wp2_with (first
      | (go_at_call 8; refine (AW.out _).mono ?_; rintro e w1 ⟨rfl, hb1⟩; have B1 := Lib.hid hb1; clear hb1)
      | (go_at_call 37; refine (HLN.out _).mono ?_; rintro e w' ⟨rfl, rfl⟩)
      | (go_at_call 12; refine (ON.out _).mono ?_; rintro e w' ⟨rfl, rfl⟩))
    go_ret
    exact ⟨rfl, B1.out⟩
  obtain ⟨n, hn⟩ : ∃ n : Nat, a0.size = n * 64 := ⟨a0.size / 64, by omega⟩
  have HLY := Lib.hid (fun w => load_any w a0 n hn (by omega) (by omega))
  by_cases c3 : a1 < 2 ∨ 65536 < a1
  · have OR := Lib.hid (fun d W => popen_room d a1 c3 W)
    have key : ∀ (T : Prop), (decide (a1 < 2) = true → T) → (decide (a1 < 2) = false → decide (65536 < a1) = true → T) → T := fun T f g => by
      by_cases h : a1 < 2
      · exact f (by simpa using h)
      · exact g (by simpa using h) (by simp; omega)
    clear c1 c2 c3 hn
    refine key _ (fun t1 => ?_) fun t1 t2 => ?_
    all_goals
      clear key
      go_enter Tryz.func5, Tryz.ntmps5
      go_wp2_with (first
        | (go_at_call 8; refine (AW.out _).mono ?_; rintro e w1 ⟨rfl, hb1⟩; have B1 := Lib.hid hb1; clear hb1)
        | (go_at_call 37; refine (HLY.out _).mono ?_; rintro e w2 ⟨d, sb, mb, sc, rfl, D2, hb2⟩; have B2 := Lib.hid (then_ B1.out hb2 B1.out.size); clear hb2 D2)
        | (go_at_call 12; refine (OR.out _ _).mono ?_; rintro e w' ⟨rfl, rfl⟩))
      go_ret
      exact ⟨rfl, B2.out⟩
  obtain ⟨r, rfl⟩ : ∃ r : Nat, a1 = (r : Int) := ⟨a1.toNat, by omega⟩
  have hr2 : 2 ≤ r := by omega
  have hr6 : r ≤ 65536 := by omega
  have t1 : decide ((r : Int) < 2) = false := by simp; omega
  have t2 : decide ((65536 : Int) < (r : Int)) = false := by simp; omega
  have SS := Lib.hid (str_self a0)
  clear c1 c2 c3 hn w1
  go_enter Tryz.func5, Tryz.ntmps5
  go_upto_region 4 with (first
    | (go_at_call 8; refine (AW.out _).mono ?_; rintro e w1 ⟨rfl, hb1⟩; have B1 := Lib.hid hb1; clear hb1)
    | (go_at_call 37; refine (HLY.out _).mono ?_; rintro e w2 ⟨d, sb, mb, sc, rfl, hd2, hb2⟩; have D2 := Lib.hid hd2; have B2 := Lib.hid (then_ B1.out hb2 B1.out.size); clear hb2 hd2))
  have OP := Lib.hid (op_open D2.out rfl r hr2 hr6)
  go_wp2_with fail
  refine OP.out.mono ?_
  rintro e w3 ⟨hcase, hb3⟩
  have B3 := Lib.hid (then_ B2.out hb3 B2.out.size)
  have IM := image_any (D2.out.below hb3)
  have PE := pending_any (D2.out.below hb3)
  simp only [SS.out] at IM
  replace IM := Lib.hid IM
  replace PE : Calls Tryz.prog 39 #[.pointer (some ⟨d, 0, none⟩)] w3 fun e w' => e = .returned (.int .i64 0) ∧ w3 = w' := PE
  replace PE := Lib.hid PE
  clear hb3 OP
  rcases hcase with ⟨P, p, Bp, hPs, rfl, hBp, hA⟩ | rfl
  · have hup : P.s.down = false := by rw [hPs]
    have hsz : w.heap.size ≤ Bp := Nat.le_trans B2.out.size hBp
    have U0 := hA.ok.used
    have UP := Lib.hid hup
    have P3 := Lib.hid hA
    have HSZ := Lib.hid hsz
    obtain ⟨u, hu⟩ : ∃ u, u = P.used := ⟨_, rfl⟩
    obtain ⟨m, hm⟩ : ∃ m, m = P.most := ⟨_, rfl⟩
    rw [← hu, ← hm] at U0
    have HU := Lib.hid hu
    have HM := Lib.hid hm
    have tu1 : decide ((1 : Int) ≤ (u : Int)) = true := by simp; omega
    have tu2 : decide (u ≤ m) = true := by simp; omega
    have tu3 : decide ((u : Int) ≤ (m : Int)) = true := by simp; omega
    clear hPs hup hsz hBp hA hu hm U0
    go_upto_region 13 with (first
      | (go_at_call 38; refine IM.out.mono ?_; rintro e w' ⟨rfl, rfl⟩)
      | (go_at_call 39; refine PE.out.mono ?_; rintro e w' ⟨rfl, rfl⟩)
      | (go_at_call 36; refine (op_read P3.out UP.out a2 (by decide) HSZ.out).mono ?_; rintro e w4 ⟨⟨k, rr, g, rfl, hg⟩, hp4, hb4⟩; have P4 := Lib.hid hp4; have G4 := Lib.hid hg; have B4 := Lib.hid (B3.out.trans hb4); clear hp4 hg hb4)
      | (go_at_call 40; refine (op_root P4.out UP.out a2 (by decide) HSZ.out).mono ?_; rintro e w5 ⟨⟨x, h, rfl, hh⟩, hp5, hb5⟩; have P5 := Lib.hid hp5; have G5 := Lib.hid hh; have B5 := Lib.hid (B4.out.trans hb5); clear hp5 hh hb5))
    have g4 := G4.out
    have g5 := G5.out
    rw [← HU.out] at g4
    have key : ∀ (T : Prop), ((g == 1) = true → decide (a2 < 0) = true → (h == 0) = false → decide (0 ≤ a2) = false → T) →
        ((g == 1) = true → decide (a2 < 0) = false → decide ((u : Int) ≤ a2) = true → decide (0 ≤ a2) = true → (h == 0) = true → decide (a2 < 8) = true → T) →
        ((g == 1) = true → decide (a2 < 0) = false → decide ((u : Int) ≤ a2) = true → decide (0 ≤ a2) = true → (h == 0) = false → decide (a2 < 8) = false → T) →
        ((g == 1) = false → decide (a2 < 0) = false → decide ((u : Int) ≤ a2) = false → decide (0 ≤ a2) = true → (h == 0) = true → decide (a2 < 8) = true → T) →
        ((g == 1) = false → decide (a2 < 0) = false → decide ((u : Int) ≤ a2) = false → decide (0 ≤ a2) = true → (h == 0) = false → decide (a2 < 8) = false → T) → T := fun T f1 f2 f3 f4 f5 => by
      by_cases e1 : a2 < 0
      · exact f1 (by simp; exact g4.2 (.inl e1)) (by simpa using e1) (by simp; intro e; have := g5.1 e; omega) (by simp; omega)
      · by_cases e2 : (u : Int) ≤ a2
        · by_cases e3 : a2 < 8
          · exact f2 (by simp; exact g4.2 (.inr e2)) (by simpa using e1) (by simpa using e2) (by simp; omega) (by simp; exact g5.2 ⟨by omega, e3⟩) (by simpa using e3)
          · exact f3 (by simp; exact g4.2 (.inr e2)) (by simpa using e1) (by simpa using e2) (by simp; omega) (by simp; intro e; have := g5.1 e; omega) (by simpa using e3)
        · have n1 : (g == 1) = false := by simp; exact fun e => (g4.1 e).elim e1 e2
          by_cases e3 : a2 < 8
          · exact f4 n1 (by simpa using e1) (by simpa using e2) (by simp; omega) (by simp; exact g5.2 ⟨by omega, e3⟩) (by simpa using e3)
          · exact f5 n1 (by simpa using e1) (by simpa using e2) (by simp; omega) (by simp; intro e; have := g5.1 e; omega) (by simpa using e3)
    clear g4 g5
    have PG := Lib.hid (fun W c (hc : c + 2 < 1000000) (hp : PagerAt W 0 Bp d p c P) => op_pages (B0 := w.heap.size) hp UP.out u HU.out.symm hc HSZ.out)
    have PM := Lib.hid (fun W c (hp : PagerAt W 0 Bp d p c P) => op_most (B0 := w.heap.size) hp m HM.out.symm HSZ.out)
    refine key _ (fun s1 s2 s3 s4 => ?_) (fun s1 s2 s3 s4 s5 s6 => ?_) (fun s1 s2 s3 s4 s5 s6 => ?_) (fun s1 s2 s3 s4 s5 s6 => ?_) (fun s1 s2 s3 s4 s5 s6 => ?_)
    all_goals
      clear key
      go_wp2_with (first
        | (go_at_call 34; refine (PG.out _ _ (by decide) P5.out).mono ?_; rintro e w6 ⟨rfl, hp6, hb6⟩; have P6 := Lib.hid hp6; have B6 := Lib.hid (B5.out.trans hb6); have BE := B6; clear hp6 hb6)
        | (go_at_call 34; refine (PG.out _ _ (by decide) P6.out).mono ?_; rintro e w7 ⟨rfl, hp7, hb7⟩; have P7 := Lib.hid hp7; have B7 := Lib.hid (B6.out.trans hb7); clear hp7 hb7)
        | (go_at_call 35; refine (PM.out _ _ P7.out).mono ?_; rintro e w8 ⟨rfl, hp8, hb8⟩; have P8 := Lib.hid hp8; have B8 := Lib.hid (B7.out.trans hb8); clear hp8 hb8)
        | (go_at_call 34; refine (PG.out _ _ (by decide) P8.out).mono ?_; rintro e w9 ⟨rfl, hp9, hb9⟩; have P9 := Lib.hid hp9; have B9 := Lib.hid (B8.out.trans hb9); clear hp9 hb9))
      go_ret
      first
        | exact ⟨rfl, B9.out⟩
        | exact ⟨rfl, B8.out⟩
  · go_wp2_with (first
      | (go_at_call 38; refine IM.out.mono ?_; rintro e w' ⟨rfl, rfl⟩)
      | (go_at_call 39; refine PE.out.mono ?_; rintro e w' ⟨rfl, rfl⟩))
    go_ret
    exact ⟨rfl, B3.out⟩

def litV : DataW Unit → Value
  | .lit (.int k n) => .int k n
  | _ => .int .u8 0
def rowV : DataW Unit → Array Value
  | .agg l => (l.map litV).toArray
  | _ => #[]
/-- A WORLD FOR THE WITNESS: the door's, and the pinned table as it is pinned. -/
noncomputable def laidWorld (os : Os) : World :=
  { World.doorLaid Tryz.prog 400 os with heap := (World.doorLaid Tryz.prog 400 os).heap.modify 1 fun
      | .cells _ t frozen => .cells (rowV Go.Pinned.utf8First) t frozen
      | o => o }
theorem laid_met (os : Os) : laidMet Tryz.prog Rows.pagerOpensRow.laid ((laidWorld os).forCall (fun _ _ => 0) ⟨#[], #[.string ByteArray.empty, .int .i64 0, .int .i64 0], []⟩).memory :=
  laidMet_of_run' 8 (by kernel_rfl) (by kernel_rfl)
theorem reads (os : Os) {H : Type} (enc : TypeId × Value → H) : ∃ places, DataW.whole enc Tryz.prog ((laidWorld os).forCall (fun _ _ => 0) ⟨#[], #[.string ByteArray.empty, .int .i64 0, .int .i64 0], []⟩).memory Tryz.f5.params.toList Rows.pagerOpensSpec.vars false (#[.string ByteArray.empty, .int .i64 0, .int .i64 0] : Array Value).toList 8 = some ([.lit (.string []), .lit (.int .i64 0), .lit (.int .i64 0)], [], places) :=
  ⟨[], by kernel_rfl⟩
set_option maxRecDepth 100000 in
theorem lifted (os : Os) (started : os.Started) (H : Type) (enc : TypeId × Value → H) (F : Stop.Interp) :
    ReturnsInHanded {} Tryz.checked os 5 .any ((OpenSpec.ofChange Rows.pagerOpensSpec).preRow enc Tryz.prog Tryz.f5 Rows.pagerOpensRow.domain false Rows.pagerOpensRow.laid) (((OpenSpec.ofChange Rows.pagerOpensSpec).at F).post enc Tryz.prog Tryz.f5 false true false false) := by
  obtain ⟨places, hx⟩ := reads os enc
  refine returnsInHanded_of_row (C := Tryz.checked) (s := OpenSpec.ofChange Rows.pagerOpensSpec) own started (by kernel_rfl) Tryz.func5
    (witness_row_at (enc := enc) (C := Tryz.checked) false (laidWorld os) #[.string ByteArray.empty, .int .i64 0, .int .i64 0] rfl (by kernel_rfl) (by kernel_rfl) (by kernel_rfl)
      (OpenSpec.preRow_of_cond 8 hx (by kernel_rfl) (fun k hk => by cases hk) (by kernel_rfl) (laid_met os))) ?_
  intro W base args ds gs before hval0 hW _ _ _ hL _ _
  have hval : ∀ (j : Nat) t v, Tryz.f5.params[j]? = some t → args[j]? = some v → Value.okWide Tryz.prog W .any base t v := hval0
  have hW' := hW
  obtain ⟨p, q, hA0, hV, rfl, hfz, hnd⟩ := hW
  have hA : DataW.TrodAll enc Tryz.prog W 0 (fun _ => true) true Tryz.f5.params.toList args.toList ds p := hA0
  rw [Tryz.params5] at hA hval
  obtain ⟨v0, vs0, d0, ds0, p0, q0, hargs, rfl, rfl, h0, r0⟩ := trodAll_cons hA
  obtain ⟨v1, vs1, d1, ds1, p1, q1, rfl, rfl, rfl, h1, r1⟩ := trodAll_cons r0
  obtain ⟨v2, vs2, d2, ds2, p2, q2, rfl, rfl, rfl, h2, r2⟩ := trodAll_cons r1
  obtain ⟨rfl, rfl, rfl⟩ := trodAll_nil r2
  obtain rfl : args = #[v0, v1, v2] := by cases args; simp_all
  obtain ⟨rfl, rfl⟩ := trodVars_none hV
  obtain ⟨a0, rfl, rfl, rfl, w0⟩ := open_string Tryz.underlying9 (hval 0 9 v0 rfl rfl) h0
  obtain ⟨a1, rfl, rfl, rfl, w1⟩ := open_int Tryz.underlying3 (hval 1 3 v1 rfl rfl) h1
  obtain ⟨a2, rfl, rfl, rfl, w2⟩ := open_int Tryz.underlying3 (hval 2 3 v2 rfl rfl) h2
  clear hA0 hval0
  refine (walk a0 a1 a2 W w0 w1 w2).mono fun e W' ⟨he, bel⟩ => ?_
  subst he
  exact ⟨_, rfl, _, _, _, [], _, [], hW', trodAll_mk1 (shut_bool Tryz.underlying4 _), (trodAll_cons_mk (shut_string Tryz.underlying9 w0) (trodAll_cons_mk (shut_int Tryz.underlying3 w1) (trodAll_cons_mk (shut_int Tryz.underlying3 w2) trodAll_mk0))), rfl, bel.frame _, fun h => by cases h⟩

theorem over : Rows.PagerOpensSaid :=
  OpenClaim.holds_of_cond 5 Tryz.f5 rfl rfl rfl rfl rfl rfl rfl ⟨rfl, rfl, rfl, rfl, rfl⟩ rfl rfl rfl rfl rfl (by kernel_rfl) Tryz.func5 (by kernel_rfl)
    (of_decide_eq_true (by kernel_rfl)) (by unfold Func.isWrapper; first | (rw [if_pos (by decide +kernel)]; kernel_rfl) | (rw [if_neg (by decide +kernel)]; exact ⟨rfl, rfl⟩))
    (fun os started H enc _ F => by rw [OpenClaim.pre_eq_preRow]; exact lifted os started H enc F)

/-- THE STATEMENT -/
theorem proved : Rows.PagerOpensCardSaid :=
  Claim7.holds_tied_plain_at .later [] [.data, .pinned] true (true, "08d11d8e5219d0446b8e6d056b0c86cd1ca55044131476e0a14d1667fe677d17") false
    over (fun _ h => by cases h) (by kernel_rfl) (fun _ h => by cases h) pagerOpens_row_tie rfl ⟨rfl, rfl⟩ (by kernel_rfl) rfl
    (fun f fn hf hfn => by
      obtain rfl : f = 5 := Option.some.inj ((show Tryz.prog.funcNamed "croft/croftlaw11.PagerOpens" = some 5 by kernel_rfl).symm.trans hf) |>.symm
      obtain rfl : fn = Tryz.f5 := (Option.some.inj (Tryz.func5.symm.trans hfn)).symm
      exact ⟨by kernel_rfl, fun j t ht => by
        rw [Tryz.params5] at ht
        have hm : t ∈ [9, 3, 3] := by simpa using Array.mem_of_getElem? ht
        have hall : ([9, 3, 3].all fun u => !Tryz.prog.wantsStandIn u) = true := by kernel_rfl
        exact (show Tryz.prog.wantsStandIn t = false by simpa using List.all_eq_true.1 hall t hm)⟩)
    (by kernel_rfl)
#print axioms proved
end Go.Proofs.YtgfccjijbhoefaaGreatDoor.pagerOpens
