/- For every string, every integer and every record: where the string has at most 2000 bytes and the record at most 1000, Read answers just the slots that the document reads, and if the document reads none, Read, Get, Add, Set and Del answer ErrForm and Left -1; the document's example of layer 12 holds: SlotReads answers true.
Conditions: none; every input that can be read is spoken of. -/
import Derived.Test.YteepggjbgdjchaaDoorRows
import Derived.Test.YteepggjbgdjchaaDoorBase
import Derived.Test.YteepggjbgdjchaaDoorSlrD
import Derived.WalkKit
import Derived.ProofKit
import Derived.OpenShut
import Derived.ShutString
import Derived.ChangeOld
import Derived.Below
import Derived.SliceStrings
import Derived.Deep.DeepHandedRow
import Derived.Lib.LaidTab
import Derived.Test.YteepggjbgdjchaaDoorCards
import Derived.Test.YteepggjbgdjchaaDoorTie
import Derived.LaidMore
import Derived.Stop.Joined
import Derived.SevenTiedAt
namespace Go.Proofs.YteepggjbgdjchaaDoor.slotReads
open Go.ChangeShapes Go.WideShapes Go.ChangeAt Go.RowKit
open Go.ChangeMaps (open_string shut_string)
set_option linter.unusedVariables false

theorem hs_two {s : ByteArray} (h : rd s = none) (i : Int) : hs s i = 2 := by unfold hs; rw [h]
theorem gt_two {s : ByteArray} (h : rd s = none) (i : Int) : gt s i = ⟨#[]⟩ := gt_no (by rw [hs_two h i]; decide)
theorem ch_two {s : ByteArray} (h : rd s = none) (i : Int) (x : Sl) : ch s i x = (⟨#[]⟩, 2) := by unfold ch; rw [hs_two h i, if_neg (by decide)]
theorem ad_two {s : ByteArray} (h : rd s = none) (r : ByteArray) : ad s r = (⟨#[]⟩, 0, 2) := by unfold ad; rw [h]
theorem lf_two {s : ByteArray} (h : rd s = none) : lf s = -1 := by unfold lf; rw [h]

theorem own : ownKnob Tryd.prog.godebug = none := by kernel_rfl
theorem laidOut : laidOutB Tryd.prog = true := by kernel_rfl

set_option maxRecDepth 10000 in
set_option maxHeartbeats 2000000 in
theorem walk (a0 : ByteArray) (a1 : Int) (a2 : ByteArray) (w : World) (w0 : a0.size ≤ maxLen) (w1 : (Lit.int .i64 a1).wf = true) (w2 : a2.size ≤ maxLen) :
    Calls Tryd.prog 5 #[.string a0, .int .i64 a1, .string a2] w fun e w' => e = .returned (.bool true) ∧ Below w.heap.size w w' := by
  have hi := wf_i64 w1
  clear w0 w1 w2
  have HW := Lib.hid (fun W => aw12_any W)
  by_cases h0 : 2000 < a0.size
  · have q : (2000 : Int) < (a0.size : Int) := by omega
    clear h0
    go_enter Tryd.func5, Tryd.ntmps5
    go_upto_region 2 with (go_at_call 9; refine (HW.out _).mono ?_; rintro e v1 ⟨rfl, hb1⟩; have B1 := Lib.hid hb1; clear hb1)
    go_wp2_with (go_at_call 9; refine (HW.out _).mono ?_; rintro e v3 ⟨rfl, hb3⟩; have B3 := Lib.hid (then_ B1.out hb3 B1.out.size); clear hb3)
    go_ret
    exact ⟨rfl, B3.out⟩
  have q : ¬ (2000 : Int) < (a0.size : Int) := by omega
  by_cases h9 : 1000 < a2.size
  · have q2 : (1000 : Int) < (a2.size : Int) := by omega
    clear h0 h9
    go_enter Tryd.func5, Tryd.ntmps5
    go_upto_region 2 with (go_at_call 9; refine (HW.out _).mono ?_; rintro e v1 ⟨rfl, hb1⟩; have B1 := Lib.hid hb1; clear hb1)
    go_wp2_with (go_at_call 9; refine (HW.out _).mono ?_; rintro e v3 ⟨rfl, hb3⟩; have B3 := Lib.hid (then_ B1.out hb3 B1.out.size); clear hb3)
    go_ret
    exact ⟨rfl, B3.out⟩
  have q2 : ¬ (1000 : Int) < (a2.size : Int) := by omega
  have HD := Lib.hid (fun W => read_slot a0 W (by omega))
  have HR := Lib.hid (fun W => rread_any a0 W (by omega))
  cases hr : rd a0 with
  | none =>
    have HG := Lib.hid (fun W => get_slot a0 a1 W (by omega) hi.1 hi.2)
    have HA := Lib.hid (fun W => add_slot a0 a2 W (by omega) (by omega))
    have HS := Lib.hid (fun W => set_slot a0 a1 a2 W (by omega) hi.1 hi.2 (by omega))
    have HE := Lib.hid (fun W => del_slot a0 a1 W (by omega) hi.1 hi.2)
    have HL := Lib.hid (fun W => left_slot a0 W (by omega))
    rw [hs_two hr, gt_two hr] at HG
    rw [ad_two hr] at HA
    rw [ch_two hr] at HS HE
    rw [lf_two hr] at HL
    simp only at HA HS HE
    rw [hr] at HR
    have HR2 : Hid (∀ W, Calls Tryd.prog 19 #[.string a0] W fun e w' => ∃ v, e = .returned (.tuple #[v, .bool false]) ∧ Below W.heap.size W w') := Lib.hid fun W => (HR.out W).mono fun e w' ⟨v, h1, _, h3⟩ => ⟨v, h1, h3⟩
    have HD2 : Hid (∀ W, Calls Tryd.prog 21 #[.string a0] W fun e w' => e = .returned (.tuple #[.slice none 0 0, .int .i64 2]) ∧ Below W.heap.size W w') := Lib.hid fun W => (HD.out W).mono fun e w' ⟨h1, h2⟩ => by
      rcases h1 with ⟨_, h1⟩ | ⟨L, b, h1, _⟩
      · exact ⟨h1, h2⟩
      · rw [hr] at h1; cases h1
    clear hr HR HD h0 h9
    go_enter Tryd.func5, Tryd.ntmps5
    go_wp2_with (first
      | (go_at_call 9; refine (HW.out _).mono ?_; rintro e v1 ⟨rfl, hb1⟩; have B1 := Lib.hid hb1; clear hb1)
      | (go_at_call 21; refine (HD2.out _).mono ?_; rintro e v2 ⟨rfl, hb2⟩; have B2 := Lib.hid (then_ B1.out hb2 B1.out.size); clear hb2)
      | (go_at_call 19; refine (HR2.out _).mono ?_; rintro e v3 ⟨v, rfl, hb3⟩; have B3 := Lib.hid (then_ B2.out hb3 B2.out.size); clear hb3)
      | (go_at_call 15; refine (HG.out _).mono ?_; rintro e v4 ⟨rfl, hb4⟩; have B4 := Lib.hid (then_ B3.out hb4 B3.out.size); clear hb4)
      | (go_at_call 13; refine (HA.out _).mono ?_; rintro e v5 ⟨rfl, hb5⟩; have B5 := Lib.hid (then_ B4.out hb5 B4.out.size); clear hb5)
      | (go_at_call 16; refine (HS.out _).mono ?_; rintro e v6 ⟨rfl, hb6⟩; have B6 := Lib.hid (then_ B5.out hb6 B5.out.size); clear hb6)
      | (go_at_call 17; refine (HE.out _).mono ?_; rintro e v7 ⟨rfl, hb7⟩; have B7 := Lib.hid (then_ B6.out hb7 B6.out.size); clear hb7)
      | (go_at_call 14; refine (HL.out _).mono ?_; rintro e v8 ⟨rfl, hb8⟩; have B8 := Lib.hid (then_ B7.out hb8 B7.out.size); clear hb8))
    go_ret
    exact ⟨rfl, B8.out⟩
  | some L =>
    have hrz := (rd_len hr).2.1
    have hlz := (rd_len hr).1
    have szm : ∀ x ∈ L, x.2.size ≤ maxLen := fun x hx => by have := hrz x hx; unfold maxLen; omega
    have HR2 : Hid (∀ W, Calls Tryd.prog 19 #[.string a0] W fun e w' => ∃ v, e = .returned (.tuple #[v, .bool true]) ∧ SlIn w' v L ∧ Below W.heap.size W w') := Lib.hid fun W => (HR.out W).mono fun e w' ⟨v, h1, h2, h3⟩ => ⟨v, by rw [h1, hr]; rfl, (h2 L hr).in_ szm, h3⟩
    have HD2 : Hid (∀ W, Calls Tryd.prog 21 #[.string a0] W fun e w' => ∃ b, e = .returned (.tuple #[.slice (some ⟨b, 0, none⟩) L.length L.length, .int .i64 0]) ∧ SlIn w' (.slice (some ⟨b, 0, none⟩) L.length L.length) L ∧ Below W.heap.size W w') := Lib.hid fun W => (HD.out W).mono fun e w' ⟨h1, h2⟩ => by
      rcases h1 with ⟨h1, _⟩ | ⟨L', b, h1, h3, h4⟩
      · rw [hr] at h1; cases h1
      · rw [hr] at h1; injection h1 with h1; subst h1
        exact ⟨b, h3, h4.in_ (by unfold maxLen; omega) szm, h2⟩
    have HP : Hid (∀ W v, SlIn W v L → Calls Tryd.prog 23 #[v] W fun e w' => ∃ v', e = .returned v' ∧ SlIn w' v' L ∧ Below W.heap.size W w') := Lib.hid fun W v h => (plain_any v L W h (by omega)).mono fun e w' ⟨v', h1, h2, h3⟩ => ⟨v', h1, h2.in_ szm, h3⟩
    have HS : Hid (∀ W v v', SlIn W v L → SlIn W v' L → Calls Tryd.prog 22 #[v, v'] W fun e w' => e = .returned (.bool true) ∧ Below W.heap.size W w') := Lib.hid fun W v v' h h' => (rsame_any v v' L L W h h').mono fun e w' ⟨h1, h2⟩ => ⟨by rw [h1]; simp, h2⟩
    clear hr HR HD h0 h9 hrz hlz szm
    go_enter Tryd.func5, Tryd.ntmps5
    go_wp2_with (first
      | (go_at_call 9; refine (HW.out _).mono ?_; rintro e v1 ⟨rfl, hb1⟩; have B1 := Lib.hid hb1; clear hb1)
      | (go_at_call 21; refine (HD2.out _).mono ?_; rintro e v2 ⟨b, rfl, hi2, hb2⟩; have B2 := Lib.hid (then_ B1.out hb2 B1.out.size); have I2 := Lib.hid hi2; clear hb2 hi2)
      | (go_at_call 19; refine (HR2.out _).mono ?_; rintro e v3 ⟨rv, rfl, hi3, hb3⟩; have B3 := Lib.hid (then_ B2.out hb3 B2.out.size); have I3 := Lib.hid (I2.out.below hb3); have J3 := Lib.hid hi3; clear hb3 hi3)
      | (go_at_call 23; refine (HP.out _ _ I3.out).mono ?_; rintro e v4 ⟨pv, rfl, hi4, hb4⟩; have B4 := Lib.hid (then_ B3.out hb4 B3.out.size); have I4 := Lib.hid hi4; have J4 := Lib.hid (J3.out.below hb4); clear hb4 hi4)
      | (go_at_call 22; refine (HS.out _ _ _ I4.out J4.out).mono ?_; rintro e v5 ⟨rfl, hb5⟩; have B5 := Lib.hid (then_ B4.out hb5 B4.out.size); clear hb5))
    go_ret
    exact ⟨rfl, B5.out⟩

def litV : DataW Unit → Value
  | .lit (.int k n) => .int k n
  | _ => .int .u8 0
def rowV : DataW Unit → Array Value
  | .agg l => (l.map litV).toArray
  | _ => #[]
/-- A WORLD FOR THE WITNESS: the door's, and the pinned table as it is pinned. -/
noncomputable def laidWorld (os : Os) : World :=
  { World.doorLaid Tryd.prog 400 os with heap := (World.doorLaid Tryd.prog 400 os).heap.modify 1 fun
      | .cells _ t frozen => .cells (rowV Go.Pinned.utf8First) t frozen
      | o => o }
theorem laid_met (os : Os) : laidMet Tryd.prog Rows.slotReadsRow.laid ((laidWorld os).forCall (fun _ _ => 0) ⟨#[], #[.string ByteArray.empty, .int .i64 0, .string ByteArray.empty], []⟩).memory :=
  laidMet_of_run' 8 (by kernel_rfl) (by kernel_rfl)
theorem reads (os : Os) {H : Type} (enc : TypeId × Value → H) : ∃ places, DataW.whole enc Tryd.prog ((laidWorld os).forCall (fun _ _ => 0) ⟨#[], #[.string ByteArray.empty, .int .i64 0, .string ByteArray.empty], []⟩).memory Tryd.f5.params.toList Rows.slotReadsSpec.vars false (#[.string ByteArray.empty, .int .i64 0, .string ByteArray.empty] : Array Value).toList 8 = some ([.lit (.string []), .lit (.int .i64 0), .lit (.string [])], [], places) :=
  ⟨[], by kernel_rfl⟩
set_option maxRecDepth 100000 in
theorem lifted (os : Os) (started : os.Started) (H : Type) (enc : TypeId × Value → H) (F : Stop.Interp) :
    ReturnsInHanded {} Tryd.checked os 5 .any ((OpenSpec.ofChange Rows.slotReadsSpec).preRow enc Tryd.prog Tryd.f5 Rows.slotReadsRow.domain false Rows.slotReadsRow.laid) (((OpenSpec.ofChange Rows.slotReadsSpec).at F).post enc Tryd.prog Tryd.f5 false true false false) := by
  obtain ⟨places, hx⟩ := reads os enc
  refine returnsInHanded_of_row (C := Tryd.checked) (s := OpenSpec.ofChange Rows.slotReadsSpec) own started (by kernel_rfl) Tryd.func5
    (witness_row_at (enc := enc) (C := Tryd.checked) false (laidWorld os) #[.string ByteArray.empty, .int .i64 0, .string ByteArray.empty] rfl (by kernel_rfl) (by kernel_rfl) (by kernel_rfl)
      (OpenSpec.preRow_of_cond 8 hx (by kernel_rfl) (fun k hk => by cases hk) (by kernel_rfl) (laid_met os))) ?_
  intro W base args ds gs before hval0 hW _ _ hwt hL _ _
  have hval : ∀ (j : Nat) t v, Tryd.f5.params[j]? = some t → args[j]? = some v → Value.okWide Tryd.prog W .any base t v := hval0
  have hW' := hW
  obtain ⟨p, q, hA0, hV, rfl, hfz, hnd⟩ := hW
  have hA : DataW.TrodAll enc Tryd.prog W 0 (fun _ => true) true Tryd.f5.params.toList args.toList ds p := hA0
  rw [Tryd.params5] at hA hval
  obtain ⟨v0, vs0, d0, ds0, p0, q0, hargs, rfl, rfl, h0, r0⟩ := trodAll_cons hA
  obtain ⟨v1, vs1, d1, ds1, p1, q1, rfl, rfl, rfl, h1, r1⟩ := trodAll_cons r0
  obtain ⟨v2, vs2, d2, ds2, p2, q2, rfl, rfl, rfl, h2, r2⟩ := trodAll_cons r1
  obtain ⟨rfl, rfl, rfl⟩ := trodAll_nil r2
  obtain rfl : args = #[v0, v1, v2] := by cases args; simp_all
  obtain ⟨rfl, rfl⟩ := trodVars_none hV
  obtain ⟨a0, rfl, rfl, rfl, w0⟩ := open_string Tryd.underlying9 (hval 0 9 v0 rfl rfl) h0
  obtain ⟨a1, rfl, rfl, rfl, w1⟩ := open_int Tryd.underlying3 (hval 1 3 v1 rfl rfl) h1
  obtain ⟨a2, rfl, rfl, rfl, w2⟩ := open_string Tryd.underlying9 (hval 2 9 v2 rfl rfl) h2
  clear hA0 hval0
  refine (walk a0 a1 a2 W w0 w1 w2).mono fun e W' ⟨he, bel⟩ => ?_
  subst he
  exact ⟨_, rfl, _, _, _, [], _, [], hW', trodAll_mk1 (shut_bool Tryd.underlying4 _), (trodAll_cons_mk (shut_string Tryd.underlying9 w0) (trodAll_cons_mk (shut_int Tryd.underlying3 w1) (trodAll_cons_mk (shut_string Tryd.underlying9 w2) trodAll_mk0))), rfl, bel.frame _, fun h => by cases h⟩

theorem over : Rows.SlotReadsSaid :=
  OpenClaim.holds_of_cond 5 Tryd.f5 rfl rfl rfl rfl rfl rfl rfl ⟨rfl, rfl, rfl, rfl, rfl⟩ rfl rfl rfl rfl rfl (by kernel_rfl) Tryd.func5 (by kernel_rfl)
    (of_decide_eq_true (by kernel_rfl)) (by unfold Func.isWrapper; first | (rw [if_pos (by decide +kernel)]; kernel_rfl) | (rw [if_neg (by decide +kernel)]; exact ⟨rfl, rfl⟩))
    (fun os started H enc _ F => by rw [OpenClaim.pre_eq_preRow]; exact lifted os started H enc F)

/-- THE STATEMENT -/
theorem proved : Rows.SlotReadsCardSaid :=
  Claim7.holds_tied_plain_at .later [] [.data, .pinned] true (true, "9eaec38af16a29111749254a14b513b99c2338bab31c6b9716e2014fd8d54f3d") false
    over (fun _ h => by cases h) (by kernel_rfl) (fun _ h => by cases h) slotReads_row_tie rfl ⟨rfl, rfl⟩ (by kernel_rfl) rfl
    (fun f fn hf hfn => by
      obtain rfl : f = 5 := Option.some.inj ((show Tryd.prog.funcNamed "croft/croftlaw12.SlotReads" = some 5 by kernel_rfl).symm.trans hf) |>.symm
      obtain rfl : fn = Tryd.f5 := (Option.some.inj (Tryd.func5.symm.trans hfn)).symm
      exact ⟨by kernel_rfl, fun j t ht => by
        rw [Tryd.params5] at ht
        have hm : t ∈ [9, 3, 9] := by simpa using Array.mem_of_getElem? ht
        have hall : ([9, 3, 9].all fun u => !Tryd.prog.wantsStandIn u) = true := by kernel_rfl
        exact (show Tryd.prog.wantsStandIn t = false by simpa using List.all_eq_true.1 hall t hm)⟩)
    (by kernel_rfl)
#print axioms proved
end Go.Proofs.YteepggjbgdjchaaDoor.slotReads
