/- For every string: where it has at most 2000 bytes, Left answers -1 if the document reads no room, and else just the most bytes that a record may have that goes into the document's room; the document's example of layer 12 holds: SlotLefts answers true.
Conditions: none; every input that can be read is spoken of. -/
import Derived.Test.YteepggjbgdjchaaDoorRows
import Derived.Test.YteepggjbgdjchaaDoorBase
import Derived.Test.YteepggjbgdjchaaDoorSloP
import Derived.WalkKit
import Derived.ProofKit
import Derived.OpenShut
import Derived.ShutString
import Derived.ChangeOld
import Derived.Below
import Derived.SliceStrings
import Derived.Deep.DeepHandedRow
import Derived.Lib.LaidTab
import Derived.Test.YteepggjbgdjchaaDoorCards
import Derived.Test.YteepggjbgdjchaaDoorTie
import Derived.LaidMore
import Derived.Stop.Joined
import Derived.SevenTiedAt
namespace Go.Proofs.YteepggjbgdjchaaDoor.slotLefts
open Go.ChangeShapes Go.WideShapes Go.ChangeAt Go.RowKit
open Go.ChangeMaps (open_string shut_string)
set_option linter.unusedVariables false

theorem lf_two {s : ByteArray} (h : rd s = none) : lf s = -1 := by unfold lf; rw [h]
theorem rs_rt {w : World} {B : Nat} {v : Value} {L : List Sl} (h : RsRow w B v L) : RT_ w 0 v L := RT_.low (show RT_ w B v L from h)

theorem own : ownKnob Tryd.prog.godebug = none := by kernel_rfl
theorem laidOut : laidOutB Tryd.prog = true := by kernel_rfl

set_option maxRecDepth 10000 in
set_option maxHeartbeats 2000000 in
theorem walk (a0 : ByteArray) (w : World) (w0 : a0.size ≤ maxLen) :
    Calls Tryd.prog 8 #[.string a0] w fun e w' => e = .returned (.bool true) ∧ Below w.heap.size w w' := by
  clear w0
  have HW := Lib.hid (fun W => aw12_any W)
  by_cases h0 : 2000 < a0.size
  · have q : (2000 : Int) < (a0.size : Int) := by omega
    clear h0
    go_enter Tryd.func8, Tryd.ntmps8
    go_upto_region 2 with (go_at_call 9; refine (HW.out _).mono ?_; rintro e v1 ⟨rfl, hb1⟩; have B1 := Lib.hid hb1; clear hb1)
    go_wp2_with (go_at_call 9; refine (HW.out _).mono ?_; rintro e v3 ⟨rfl, hb3⟩; have B3 := Lib.hid (then_ B1.out hb3 B1.out.size); clear hb3)
    go_ret
    exact ⟨rfl, B3.out⟩
  have q : ¬ (2000 : Int) < (a0.size : Int) := by omega
  have HR := Lib.hid (fun W => rread_any a0 W (by omega))
  cases hr : rd a0 with
  | none =>
    have HL := Lib.hid (fun W => left_slot a0 W (by omega))
    rw [lf_two hr] at HL
    rw [hr] at HR
    have HR2 : Hid (∀ W, Calls Tryd.prog 19 #[.string a0] W fun e w' => ∃ v, e = .returned (.tuple #[v, .bool false]) ∧ Below W.heap.size W w') := Lib.hid fun W => (HR.out W).mono fun e w' ⟨v, h1, _, h3⟩ => ⟨v, h1, h3⟩
    clear hr HR h0
    go_enter Tryd.func8, Tryd.ntmps8
    go_wp2_with (first
      | (go_at_call 9; refine (HW.out _).mono ?_; rintro e v1 ⟨rfl, hb1⟩; have B1 := Lib.hid hb1; clear hb1)
      | (go_at_call 19; refine (HR2.out _).mono ?_; rintro e v3 ⟨v, rfl, hb3⟩; have B3 := Lib.hid (then_ B1.out hb3 B1.out.size); clear hb3)
      | (go_at_call 14; refine (HL.out _).mono ?_; rintro e v8 ⟨rfl, hb8⟩; have B8 := Lib.hid (then_ B3.out hb8 B3.out.size); clear hb8))
    go_ret
    exact ⟨rfl, B8.out⟩
  | some L =>
    have HR2 : Hid (∀ W, Calls Tryd.prog 19 #[.string a0] W fun e w' => ∃ v, e = .returned (.tuple #[v, .bool true]) ∧ RT_ w' 0 v L ∧ Below W.heap.size W w') := Lib.hid fun W => (HR.out W).mono fun e w' ⟨v, h1, h2, h3⟩ => ⟨v, by rw [h1, hr]; rfl, rs_rt (h2 L hr), h3⟩
    have HLR : Hid (∀ W v, RT_ W 0 v L → Calls Tryd.prog 20 #[.string a0, v] W fun e w' => e = .returned (.bool true) ∧ Below W.heap.size W w') := Lib.hid fun W v h => leftright_any a0 v L W (by omega) hr h
    clear hr HR h0
    go_enter Tryd.func8, Tryd.ntmps8
    go_wp2_with (first
      | (go_at_call 9; refine (HW.out _).mono ?_; rintro e v1 ⟨rfl, hb1⟩; have B1 := Lib.hid hb1; clear hb1)
      | (go_at_call 19; refine (HR2.out _).mono ?_; rintro e v3 ⟨v, rfl, hi3, hb3⟩; have B3 := Lib.hid (then_ B1.out hb3 B1.out.size); have I3 := Lib.hid hi3; clear hb3 hi3)
      | (go_at_call 20; refine (HLR.out _ _ I3.out).mono ?_; rintro e v8 ⟨rfl, hb8⟩; have B8 := Lib.hid (then_ B3.out hb8 B3.out.size); clear hb8))
    go_ret
    exact ⟨rfl, B8.out⟩

def litV : DataW Unit → Value
  | .lit (.int k n) => .int k n
  | _ => .int .u8 0
def rowV : DataW Unit → Array Value
  | .agg l => (l.map litV).toArray
  | _ => #[]
/-- A WORLD FOR THE WITNESS: the door's, and the pinned table as it is pinned. -/
noncomputable def laidWorld (os : Os) : World :=
  { World.doorLaid Tryd.prog 400 os with heap := (World.doorLaid Tryd.prog 400 os).heap.modify 1 fun
      | .cells _ t frozen => .cells (rowV Go.Pinned.utf8First) t frozen
      | o => o }
theorem laid_met (os : Os) : laidMet Tryd.prog Rows.slotLeftsRow.laid ((laidWorld os).forCall (fun _ _ => 0) ⟨#[], #[.string ByteArray.empty], []⟩).memory :=
  laidMet_of_run' 8 (by kernel_rfl) (by kernel_rfl)
theorem reads (os : Os) {H : Type} (enc : TypeId × Value → H) : ∃ places, DataW.whole enc Tryd.prog ((laidWorld os).forCall (fun _ _ => 0) ⟨#[], #[.string ByteArray.empty], []⟩).memory Tryd.f8.params.toList Rows.slotLeftsSpec.vars false (#[.string ByteArray.empty] : Array Value).toList 8 = some ([.lit (.string [])], [], places) :=
  ⟨[], by kernel_rfl⟩
set_option maxRecDepth 100000 in
theorem lifted (os : Os) (started : os.Started) (H : Type) (enc : TypeId × Value → H) (F : Stop.Interp) :
    ReturnsInHanded {} Tryd.checked os 8 .any ((OpenSpec.ofChange Rows.slotLeftsSpec).preRow enc Tryd.prog Tryd.f8 Rows.slotLeftsRow.domain false Rows.slotLeftsRow.laid) (((OpenSpec.ofChange Rows.slotLeftsSpec).at F).post enc Tryd.prog Tryd.f8 false true false false) := by
  obtain ⟨places, hx⟩ := reads os enc
  refine returnsInHanded_of_row (C := Tryd.checked) (s := OpenSpec.ofChange Rows.slotLeftsSpec) own started (by kernel_rfl) Tryd.func8
    (witness_row_at (enc := enc) (C := Tryd.checked) false (laidWorld os) #[.string ByteArray.empty] rfl (by kernel_rfl) (by kernel_rfl) (by kernel_rfl)
      (OpenSpec.preRow_of_cond 8 hx (by kernel_rfl) (fun k hk => by cases hk) (by kernel_rfl) (laid_met os))) ?_
  intro W base args ds gs before hval0 hW _ _ hwt hL _ _
  have hval : ∀ (j : Nat) t v, Tryd.f8.params[j]? = some t → args[j]? = some v → Value.okWide Tryd.prog W .any base t v := hval0
  have hW' := hW
  obtain ⟨p, q, hA0, hV, rfl, hfz, hnd⟩ := hW
  have hA : DataW.TrodAll enc Tryd.prog W 0 (fun _ => true) true Tryd.f8.params.toList args.toList ds p := hA0
  rw [Tryd.params8] at hA hval
  obtain ⟨v0, vs0, d0, ds0, p0, q0, hargs, rfl, rfl, h0, r0⟩ := trodAll_cons hA
  obtain ⟨rfl, rfl, rfl⟩ := trodAll_nil r0
  obtain rfl : args = #[v0] := by cases args; simp_all
  obtain ⟨rfl, rfl⟩ := trodVars_none hV
  obtain ⟨a0, rfl, rfl, rfl, w0⟩ := open_string Tryd.underlying9 (hval 0 9 v0 rfl rfl) h0
  clear hA0 hval0
  refine (walk a0 W w0).mono fun e W' ⟨he, bel⟩ => ?_
  subst he
  exact ⟨_, rfl, _, _, _, [], _, [], hW', trodAll_mk1 (shut_bool Tryd.underlying4 _), (trodAll_cons_mk (shut_string Tryd.underlying9 w0) trodAll_mk0), rfl, bel.frame _, fun h => by cases h⟩

theorem over : Rows.SlotLeftsSaid :=
  OpenClaim.holds_of_cond 8 Tryd.f8 rfl rfl rfl rfl rfl rfl rfl ⟨rfl, rfl, rfl, rfl, rfl⟩ rfl rfl rfl rfl rfl (by kernel_rfl) Tryd.func8 (by kernel_rfl)
    (of_decide_eq_true (by kernel_rfl)) (by unfold Func.isWrapper; first | (rw [if_pos (by decide +kernel)]; kernel_rfl) | (rw [if_neg (by decide +kernel)]; exact ⟨rfl, rfl⟩))
    (fun os started H enc _ F => by rw [OpenClaim.pre_eq_preRow]; exact lifted os started H enc F)

/-- THE STATEMENT -/
theorem proved : Rows.SlotLeftsCardSaid :=
  Claim7.holds_tied_plain_at .later [] [.data, .pinned] true (true, "9eaec38af16a29111749254a14b513b99c2338bab31c6b9716e2014fd8d54f3d") false
    over (fun _ h => by cases h) (by kernel_rfl) (fun _ h => by cases h) slotLefts_row_tie rfl ⟨rfl, rfl⟩ (by kernel_rfl) rfl
    (fun f fn hf hfn => by
      obtain rfl : f = 8 := Option.some.inj ((show Tryd.prog.funcNamed "croft/croftlaw12.SlotLefts" = some 8 by kernel_rfl).symm.trans hf) |>.symm
      obtain rfl : fn = Tryd.f8 := (Option.some.inj (Tryd.func8.symm.trans hfn)).symm
      exact ⟨by kernel_rfl, fun j t ht => by
        rw [Tryd.params8] at ht
        have hm : t ∈ [9] := by simpa using Array.mem_of_getElem? ht
        have hall : ([9].all fun u => !Tryd.prog.wantsStandIn u) = true := by kernel_rfl
        exact (show Tryd.prog.wantsStandIn t = false by simpa using List.all_eq_true.1 hall t hm)⟩)
    (by kernel_rfl)
#print axioms proved
end Go.Proofs.YteepggjbgdjchaaDoor.slotLefts
