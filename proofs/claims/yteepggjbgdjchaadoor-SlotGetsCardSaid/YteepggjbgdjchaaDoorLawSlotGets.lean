/- For every string and every integer: where the string has at most 2000 bytes, Get answers the record that the document's reading of the room has in that slot, ErrForm if the room isn't right, ErrNone if there is no such record; the document's example of layer 12 holds: SlotGets answers true.
Conditions: none; every input that can be read is spoken of. -/
import Derived.Test.YteepggjbgdjchaaDoorRows
import Derived.Test.YteepggjbgdjchaaDoorBase
import Derived.Test.YteepggjbgdjchaaDoorSlrC
import Derived.Test.YteepggjbgdjchaaDoorSloL
import Derived.WalkKit
import Derived.ProofKit
import Derived.OpenShut
import Derived.ShutString
import Derived.ChangeOld
import Derived.Below
import Derived.SliceStrings
import Derived.Deep.DeepHandedRow
import Derived.Lib.LaidTab
import Derived.Test.YteepggjbgdjchaaDoorCards
import Derived.Test.YteepggjbgdjchaaDoorTie
import Derived.LaidMore
import Derived.Stop.Joined
import Derived.SevenTiedAt
namespace Go.Proofs.YteepggjbgdjchaaDoor.slotGets
open Go.ChangeShapes Go.WideShapes Go.ChangeAt Go.RowKit
open Go.ChangeMaps (open_string shut_string)
set_option linter.unusedVariables false

theorem hs_two {s : ByteArray} (h : rd s = none) (i : Int) : hs s i = 2 := by unfold hs; rw [h]
theorem gt_two {s : ByteArray} (h : rd s = none) (i : Int) : gt s i = ⟨#[]⟩ := gt_no (by rw [hs_two h i]; decide)
theorem hs_six {s : ByteArray} {L : List Sl} (h : rd s = some L) {i : Int} (hn : hd L i = false) : hs s i = 6 := by rw [hs_some h, hn]; rfl
theorem sl_ok {s : ByteArray} {L : List Sl} (h : rd s = some L) : ∀ x ∈ L, okS x = true := (rd_sound s L h).1.ok

theorem own : ownKnob Tryd.prog.godebug = none := by kernel_rfl
theorem laidOut : laidOutB Tryd.prog = true := by kernel_rfl

set_option maxRecDepth 10000 in
set_option maxHeartbeats 2000000 in
theorem walk (a0 : ByteArray) (a1 : Int) (w : World) (w0 : a0.size ≤ maxLen) (w1 : (Lit.int .i64 a1).wf = true) :
    Calls Tryd.prog 7 #[.string a0, .int .i64 a1] w fun e w' => e = .returned (.bool true) ∧ Below w.heap.size w w' := by
  have hi := wf_i64 w1
  clear w0 w1
  have HW := Lib.hid (fun W => aw12_any W)
  by_cases h0 : 2000 < a0.size
  · have q : (2000 : Int) < (a0.size : Int) := by omega
    clear h0
    go_enter Tryd.func7, Tryd.ntmps7
    go_upto_region 2 with (go_at_call 9; refine (HW.out _).mono ?_; rintro e v1 ⟨rfl, hb1⟩; have B1 := Lib.hid hb1; clear hb1)
    go_wp2_with (go_at_call 9; refine (HW.out _).mono ?_; rintro e v3 ⟨rfl, hb3⟩; have B3 := Lib.hid (then_ B1.out hb3 B1.out.size); clear hb3)
    go_ret
    exact ⟨rfl, B3.out⟩
  have q : ¬ (2000 : Int) < (a0.size : Int) := by omega
  have HG := Lib.hid (fun W => get_slot a0 a1 W (by omega) hi.1 hi.2)
  have HR := Lib.hid (fun W => rread_any a0 W (by omega))
  cases hr : rd a0 with
  | none =>
    rw [hr] at HR
    rw [hs_two hr, gt_two hr] at HG
    have HR2 : Hid (∀ W, Calls Tryd.prog 19 #[.string a0] W fun e w' => ∃ v, e = .returned (.tuple #[v, .bool false]) ∧ Below W.heap.size W w') := Lib.hid fun W => (HR.out W).mono fun e w' ⟨v, h1, _, h3⟩ => ⟨v, h1, h3⟩
    clear hr HR h0
    go_enter Tryd.func7, Tryd.ntmps7
    go_wp2_with (first
      | (go_at_call 9; refine (HW.out _).mono ?_; rintro e v1 ⟨rfl, hb1⟩; have B1 := Lib.hid hb1; clear hb1)
      | (go_at_call 15; refine (HG.out _).mono ?_; rintro e v2 ⟨rfl, hb2⟩; have B2 := Lib.hid (then_ B1.out hb2 B1.out.size); clear hb2)
      | (go_at_call 19; refine (HR2.out _).mono ?_; rintro e v3 ⟨v, rfl, hb3⟩; have B3 := Lib.hid (then_ B2.out hb3 B2.out.size); clear hb3))
    go_ret
    exact ⟨rfl, B3.out⟩
  | some L =>
    rw [hr] at HR
    have hrz := (rd_len hr).2.1
    have hlz := (rd_len hr).1
    have hok := sl_ok hr
    have HR2 : Hid (∀ W, Calls Tryd.prog 19 #[.string a0] W fun e w' => ∃ a cap, e = .returned (.tuple #[.slice a L.length cap, .bool true]) ∧ SlIn w' (.slice a L.length cap) L ∧ Below W.heap.size W w') := Lib.hid fun W => (HR.out W).mono fun e w' ⟨v, h1, h2, h3⟩ => by
      have h4 := (h2 L rfl).in_ (fun x hx => by have := hrz x hx; unfold maxLen; omega)
      obtain ⟨a, cap, rfl, _⟩ := h4.open_
      exact ⟨a, cap, h1, h4, h3⟩
    have hrr := Lib.hid hr
    obtain ⟨n, hn⟩ : ∃ n, n = L.length := ⟨_, rfl⟩
    rw [← hn] at HR2 hlz
    have hn' := Lib.hid hn
    clear hr HR h0 hn
    by_cases hneg : a1 < 0
    · have hno : hd L a1 = false := hd_no (fun k hk e => by omega)
      have e6 := hs_six hrr.out hno
      rw [e6, gt_no (by rw [e6]; decide)] at HG
      clear hno e6
      go_enter Tryd.func7, Tryd.ntmps7
      go_wp2_with (first
        | (go_at_call 9; refine (HW.out _).mono ?_; rintro e v1 ⟨rfl, hb1⟩; have B1 := Lib.hid hb1; clear hb1)
        | (go_at_call 15; refine (HG.out _).mono ?_; rintro e v2 ⟨rfl, hb2⟩; have B2 := Lib.hid (then_ B1.out hb2 B1.out.size); clear hb2)
        | (go_at_call 19; refine (HR2.out _).mono ?_; rintro e v3 ⟨ra, rc, rfl, hin, hb3⟩; have B3 := Lib.hid (then_ B2.out hb3 B2.out.size); clear hb3))
      all_goals (go_ret; exact ⟨rfl, B3.out⟩)
    · by_cases hbig : (n : Int) ≤ a1
      · have hno : hd L a1 = false := hd_no (fun k hk e => by have := hn'.out; omega)
        have e6 := hs_six hrr.out hno
        rw [e6, gt_no (by rw [e6]; decide)] at HG
        clear hno e6
        go_enter Tryd.func7, Tryd.ntmps7
        go_wp2_with (first
          | (go_at_call 9; refine (HW.out _).mono ?_; rintro e v1 ⟨rfl, hb1⟩; have B1 := Lib.hid hb1; clear hb1)
          | (go_at_call 15; refine (HG.out _).mono ?_; rintro e v2 ⟨rfl, hb2⟩; have B2 := Lib.hid (then_ B1.out hb2 B1.out.size); clear hb2)
          | (go_at_call 19; refine (HR2.out _).mono ?_; rintro e v3 ⟨ra, rc, rfl, hin, hb3⟩; have B3 := Lib.hid (then_ B2.out hb3 B2.out.size); clear hb3))
        all_goals (go_ret; exact ⟨rfl, B3.out⟩)
      · obtain ⟨k, rfl⟩ : ∃ k : Nat, a1 = (k : Int) := ⟨a1.toNat, by omega⟩
        have hkl : k < L.length := by have := hn'.out; omega
        have hkn : (k : Int) < (n : Int) := by omega
        have okx := hok _ (List.getElem_mem hkl)
        have AT : Hid (∀ W a cap, SlIn W (.slice a n cap) L → ∃ b o, a = some ⟨b, o, none⟩ ∧ b < W.heap.size ∧ W.cell? ⟨b, o + k * 2, none⟩ = some (.bool (L[k]'hkl).1) ∧ W.cell? ⟨b, o + k * 2 + 1, none⟩ = some (.string (L[k]'hkl).2) ∧ n ≤ cap) := Lib.hid fun W a cap h => by
          obtain ⟨a', cap', hv, h1, _, _, hc⟩ := h.open_
          injection hv with e1 e2 e3
          subst e1 e3
          obtain ⟨b, o, c1, c2, c3, c4, _⟩ := hc k hkl
          exact ⟨b, o, c1, c2, c3, c4, by omega⟩
        have HGY : Hid (isE (L[k]'hkl) = false → hs a0 (k : Int) = 0 ∧ gt a0 (k : Int) = (L[k]'hkl).2) := Lib.hid fun h => by
          have e0 : hs a0 (k : Int) = 0 := by rw [hs_some hrr.out, hd_yes hkl h]; rfl
          exact ⟨e0, gt_yes hkl hrr.out e0⟩
        have HGN : Hid (isE (L[k]'hkl) = true → hs a0 (k : Int) = 6 ∧ gt a0 (k : Int) = ⟨#[]⟩) := Lib.hid fun h => by
          have hno : hd L (k : Int) = false := hd_no (fun j hj e => by
            obtain rfl : k = j := by omega
            exact h)
          have e6 := hs_six hrr.out hno
          exact ⟨e6, gt_no (by rw [e6]; decide)⟩
        obtain ⟨x, hx⟩ : ∃ x, x = L[k]'hkl := ⟨_, rfl⟩
        rw [← hx] at okx AT HGY HGN
        obtain ⟨u, r⟩ := x
        clear hx
        cases u with
        | false =>
          obtain ⟨e1, e2⟩ := HGN.out (by have := okS_no _ okx rfl; rw [this]; rfl)
          rw [e1, e2] at HG
          clear e1 e2 HGN HGY okx
          go_enter Tryd.func7, Tryd.ntmps7
          go_wp2_with (first
            | (go_at_call 9; refine (HW.out _).mono ?_; rintro e v1 ⟨rfl, hb1⟩; have B1 := Lib.hid hb1; clear hb1)
            | (go_at_call 15; refine (HG.out _).mono ?_; rintro e v2 ⟨rfl, hb2⟩; have B2 := Lib.hid (then_ B1.out hb2 B1.out.size); clear hb2)
            | (go_at_call 19; refine (HR2.out _).mono ?_; rintro e v3 ⟨ra, rc, rfl, hin, hb3⟩; have B3 := Lib.hid (then_ B2.out hb3 B2.out.size); obtain ⟨sb, so, rfl, c0, c1, c2, c3⟩ := AT.out _ _ _ hin; clear hb3 hin))
          all_goals (go_ret; exact ⟨rfl, B3.out⟩)
        | true =>
          obtain ⟨e1, e2⟩ := HGY.out rfl
          rw [e1, e2] at HG
          simp only at HG AT
          clear e1 e2 HGN HGY okx
          go_enter Tryd.func7, Tryd.ntmps7
          go_wp2_with (first
            | (go_at_call 9; refine (HW.out _).mono ?_; rintro e v1 ⟨rfl, hb1⟩; have B1 := Lib.hid hb1; clear hb1)
            | (go_at_call 15; refine (HG.out _).mono ?_; rintro e v2 ⟨rfl, hb2⟩; have B2 := Lib.hid (then_ B1.out hb2 B1.out.size); clear hb2)
            | (go_at_call 19; refine (HR2.out _).mono ?_; rintro e v3 ⟨ra, rc, rfl, hin, hb3⟩; have B3 := Lib.hid (then_ B2.out hb3 B2.out.size); obtain ⟨sb, so, rfl, c0, c1, c2, c3⟩ := AT.out _ _ _ hin; clear hb3 hin))
          all_goals (go_ret; exact ⟨rfl, B3.out⟩)

def litV : DataW Unit → Value
  | .lit (.int k n) => .int k n
  | _ => .int .u8 0
def rowV : DataW Unit → Array Value
  | .agg l => (l.map litV).toArray
  | _ => #[]
/-- A WORLD FOR THE WITNESS: the door's, and the pinned table as it is pinned. -/
noncomputable def laidWorld (os : Os) : World :=
  { World.doorLaid Tryd.prog 400 os with heap := (World.doorLaid Tryd.prog 400 os).heap.modify 1 fun
      | .cells _ t frozen => .cells (rowV Go.Pinned.utf8First) t frozen
      | o => o }
theorem laid_met (os : Os) : laidMet Tryd.prog Rows.slotGetsRow.laid ((laidWorld os).forCall (fun _ _ => 0) ⟨#[], #[.string ByteArray.empty, .int .i64 0], []⟩).memory :=
  laidMet_of_run' 8 (by kernel_rfl) (by kernel_rfl)
theorem reads (os : Os) {H : Type} (enc : TypeId × Value → H) : ∃ places, DataW.whole enc Tryd.prog ((laidWorld os).forCall (fun _ _ => 0) ⟨#[], #[.string ByteArray.empty, .int .i64 0], []⟩).memory Tryd.f7.params.toList Rows.slotGetsSpec.vars false (#[.string ByteArray.empty, .int .i64 0] : Array Value).toList 8 = some ([.lit (.string []), .lit (.int .i64 0)], [], places) :=
  ⟨[], by kernel_rfl⟩
set_option maxRecDepth 100000 in
theorem lifted (os : Os) (started : os.Started) (H : Type) (enc : TypeId × Value → H) (F : Stop.Interp) :
    ReturnsInHanded {} Tryd.checked os 7 .any ((OpenSpec.ofChange Rows.slotGetsSpec).preRow enc Tryd.prog Tryd.f7 Rows.slotGetsRow.domain false Rows.slotGetsRow.laid) (((OpenSpec.ofChange Rows.slotGetsSpec).at F).post enc Tryd.prog Tryd.f7 false true false false) := by
  obtain ⟨places, hx⟩ := reads os enc
  refine returnsInHanded_of_row (C := Tryd.checked) (s := OpenSpec.ofChange Rows.slotGetsSpec) own started (by kernel_rfl) Tryd.func7
    (witness_row_at (enc := enc) (C := Tryd.checked) false (laidWorld os) #[.string ByteArray.empty, .int .i64 0] rfl (by kernel_rfl) (by kernel_rfl) (by kernel_rfl)
      (OpenSpec.preRow_of_cond 8 hx (by kernel_rfl) (fun k hk => by cases hk) (by kernel_rfl) (laid_met os))) ?_
  intro W base args ds gs before hval0 hW _ _ hwt hL _ _
  have hval : ∀ (j : Nat) t v, Tryd.f7.params[j]? = some t → args[j]? = some v → Value.okWide Tryd.prog W .any base t v := hval0
  have hW' := hW
  obtain ⟨p, q, hA0, hV, rfl, hfz, hnd⟩ := hW
  have hA : DataW.TrodAll enc Tryd.prog W 0 (fun _ => true) true Tryd.f7.params.toList args.toList ds p := hA0
  rw [Tryd.params7] at hA hval
  obtain ⟨v0, vs0, d0, ds0, p0, q0, hargs, rfl, rfl, h0, r0⟩ := trodAll_cons hA
  obtain ⟨v1, vs1, d1, ds1, p1, q1, rfl, rfl, rfl, h1, r1⟩ := trodAll_cons r0
  obtain ⟨rfl, rfl, rfl⟩ := trodAll_nil r1
  obtain rfl : args = #[v0, v1] := by cases args; simp_all
  obtain ⟨rfl, rfl⟩ := trodVars_none hV
  obtain ⟨a0, rfl, rfl, rfl, w0⟩ := open_string Tryd.underlying9 (hval 0 9 v0 rfl rfl) h0
  obtain ⟨a1, rfl, rfl, rfl, w1⟩ := open_int Tryd.underlying3 (hval 1 3 v1 rfl rfl) h1
  clear hA0 hval0
  refine (walk a0 a1 W w0 w1).mono fun e W' ⟨he, bel⟩ => ?_
  subst he
  exact ⟨_, rfl, _, _, _, [], _, [], hW', trodAll_mk1 (shut_bool Tryd.underlying4 _), (trodAll_cons_mk (shut_string Tryd.underlying9 w0) (trodAll_cons_mk (shut_int Tryd.underlying3 w1) trodAll_mk0)), rfl, bel.frame _, fun h => by cases h⟩

theorem over : Rows.SlotGetsSaid :=
  OpenClaim.holds_of_cond 7 Tryd.f7 rfl rfl rfl rfl rfl rfl rfl ⟨rfl, rfl, rfl, rfl, rfl⟩ rfl rfl rfl rfl rfl (by kernel_rfl) Tryd.func7 (by kernel_rfl)
    (of_decide_eq_true (by kernel_rfl)) (by unfold Func.isWrapper; first | (rw [if_pos (by decide +kernel)]; kernel_rfl) | (rw [if_neg (by decide +kernel)]; exact ⟨rfl, rfl⟩))
    (fun os started H enc _ F => by rw [OpenClaim.pre_eq_preRow]; exact lifted os started H enc F)

/-- THE STATEMENT -/
theorem proved : Rows.SlotGetsCardSaid :=
  Claim7.holds_tied_plain_at .later [] [.data, .pinned] true (true, "9eaec38af16a29111749254a14b513b99c2338bab31c6b9716e2014fd8d54f3d") false
    over (fun _ h => by cases h) (by kernel_rfl) (fun _ h => by cases h) slotGets_row_tie rfl ⟨rfl, rfl⟩ (by kernel_rfl) rfl
    (fun f fn hf hfn => by
      obtain rfl : f = 7 := Option.some.inj ((show Tryd.prog.funcNamed "croft/croftlaw12.SlotGets" = some 7 by kernel_rfl).symm.trans hf) |>.symm
      obtain rfl : fn = Tryd.f7 := (Option.some.inj (Tryd.func7.symm.trans hfn)).symm
      exact ⟨by kernel_rfl, fun j t ht => by
        rw [Tryd.params7] at ht
        have hm : t ∈ [9, 3] := by simpa using Array.mem_of_getElem? ht
        have hall : ([9, 3].all fun u => !Tryd.prog.wantsStandIn u) = true := by kernel_rfl
        exact (show Tryd.prog.wantsStandIn t = false by simpa using List.all_eq_true.1 hall t hm)⟩)
    (by kernel_rfl)
#print axioms proved
end Go.Proofs.YteepggjbgdjchaaDoor.slotGets
