/- For every list of acts, every string and every further list of acts: where the lists have at most 300 acts with strings of at most 1000 bytes each, and the string has at most 1000 bytes, a record that Add puts into a room is got by its slot behind every further act that doesn't set or delete that slot, and a record that is refused is longer than Left; the document's example of layer 12 holds: SlotKeeps answers true.
Conditions: none; every input that can be read is spoken of. -/
import Derived.Test.YteepggjbgdjchaaDoorRows
import Derived.Test.YteepggjbgdjchaaDoorBase
import Derived.Test.YteepggjbgdjchaaDoorSloK
import Derived.WalkKit
import Derived.ProofKit
import Derived.OpenShut
import Derived.ShutString
import Derived.ChangeOld
import Derived.Below
import Derived.SliceStrings
import Derived.Deep.DeepHandedRow
import Derived.Lib.LaidTab
import Derived.Test.YteepggjbgdjchaaDoorCards
import Derived.Test.YteepggjbgdjchaaDoorTie
import Derived.LaidMore
import Derived.Stop.Joined
import Derived.SevenTiedAt
namespace Go.Proofs.YteepggjbgdjchaaDoor.slotKeeps
open Go.ChangeShapes Go.WideShapes Go.ChangeAt Go.RowKit
open Go.ChangeMaps (open_string shut_string)
set_option linter.unusedVariables false

theorem i64_of_len {n : Nat} (h : n ≤ 300) : (n : Int) ≤ 9223372036854775807 := by omega

theorem own : ownKnob Tryd.prog.godebug = none := by kernel_rfl
theorem laidOut : laidOutB Tryd.prog = true := by kernel_rfl

set_option maxRecDepth 10000 in
set_option maxHeartbeats 2000000 in
theorem walk (a0 : Option Addr) (len0 cap0 : Nat) (z0 : List ActD) (a1 : ByteArray) (a2 : Option Addr) (len2 cap2 : Nat) (z2 : List ActD) (w : World) (w0 : IsActs w a0 len0 cap0 z0) (w1 : a1.size ≤ maxLen) (w2 : IsActs w a2 len2 cap2 z2) :
    Calls Tryd.prog 3 #[.slice a0 len0 cap0, .string a1, .slice a2 len2 cap2] w fun e w' => e = .returned (.bool true) ∧ Below w.heap.size w w' := by
  have HW := Lib.hid (fun W => aw12_any W)
  have HF0 := Lib.hid (fun W (hb : Below w.heap.size w W) => few_any a0 len0 cap0 z0 W (w0.keep hb))
  have HF2 := Lib.hid (fun W (hb : Below w.heap.size w W) => few_any a2 len2 cap2 z2 W (w2.keep hb))
  have FI0 := Lib.hid (fun h => fewB_iff (l := z0) h)
  have FI2 := Lib.hid (fun h => fewB_iff (l := z2) h)
  obtain ⟨F0, hF0⟩ : ∃ F, F = fewB z0 := ⟨_, rfl⟩
  obtain ⟨F2, hF2⟩ : ∃ F, F = fewB z2 := ⟨_, rfl⟩
  rw [← hF0] at HF0 FI0
  rw [← hF2] at HF2 FI2
  have AT0 := Lib.hid (fun i hi => w0.at_ i hi)
  have AT2 := Lib.hid (fun i hi => w2.at_ i hi)
  have hl0 := Lib.hid w0.2.2.1
  have hl2 := Lib.hid w2.2.2.1
  have hw1 := w1
  unfold maxLen at hw1
  clear hF0 hF2 w0 w2 w1
  cases F0 with
  | false =>
    go_enter Tryd.func3, Tryd.ntmps3
    go_upto_region 2 with (first
      | (go_at_call 9; refine (HW.out _).mono ?_; rintro e v1 ⟨rfl, hb1⟩; have B1 := Lib.hid hb1; clear hb1)
      | (go_at_call 10; with_reducible refine (HF0.out _ B1.out).mono ?_; rintro e v2 ⟨rfl, hb2⟩; have B2 := Lib.hid (then_ B1.out hb2 B1.out.size); clear hb2))
    go_wp2_with (go_at_call 9; refine (HW.out _).mono ?_; rintro e v3 ⟨rfl, hb3⟩; have B3 := Lib.hid (then_ B2.out hb3 B2.out.size); clear hb3)
    go_ret
    exact ⟨rfl, B3.out⟩
  | true =>
  cases F2 with
  | false =>
    go_enter Tryd.func3, Tryd.ntmps3
    go_upto_region 2 with (first
      | (go_at_call 9; refine (HW.out _).mono ?_; rintro e v1 ⟨rfl, hb1⟩; have B1 := Lib.hid hb1; clear hb1)
      | (go_at_call 10; with_reducible refine (HF0.out _ B1.out).mono ?_; rintro e v2 ⟨rfl, hb2⟩; have B2 := Lib.hid (then_ B1.out hb2 B1.out.size); clear hb2)
      | (go_at_call 10; with_reducible refine (HF2.out _ B2.out).mono ?_; rintro e v2 ⟨rfl, hb2⟩; have B3 := Lib.hid (then_ B2.out hb2 B2.out.size); clear hb2))
    go_wp2_with (go_at_call 9; refine (HW.out _).mono ?_; rintro e v3 ⟨rfl, hb3⟩; have B4 := Lib.hid (then_ B3.out hb3 B3.out.size); clear hb3)
    go_ret
    exact ⟨rfl, B4.out⟩
  | true =>
  by_cases h1 : 1000 < a1.size
  · have q : (1000 : Int) < (a1.size : Int) := by omega
    clear h1
    go_enter Tryd.func3, Tryd.ntmps3
    go_upto_region 2 with (first
      | (go_at_call 9; refine (HW.out _).mono ?_; rintro e v1 ⟨rfl, hb1⟩; have B1 := Lib.hid hb1; clear hb1)
      | (go_at_call 10; with_reducible refine (HF0.out _ B1.out).mono ?_; rintro e v2 ⟨rfl, hb2⟩; have B2 := Lib.hid (then_ B1.out hb2 B1.out.size); clear hb2)
      | (go_at_call 10; with_reducible refine (HF2.out _ B2.out).mono ?_; rintro e v2 ⟨rfl, hb2⟩; have B3 := Lib.hid (then_ B2.out hb2 B2.out.size); clear hb2))
    go_wp2_with (go_at_call 9; refine (HW.out _).mono ?_; rintro e v3 ⟨rfl, hb3⟩; have B4 := Lib.hid (then_ B3.out hb3 B3.out.size); clear hb3)
    go_ret
    exact ⟨rfl, B4.out⟩
  have q : ¬ (1000 : Int) < (a1.size : Int) := by omega
  have fi0 := FI0.out rfl
  have fi2 := FI2.out rfl
  have hn0 : len0 ≤ 300 := by have := fi0.1; have := hl0.out; omega
  have hn2 : len2 ≤ 300 := by have := fi2.1; have := hl2.out; omega
  replace fi0 := Lib.hid fi0.2
  replace fi2 := Lib.hid fi2.2
  have HE := Lib.hid (fun W => empty_slot W)
  have RM0 : Hid (∃ L, rmB [] = rmB L ∧ Fit L) := Lib.hid ⟨[], rfl, room0⟩
  obtain ⟨R0, hR0⟩ : ∃ R, R = rmB [] := ⟨_, rfl⟩
  rw [← hR0] at HE RM0
  clear hR0 FI0 FI2
  go_enter Tryd.func3, Tryd.ntmps3
  go_upto_region 5 with (first
    | (go_at_call 9; refine (HW.out _).mono ?_; rintro e v1 ⟨rfl, hb1⟩; have B1 := Lib.hid hb1; clear hb1)
    | (go_at_call 10; with_reducible refine (HF0.out _ B1.out).mono ?_; rintro e v2 ⟨rfl, hb2⟩; have B2 := Lib.hid (then_ B1.out hb2 B1.out.size); clear hb2)
    | (go_at_call 10; with_reducible refine (HF2.out _ B2.out).mono ?_; rintro e v2 ⟨rfl, hb2⟩; have B3 := Lib.hid (then_ B2.out hb2 B2.out.size); clear hb2)
    | (go_at_call 11; refine (HE.out _).mono ?_; rintro e v4 ⟨rfl, hb4⟩; have B4 := Lib.hid (then_ B3.out hb4 B3.out.size); clear hb4))
  clear B1 B2 B3 HW HF0 HF2 HE
  go_loopw [7, 8] (fun r i wr => ∃ (k : Nat) (R : ByteArray), k ≤ len0 ∧ i = .int .i64 (k : Int) ∧ r = .string R ∧ Hid (∃ L, R = rmB L ∧ Fit L) ∧ Hid (Below w.heap.size w wr)) (fun r i wr => len0 - (intOf i).toNat)
  case atStart => exact ⟨0, R0, by omega, rfl, rfl, RM0, B4⟩
  case round =>
    clear B4 RM0
    obtain ⟨k, R, hk, rfl, rfl, hR, hB⟩ := hrel
    by_cases hlt : k < len0
    · have hkl : k < z0.length := by have := hl0.out; omega
      obtain ⟨b, o, rfl, hbb, c1, c2, c3, ok⟩ := AT0.out k hkl
      replace c1 := keep hB.out c1
      replace c2 := keep hB.out c2
      replace c3 := keep hB.out c3
      have xs := fi0.out _ (List.getElem_mem hkl)
      obtain ⟨x, hx⟩ : ∃ x, x = z0[k]'hkl := ⟨_, rfl⟩
      rw [← hx] at c1 c2 c3 ok xs
      clear hx
      have HD : Hid (∀ W, Calls Tryd.prog 12 #[.string R, .agg #[.int .u8 x.act, .int .i64 x.no, .string x.s]] W fun e w' => ∃ R', e = .returned (.string R') ∧ (∃ L, R' = rmB L ∧ Fit L) ∧ Below W.heap.size W w') := Lib.hid fun W => by
        obtain ⟨L, rfl, hL⟩ := hR.out
        refine (done_law hL x ok xs W).mono ?_
        rintro e w' ⟨L', h1, h2, h3⟩
        exact ⟨_, h1, ⟨L', rfl, h2.1⟩, h3⟩
      clear ok xs
      go_wp2_with (go_at_call 12; refine (HD.out _).mono ?_; rintro e v5 ⟨R5, rfl, hR5, hb5⟩; have RR5 := Lib.hid hR5; have B5 := Lib.hid (then_ hB.out hb5 hB.out.size); clear hb5 hR5)
      go_roundw
      case rel => exact ⟨k + 1, R5, by omega, by go_num, rfl, RR5, B5⟩
      case measure => simp [intOf]; omega
    · obtain rfl : k = len0 := by omega
      clear AT0 fi0
      obtain ⟨L, hRL, hL⟩ := hR.out
      have zR := rmB_size L hL.sz
      rw [← hRL] at zR
      have HA := Lib.hid (fun W => add_slot R a1 W (by omega) (by omega))
      have HL := Lib.hid (fun W => left_slot R W (by omega))
      have ea := ad_rm hL a1
      have el := lf_rm hL
      rw [← hRL] at ea el
      rw [el] at HL
      rw [ea] at HA
      by_cases h9 : 496 < sz (vl L) + a1.size
      · rw [if_pos h9] at HA
        simp only at HA
        obtain ⟨Z, hZ⟩ : ∃ Z : Int, Z = max (496 - (sz (vl L) : Int)) (-1) := ⟨_, rfl⟩
        rw [← hZ] at HL
        have qz : Z < (a1.size : Int) := by omega
        clear ea el hZ hRL hL h9 zR
        go_wp2_with (first
          | (go_at_call 13; refine (HA.out _).mono ?_; rintro e v5 ⟨rfl, hb5⟩; have B5 := Lib.hid (then_ hB.out hb5 hB.out.size); clear hb5)
          | (go_at_call 14; refine (HL.out _).mono ?_; rintro e v6 ⟨rfl, hb6⟩; have B6 := Lib.hid (then_ B5.out hb6 B5.out.size); clear hb6))
        go_ret
        exact ⟨rfl, B6.out⟩
      · rw [if_neg h9] at HA
        simp only at HA
        have hT : Hid (∃ L', rmB (adL L a1) = rmB L' ∧ Fit L' ∧ L'[vk L]? = some (true, a1)) := Lib.hid ⟨_, rfl, adL_fit hL a1 h9, adL_new L a1⟩
        have hatl : vk L ≤ 300 := by
          have := vk_le L
          have h5 := hL.sz
          have h6 : sz L = 2 + 2 * L.length + (recs L).length := rfl
          omega
        obtain ⟨T, hTe⟩ : ∃ T, T = rmB (adL L a1) := ⟨_, rfl⟩
        rw [← hTe] at HA hT
        obtain ⟨at_, hat⟩ : ∃ at_, at_ = vk L := ⟨_, rfl⟩
        rw [← hat] at HA hT hatl
        clear ea el hRL hL h9 zR hTe hat HL
        go_upto_region 13 with (go_at_call 13; refine (HA.out _).mono ?_; rintro e v5 ⟨rfl, hb5⟩; have B5 := Lib.hid (then_ hB.out hb5 hB.out.size); clear hb5)
        go_loopw [7, 12] (fun r i wr => ∃ (k : Nat) (R : ByteArray), k ≤ len2 ∧ i = .int .i64 (k : Int) ∧ r = .string R ∧ Hid (∃ L', R = rmB L' ∧ Fit L' ∧ L'[at_]? = some (true, a1)) ∧ Hid (Below w.heap.size w wr)) (fun r i wr => len2 - (intOf i).toNat)
        case atStart => exact ⟨0, T, by omega, rfl, rfl, hT, B5⟩
        case round =>
          clear B5 hB hT hR
          obtain ⟨k2, R2, hk2, rfl, rfl, hR2, hB⟩ := hrel
          by_cases hlt2 : k2 < len2
          · have hkl : k2 < z2.length := by have := hl2.out; omega
            obtain ⟨b, o, rfl, hbb, c1, c2, c3, ok⟩ := AT2.out k2 hkl
            replace c1 := keep hB.out c1
            replace c2 := keep hB.out c2
            replace c3 := keep hB.out c3
            have xs := fi2.out _ (List.getElem_mem hkl)
            obtain ⟨x, hx⟩ : ∃ x, x = z2[k2]'hkl := ⟨_, rfl⟩
            rw [← hx] at c1 c2 c3 ok xs
            have hact := wf_u8 ok.act
            have HD : Hid (∀ W, (x.act % 4 = 0 ∨ x.no ≠ (at_ : Int)) → Calls Tryd.prog 12 #[.string R2, .agg #[.int .u8 x.act, .int .i64 x.no, .string x.s]] W fun e w' => ∃ R', e = .returned (.string R') ∧ (∃ L', R' = rmB L' ∧ Fit L' ∧ L'[at_]? = some (true, a1)) ∧ Below W.heap.size W w') := Lib.hid fun W hc => by
              obtain ⟨L2, rfl, hL2, hat2⟩ := hR2.out
              refine (done_law hL2 x ok xs W).mono ?_
              rintro e w' ⟨L', h1, h2, h3⟩
              exact ⟨_, h1, ⟨L', rfl, h2.1, h2.2 _ _ hat2 hc⟩, h3⟩
            have HG : Hid (∀ W (R' : ByteArray), (∃ L', R' = rmB L' ∧ Fit L' ∧ L'[at_]? = some (true, a1)) → Calls Tryd.prog 15 #[.string R', .int .i64 (at_ : Int)] W fun e w' => e = .returned (.tuple #[.string a1, .int .i64 0]) ∧ Below W.heap.size W w') := Lib.hid fun W R' hR' => by
              obtain ⟨L2, rfl, hL2, hat2⟩ := hR'
              obtain ⟨g1, g2⟩ := gt_rm hL2 hat2
              have z2 := rmB_size L2 hL2.sz
              have := get_slot (rmB L2) (at_ : Int) W (by omega) (by omega) (by omega)
              rw [g1, g2] at this
              exact this
            obtain ⟨act, no, s⟩ := x
            simp only at c1 c2 c3 HD hact
            clear ok xs hx
            by_cases hm : act % 4 = 0
            · have HD' := Lib.hid (fun W => HD.out W (.inl hm))
              clear HD
              go_wp2_with (first
                | (go_at_call 12; refine (HD'.out _).mono ?_; rintro e v6 ⟨R6, rfl, hR6, hb6⟩; have RR6 := Lib.hid hR6; have B6 := Lib.hid (then_ hB.out hb6 hB.out.size); clear hb6 hR6)
                | (go_at_call 15; refine (HG.out _ _ RR6.out).mono ?_; rintro e v7 ⟨rfl, hb7⟩; have B7 := Lib.hid (then_ B6.out hb7 B6.out.size); clear hb7))
              go_roundw
              case rel => exact ⟨k2 + 1, R6, by omega, by go_num, rfl, RR6, B7⟩
              case measure => simp [intOf]; omega
            · by_cases hn : no = (at_ : Int)
              · subst hn
                go_wp2
                go_roundw
                case rel => exact ⟨k2 + 1, R2, by omega, by go_num, rfl, hR2, hB⟩
                case measure => simp [intOf]; omega
              · have HD' := Lib.hid (fun W => HD.out W (.inr hn))
                have qn : (no == (at_ : Int)) = false := by simpa using hn
                have qm : (act % 4 != 0) = true := by simpa using hm
                clear HD
                go_wp2_with (first
                  | (go_at_call 12; refine (HD'.out _).mono ?_; rintro e v6 ⟨R6, rfl, hR6, hb6⟩; have RR6 := Lib.hid hR6; have B6 := Lib.hid (then_ hB.out hb6 hB.out.size); clear hb6 hR6)
                  | (go_at_call 15; refine (HG.out _ _ RR6.out).mono ?_; rintro e v7 ⟨rfl, hb7⟩; have B7 := Lib.hid (then_ B6.out hb7 B6.out.size); clear hb7))
                go_roundw
                case rel => exact ⟨k2 + 1, R6, by omega, by go_num, rfl, RR6, B7⟩
                case measure => simp [intOf]; omega
          · obtain rfl : k2 = len2 := by omega
            go_wp2
            go_ret
            exact ⟨rfl, hB.out⟩

def litV : DataW Unit → Value
  | .lit (.int k n) => .int k n
  | _ => .int .u8 0
def rowV : DataW Unit → Array Value
  | .agg l => (l.map litV).toArray
  | _ => #[]
/-- A WORLD FOR THE WITNESS: the door's, and the pinned table as it is pinned. -/
noncomputable def laidWorld (os : Os) : World :=
  { World.doorLaid Tryd.prog 400 os with heap := (World.doorLaid Tryd.prog 400 os).heap.modify 1 fun
      | .cells _ t frozen => .cells (rowV Go.Pinned.utf8First) t frozen
      | o => o }
theorem laid_met (os : Os) : laidMet Tryd.prog Rows.slotKeepsRow.laid ((laidWorld os).forCall (fun _ _ => 0) ⟨#[], #[.slice none 0 0, .string ByteArray.empty, .slice none 0 0], []⟩).memory :=
  laidMet_of_run' 8 (by kernel_rfl) (by kernel_rfl)
theorem reads (os : Os) {H : Type} (enc : TypeId × Value → H) : ∃ places, DataW.whole enc Tryd.prog ((laidWorld os).forCall (fun _ _ => 0) ⟨#[], #[.slice none 0 0, .string ByteArray.empty, .slice none 0 0], []⟩).memory Tryd.f3.params.toList Rows.slotKeepsSpec.vars false (#[.slice none 0 0, .string ByteArray.empty, .slice none 0 0] : Array Value).toList 8 = some ([.nil, .lit (.string []), .nil], [], places) :=
  ⟨[], by kernel_rfl⟩
set_option maxRecDepth 100000 in
theorem lifted (os : Os) (started : os.Started) (H : Type) (enc : TypeId × Value → H) (F : Stop.Interp) :
    ReturnsInHanded {} Tryd.checked os 3 .any ((OpenSpec.ofChange Rows.slotKeepsSpec).preRow enc Tryd.prog Tryd.f3 Rows.slotKeepsRow.domain false Rows.slotKeepsRow.laid) (((OpenSpec.ofChange Rows.slotKeepsSpec).at F).post enc Tryd.prog Tryd.f3 false true false false) := by
  obtain ⟨places, hx⟩ := reads os enc
  refine returnsInHanded_of_row (C := Tryd.checked) (s := OpenSpec.ofChange Rows.slotKeepsSpec) own started (by kernel_rfl) Tryd.func3
    (witness_row_at (enc := enc) (C := Tryd.checked) false (laidWorld os) #[.slice none 0 0, .string ByteArray.empty, .slice none 0 0] rfl (by kernel_rfl) (by kernel_rfl) (by kernel_rfl)
      (OpenSpec.preRow_of_cond 8 hx (by kernel_rfl) (fun k hk => by cases hk) (by kernel_rfl) (laid_met os))) ?_
  intro W base args ds gs before hval0 hW _ _ hwt hL _ _
  have hval : ∀ (j : Nat) t v, Tryd.f3.params[j]? = some t → args[j]? = some v → Value.okWide Tryd.prog W .any base t v := hval0
  have hW' := hW
  obtain ⟨p, q, hA0, hV, rfl, hfz, hnd⟩ := hW
  have hA : DataW.TrodAll enc Tryd.prog W 0 (fun _ => true) true Tryd.f3.params.toList args.toList ds p := hA0
  rw [Tryd.params3] at hA hval
  obtain ⟨v0, vs0, d0, ds0, p0, q0, hargs, rfl, rfl, h0, r0⟩ := trodAll_cons hA
  obtain ⟨v1, vs1, d1, ds1, p1, q1, rfl, rfl, rfl, h1, r1⟩ := trodAll_cons r0
  obtain ⟨v2, vs2, d2, ds2, p2, q2, rfl, rfl, rfl, h2, r2⟩ := trodAll_cons r1
  obtain ⟨rfl, rfl, rfl⟩ := trodAll_nil r2
  obtain rfl : args = #[v0, v1, v2] := by cases args; simp_all
  obtain ⟨rfl, rfl⟩ := trodVars_none hV
  have k0 := h0
  have lt0 : ∀ x ∈ p0, x.block < W.heap.size := by obtain ⟨m, hm⟩ := k0; exact DataW.trod_lt m _ _ _ hm
  obtain ⟨a0, len0, cap0, rfl⟩ := okWide_slice Tryd.underlying22 (hval 0 22 v0 rfl rfl)
  obtain ⟨z0, w0⟩ : ∃ z, IsActs W a0 len0 cap0 z := by
    obtain ⟨fuel, hf⟩ := h0
    obtain ⟨a, l, c, z, e, hz⟩ := open_acts hf
    simp [Value.cells] at e
    obtain ⟨rfl, rfl, rfl⟩ := e
    exact ⟨z, hz⟩
  obtain ⟨a1, rfl, rfl, rfl, w1⟩ := open_string Tryd.underlying9 (hval 1 9 v1 rfl rfl) h1
  have k2 := h2
  have lt2 : ∀ x ∈ p2, x.block < W.heap.size := by obtain ⟨m, hm⟩ := k2; exact DataW.trod_lt m _ _ _ hm
  obtain ⟨a2, len2, cap2, rfl⟩ := okWide_slice Tryd.underlying22 (hval 2 22 v2 rfl rfl)
  obtain ⟨z2, w2⟩ : ∃ z, IsActs W a2 len2 cap2 z := by
    obtain ⟨fuel, hf⟩ := h2
    obtain ⟨a, l, c, z, e, hz⟩ := open_acts hf
    simp [Value.cells] at e
    obtain ⟨rfl, rfl, rfl⟩ := e
    exact ⟨z, hz⟩
  clear hA0 hval0
  refine (walk a0 len0 cap0 z0 a1 a2 len2 cap2 z2 W w0 w1 w2).mono fun e W' ⟨he, bel⟩ => ?_
  subst he
  exact ⟨_, rfl, _, _, _, [], _, [], hW', trodAll_mk1 (shut_bool Tryd.underlying4 _), (trodAll_cons_mk (Below.trod laidOut (by kernel_rfl) (of_decide_eq_true (by kernel_rfl)) k0 bel lt0) (trodAll_cons_mk (shut_string Tryd.underlying9 w1) (trodAll_cons_mk (Below.trod laidOut (by kernel_rfl) (of_decide_eq_true (by kernel_rfl)) k2 bel lt2) trodAll_mk0))), rfl, bel.frame _, fun h => by cases h⟩

theorem over : Rows.SlotKeepsSaid :=
  OpenClaim.holds_of_cond 3 Tryd.f3 rfl rfl rfl rfl rfl rfl rfl ⟨rfl, rfl, rfl, rfl, rfl⟩ rfl rfl rfl rfl rfl (by kernel_rfl) Tryd.func3 (by kernel_rfl)
    (of_decide_eq_true (by kernel_rfl)) (by unfold Func.isWrapper; first | (rw [if_pos (by decide +kernel)]; kernel_rfl) | (rw [if_neg (by decide +kernel)]; exact ⟨rfl, rfl⟩))
    (fun os started H enc _ F => by rw [OpenClaim.pre_eq_preRow]; exact lifted os started H enc F)

/-- THE STATEMENT -/
theorem proved : Rows.SlotKeepsCardSaid :=
  Claim7.holds_tied_plain_at .later [] [.data, .pinned] true (true, "9eaec38af16a29111749254a14b513b99c2338bab31c6b9716e2014fd8d54f3d") false
    over (fun _ h => by cases h) (by kernel_rfl) (fun _ h => by cases h) slotKeeps_row_tie rfl ⟨rfl, rfl⟩ (by kernel_rfl) rfl
    (fun f fn hf hfn => by
      obtain rfl : f = 3 := Option.some.inj ((show Tryd.prog.funcNamed "croft/croftlaw12.SlotKeeps" = some 3 by kernel_rfl).symm.trans hf) |>.symm
      obtain rfl : fn = Tryd.f3 := (Option.some.inj (Tryd.func3.symm.trans hfn)).symm
      exact ⟨by kernel_rfl, fun j t ht => by
        rw [Tryd.params3] at ht
        have hm : t ∈ [22, 9, 22] := by simpa using Array.mem_of_getElem? ht
        have hall : ([22, 9, 22].all fun u => !Tryd.prog.wantsStandIn u) = true := by kernel_rfl
        exact (show Tryd.prog.wantsStandIn t = false by simpa using List.all_eq_true.1 hall t hm)⟩)
    (by kernel_rfl)
#print axioms proved
end Go.Proofs.YteepggjbgdjchaaDoor.slotKeeps
