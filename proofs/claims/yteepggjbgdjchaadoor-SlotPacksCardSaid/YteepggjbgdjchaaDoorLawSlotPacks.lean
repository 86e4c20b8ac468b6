/- For every slice of slots: where it has at most 1000 slots, Pack answers the document's room of these slots, or refuses them with the document's error; the document's example of layer 12 holds: SlotPacks answers true.
Conditions: none; every input that can be read is spoken of. -/
import Derived.Test.YteepggjbgdjchaaDoorRows
import Derived.Test.YteepggjbgdjchaaDoorBase
import Derived.Test.YteepggjbgdjchaaDoorSlrD
import Derived.Test.YteepggjbgdjchaaDoorActU
import Derived.WalkKit
import Derived.ProofKit
import Derived.OpenShut
import Derived.ShutString
import Derived.ChangeOld
import Derived.Below
import Derived.SliceStrings
import Derived.Deep.DeepHandedRow
import Derived.Lib.LaidTab
import Derived.Test.YteepggjbgdjchaaDoorCards
import Derived.Test.YteepggjbgdjchaaDoorTie
import Derived.LaidMore
import Derived.Stop.Joined
import Derived.SevenTiedAt
namespace Go.Proofs.YteepggjbgdjchaaDoor.slotPacks
open Go.ChangeShapes Go.WideShapes Go.ChangeAt Go.RowKit
open Go.ChangeMaps (open_string shut_string)
set_option linter.unusedVariables false

theorem own : ownKnob Tryd.prog.godebug = none := by kernel_rfl
theorem laidOut : laidOutB Tryd.prog = true := by kernel_rfl

set_option maxRecDepth 10000 in
set_option maxHeartbeats 2000000 in
theorem walk (a0 : Option Addr) (len0 cap0 : Nat) (z0 : List Sl) (w : World) (w0 : SlIn w (.slice a0 len0 cap0) z0 ∧ len0 = z0.length ∧ ∀ x ∈ z0, x.2.size ≤ 140737488351232) :
    Calls Tryd.prog 6 #[.slice a0 len0 cap0] w fun e w' => e = .returned (.bool true) ∧ Below w.heap.size w w' := by
  obtain ⟨hin, hlz, hsz⟩ := w0
  have HW := Lib.hid (fun W => aw12_any W)
  by_cases h0 : 1000 < len0
  · have q : (1000 : Int) < (len0 : Int) := by omega
    clear h0 hin hlz hsz
    go_enter Tryd.func6, Tryd.ntmps6
    go_upto_region 2 with (go_at_call 9; refine (HW.out _).mono ?_; rintro e v1 ⟨rfl, hb1⟩; have B1 := Lib.hid hb1; clear hb1)
    go_wp2_with (go_at_call 9; refine (HW.out _).mono ?_; rintro e v3 ⟨rfl, hb3⟩; have B3 := Lib.hid (then_ B1.out hb3 B1.out.size); clear hb3)
    go_ret
    exact ⟨rfl, B3.out⟩
  have q : ¬ (1000 : Int) < (len0 : Int) := by omega
  obtain ⟨i0, hi0, hz0, hz1, hz2⟩ := info_parts info_slot
  have hsb := sz_bound z0 1000 140737488351232 (by omega) hsz
  have HPK : Hid (∀ W v, SlIn W v z0 → Calls Tryd.prog 24 #[v] W fun e w' => e = .returned (.tuple #[.string (pk z0).1, .int .i64 ((pk z0).2 : Nat)]) ∧ Below W.heap.size W w') := Lib.hid fun W v h => pack_any v z0 W h (by omega)
  have HRP : Hid (∀ W, Below w.heap.size w W → Calls Tryd.prog 18 #[.slice a0 len0 cap0] W fun e w' => e = .returned (.tuple #[.string (pk z0).1, .int .i64 ((pk z0).2 : Nat)]) ∧ Below W.heap.size W w') := Lib.hid fun W hb => rpack_any _ z0 W (hin.below hb)
  have SZM : Hid (∀ x ∈ z0, x.2.size ≤ maxLen) := Lib.hid fun x hx => by have := hsz x hx; unfold maxLen; omega
  obtain ⟨p, c, hp⟩ : ∃ p c, pk z0 = (p, c) := ⟨_, _, rfl⟩
  rw [hp] at HPK HRP
  simp only at HPK HRP
  obtain ⟨xa, xc, hxe, hc1, hc2, -, hcl⟩ := hin.open_
  injection hxe with hx1 hx2 hx3
  subst hx1 hx3
  clear hx2 hp hsb hsz
  obtain ⟨L, hL⟩ : ∃ L, L = z0 := ⟨_, rfl⟩
  subst hL
  obtain ⟨n, hne⟩ : ∃ n, n = len0 := ⟨_, rfl⟩
  rw [← hne] at h0 q HRP hlz ⊢
  rw [← hlz] at hc1
  have hn : n ≤ 100000 := by omega
  have hn' := Lib.hid hlz
  have HR0 := Lib.hid (TRow.nil 51 w w.heap.size)
  have FIN : Hid (∀ (W : World) v', TRow 51 W w.heap.size v' (L.take n) → SlIn W v' L) := Lib.hid fun W v' h => by
    rw [hlz, List.take_length] at h
    exact h.in_ SZM.out
  clear hne hlz hin
  go_enter Tryd.func6, Tryd.ntmps6
  go_upto_region 5 with (go_at_call 9; refine (HW.out _).mono ?_; rintro e v1 ⟨rfl, hb1⟩; have HB0 := Lib.hid hb1; clear hb1)
  replace HR0 : Hid (TRow 51 v1 w.heap.size (.slice none 0 0) []) := Lib.hid (TRow.nil _ _ _)
  go_loopw [3, 4] (fun v i wr => ∃ k : Nat, k ≤ n ∧ i = .int .i64 (k : Int) ∧ Hid (TRow 51 wr w.heap.size v (L.take k)) ∧ Hid (Below w.heap.size w wr)) (fun v i wr => n - (intOf i).toNat)
  case atStart => exact ⟨0, by omega, rfl, HR0, HB0⟩
  case round =>
    clear HB0 HR0
    obtain ⟨k, hk, rfl, hR, hB⟩ := hrel
    by_cases hlt : k < n
    · have hkL : k < L.length := by have := hn'.out; omega
      obtain ⟨b, o, rfl, hb, c1, c2, -⟩ := hcl k hkL
      have htk := List.take_append_getElem hkL
      obtain ⟨x, hx⟩ : ∃ x, x = L[k]'hkL := ⟨_, rfl⟩
      rw [← hx] at c1 c2 htk
      have HTK := Lib.hid htk
      replace c1 := keep hB.out c1
      replace c2 := keep hB.out c2
      have hkn : (k : Int) < (n : Int) := by omega
      obtain ⟨x1, x2⟩ := x
      simp only at c1 c2
      have hlk : (L.take k).length = k := by rw [List.length_take]; omega
      obtain ⟨va, vc, rfl, hv1, hv2⟩ := hR.out.shape
      rw [hlk] at hR hv1 ⊢
      have zz := hB.out.size
      have hlk' := Lib.hid hlk
      clear hx htk hlk
      go_upto_region 7 with fail
      have zb : b < wr.heap.size := by omega
      have hk1 := c1
      have hk2 := c2
      refine wp_region_seq (fun W => W.cell? ⟨b, o + k * 2, none⟩ = some (.bool x1) ∧ W.cell? ⟨b, o + k * 2 + 1, none⟩ = some (.string x2)) (0 :: 1 :: 2 :: 3 :: 4 :: 5 :: 6 :: 7 :: 8 :: 9 :: 10 :: 11 :: 14 :: []) (5 :: 10 :: []) (0 :: 1 :: 2 :: 3 :: 4 :: 5 :: 6 :: 7 :: 8 :: 9 :: 10 :: 11 :: 12 :: 13 :: 14 :: []) (by kernel_rfl) (by kernel_rfl) rfl (by kernel_rfl) rfl (⟨hk1, hk2⟩) (by simp only [picked, List.filterMap_cons, List.filterMap_nil, List.getElem?_cons_zero, List.getElem?_cons_succ, Option.map_some]; exact rfl) ?_
      iterate 12
        refine seq_want (v := ?_) rfl rfl (fun W hS => ?_) ?_
        rotate_left
        · first
            | (conv => lhs; simp [go_sem, hkn]
               first | done | exact rfl)
            | (have hS := hS rfl
               obtain ⟨q1, q2⟩ := hS
               conv => lhs; simp [go_sem, *, hkn]
               first | done | exact rfl)
        simp only [Act.put, List.setIfInBounds_toArray, List.set_cons_zero, List.set_cons_succ]
      refine seq_on rfl rfl fun K hK => ?_
      go_wp2
      obtain ⟨W0, hW0⟩ : ∃ W0, W0 = (wr.alloc (.cells #[.bool x1, .string x2] 51)).drew := ⟨_, rfl⟩
      have B0 : Below wr.heap.size wr W0 := hW0 ▸ ((Below.refl _ _).alloc (Nat.le_refl _) _).drew
      have C0 : ∀ j u, [Value.bool x1, .string x2][j]? = some u → W0.cell? ((⟨wr.heap.size, 0, none⟩ : Addr).add j) = some u := fun j u hu => hW0 ▸ sl_drawn wr _ _ _ j hu
      have Z0 : W0.heap.size = wr.heap.size + 1 := by rw [hW0]; simp
      have R0 : W0.ownsRow w.heap.size 51 2 (.slice va k vc) k (cl (L.take k)) := by
        have h1 := hR.out.below B0
        unfold TRow at h1
        rwa [hlk'.out] at h1
      first
        | rw [← hW0]
        | (rw [show wr.drew.alloc (.cells #[.bool x1, .string x2] 51) = W0 from hW0 ▸ rfl])
      clear hW0
      refine hK _ _ ⟨keep B0 hk1, keep B0 hk2⟩ ?_
      clear hK K
      refine seq_on rfl rfl fun K hK => ?_
      go_wp2_with (at_builtin; refine wpList_append_own_at _ rfl _ _ 45 rfl w.heap.size 51 i0 (.agg #[.bool false, .string ⟨#[]⟩]) 2 24 Tryd.underlying45 hi0 hz0 hz1 hz2 rfl (by decide) (.slice va k vc) k (cl (L.take k)) rfl R0 ⟨wr.heap.size, 0, none⟩ 1 1 [.bool x1, .string x2] rfl rfl C0 (by intro u hu; simp at hu; rcases hu with rfl | rfl <;> rfl) (by unfold maxLen; omega) (by omega) (by omega) ?_)
      intro v' w5 hown hgrow hnil hloc
      clear hnil
      have R5 : TRow 51 w5 w.heap.size v' (L.take (k + 1)) := by
        rw [← HTK.out]
        exact TRow.push (x1, x2) (by rw [hlk'.out]; exact hown)
      have B5 : Below w.heap.size w w5 := (then_ hB.out B0 zz).grown hgrow (by omega) (fun g hg => (R0.lt g hg).1)
      have k5 : w5.cell? ⟨b, o + k * 2, none⟩ = some (.bool x1) ∧ w5.cell? ⟨b, o + k * 2 + 1, none⟩ = some (.string x2) := by
        have hc : Chg (fun q => w.heap.size ≤ q) wr w5 := (Chg.of B0).grown hgrow fun g hg => .inl (R0.lt g hg).1
        exact ⟨hc.cell hk1 (by omega), hc.cell hk2 (by omega)⟩
      obtain ⟨ya, yc, rfl, hy1, hy2⟩ := R5.shape
      have hl1 : (L.take (k + 1)).length = k + 1 := by rw [List.length_take]; omega
      rw [hl1] at R5 ⊢
      clear hl1
      replace R5 := Lib.hid R5
      replace B5 := Lib.hid B5
      replace k5 := Lib.hid k5
      clear hown hgrow hloc R0 B0 C0 hy1 hy2
      go_wp2
      refine hK _ _ k5.out ?_
      clear hK K
      iterate 1
        refine seq_want (v := ?_) rfl rfl (fun W hS => ?_) ?_
        rotate_left
        · conv => lhs; simp [go_sem]
          first | done | exact rfl
        simp only [Act.put, List.setIfInBounds_toArray, List.set_cons_zero, List.set_cons_succ]
      refine seq_end ?_
      go_wp2
      go_roundw
      case rel => exact ⟨k + 1, by omega, by go_num, R5, B5⟩
      case measure => simp [intOf]; omega
    · obtain rfl : k = n := by omega
      have I2 := Lib.hid (FIN.out _ _ hR.out)
      obtain ⟨ya, yc, rfl, hy1, hy2⟩ := hR.out.shape
      have hl1 : (L.take k).length = k := by rw [List.length_take]; have := hn'.out; omega
      rw [hl1] at I2 hR hy1 ⊢
      clear hl1
      go_wp2_with (first
        | (go_at_call 24; refine (HPK.out _ _ I2.out).mono ?_; rintro e v4 ⟨rfl, hb4⟩; have B4 := Lib.hid (then_ hB.out hb4 hB.out.size); clear hb4)
        | (go_at_call 18; refine (HRP.out _ B4.out).mono ?_; rintro e v5 ⟨rfl, hb5⟩; have B5 := Lib.hid (then_ B4.out hb5 B4.out.size); clear hb5))
      go_ret
      exact ⟨rfl, B5.out⟩

def litV : DataW Unit → Value
  | .lit (.int k n) => .int k n
  | _ => .int .u8 0
def rowV : DataW Unit → Array Value
  | .agg l => (l.map litV).toArray
  | _ => #[]
/-- A WORLD FOR THE WITNESS: the door's, and the pinned table as it is pinned. -/
noncomputable def laidWorld (os : Os) : World :=
  { World.doorLaid Tryd.prog 400 os with heap := (World.doorLaid Tryd.prog 400 os).heap.modify 1 fun
      | .cells _ t frozen => .cells (rowV Go.Pinned.utf8First) t frozen
      | o => o }
theorem laid_met (os : Os) : laidMet Tryd.prog Rows.slotPacksRow.laid ((laidWorld os).forCall (fun _ _ => 0) ⟨#[], #[.slice none 0 0], []⟩).memory :=
  laidMet_of_run' 8 (by kernel_rfl) (by kernel_rfl)
theorem reads (os : Os) {H : Type} (enc : TypeId × Value → H) : ∃ places, DataW.whole enc Tryd.prog ((laidWorld os).forCall (fun _ _ => 0) ⟨#[], #[.slice none 0 0], []⟩).memory Tryd.f6.params.toList Rows.slotPacksSpec.vars false (#[.slice none 0 0] : Array Value).toList 8 = some ([.nil], [], places) :=
  ⟨[], by kernel_rfl⟩
set_option maxRecDepth 100000 in
theorem lifted (os : Os) (started : os.Started) (H : Type) (enc : TypeId × Value → H) (F : Stop.Interp) :
    ReturnsInHanded {} Tryd.checked os 6 .any ((OpenSpec.ofChange Rows.slotPacksSpec).preRow enc Tryd.prog Tryd.f6 Rows.slotPacksRow.domain false Rows.slotPacksRow.laid) (((OpenSpec.ofChange Rows.slotPacksSpec).at F).post enc Tryd.prog Tryd.f6 false true false false) := by
  obtain ⟨places, hx⟩ := reads os enc
  refine returnsInHanded_of_row (C := Tryd.checked) (s := OpenSpec.ofChange Rows.slotPacksSpec) own started (by kernel_rfl) Tryd.func6
    (witness_row_at (enc := enc) (C := Tryd.checked) false (laidWorld os) #[.slice none 0 0] rfl (by kernel_rfl) (by kernel_rfl) (by kernel_rfl)
      (OpenSpec.preRow_of_cond 8 hx (by kernel_rfl) (fun k hk => by cases hk) (by kernel_rfl) (laid_met os))) ?_
  intro W base args ds gs before hval0 hW _ _ hwt hL _ _
  have hval : ∀ (j : Nat) t v, Tryd.f6.params[j]? = some t → args[j]? = some v → Value.okWide Tryd.prog W .any base t v := hval0
  have hW' := hW
  obtain ⟨p, q, hA0, hV, rfl, hfz, hnd⟩ := hW
  have hA : DataW.TrodAll enc Tryd.prog W 0 (fun _ => true) true Tryd.f6.params.toList args.toList ds p := hA0
  rw [Tryd.params6] at hA hval
  obtain ⟨v0, vs0, d0, ds0, p0, q0, hargs, rfl, rfl, h0, r0⟩ := trodAll_cons hA
  obtain ⟨rfl, rfl, rfl⟩ := trodAll_nil r0
  obtain rfl : args = #[v0] := by cases args; simp_all
  obtain ⟨rfl, rfl⟩ := trodVars_none hV
  have k0 := h0
  have lt0 : ∀ x ∈ p0, x.block < W.heap.size := by obtain ⟨m, hm⟩ := k0; exact DataW.trod_lt m _ _ _ hm
  have wt0 : ∀ q ∈ d0.weights Tryd.prog 36, q ≤ reachBytes := fun q hq => by have := List.all_eq_true.1 hwt q (DataW.weights_mem_each (j := 0) rfl rfl q hq); simpa using this
  obtain ⟨a0, len0, cap0, rfl⟩ := okWide_slice Tryd.underlying36 (hval 0 36 v0 rfl rfl)
  obtain ⟨z0, w0⟩ : ∃ z, SlIn W (.slice a0 len0 cap0) z ∧ len0 = z.length ∧ ∀ x ∈ z, x.2.size ≤ 140737488351232 := by
    obtain ⟨fuel, hf⟩ := h0
    obtain ⟨a, l, c, z, e, hz⟩ := open_slots hf wt0
    simp [Value.cells] at e
    obtain ⟨rfl, rfl, rfl⟩ := e
    exact ⟨z, hz⟩
  clear hA0 hval0
  refine (walk a0 len0 cap0 z0 W w0).mono fun e W' ⟨he, bel⟩ => ?_
  subst he
  exact ⟨_, rfl, _, _, _, [], _, [], hW', trodAll_mk1 (shut_bool Tryd.underlying4 _), (trodAll_cons_mk (Below.trod laidOut (by kernel_rfl) (of_decide_eq_true (by kernel_rfl)) k0 bel lt0) trodAll_mk0), rfl, bel.frame _, fun h => by cases h⟩

theorem over : Rows.SlotPacksSaid :=
  OpenClaim.holds_of_cond 6 Tryd.f6 rfl rfl rfl rfl rfl rfl rfl ⟨rfl, rfl, rfl, rfl, rfl⟩ rfl rfl rfl rfl rfl (by kernel_rfl) Tryd.func6 (by kernel_rfl)
    (of_decide_eq_true (by kernel_rfl)) (by unfold Func.isWrapper; first | (rw [if_pos (by decide +kernel)]; kernel_rfl) | (rw [if_neg (by decide +kernel)]; exact ⟨rfl, rfl⟩))
    (fun os started H enc _ F => by rw [OpenClaim.pre_eq_preRow]; exact lifted os started H enc F)

/-- THE STATEMENT -/
theorem proved : Rows.SlotPacksCardSaid :=
  Claim7.holds_tied_plain_at .later [] [.data, .pinned] true (true, "9eaec38af16a29111749254a14b513b99c2338bab31c6b9716e2014fd8d54f3d") false
    over (fun _ h => by cases h) (by kernel_rfl) (fun _ h => by cases h) slotPacks_row_tie rfl ⟨rfl, rfl⟩ (by kernel_rfl) rfl
    (fun f fn hf hfn => by
      obtain rfl : f = 6 := Option.some.inj ((show Tryd.prog.funcNamed "croft/croftlaw12.SlotPacks" = some 6 by kernel_rfl).symm.trans hf) |>.symm
      obtain rfl : fn = Tryd.f6 := (Option.some.inj (Tryd.func6.symm.trans hfn)).symm
      exact ⟨by kernel_rfl, fun j t ht => by
        rw [Tryd.params6] at ht
        have hm : t ∈ [36] := by simpa using Array.mem_of_getElem? ht
        have hall : ([36].all fun u => !Tryd.prog.wantsStandIn u) = true := by kernel_rfl
        exact (show Tryd.prog.wantsStandIn t = false by simpa using List.all_eq_true.1 hall t hm)⟩)
    (by kernel_rfl)
#print axioms proved
end Go.Proofs.YteepggjbgdjchaaDoor.slotPacks
