/- For every act: the document's example of layer 6 holds, and a nil disk is down, has no sectors, no writes and an empty image, whatever is asked of it: DiskNil answers true.
Conditions: none; every input that can be read is spoken of. -/
import Derived.Test.YtgddogjieemgeaaRows
import Derived.Test.YtgddogjieemgeaaBase
import Derived.Test.YtgddogjieemgeaaDisG
import Derived.Test.YtgddogjieemgeaaAct
import Derived.WalkKit
import Derived.ProofKit
import Derived.OpenShut
import Derived.ShutString
import Derived.ChangeOld
import Derived.Below
import Derived.SliceStrings
namespace Go.Proofs.Ytgddogjieemgeaa.diskNil
open Go.ChangeShapes Go.WideShapes Go.ChangeAt Go.RowKit
open Go.ChangeMaps (open_string shut_string)
set_option linter.unusedVariables false

theorem own : ownKnob Try.prog.godebug = none := by kernel_rfl
theorem laidOut : laidOutB Try.prog = true := by kernel_rfl

theorem walk (a0 : ActD) (w : World) (w0 : a0.Ok w) :
    Calls Try.prog 6 #[.agg a0.cells] w fun e w' => e = .returned (.bool true) ∧ Below w.heap.size w w' := by
  obtain ⟨x0, x1, x2, x3, x4, ka, kl, kc, zs⟩ := a0
  obtain ⟨w1, w2, w3, w4, w5, w6, w7⟩ := w0
  obtain ⟨k1, k2, _⟩ := w6
  simp only at w1 w2 w3 w4 w5 k1 k2
  unfold maxLen at w5 k2
  unfold ActD.cells
  simp only
  clear w7
  by_cases c1 : 1000 < kl
  · go_enter Try.func6, Try.ntmps6
    go_wp2_with (go_at_call 7; refine (awake_any _).mono ?_; rintro e w1 ⟨rfl, hb1⟩)
    go_ret
    exact ⟨rfl, then_ ((Below.refl _ _).alloc (Nat.le_refl _) _) hb1 (by simp)⟩
  · by_cases c2 : 1000 < x4.size
    · go_enter Try.func6, Try.ntmps6
      go_wp2_with (go_at_call 7; refine (awake_any _).mono ?_; rintro e w1 ⟨rfl, hb1⟩)
      go_ret
      exact ⟨rfl, then_ ((Below.refl _ _).alloc (Nat.le_refl _) _) hb1 (by simp)⟩
    · have O1 := Lib.hid (Own.made w 34 #[.int .u8 x0, .int .u8 x1, .int .i64 x2, .int .i64 x3, .string x4, .slice ka kl kc])
      have B1 := Lib.hid (show Below w.heap.size w (w.alloc (.cells #[.int .u8 x0, .int .u8 x1, .int .i64 x2, .int .i64 x3, .string x4, .slice ka kl kc] 34)) from (Below.refl _ _).alloc (Nat.le_refl _) _)
      go_enter Try.func6, Try.ntmps6
      go_wp2_with (first
        | (go_at_call 15; refine (nil_read _ _).mono ?_; rintro e w' ⟨rfl, rfl⟩)
        | (go_at_call 13; refine (nil_fuse _ _).mono ?_; rintro e w' ⟨rfl, rfl⟩)
        | (go_at_call 14; refine (nil_crash _ _ _ _ _ _).mono ?_; rintro e w2 ⟨rfl, hb2⟩; have O2 := O1.out.keep hb2; have B2 := then_ B1.out hb2 B1.out.size; replace O2 := Lib.hid O2; clear hb2)
        | (go_at_call 7; refine (awake_any _).mono ?_; rintro e w3 ⟨rfl, hb3⟩; have O3 := O2.out.keep hb3; have B3 := then_ B2 hb3 B2.size; obtain ⟨p1, p2, p3⟩ := O3.at_; clear hb3 O3)
        | (go_at_call 10; refine (nil_write _ _ _).mono ?_; rintro e w' ⟨rfl, rfl⟩)
        | (go_at_call 12; refine (nil_flush _).mono ?_; rintro e w' ⟨rfl, rfl⟩)
        | (go_at_call 16; refine (nil_down _).mono ?_; rintro e w' ⟨rfl, rfl⟩)
        | (go_at_call 17; refine (nil_len _).mono ?_; rintro e w' ⟨rfl, rfl⟩)
        | (go_at_call 24; refine (nil_pending _).mono ?_; rintro e w' ⟨rfl, rfl⟩)
        | (go_at_call 25; refine (nil_image _).mono ?_; rintro e w' ⟨rfl, rfl⟩))
      go_ret
      exact ⟨rfl, B3⟩

set_option maxRecDepth 100000 in
theorem lifted (os : Os) (started : os.Started) (H : Type) (enc : TypeId × Value → H) :
    ReturnsInHanded {} Try.checked os 6 .any (Rows.diskNilSpec.pre6 enc Try.prog Try.f6 Rows.diskNilRow.domain false) (Rows.diskNilSpec.post enc Try.prog Try.f6 false true false false) := by
  refine returnsInHanded_of_change (C := Try.checked) own started (by kernel_rfl) Try.func6
    (ChangeSpec.witness6 (enc := enc) (C := Try.checked) false ⟨#[], #[.agg (ActD.cells default)], []⟩ 8 (by kernel_rfl) (by kernel_rfl) (by kernel_rfl) (by kernel_rfl)) ?_
  intro W base args ds gs before hval0 hW hcnd _
  have hval : ∀ (j : Nat) t v, Try.f6.params[j]? = some t → args[j]? = some v → Value.okWide Try.prog W .any base t v := hval0
  have hW' := hW
  obtain ⟨p, q, hA0, hV, rfl, hfz, hnd⟩ := hW
  have hA : DataW.TrodAll enc Try.prog W 0 (fun _ => true) true Try.f6.params.toList args.toList ds p := hA0
  rw [Try.params6] at hA hval
  obtain ⟨v0, vs0, d0, ds0, p0, q0, hargs, rfl, rfl, h0, r0⟩ := trodAll_cons hA
  obtain ⟨rfl, rfl, rfl⟩ := trodAll_nil r0
  obtain rfl : args = #[v0] := by cases args; simp_all
  obtain ⟨rfl, rfl⟩ := trodVars_none hV
  have k0 := h0
  have lt0 : ∀ x ∈ p0, x.block < W.heap.size := by obtain ⟨m, hm⟩ := k0; exact DataW.trod_lt m _ _ _ hm
  obtain ⟨a0, rfl, w0⟩ := open_act (hval 0 34 v0 rfl rfl) h0
  clear hA0 hval0
  refine (walk a0 W w0).mono fun e W' ⟨he, bel⟩ => ?_
  subst he
  exact ⟨_, rfl, _, _, _, [], _, [], hW', trodAll_mk1 (shut_bool Try.underlying4 _), (trodAll_cons_mk (Below.trod laidOut (by kernel_rfl) (of_decide_eq_true (by kernel_rfl)) k0 bel lt0) trodAll_mk0), rfl, bel.frame _, fun h => by cases h⟩

theorem over : Rows.diskNilRow.holds Try.pinned (OpenSpec.ofChange Rows.diskNilSpec) :=
  OpenClaim.holds_of_wide 6 Try.f6 rfl rfl rfl rfl rfl rfl rfl ⟨rfl, rfl, rfl, rfl, rfl⟩ rfl rfl rfl rfl rfl (by kernel_rfl) Try.func6 (by kernel_rfl)
    (of_decide_eq_true (by kernel_rfl)) (by unfold Func.isWrapper; first | (rw [if_pos (by decide +kernel)]; kernel_rfl) | (rw [if_neg (by decide +kernel)]; exact ⟨rfl, rfl⟩))
    (fun os started H enc _ => lifted os started H enc)

/-- THE STATEMENT -/
theorem proved : Rows.DiskNilSaid := over
#print axioms proved
end Go.Proofs.Ytgddogjieemgeaa.diskNil
