/- For every string: where it has at most 100000 bytes the document's example of layer 6 holds, and disk.Load makes of it a disk of just these bytes with nothing pending that isn't down, if it is whole sectors of 64 bytes and not empty, and refuses it with ErrArg otherwise: DiskLoads answers true.
Conditions: none; every input that can be read is spoken of. -/
import Derived.Test.YtgddogjieemgeaaRows
import Derived.Test.YtgddogjieemgeaaBase
import Derived.Test.YtgddogjieemgeaaDisG
import Derived.Test.YtgddogjieemgeaaDisH
import Derived.WalkKit
import Derived.ProofKit
import Derived.OpenShut
import Derived.ShutString
import Derived.ChangeOld
import Derived.Below
import Derived.SliceStrings
namespace Go.Proofs.Ytgddogjieemgeaa.diskLoads
open Go.ChangeShapes Go.WideShapes Go.ChangeAt Go.RowKit
open Go.ChangeMaps (open_string shut_string)
set_option linter.unusedVariables false

theorem own : ownKnob Try.prog.godebug = none := by kernel_rfl
theorem laidOut : laidOutB Try.prog = true := by kernel_rfl

theorem walk (a0 : ByteArray) (w : World) (w0 : a0.size ≤ maxLen) :
    Calls Try.prog 5 #[.string a0] w fun e w' => e = .returned (.bool true) ∧ Below w.heap.size w w' := by
  unfold maxLen at w0
  by_cases c1 : 100000 < a0.size
  · go_enter Try.func5, Try.ntmps5
    go_wp2_with (go_at_call 7; refine (awake_any _).mono ?_; rintro e w1 ⟨rfl, hb1⟩)
    go_ret
    exact ⟨rfl, hb1⟩
  · by_cases c2 : a0.size % 64 = 0
    · by_cases c3 : a0.size = 0
      · have t1 : ((a0.size : Int) == 0) = true := by rw [beq_iff_eq]; omega
        have HN := Lib.hid (load_no w a0 (.inr (.inl c3)) (by omega))
        clear c2
        replace c3 := Lib.hid c3
        go_enter Try.func5, Try.ntmps5
        go_wp2_with (first
          | (go_at_call 27; refine HN.out.mono ?_; rintro e w' ⟨rfl, rfl⟩)
          | (go_at_call 7; refine (awake_any _).mono ?_; rintro e w3 ⟨rfl, hb3⟩))
        go_ret
        exact ⟨rfl, hb3⟩
      · obtain ⟨n, hn⟩ : ∃ n, n = a0.size / 64 := ⟨_, rfl⟩
        have e64 : a0.size = n * 64 := by omega
        have HY := Lib.hid (load_any w a0 n e64 (by omega) (by omega))
        have t1 : ((a0.size : Int) == 0) = false := by rw [beq_eq_false_iff_ne]; omega
        have t2 : ((a0.size : Int) % 64 == 0) = true := by rw [beq_iff_eq]; omega
        have t2' : ((a0.size : Int) % 64 != 0) = false := by rw [bne_eq_false_iff_eq]; omega
        have t3 : (a0.size : Int) / 64 = n := by omega
        have e0 : strOf a0.data.toList = a0 := rfl
        replace e0 := Lib.hid e0
        clear c2 c3 hn
        replace e64 := Lib.hid e64
        go_enter Try.func5, Try.ntmps5
        go_wp2_with (first
          | (go_at_call 27; refine HY.out.mono ?_; rintro e w1 ⟨d, sb, mb, sc, rfl, D1, b1⟩)
          | (go_at_call 7; refine (awake_any _).mono ?_; rintro e w3 ⟨rfl, hb3⟩; have D3 := D1.below hb3; have B3 := then_ b1 hb3 b1.size; clear D1 b1 hb3)
          | (go_at_call 16; refine (down_any D3).mono ?_; rintro e w' ⟨rfl, rfl⟩)
          | (go_at_call 17; refine (len_any D3).mono ?_; rintro e w' ⟨rfl, rfl⟩)
          | (go_at_call 24; refine (pending_any D3).mono ?_; rintro e w' ⟨rfl, rfl⟩)
          | (go_at_call 25; refine (image_any D3).mono ?_; rw [e0.out]; rintro e w' ⟨rfl, rfl⟩))
        go_ret
        exact ⟨rfl, B3⟩
    · have t1 : ((a0.size : Int) == 0) = false := by rw [beq_eq_false_iff_ne]; omega
      have t2 : ((a0.size : Int) % 64 == 0) = false := by rw [beq_eq_false_iff_ne]; omega
      have t2' : ((a0.size : Int) % 64 != 0) = true := by rw [bne_iff_ne]; omega
      have HN := Lib.hid (load_no w a0 (.inl c2) (by omega))
      clear c2
      go_enter Try.func5, Try.ntmps5
      go_wp2_with (first
        | (go_at_call 27; refine HN.out.mono ?_; rintro e w' ⟨rfl, rfl⟩)
        | (go_at_call 7; refine (awake_any _).mono ?_; rintro e w3 ⟨rfl, hb3⟩))
      go_ret
      exact ⟨rfl, hb3⟩

set_option maxRecDepth 100000 in
theorem lifted (os : Os) (started : os.Started) (H : Type) (enc : TypeId × Value → H) :
    ReturnsInHanded {} Try.checked os 5 .any (Rows.diskLoadsSpec.pre6 enc Try.prog Try.f5 Rows.diskLoadsRow.domain false) (Rows.diskLoadsSpec.post enc Try.prog Try.f5 false true false false) := by
  refine returnsInHanded_of_change (C := Try.checked) own started (by kernel_rfl) Try.func5
    (ChangeSpec.witness6 (enc := enc) (C := Try.checked) false ⟨#[], #[.string ByteArray.empty], []⟩ 8 (by kernel_rfl) (by kernel_rfl) (by kernel_rfl) (by kernel_rfl)) ?_
  intro W base args ds gs before hval0 hW hcnd _
  have hval : ∀ (j : Nat) t v, Try.f5.params[j]? = some t → args[j]? = some v → Value.okWide Try.prog W .any base t v := hval0
  have hW' := hW
  obtain ⟨p, q, hA0, hV, rfl, hfz, hnd⟩ := hW
  have hA : DataW.TrodAll enc Try.prog W 0 (fun _ => true) true Try.f5.params.toList args.toList ds p := hA0
  rw [Try.params5] at hA hval
  obtain ⟨v0, vs0, d0, ds0, p0, q0, hargs, rfl, rfl, h0, r0⟩ := trodAll_cons hA
  obtain ⟨rfl, rfl, rfl⟩ := trodAll_nil r0
  obtain rfl : args = #[v0] := by cases args; simp_all
  obtain ⟨rfl, rfl⟩ := trodVars_none hV
  obtain ⟨a0, rfl, rfl, rfl, w0⟩ := open_string Try.underlying9 (hval 0 9 v0 rfl rfl) h0
  clear hA0 hval0
  refine (walk a0 W w0).mono fun e W' ⟨he, bel⟩ => ?_
  subst he
  exact ⟨_, rfl, _, _, _, [], _, [], hW', trodAll_mk1 (shut_bool Try.underlying4 _), (trodAll_cons_mk (shut_string Try.underlying9 w0) trodAll_mk0), rfl, bel.frame _, fun h => by cases h⟩

theorem over : Rows.diskLoadsRow.holds Try.pinned (OpenSpec.ofChange Rows.diskLoadsSpec) :=
  OpenClaim.holds_of_wide 5 Try.f5 rfl rfl rfl rfl rfl rfl rfl ⟨rfl, rfl, rfl, rfl, rfl⟩ rfl rfl rfl rfl rfl (by kernel_rfl) Try.func5 (by kernel_rfl)
    (of_decide_eq_true (by kernel_rfl)) (by unfold Func.isWrapper; first | (rw [if_pos (by decide +kernel)]; kernel_rfl) | (rw [if_neg (by decide +kernel)]; exact ⟨rfl, rfl⟩))
    (fun os started H enc _ => lifted os started H enc)

/-- THE STATEMENT -/
theorem proved : Rows.DiskLoadsSaid := over
#print axioms proved
end Go.Proofs.Ytgddogjieemgeaa.diskLoads
