/- For every string: where it has at most 20000 bytes the document's examples of layer 2 hold and crc.Open answers the text ahead of the last four bytes and true just if sealing that text gives the string again (by the reference), else nothing and false: CrcOpens answers true.
Conditions: none; every input that can be read is spoken of. -/
import Derived.Test.YtbiphgnbdpojkaaRows
import Derived.Test.YtbiphgnbdpojkaaBase
import Derived.Test.YtbiphgnbdpojkaaCrcT
import Derived.WalkKit
import Derived.ProofKit
import Derived.OpenShut
import Derived.ShutString
import Derived.ChangeOld
import Derived.Below
import Derived.SliceStrings
namespace Go.Proofs.Ytbiphgnbdpojkaa.crcOpens
open Go.ChangeShapes Go.WideShapes Go.ChangeAt Go.RowKit
open Go.ChangeMaps (open_string shut_string)
set_option linter.unusedVariables false

theorem own : ownKnob Try.prog.godebug = none := by kernel_rfl
theorem laidOut : laidOutB Try.prog = true := by kernel_rfl

theorem walk (a0 : ByteArray) (w : World) (w0 : a0.size ≤ maxLen) :
    Calls Try.prog 6 #[.string a0] w fun e w' => e = .returned (.bool true) ∧ Below w.heap.size w w' := by
  unfold maxLen at w0
  by_cases h1 : 20000 < a0.size
  · go_enter Try.func6, Try.ntmps6
    go_wp2_with (go_at_call 8; refine (awake_any _).mono ?_; rintro e w1 ⟨rfl, hb1⟩)
    go_ret
    exact ⟨rfl, hb1⟩
  · have h2 : a0.size ≤ 20000 := by omega
    clear h1 w0
    by_cases h4 : a0.size < 4
    · go_enter Try.func6, Try.ntmps6
      go_wp2_with (first
        | (go_at_call 8; refine (awake_any _).mono ?_; rintro e w1 ⟨rfl, hb1⟩)
        | (go_at_call 10; refine (open_short _ _ h4).mono ?_; rintro e w3 ⟨rfl, hb3⟩))
      go_ret
      exact ⟨rfl, hb3.trans (hb1.mono hb3.size)⟩
    · obtain ⟨n, hn⟩ : ∃ n, a0.size = n + 4 := ⟨a0.size - 4, by omega⟩
      have hn4 : (a0.size : Int) - 4 = n := by omega
      have hna : (n : Int) ≤ a0.size := by omega
      have hz := extract_size a0 n (by omega)
      have HR := Lib.hid (fun w => rseal_any (a0.extract 0 n) w (by omega))
      by_cases hy : isSealed a0 n
      · have HO := Lib.hid (fun w => open_yes a0 n w hn (by omega) hy)
        rw [(sealed_again a0 n hn).1 hy] at HR
        clear hn hy hz
        go_enter Try.func6, Try.ntmps6
        go_wp2_with (first
          | (go_at_call 8; refine (awake_any _).mono ?_; rintro e w1 ⟨rfl, hb1⟩)
          | (go_at_call 10; refine (HO.out _).mono ?_; rintro e w3 ⟨rfl, hb3⟩)
          | (go_at_call 13; refine (HR.out _).mono ?_; rintro e w2 ⟨rfl, hb2⟩))
        go_ret
        exact ⟨rfl, hb3.trans ((hb2.mono hb3.size).trans (hb1.mono (Nat.le_trans hb3.size hb2.size)))⟩
      · have HO := Lib.hid (fun w => open_no a0 n w hn (by omega) hy)
        obtain ⟨X, hX⟩ : ∃ X, X = sealB (a0.extract 0 n) := ⟨_, rfl⟩
        rw [← hX] at HR
        have hne : X ≠ a0 := by rw [hX]; exact fun h => hy ((sealed_again a0 n hn).2 h)
        have hne2 := str_ne hne
        clear hn hy hz hX hne
        go_enter Try.func6, Try.ntmps6
        go_wp2_with (first
          | (go_at_call 8; refine (awake_any _).mono ?_; rintro e w1 ⟨rfl, hb1⟩)
          | (go_at_call 10; refine (HO.out _).mono ?_; rintro e w3 ⟨rfl, hb3⟩)
          | (go_at_call 13; refine (HR.out _).mono ?_; rintro e w2 ⟨rfl, hb2⟩))
        go_ret
        exact ⟨rfl, hb3.trans ((hb2.mono hb3.size).trans (hb1.mono (Nat.le_trans hb3.size hb2.size)))⟩

set_option maxRecDepth 100000 in
theorem lifted (os : Os) (started : os.Started) (H : Type) (enc : TypeId × Value → H) :
    ReturnsInHanded {} Try.checked os 6 .any (Rows.crcOpensSpec.pre6 enc Try.prog Try.f6 Rows.crcOpensRow.domain false) (Rows.crcOpensSpec.post enc Try.prog Try.f6 false true false false) := by
  refine returnsInHanded_of_change (C := Try.checked) own started (by kernel_rfl) Try.func6
    (ChangeSpec.witness6 (enc := enc) (C := Try.checked) false ⟨#[], #[.string ByteArray.empty], []⟩ 8 (by kernel_rfl) (by kernel_rfl) (by kernel_rfl) (by kernel_rfl)) ?_
  intro W base args ds gs before hval0 hW hcnd _
  have hval : ∀ (j : Nat) t v, Try.f6.params[j]? = some t → args[j]? = some v → Value.okWide Try.prog W .any base t v := hval0
  have hW' := hW
  obtain ⟨p, q, hA0, hV, rfl, hfz, hnd⟩ := hW
  have hA : DataW.TrodAll enc Try.prog W 0 (fun _ => true) true Try.f6.params.toList args.toList ds p := hA0
  rw [Try.params6] at hA hval
  obtain ⟨v0, vs0, d0, ds0, p0, q0, hargs, rfl, rfl, h0, r0⟩ := trodAll_cons hA
  obtain ⟨rfl, rfl, rfl⟩ := trodAll_nil r0
  obtain rfl : args = #[v0] := by cases args; simp_all
  obtain ⟨rfl, rfl⟩ := trodVars_none hV
  obtain ⟨a0, rfl, rfl, rfl, w0⟩ := open_string Try.underlying9 (hval 0 9 v0 rfl rfl) h0
  clear hA0 hval0
  refine (walk a0 W w0).mono fun e W' ⟨he, bel⟩ => ?_
  subst he
  exact ⟨_, rfl, _, _, _, [], _, [], hW', trodAll_mk1 (shut_bool Try.underlying4 _), (trodAll_cons_mk (shut_string Try.underlying9 w0) trodAll_mk0), rfl, bel.frame _, fun h => by cases h⟩

theorem over : Rows.crcOpensRow.holds Try.pinned (OpenSpec.ofChange Rows.crcOpensSpec) :=
  OpenClaim.holds_of_wide 6 Try.f6 rfl rfl rfl rfl rfl rfl rfl ⟨rfl, rfl, rfl, rfl, rfl⟩ rfl rfl rfl rfl rfl (by kernel_rfl) Try.func6 (by kernel_rfl)
    (of_decide_eq_true (by kernel_rfl)) (by unfold Func.isWrapper; first | (rw [if_pos (by decide +kernel)]; kernel_rfl) | (rw [if_neg (by decide +kernel)]; exact ⟨rfl, rfl⟩))
    (fun os started H enc _ => lifted os started H enc)

/-- THE STATEMENT -/
theorem proved : Rows.CrcOpensSaid := over
#print axioms proved
end Go.Proofs.Ytbiphgnbdpojkaa.crcOpens
