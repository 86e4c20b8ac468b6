/- For every string of at most 5000 bytes: page.Cut answers nothing where it hasn't 512 bytes, else eight sectors of 64 bytes of which it is put together; and the document's example of layer 8 holds: PageCuts answers true.
Conditions: none; every input that can be read is spoken of. -/
import Derived.Test.YtjaehhjehedjoaaRows
import Derived.Test.YtjaehhjehedjoaaBase
import Derived.Test.YtjaehhjehedjoaaPagD
import Derived.WalkKit
import Derived.ProofKit
import Derived.OpenShut
import Derived.ShutString
import Derived.ChangeOld
import Derived.Below
import Derived.SliceStrings
namespace Go.Proofs.Ytjaehhjehedjoaa.pageCuts
open Go.ChangeShapes Go.WideShapes Go.ChangeAt Go.RowKit
open Go.ChangeMaps (open_string shut_string)
set_option linter.unusedVariables false

theorem cut_step (s : ByteArray) (k : Nat) (h : s.size = 512) (hk : k < 8) : s.extract 0 (k * 64) ++ secB s k = s.extract 0 ((k + 1) * 64) := by
  apply ba_ext'
  unfold secB
  rw [app_list, extract_list, extract_list, extract_list, List.drop_zero, Nat.sub_zero, Nat.sub_zero, show (k + 1) * 64 - k * 64 = 64 by omega, show (k + 1) * 64 = k * 64 + 64 by omega, List.take_add]
theorem cut_zero (s : ByteArray) : (⟨#[]⟩ : ByteArray) = s.extract 0 (0 * 64) := by
  apply ba_ext'
  rw [extract_list]; simp
theorem cut_all (s : ByteArray) (h : s.size = 512) : s.extract 0 (8 * 64) = s := by
  apply ba_ext'
  rw [extract_list, List.drop_zero, List.take_of_length_le]
  rw [len_list]; omega

theorem own : ownKnob Try.prog.godebug = none := by kernel_rfl
theorem laidOut : laidOutB Try.prog = true := by kernel_rfl

theorem walk (a0 : ByteArray) (w : World) (w0 : a0.size ≤ maxLen) :
    Calls Try.prog 7 #[.string a0] w fun e w' => e = .returned (.bool true) ∧ Below w.heap.size w w' := by
  unfold maxLen at w0
  by_cases h5 : 5000 < a0.size
  · go_enter Try.func7, Try.ntmps7
    go_wp2_with (go_at_call 10; refine (awake_any _).mono ?_; rintro e w4 ⟨rfl, hb4⟩)
    go_ret
    exact ⟨rfl, hb4⟩
  · by_cases h1 : a0.size = 512
    · have h3 : ((a0.size : Int) != 512) = false := by simp; omega
      have HC := Lib.hid (cut_yes a0 w h1)
      have HZ := Lib.hid h1
      have h6 : decide ((5000 : Int) < (a0.size : Int)) = false := by simp; omega
      clear h1 h5 w0
      go_enter Try.func7, Try.ntmps7
      go_wp2_with (go_at_call 15; refine HC.out.mono ?_; rintro e w1 ⟨rfl, hO, hb1⟩)
      go_loop [4, 5] (fun t i => ∃ k : Nat, k ≤ 8 ∧ i = .int .i64 k ∧ t = .string (a0.extract 0 (k * 64))) (fun _ i => 8 - (intOf i).toNat)
      case atStart => exact ⟨0, by omega, rfl, by rw [← cut_zero]⟩
      case round =>
        obtain ⟨k, hk, rfl, rfl⟩ := hrel
        by_cases hlt : k < 8
        · have hc := (hO.at_.1 k).trans (cutC_get a0 8 k hlt)
          unfold cutV at hc
          rw [if_pos hlt] at hc
          have hz := secB_size a0 k HZ.out hlt
          have hst := Lib.hid (cut_step a0 k HZ.out hlt)
          have hx : (a0.extract 0 (k * 64)).size = k * 64 := by rw [ByteArray.size_extract]; have := HZ.out; omega
          have hz2 : ((secB a0 k).size : Int) = 64 := by omega
          have hx2 : (a0.extract 0 (k * 64)).size ≤ 512 := by omega
          have hz3 : (secB a0 k).size ≤ 64 := by omega
          clear hz hx
          obtain ⟨X, hX⟩ : ∃ X, X = a0.extract 0 (k * 64) := ⟨_, rfl⟩
          obtain ⟨Y, hY⟩ : ∃ Y, Y = secB a0 k := ⟨_, rfl⟩
          rw [← hX, ← hY] at hst
          rw [← hX] at hx2 ⊢
          rw [← hY] at hc hz2 hz3
          replace hO := Lib.hid hO
          clear hX hY
          go_wp2
          go_round
          case rel => exact ⟨k + 1, by omega, by go_num, by rw [hst.out]⟩
          case measure => simp [intOf]; omega
        · obtain rfl : k = 8 := by omega
          rw [cut_all a0 HZ.out]
          go_wp2_with (go_at_call 10; refine (awake_any _).mono ?_; rintro e w4 ⟨rfl, hb4⟩)
          go_ret
          exact ⟨rfl, hb1.trans (hb4.mono hb1.size)⟩
    · have h3 : ((a0.size : Int) != 512) = true := by rw [bne_iff_ne]; omega
      have HC := Lib.hid (cut_no a0 w h1)
      clear h1
      go_enter Try.func7, Try.ntmps7
      go_wp2_with (first
        | (go_at_call 10; refine (awake_any _).mono ?_; rintro e w4 ⟨rfl, hb4⟩)
        | (go_at_call 15; refine HC.out.mono ?_; rintro e w1 ⟨rfl, rfl⟩))
      go_ret
      exact ⟨rfl, hb4⟩

set_option maxRecDepth 100000 in
theorem lifted (os : Os) (started : os.Started) (H : Type) (enc : TypeId × Value → H) :
    ReturnsInHanded {} Try.checked os 7 .any (Rows.pageCutsSpec.pre6 enc Try.prog Try.f7 Rows.pageCutsRow.domain false) (Rows.pageCutsSpec.post enc Try.prog Try.f7 false true false false) := by
  refine returnsInHanded_of_change (C := Try.checked) own started (by kernel_rfl) Try.func7
    (ChangeSpec.witness6 (enc := enc) (C := Try.checked) false ⟨#[], #[.string ByteArray.empty], []⟩ 8 (by kernel_rfl) (by kernel_rfl) (by kernel_rfl) (by kernel_rfl)) ?_
  intro W base args ds gs before hval0 hW hcnd _
  have hval : ∀ (j : Nat) t v, Try.f7.params[j]? = some t → args[j]? = some v → Value.okWide Try.prog W .any base t v := hval0
  have hW' := hW
  obtain ⟨p, q, hA0, hV, rfl, hfz, hnd⟩ := hW
  have hA : DataW.TrodAll enc Try.prog W 0 (fun _ => true) true Try.f7.params.toList args.toList ds p := hA0
  rw [Try.params7] at hA hval
  obtain ⟨v0, vs0, d0, ds0, p0, q0, hargs, rfl, rfl, h0, r0⟩ := trodAll_cons hA
  obtain ⟨rfl, rfl, rfl⟩ := trodAll_nil r0
  obtain rfl : args = #[v0] := by cases args; simp_all
  obtain ⟨rfl, rfl⟩ := trodVars_none hV
  obtain ⟨a0, rfl, rfl, rfl, w0⟩ := open_string Try.underlying9 (hval 0 9 v0 rfl rfl) h0
  clear hA0 hval0
  refine (walk a0 W w0).mono fun e W' ⟨he, bel⟩ => ?_
  subst he
  exact ⟨_, rfl, _, _, _, [], _, [], hW', trodAll_mk1 (shut_bool Try.underlying4 _), (trodAll_cons_mk (shut_string Try.underlying9 w0) trodAll_mk0), rfl, bel.frame _, fun h => by cases h⟩

theorem over : Rows.pageCutsRow.holds Try.pinned (OpenSpec.ofChange Rows.pageCutsSpec) :=
  OpenClaim.holds_of_wide 7 Try.f7 rfl rfl rfl rfl rfl rfl rfl ⟨rfl, rfl, rfl, rfl, rfl⟩ rfl rfl rfl rfl rfl (by kernel_rfl) Try.func7 (by kernel_rfl)
    (of_decide_eq_true (by kernel_rfl)) (by unfold Func.isWrapper; first | (rw [if_pos (by decide +kernel)]; kernel_rfl) | (rw [if_neg (by decide +kernel)]; exact ⟨rfl, rfl⟩))
    (fun os started H enc _ => lifted os started H enc)

/-- THE STATEMENT -/
theorem proved : Rows.PageCutsSaid := over
#print axioms proved
end Go.Proofs.Ytjaehhjehedjoaa.pageCuts
