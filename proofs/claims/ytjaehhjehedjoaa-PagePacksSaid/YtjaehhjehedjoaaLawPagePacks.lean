/- For every two ints and every string: where the string has at most 5000 bytes page.Pack answers what the reference answers, the bytes and the error, and the document's example of layer 8 holds: PagePacks answers true.
Conditions: none; every input that can be read is spoken of. -/
import Derived.Test.YtjaehhjehedjoaaRows
import Derived.Test.YtjaehhjehedjoaaBase
import Derived.Test.YtjaehhjehedjoaaPagC
import Derived.Test.YtjaehhjehedjoaaPagB
import Derived.WalkKit
import Derived.ProofKit
import Derived.OpenShut
import Derived.ShutString
import Derived.ChangeOld
import Derived.Below
import Derived.SliceStrings
namespace Go.Proofs.Ytjaehhjehedjoaa.pagePacks
open Go.ChangeShapes Go.WideShapes Go.ChangeAt Go.RowKit
open Go.ChangeMaps (open_string shut_string)
set_option linter.unusedVariables false

theorem own : ownKnob Try.prog.godebug = none := by kernel_rfl
theorem laidOut : laidOutB Try.prog = true := by kernel_rfl

theorem walk (a0 : Int) (a1 : Int) (a2 : ByteArray) (w : World) (w0 : (Lit.int .i64 a0).wf = true) (w1 : (Lit.int .i64 a1).wf = true) (w2 : a2.size ≤ maxLen) :
    Calls Try.prog 5 #[.int .i64 a0, .int .i64 a1, .string a2] w fun e w' => e = .returned (.bool true) ∧ Below w.heap.size w w' := by
  unfold maxLen at w2
  have b0 := bounds_i64 w0
  have b1 := bounds_i64 w1
  by_cases h5 : 5000 < a2.size
  · go_enter Try.func5, Try.ntmps5
    go_wp2_with (go_at_call 10; refine (awake_any _).mono ?_; rintro e w4 ⟨rfl, hb4⟩)
    go_ret
    exact ⟨rfl, hb4⟩
  · have main : ∀ (s : ByteArray) (e : Nat), e ≤ 3 → (∀ w : World, Calls Try.prog 9 #[.int .i64 a0, .int .i64 a1, .string a2] w fun r w' => r = .returned (.tuple #[.string s, .int .i64 e]) ∧ Below w.heap.size w w') →
        (∀ w : World, Calls Try.prog 13 #[.int .i64 a0, .int .i64 a1, .string a2] w fun r w' => r = .returned (.tuple #[.string s, .int .i64 e]) ∧ Below w.heap.size w w') →
        Calls Try.prog 5 #[.int .i64 a0, .int .i64 a1, .string a2] w fun e w' => e = .returned (.bool true) ∧ Below w.heap.size w w' := by
      intro s e he HP HR
      replace HP := Lib.hid HP
      replace HR := Lib.hid HR
      go_enter Try.func5, Try.ntmps5
      go_wp2_with (first
        | (go_at_call 10; refine (awake_any _).mono ?_; rintro e w4 ⟨rfl, hb4⟩)
        | (go_at_call 9; with_reducible refine (HP.out _).mono ?_; rintro e w1 ⟨rfl, hb1⟩)
        | (go_at_call 13; with_reducible refine (HR.out _).mono ?_; rintro e w3 ⟨rfl, hb3⟩))
      go_ret
      exact ⟨rfl, hb1.trans ((hb3.mono hb1.size).trans (hb4.mono (Nat.le_trans hb1.size hb3.size)))⟩
    by_cases c : badA a0 a1
    · have c2 : (decide (a0 < 1) || decide (255 < a0) || decide (a1 < 0) || decide (2147483647 < a1)) = true := by
        unfold badA at c
        simp only [Bool.or_eq_true, decide_eq_true_eq]
        omega
      exact main ⟨#[]⟩ 1 (by omega) (fun w => (pack_arg a0 a1 a2 w c).mono (fun _ _ h => ⟨h.1, h.2 ▸ Below.refl _ _⟩)) (fun w => (rpack_arg a0 a1 a2 w c2).mono (fun _ _ h => ⟨h.1, h.2 ▸ Below.refl _ _⟩))
    · have c2 : 1 ≤ a0 ∧ a0 ≤ 255 ∧ 0 ≤ a1 ∧ a1 ≤ 2147483647 := by unfold badA at c; omega
      obtain ⟨k, rfl⟩ := Int.eq_ofNat_of_zero_le (show 0 ≤ a0 by omega)
      obtain ⟨n, rfl⟩ := Int.eq_ofNat_of_zero_le (show 0 ≤ a1 by omega)
      by_cases c3 : 496 < a2.size
      · exact main ⟨#[]⟩ 3 (by omega) (fun w => (pack_large k n a2 w (by omega) (by omega) (by omega) c3).mono (fun _ _ h => ⟨h.1, h.2 ▸ Below.refl _ _⟩)) (fun w => (rpack_large k n a2 w (by omega) (by omega) (by omega) c3).mono (fun _ _ h => ⟨h.1, h.2 ▸ Below.refl _ _⟩))
      · exact main (pgB k n a2) 0 (by omega) (fun w => pack_yes k n a2 w (by omega) (by omega) (by omega) (by omega)) (fun w => rpack_yes k n a2 w (by omega) (by omega) (by omega) (by omega))

set_option maxRecDepth 100000 in
theorem lifted (os : Os) (started : os.Started) (H : Type) (enc : TypeId × Value → H) :
    ReturnsInHanded {} Try.checked os 5 .any (Rows.pagePacksSpec.pre6 enc Try.prog Try.f5 Rows.pagePacksRow.domain false) (Rows.pagePacksSpec.post enc Try.prog Try.f5 false true false false) := by
  refine returnsInHanded_of_change (C := Try.checked) own started (by kernel_rfl) Try.func5
    (ChangeSpec.witness6 (enc := enc) (C := Try.checked) false ⟨#[], #[.int .i64 0, .int .i64 0, .string ByteArray.empty], []⟩ 8 (by kernel_rfl) (by kernel_rfl) (by kernel_rfl) (by kernel_rfl)) ?_
  intro W base args ds gs before hval0 hW hcnd _
  have hval : ∀ (j : Nat) t v, Try.f5.params[j]? = some t → args[j]? = some v → Value.okWide Try.prog W .any base t v := hval0
  have hW' := hW
  obtain ⟨p, q, hA0, hV, rfl, hfz, hnd⟩ := hW
  have hA : DataW.TrodAll enc Try.prog W 0 (fun _ => true) true Try.f5.params.toList args.toList ds p := hA0
  rw [Try.params5] at hA hval
  obtain ⟨v0, vs0, d0, ds0, p0, q0, hargs, rfl, rfl, h0, r0⟩ := trodAll_cons hA
  obtain ⟨v1, vs1, d1, ds1, p1, q1, rfl, rfl, rfl, h1, r1⟩ := trodAll_cons r0
  obtain ⟨v2, vs2, d2, ds2, p2, q2, rfl, rfl, rfl, h2, r2⟩ := trodAll_cons r1
  obtain ⟨rfl, rfl, rfl⟩ := trodAll_nil r2
  obtain rfl : args = #[v0, v1, v2] := by cases args; simp_all
  obtain ⟨rfl, rfl⟩ := trodVars_none hV
  obtain ⟨a0, rfl, rfl, rfl, w0⟩ := open_int Try.underlying3 (hval 0 3 v0 rfl rfl) h0
  obtain ⟨a1, rfl, rfl, rfl, w1⟩ := open_int Try.underlying3 (hval 1 3 v1 rfl rfl) h1
  obtain ⟨a2, rfl, rfl, rfl, w2⟩ := open_string Try.underlying9 (hval 2 9 v2 rfl rfl) h2
  clear hA0 hval0
  refine (walk a0 a1 a2 W w0 w1 w2).mono fun e W' ⟨he, bel⟩ => ?_
  subst he
  exact ⟨_, rfl, _, _, _, [], _, [], hW', trodAll_mk1 (shut_bool Try.underlying4 _), (trodAll_cons_mk (shut_int Try.underlying3 w0) (trodAll_cons_mk (shut_int Try.underlying3 w1) (trodAll_cons_mk (shut_string Try.underlying9 w2) trodAll_mk0))), rfl, bel.frame _, fun h => by cases h⟩

theorem over : Rows.pagePacksRow.holds Try.pinned (OpenSpec.ofChange Rows.pagePacksSpec) :=
  OpenClaim.holds_of_wide 5 Try.f5 rfl rfl rfl rfl rfl rfl rfl ⟨rfl, rfl, rfl, rfl, rfl⟩ rfl rfl rfl rfl rfl (by kernel_rfl) Try.func5 (by kernel_rfl)
    (of_decide_eq_true (by kernel_rfl)) (by unfold Func.isWrapper; first | (rw [if_pos (by decide +kernel)]; kernel_rfl) | (rw [if_neg (by decide +kernel)]; exact ⟨rfl, rfl⟩))
    (fun os started H enc _ => lifted os started H enc)

/-- THE STATEMENT -/
theorem proved : Rows.PagePacksSaid := over
#print axioms proved
end Go.Proofs.Ytjaehhjehedjoaa.pagePacks
