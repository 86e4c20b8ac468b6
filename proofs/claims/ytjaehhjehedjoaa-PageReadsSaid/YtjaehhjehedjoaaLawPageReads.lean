/- For every string and every int: where the string has at most 5000 bytes page.Unpack and page.Number answer what the reference finds in it: its error; ErrPage where its number is another one than the int; else its kind and room; and the document's example of layer 8 holds: PageReads answers true.
Conditions: none; every input that can be read is spoken of. -/
import Derived.Test.YtjaehhjehedjoaaRows
import Derived.Test.YtjaehhjehedjoaaBase
import Derived.Test.YtjaehhjehedjoaaPagC
import Derived.Test.YtjaehhjehedjoaaPagB
import Derived.WalkKit
import Derived.ProofKit
import Derived.OpenShut
import Derived.ShutString
import Derived.ChangeOld
import Derived.Below
import Derived.SliceStrings
namespace Go.Proofs.Ytjaehhjehedjoaa.pageReads
open Go.ChangeShapes Go.WideShapes Go.ChangeAt Go.RowKit
open Go.ChangeMaps (open_string shut_string)
set_option linter.unusedVariables false

theorem own : ownKnob Try.prog.godebug = none := by kernel_rfl
theorem laidOut : laidOutB Try.prog = true := by kernel_rfl

theorem walk (a0 : ByteArray) (a1 : Int) (w : World) (w0 : a0.size ≤ maxLen) (w1 : (Lit.int .i64 a1).wf = true) :
    Calls Try.prog 6 #[.string a0, .int .i64 a1] w fun e w' => e = .returned (.bool true) ∧ Below w.heap.size w w' := by
  unfold maxLen at w0
  have b0 := bounds_i64 w1
  by_cases h5 : 5000 < a0.size
  · go_enter Try.func6, Try.ntmps6
    go_wp2_with (go_at_call 10; refine (awake_any _).mono ?_; rintro e w4 ⟨rfl, hb4⟩)
    go_ret
    exact ⟨rfl, hb4⟩
  · have HU := Lib.hid (fun w => unpack_any a0 a1 w (by omega))
    have HN := Lib.hid (fun w => number_any a0 w (by omega))
    have HR := Lib.hid (fun w => runpack_any a0 w (by omega))
    have b1 := hN_le a0
    have b2 := hE_le a0
    have b3 := hK_le a0
    have b4 := hT_le a0
    have e1 : uE a0 a1 = if hE a0 ≠ 0 then hE a0 else if (hN a0 : Int) = a1 then 0 else 13 := rfl
    have e2 : uK a0 a1 = if uE a0 a1 = 0 then hK a0 else 0 := rfl
    have e3 : uT a0 a1 = if uE a0 a1 = 0 then hT a0 else ⟨#[]⟩ := rfl
    generalize uE a0 a1 = UE at *
    generalize uK a0 a1 = UK at *
    generalize uT a0 a1 = UT at *
    generalize hE a0 = E at *
    generalize hN a0 = N at *
    generalize hK a0 = K at *
    generalize hT a0 = T at *
    by_cases c1 : E = 0
    · subst c1
      by_cases c2 : (N : Int) = a1
      · rw [if_neg (by simp), if_pos c2] at e1
        subst e1
        rw [if_pos rfl] at e2 e3
        subst e2 e3
        subst c2
        go_enter Try.func6, Try.ntmps6
        go_wp2_with (first
          | (go_at_call 10; refine (awake_any _).mono ?_; rintro e w4 ⟨rfl, hb4⟩)
          | (go_at_call 11; with_reducible refine (HU.out _).mono ?_; rintro e w2 ⟨rfl, hb2⟩)
          | (go_at_call 12; with_reducible refine (HN.out _).mono ?_; rintro e w1 ⟨rfl, hb1⟩)
          | (go_at_call 14; with_reducible refine (HR.out _).mono ?_; rintro e w3 ⟨rfl, hb3⟩))
        go_ret
        exact ⟨rfl, hb2.trans ((hb1.mono hb2.size).trans ((hb3.mono (Nat.le_trans hb2.size hb1.size)).trans (hb4.mono (Nat.le_trans (Nat.le_trans hb2.size hb1.size) hb3.size))))⟩
      · rw [if_neg (by simp), if_neg c2] at e1
        subst e1
        rw [if_neg (by omega)] at e2 e3
        subst e2 e3
        have g1 : ((N : Int) == a1) = false := by simpa using c2
        clear c2
        go_enter Try.func6, Try.ntmps6
        go_wp2_with (first
          | (go_at_call 10; refine (awake_any _).mono ?_; rintro e w4 ⟨rfl, hb4⟩)
          | (go_at_call 11; with_reducible refine (HU.out _).mono ?_; rintro e w2 ⟨rfl, hb2⟩)
          | (go_at_call 12; with_reducible refine (HN.out _).mono ?_; rintro e w1 ⟨rfl, hb1⟩)
          | (go_at_call 14; with_reducible refine (HR.out _).mono ?_; rintro e w3 ⟨rfl, hb3⟩))
        go_ret
        exact ⟨rfl, hb2.trans ((hb1.mono hb2.size).trans ((hb3.mono (Nat.le_trans hb2.size hb1.size)).trans (hb4.mono (Nat.le_trans (Nat.le_trans hb2.size hb1.size) hb3.size))))⟩
    · rw [if_pos c1] at e1
      subst e1
      rw [if_neg c1] at e2 e3
      subst e2 e3
      have g1 : ((UE : Int) == 0) = false := by simp [c1]
      clear c1
      go_enter Try.func6, Try.ntmps6
      go_wp2_with (first
        | (go_at_call 10; refine (awake_any _).mono ?_; rintro e w4 ⟨rfl, hb4⟩)
        | (go_at_call 11; with_reducible refine (HU.out _).mono ?_; rintro e w2 ⟨rfl, hb2⟩)
        | (go_at_call 12; with_reducible refine (HN.out _).mono ?_; rintro e w1 ⟨rfl, hb1⟩)
        | (go_at_call 14; with_reducible refine (HR.out _).mono ?_; rintro e w3 ⟨rfl, hb3⟩))
      go_ret
      exact ⟨rfl, hb2.trans ((hb1.mono hb2.size).trans ((hb3.mono (Nat.le_trans hb2.size hb1.size)).trans (hb4.mono (Nat.le_trans (Nat.le_trans hb2.size hb1.size) hb3.size))))⟩

set_option maxRecDepth 100000 in
theorem lifted (os : Os) (started : os.Started) (H : Type) (enc : TypeId × Value → H) :
    ReturnsInHanded {} Try.checked os 6 .any (Rows.pageReadsSpec.pre6 enc Try.prog Try.f6 Rows.pageReadsRow.domain false) (Rows.pageReadsSpec.post enc Try.prog Try.f6 false true false false) := by
  refine returnsInHanded_of_change (C := Try.checked) own started (by kernel_rfl) Try.func6
    (ChangeSpec.witness6 (enc := enc) (C := Try.checked) false ⟨#[], #[.string ByteArray.empty, .int .i64 0], []⟩ 8 (by kernel_rfl) (by kernel_rfl) (by kernel_rfl) (by kernel_rfl)) ?_
  intro W base args ds gs before hval0 hW hcnd _
  have hval : ∀ (j : Nat) t v, Try.f6.params[j]? = some t → args[j]? = some v → Value.okWide Try.prog W .any base t v := hval0
  have hW' := hW
  obtain ⟨p, q, hA0, hV, rfl, hfz, hnd⟩ := hW
  have hA : DataW.TrodAll enc Try.prog W 0 (fun _ => true) true Try.f6.params.toList args.toList ds p := hA0
  rw [Try.params6] at hA hval
  obtain ⟨v0, vs0, d0, ds0, p0, q0, hargs, rfl, rfl, h0, r0⟩ := trodAll_cons hA
  obtain ⟨v1, vs1, d1, ds1, p1, q1, rfl, rfl, rfl, h1, r1⟩ := trodAll_cons r0
  obtain ⟨rfl, rfl, rfl⟩ := trodAll_nil r1
  obtain rfl : args = #[v0, v1] := by cases args; simp_all
  obtain ⟨rfl, rfl⟩ := trodVars_none hV
  obtain ⟨a0, rfl, rfl, rfl, w0⟩ := open_string Try.underlying9 (hval 0 9 v0 rfl rfl) h0
  obtain ⟨a1, rfl, rfl, rfl, w1⟩ := open_int Try.underlying3 (hval 1 3 v1 rfl rfl) h1
  clear hA0 hval0
  refine (walk a0 a1 W w0 w1).mono fun e W' ⟨he, bel⟩ => ?_
  subst he
  exact ⟨_, rfl, _, _, _, [], _, [], hW', trodAll_mk1 (shut_bool Try.underlying4 _), (trodAll_cons_mk (shut_string Try.underlying9 w0) (trodAll_cons_mk (shut_int Try.underlying3 w1) trodAll_mk0)), rfl, bel.frame _, fun h => by cases h⟩

theorem over : Rows.pageReadsRow.holds Try.pinned (OpenSpec.ofChange Rows.pageReadsSpec) :=
  OpenClaim.holds_of_wide 6 Try.f6 rfl rfl rfl rfl rfl rfl rfl ⟨rfl, rfl, rfl, rfl, rfl⟩ rfl rfl rfl rfl rfl (by kernel_rfl) Try.func6 (by kernel_rfl)
    (of_decide_eq_true (by kernel_rfl)) (by unfold Func.isWrapper; first | (rw [if_pos (by decide +kernel)]; kernel_rfl) | (rw [if_neg (by decide +kernel)]; exact ⟨rfl, rfl⟩))
    (fun os started H enc _ => lifted os started H enc)

/-- THE STATEMENT -/
theorem proved : Rows.PageReadsSaid := over
#print axioms proved
end Go.Proofs.Ytjaehhjehedjoaa.pageReads
