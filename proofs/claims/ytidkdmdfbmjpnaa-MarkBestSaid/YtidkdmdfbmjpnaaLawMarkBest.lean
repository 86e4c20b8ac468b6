/- For every two strings mark.Best answers the number and the text of the one that is a mark, of two marks of the one with the greater number (the first where both have the same), and which it is, or 0, nothing, -1 where neither is a mark, by the reference's Get; and the document's example of layer 7 holds: MarkBest answers true.
Conditions: none; every input that can be read is spoken of. -/
import Derived.Test.YtidkdmdfbmjpnaaRows
import Derived.Test.YtidkdmdfbmjpnaaBase
import Derived.Test.YtidkdmdfbmjpnaaMarA
import Derived.Test.YtidkdmdfbmjpnaaMarB
import Derived.WalkKit
import Derived.ProofKit
import Derived.OpenShut
import Derived.ShutString
import Derived.ChangeOld
import Derived.Below
import Derived.SliceStrings
namespace Go.Proofs.Ytidkdmdfbmjpnaa.markBest
open Go.ChangeShapes Go.WideShapes Go.ChangeAt Go.RowKit
open Go.ChangeMaps (open_string shut_string)
set_option linter.unusedVariables false

theorem own : ownKnob Try.prog.godebug = none := by kernel_rfl
theorem laidOut : laidOutB Try.prog = true := by kernel_rfl

theorem walk (a0 : ByteArray) (a1 : ByteArray) (w : World) (w0 : a0.size ≤ maxLen) (w1 : a1.size ≤ maxLen) :
    Calls Try.prog 6 #[.string a0, .string a1] w fun e w' => e = .returned (.bool true) ∧ Below w.heap.size w w' := by
  unfold maxLen at w0 w1
  have HM := Lib.hid (fun w => best_any a0 a1 w (by omega) (by omega))
  have HR := Lib.hid (fun w => rget7_any a0 w (by omega))
  have HS := Lib.hid (fun w => rget7_any a1 w (by omega))
  have hm0 := mN_le a0
  have hm1 := mN_le a1
  have E := show (bN_ a0 a1, bT a0 a1, bK a0 a1) = (if isM a0 && (!isM a1 || decide (mN a1 ≤ mN a0)) then (mN a0, mT a0, 0) else if isM a1 then (mN a1, mT a1, 1) else (0, ⟨#[]⟩, -1)) by
    unfold bN_ bT bK
    by_cases c : mN a1 ≤ mN a0 <;> cases isM a0 <;> cases isM a1 <;> simp [c]
  generalize bN_ a0 a1 = rn at *
  generalize bT a0 a1 = rt at *
  generalize bK a0 a1 = rk at *
  generalize mN a0 = na at *
  generalize mN a1 = nb at *
  generalize mT a0 = ta at *
  generalize mT a1 = tb at *
  generalize isM a0 = ia at *
  generalize isM a1 = ib at *
  have main : ∀ (t : Bool), t = decide (nb ≤ na) → Calls Try.prog 6 #[.string a0, .string a1] w fun e w' => e = .returned (.bool true) ∧ Below w.heap.size w w' := by
    intro t ht
    rw [← ht] at E
    have ht' := ht.symm
    clear ht
    cases ia <;> cases ib <;> cases t <;> simp only [Bool.not_true, Bool.not_false, Bool.or_true, Bool.or_false, Bool.and_true, Bool.and_false, if_true, if_false, Bool.false_eq_true, Prod.mk.injEq] at E
    all_goals
      obtain ⟨rfl, rfl, rfl⟩ := E
      go_enter Try.func6, Try.ntmps6
      go_wp2_with (first
        | (go_at_call 8; refine (awake_any _).mono ?_; rintro e w4 ⟨rfl, hb4⟩)
        | (go_at_call 12; with_reducible refine (HM.out _).mono ?_; rintro e w1 ⟨rfl, hb1⟩)
        | (go_at_call 11; (first | (with_reducible refine (HR.out _).mono ?_; rintro e w2 ⟨rfl, hb2⟩) | (with_reducible refine (HS.out _).mono ?_; rintro e w3 ⟨rfl, hb3⟩))))
      go_ret
      exact ⟨rfl, hb1.trans ((hb2.mono hb1.size).trans ((hb3.mono (Nat.le_trans hb1.size hb2.size)).trans (hb4.mono (Nat.le_trans hb1.size (Nat.le_trans hb2.size hb3.size)))))⟩
  exact main _ rfl

set_option maxRecDepth 100000 in
theorem lifted (os : Os) (started : os.Started) (H : Type) (enc : TypeId × Value → H) :
    ReturnsInHanded {} Try.checked os 6 .any (Rows.markBestSpec.pre6 enc Try.prog Try.f6 Rows.markBestRow.domain false) (Rows.markBestSpec.post enc Try.prog Try.f6 false true false false) := by
  refine returnsInHanded_of_change (C := Try.checked) own started (by kernel_rfl) Try.func6
    (ChangeSpec.witness6 (enc := enc) (C := Try.checked) false ⟨#[], #[.string ByteArray.empty, .string ByteArray.empty], []⟩ 8 (by kernel_rfl) (by kernel_rfl) (by kernel_rfl) (by kernel_rfl)) ?_
  intro W base args ds gs before hval0 hW hcnd _
  have hval : ∀ (j : Nat) t v, Try.f6.params[j]? = some t → args[j]? = some v → Value.okWide Try.prog W .any base t v := hval0
  have hW' := hW
  obtain ⟨p, q, hA0, hV, rfl, hfz, hnd⟩ := hW
  have hA : DataW.TrodAll enc Try.prog W 0 (fun _ => true) true Try.f6.params.toList args.toList ds p := hA0
  rw [Try.params6] at hA hval
  obtain ⟨v0, vs0, d0, ds0, p0, q0, hargs, rfl, rfl, h0, r0⟩ := trodAll_cons hA
  obtain ⟨v1, vs1, d1, ds1, p1, q1, rfl, rfl, rfl, h1, r1⟩ := trodAll_cons r0
  obtain ⟨rfl, rfl, rfl⟩ := trodAll_nil r1
  obtain rfl : args = #[v0, v1] := by cases args; simp_all
  obtain ⟨rfl, rfl⟩ := trodVars_none hV
  obtain ⟨a0, rfl, rfl, rfl, w0⟩ := open_string Try.underlying9 (hval 0 9 v0 rfl rfl) h0
  obtain ⟨a1, rfl, rfl, rfl, w1⟩ := open_string Try.underlying9 (hval 1 9 v1 rfl rfl) h1
  clear hA0 hval0
  refine (walk a0 a1 W w0 w1).mono fun e W' ⟨he, bel⟩ => ?_
  subst he
  exact ⟨_, rfl, _, _, _, [], _, [], hW', trodAll_mk1 (shut_bool Try.underlying4 _), (trodAll_cons_mk (shut_string Try.underlying9 w0) (trodAll_cons_mk (shut_string Try.underlying9 w1) trodAll_mk0)), rfl, bel.frame _, fun h => by cases h⟩

theorem over : Rows.markBestRow.holds Try.pinned (OpenSpec.ofChange Rows.markBestSpec) :=
  OpenClaim.holds_of_wide 6 Try.f6 rfl rfl rfl rfl rfl rfl rfl ⟨rfl, rfl, rfl, rfl, rfl⟩ rfl rfl rfl rfl rfl (by kernel_rfl) Try.func6 (by kernel_rfl)
    (of_decide_eq_true (by kernel_rfl)) (by unfold Func.isWrapper; first | (rw [if_pos (by decide +kernel)]; kernel_rfl) | (rw [if_neg (by decide +kernel)]; exact ⟨rfl, rfl⟩))
    (fun os started H enc _ => lifted os started H enc)

/-- THE STATEMENT -/
theorem proved : Rows.MarkBestSaid := over
#print axioms proved
end Go.Proofs.Ytidkdmdfbmjpnaa.markBest
