/- For every uint64 and every string: a text of more than 48 bytes isn't put (ErrLarge, nothing); else the mark is the reference's, and mark.Get answers its number, and 48 bytes that begin with the text, true; and the document's example of layer 7 holds: MarkBack answers true.
Conditions: none; every input that can be read is spoken of. -/
import Derived.Test.YtidkdmdfbmjpnaaRows
import Derived.Test.YtidkdmdfbmjpnaaBase
import Derived.Test.YtidkdmdfbmjpnaaMarA
import Derived.Test.YtidkdmdfbmjpnaaMarB
import Derived.WalkKit
import Derived.ProofKit
import Derived.OpenShut
import Derived.ShutString
import Derived.ChangeOld
import Derived.Below
import Derived.SliceStrings
namespace Go.Proofs.Ytidkdmdfbmjpnaa.markBack
open Go.ChangeShapes Go.WideShapes Go.ChangeAt Go.RowKit
open Go.ChangeMaps (open_string shut_string)
set_option linter.unusedVariables false

theorem own : ownKnob Try.prog.godebug = none := by kernel_rfl
theorem laidOut : laidOutB Try.prog = true := by kernel_rfl

theorem walk (a0 : Int) (a1 : ByteArray) (w : World) (w0 : (Lit.int .u64 a0).wf = true) (w1 : a1.size ≤ maxLen) :
    Calls Try.prog 4 #[.int .u64 a0, .string a1] w fun e w' => e = .returned (.bool true) ∧ Below w.heap.size w w' := by
  unfold maxLen at w1
  have b := bounds_u64 w0
  obtain ⟨n, rfl⟩ := Int.eq_ofNat_of_zero_le b.1
  by_cases h1 : 48 < a1.size
  · have HP := Lib.hid (fun w => mput_no n a1 w (by omega) h1)
    go_enter Try.func4, Try.ntmps4
    go_wp2_with (first
      | (go_at_call 8; refine (awake_any _).mono ?_; rintro e w4 ⟨rfl, hb4⟩)
      | (go_at_call 7; with_reducible refine (HP.out _).mono ?_; rintro e w1 ⟨rfl, hb1⟩))
    go_ret
    exact ⟨rfl, hb1.trans (hb4.mono hb1.size)⟩
  · have h2 : a1.size ≤ 48 := by omega
    have HP := Lib.hid (fun w => mput_yes n a1 w (by omega) h2)
    have HR := Lib.hid (fun w => rput7_any n a1 w (by omega) h2)
    have z := mkB_size n a1 h2
    have HG1 : ∀ w : World, Calls Try.prog 9 #[.string (mkB n a1)] w fun e w' => e = .returned (.tuple #[.int .u64 n, .string (a1 ++ zB (48 - a1.size)), .bool true]) ∧ Below w.heap.size w w' := fun w => by
      have := mget_any (mkB n a1) w (by omega)
      rw [mkB_num n _ (by omega) h2, mkB_text n _ h2, mkB_is n _ h2] at this
      exact this
    have hs : (a1 ++ zB (48 - a1.size)).size = 48 := by rw [ByteArray.size_append, zB_size]; omega
    have he : ((a1 ++ zB (48 - a1.size)).extract 0 a1.size).toList = a1.toList := by rw [ext_left a1 _]
    have HG := Lib.hid HG1
    clear HG1 h1 w1
    generalize a1 ++ zB (48 - a1.size) = T at *
    generalize mkB n a1 = M at *
    have z2 : (M.size : Int) = 64 := by omega
    have z3 : (T.size : Int) = 48 := by omega
    have z4 : (a1.size : Int) ≤ T.size := by omega
    have he2 : ((T.extract 0 a1.size).toList == a1.toList) = true := by rw [he]; simp
    clear he
    go_enter Try.func4, Try.ntmps4
    go_wp2_with (first
      | (go_at_call 8; refine (awake_any _).mono ?_; rintro e w4 ⟨rfl, hb4⟩)
      | (go_at_call 7; with_reducible refine (HP.out _).mono ?_; rintro e w1 ⟨rfl, hb1⟩)
      | (go_at_call 10; with_reducible refine (HR.out _).mono ?_; rintro e w3 ⟨rfl, hb3⟩)
      | (go_at_call 9; with_reducible refine (HG.out _).mono ?_; rintro e w2 ⟨rfl, hb2⟩))
    go_ret
    exact ⟨rfl, hb1.trans ((hb2.mono hb1.size).trans ((hb4.mono (Nat.le_trans hb1.size hb2.size)).trans (hb3.mono (Nat.le_trans hb1.size (Nat.le_trans hb2.size hb4.size)))))⟩

set_option maxRecDepth 100000 in
theorem lifted (os : Os) (started : os.Started) (H : Type) (enc : TypeId × Value → H) :
    ReturnsInHanded {} Try.checked os 4 .any (Rows.markBackSpec.pre6 enc Try.prog Try.f4 Rows.markBackRow.domain false) (Rows.markBackSpec.post enc Try.prog Try.f4 false true false false) := by
  refine returnsInHanded_of_change (C := Try.checked) own started (by kernel_rfl) Try.func4
    (ChangeSpec.witness6 (enc := enc) (C := Try.checked) false ⟨#[], #[.int .u64 0, .string ByteArray.empty], []⟩ 8 (by kernel_rfl) (by kernel_rfl) (by kernel_rfl) (by kernel_rfl)) ?_
  intro W base args ds gs before hval0 hW hcnd _
  have hval : ∀ (j : Nat) t v, Try.f4.params[j]? = some t → args[j]? = some v → Value.okWide Try.prog W .any base t v := hval0
  have hW' := hW
  obtain ⟨p, q, hA0, hV, rfl, hfz, hnd⟩ := hW
  have hA : DataW.TrodAll enc Try.prog W 0 (fun _ => true) true Try.f4.params.toList args.toList ds p := hA0
  rw [Try.params4] at hA hval
  obtain ⟨v0, vs0, d0, ds0, p0, q0, hargs, rfl, rfl, h0, r0⟩ := trodAll_cons hA
  obtain ⟨v1, vs1, d1, ds1, p1, q1, rfl, rfl, rfl, h1, r1⟩ := trodAll_cons r0
  obtain ⟨rfl, rfl, rfl⟩ := trodAll_nil r1
  obtain rfl : args = #[v0, v1] := by cases args; simp_all
  obtain ⟨rfl, rfl⟩ := trodVars_none hV
  obtain ⟨a0, rfl, rfl, rfl, w0⟩ := open_int Try.underlying22 (hval 0 22 v0 rfl rfl) h0
  obtain ⟨a1, rfl, rfl, rfl, w1⟩ := open_string Try.underlying9 (hval 1 9 v1 rfl rfl) h1
  clear hA0 hval0
  refine (walk a0 a1 W w0 w1).mono fun e W' ⟨he, bel⟩ => ?_
  subst he
  exact ⟨_, rfl, _, _, _, [], _, [], hW', trodAll_mk1 (shut_bool Try.underlying4 _), (trodAll_cons_mk (shut_int Try.underlying22 w0) (trodAll_cons_mk (shut_string Try.underlying9 w1) trodAll_mk0)), rfl, bel.frame _, fun h => by cases h⟩

theorem over : Rows.markBackRow.holds Try.pinned (OpenSpec.ofChange Rows.markBackSpec) :=
  OpenClaim.holds_of_wide 4 Try.f4 rfl rfl rfl rfl rfl rfl rfl ⟨rfl, rfl, rfl, rfl, rfl⟩ rfl rfl rfl rfl rfl (by kernel_rfl) Try.func4 (by kernel_rfl)
    (of_decide_eq_true (by kernel_rfl)) (by unfold Func.isWrapper; first | (rw [if_pos (by decide +kernel)]; kernel_rfl) | (rw [if_neg (by decide +kernel)]; exact ⟨rfl, rfl⟩))
    (fun os started H enc _ => lifted os started H enc)

/-- THE STATEMENT -/
theorem proved : Rows.MarkBackSaid := over
#print axioms proved
end Go.Proofs.Ytidkdmdfbmjpnaa.markBack
