/- For every three ints and every string: where page.Pack refuses it answers nothing; else page.Unpack and page.Number of what it answers give the kind, the number and 496 bytes that begin with the string, and of any other number ErrPage; and the document's example of layer 8 holds: PageBack answers true.
Conditions: none; every input that can be read is spoken of. -/
import Derived.Test.YtjaehhjehedjoaaRows
import Derived.Test.YtjaehhjehedjoaaBase
import Derived.Test.YtjaehhjehedjoaaPagC
import Derived.Test.YtjaehhjehedjoaaArr
import Derived.WalkKit
import Derived.ProofKit
import Derived.OpenShut
import Derived.ShutString
import Derived.ChangeOld
import Derived.Below
import Derived.SliceStrings
namespace Go.Proofs.Ytjaehhjehedjoaa.pageBack
open Go.ChangeShapes Go.WideShapes Go.ChangeAt Go.RowKit
open Go.ChangeMaps (open_string shut_string)
set_option linter.unusedVariables false

theorem ext_first (a b : ByteArray) : (a ++ b).extract 0 a.size = a := ext_left a b

theorem own : ownKnob Try.prog.godebug = none := by kernel_rfl
theorem laidOut : laidOutB Try.prog = true := by kernel_rfl

theorem walk (a0 : Int) (a1 : Int) (a2 : ByteArray) (a3 : Int) (w : World) (w0 : (Lit.int .i64 a0).wf = true) (w1 : (Lit.int .i64 a1).wf = true) (w2 : a2.size ≤ maxLen) (w3 : (Lit.int .i64 a3).wf = true) :
    Calls Try.prog 3 #[.int .i64 a0, .int .i64 a1, .string a2, .int .i64 a3] w fun e w' => e = .returned (.bool true) ∧ Below w.heap.size w w' := by
  unfold maxLen at w2
  have b0 := bounds_i64 w0
  have b1 := bounds_i64 w1
  have b3 := bounds_i64 w3
  have main : ∀ e : Nat, 1 ≤ e → e ≤ 3 → (∀ w : World, Calls Try.prog 9 #[.int .i64 a0, .int .i64 a1, .string a2] w fun r w' => r = .returned (.tuple #[.string ⟨#[]⟩, .int .i64 e]) ∧ Below w.heap.size w w') →
      Calls Try.prog 3 #[.int .i64 a0, .int .i64 a1, .string a2, .int .i64 a3] w fun e w' => e = .returned (.bool true) ∧ Below w.heap.size w w' := by
    intro e he he2 HP
    replace HP := Lib.hid HP
    have g1 : ((e : Int) != 0) = true := by rw [bne_iff_ne]; omega
    go_enter Try.func3, Try.ntmps3
    go_wp2_with (first
      | (go_at_call 10; refine (awake_any _).mono ?_; rintro e w4 ⟨rfl, hb4⟩)
      | (go_at_call 9; with_reducible refine (HP.out _).mono ?_; rintro e w1 ⟨rfl, hb1⟩))
    go_ret
    exact ⟨rfl, hb1.trans (hb4.mono hb1.size)⟩
  by_cases c : badA a0 a1
  · exact main 1 (by omega) (by omega) (fun w => (pack_arg a0 a1 a2 w c).mono (fun _ _ h => ⟨h.1, h.2 ▸ Below.refl _ _⟩))
  · have c2 : 1 ≤ a0 ∧ a0 ≤ 255 ∧ 0 ≤ a1 ∧ a1 ≤ 2147483647 := by unfold badA at c; omega
    obtain ⟨k, rfl⟩ := Int.eq_ofNat_of_zero_le (show 0 ≤ a0 by omega)
    obtain ⟨n, rfl⟩ := Int.eq_ofNat_of_zero_le (show 0 ≤ a1 by omega)
    by_cases c3 : 496 < a2.size
    · exact main 3 (by omega) (by omega) (fun w => (pack_large k n a2 w (by omega) (by omega) (by omega) c3).mono (fun _ _ h => ⟨h.1, h.2 ▸ Below.refl _ _⟩))
    · clear main c
      have hk0 : 1 ≤ k := by omega
      have hk1 : k ≤ 255 := by omega
      have hn1 : n ≤ 2147483647 := by omega
      have ht : a2.size ≤ 496 := by omega
      have HP := Lib.hid (fun w => pack_yes k n a2 w hk0 hk1 hn1 ht)
      have hz := pgB_size k n a2 ht
      have HU := Lib.hid (fun (w : World) (no : Int) => unpack_any (pgB k n a2) no w (by omega))
      have HN := Lib.hid (fun (w : World) => number_any (pgB k n a2) w (by omega))
      have E := pgB_E k n a2 hk0 hk1 hn1 ht
      have eK := pgB_K k n a2 hk0 hk1 hn1 ht
      have eN := pgB_N k n a2 hk0 hk1 hn1 ht
      have eT := pgB_T k n a2 hk0 hk1 hn1 ht
      have e1 : ∀ no, uE (pgB k n a2) no = if (n : Int) = no then 0 else 13 := fun no => by unfold uE; rw [if_neg (by simp [E]), eN]
      have e2 : ∀ no, uK (pgB k n a2) no = if (n : Int) = no then k else 0 := fun no => by unfold uK; rw [e1 no, eK]; by_cases h : (n : Int) = no <;> simp [h]
      have e3 : ∀ no, uT (pgB k n a2) no = if (n : Int) = no then a2 ++ zB (496 - a2.size) else ⟨#[]⟩ := fun no => by unfold uT; rw [e1 no, eT]; by_cases h : (n : Int) = no <;> simp [h]
      have hTz : (a2 ++ zB (496 - a2.size)).size = 496 := by rw [ByteArray.size_append, zB_size]; omega
      have hTe := ext_first a2 (zB (496 - a2.size))
      have HN2 : RowKit.Hid (∀ w : World, Calls Try.prog 12 #[.string (pgB k n a2)] w fun e w' => e = .returned (.tuple #[.int .i64 n, .int .i64 0]) ∧ Below w.heap.size w w') := Lib.hid (fun w => by have := HN.out w; rw [eN, E] at this; exact this)
      have HU1 : RowKit.Hid (∀ w : World, Calls Try.prog 11 #[.string (pgB k n a2), .int .i64 n] w fun e w' => e = .returned (.tuple #[.int .i64 k, .string (a2 ++ zB (496 - a2.size)), .int .i64 0]) ∧ Below w.heap.size w w') := Lib.hid (fun w => by have := HU.out w n; rw [e1, e2, e3, if_pos rfl, if_pos rfl, if_pos rfl] at this; exact this)
      have HU2 : RowKit.Hid (∀ w : World, (n : Int) ≠ a3 → Calls Try.prog 11 #[.string (pgB k n a2), .int .i64 a3] w fun e w' => e = .returned (.tuple #[.int .i64 0, .string ⟨#[]⟩, .int .i64 13]) ∧ Below w.heap.size w w') := Lib.hid (fun w h => by have := HU.out w a3; rw [e1, e2, e3, if_neg h, if_neg h, if_neg h] at this; exact this)
      clear HN HU e1 e2 e3 E eK eN eT w0 w1 b0 b1 c2 c3
      generalize a2 ++ zB (496 - a2.size) = T at *
      generalize pgB k n a2 = M at *
      have z2 : (M.size : Int) = 512 := by omega
      have z3 : (T.size : Int) = 496 := by omega
      have z4 : (a2.size : Int) ≤ T.size := by omega
      have he2 : ((T.extract 0 a2.size).toList == a2.toList) = true := by rw [hTe]; simp
      clear hTe hz hTz
      by_cases hq : (n : Int) = a3
      · subst hq
        go_enter Try.func3, Try.ntmps3
        go_wp2_with (first
          | (go_at_call 10; refine (awake_any _).mono ?_; rintro e w4 ⟨rfl, hb4⟩)
          | (go_at_call 9; with_reducible refine (HP.out _).mono ?_; rintro e w1 ⟨rfl, hb1⟩)
          | (go_at_call 12; with_reducible refine (HN2.out _).mono ?_; rintro e w3 ⟨rfl, hb3⟩; have hb23 := hb2; clear hb2)
          | (go_at_call 11; with_reducible refine (HU1.out _).mono ?_; rintro e w2 ⟨rfl, hb2⟩))
        go_ret
        have x1 := then_ hb1 hb23 hb1.size
        have x2 := then_ x1 hb3 x1.size
        have x3 := then_ x2 hb2 x2.size
        exact ⟨rfl, then_ x3 hb4 x3.size⟩
      · have HU3 := Lib.hid (fun w => HU2.out w hq)
        have g1 : (a3 == (n : Int)) = false := by simp; omega
        clear HU2 hq
        go_enter Try.func3, Try.ntmps3
        go_wp2_with (first
          | (go_at_call 10; refine (awake_any _).mono ?_; rintro e w4 ⟨rfl, hb4⟩)
          | (go_at_call 9; with_reducible refine (HP.out _).mono ?_; rintro e w1 ⟨rfl, hb1⟩)
          | (go_at_call 12; with_reducible refine (HN2.out _).mono ?_; rintro e w3 ⟨rfl, hb3⟩)
          | (go_at_call 11; with_reducible refine (HU1.out _).mono ?_; rintro e w2 ⟨rfl, hb2⟩)
          | (go_at_call 11; with_reducible refine (HU3.out _).mono ?_; rintro e w5 ⟨rfl, hb5⟩))
        go_ret
        have x1 := then_ hb1 hb2 hb1.size
        have x2 := then_ x1 hb3 x1.size
        have x3 := then_ x2 hb5 x2.size
        exact ⟨rfl, then_ x3 hb4 x3.size⟩

set_option maxRecDepth 100000 in
theorem lifted (os : Os) (started : os.Started) (H : Type) (enc : TypeId × Value → H) :
    ReturnsInHanded {} Try.checked os 3 .any (Rows.pageBackSpec.pre6 enc Try.prog Try.f3 Rows.pageBackRow.domain false) (Rows.pageBackSpec.post enc Try.prog Try.f3 false true false false) := by
  refine returnsInHanded_of_change (C := Try.checked) own started (by kernel_rfl) Try.func3
    (ChangeSpec.witness6 (enc := enc) (C := Try.checked) false ⟨#[], #[.int .i64 0, .int .i64 0, .string ByteArray.empty, .int .i64 0], []⟩ 8 (by kernel_rfl) (by kernel_rfl) (by kernel_rfl) (by kernel_rfl)) ?_
  intro W base args ds gs before hval0 hW hcnd _
  have hval : ∀ (j : Nat) t v, Try.f3.params[j]? = some t → args[j]? = some v → Value.okWide Try.prog W .any base t v := hval0
  have hW' := hW
  obtain ⟨p, q, hA0, hV, rfl, hfz, hnd⟩ := hW
  have hA : DataW.TrodAll enc Try.prog W 0 (fun _ => true) true Try.f3.params.toList args.toList ds p := hA0
  rw [Try.params3] at hA hval
  obtain ⟨v0, vs0, d0, ds0, p0, q0, hargs, rfl, rfl, h0, r0⟩ := trodAll_cons hA
  obtain ⟨v1, vs1, d1, ds1, p1, q1, rfl, rfl, rfl, h1, r1⟩ := trodAll_cons r0
  obtain ⟨v2, vs2, d2, ds2, p2, q2, rfl, rfl, rfl, h2, r2⟩ := trodAll_cons r1
  obtain ⟨v3, vs3, d3, ds3, p3, q3, rfl, rfl, rfl, h3, r3⟩ := trodAll_cons r2
  obtain ⟨rfl, rfl, rfl⟩ := trodAll_nil r3
  obtain rfl : args = #[v0, v1, v2, v3] := by cases args; simp_all
  obtain ⟨rfl, rfl⟩ := trodVars_none hV
  obtain ⟨a0, rfl, rfl, rfl, w0⟩ := open_int Try.underlying3 (hval 0 3 v0 rfl rfl) h0
  obtain ⟨a1, rfl, rfl, rfl, w1⟩ := open_int Try.underlying3 (hval 1 3 v1 rfl rfl) h1
  obtain ⟨a2, rfl, rfl, rfl, w2⟩ := open_string Try.underlying9 (hval 2 9 v2 rfl rfl) h2
  obtain ⟨a3, rfl, rfl, rfl, w3⟩ := open_int Try.underlying3 (hval 3 3 v3 rfl rfl) h3
  clear hA0 hval0
  refine (walk a0 a1 a2 a3 W w0 w1 w2 w3).mono fun e W' ⟨he, bel⟩ => ?_
  subst he
  exact ⟨_, rfl, _, _, _, [], _, [], hW', trodAll_mk1 (shut_bool Try.underlying4 _), (trodAll_cons_mk (shut_int Try.underlying3 w0) (trodAll_cons_mk (shut_int Try.underlying3 w1) (trodAll_cons_mk (shut_string Try.underlying9 w2) (trodAll_cons_mk (shut_int Try.underlying3 w3) trodAll_mk0)))), rfl, bel.frame _, fun h => by cases h⟩

theorem over : Rows.pageBackRow.holds Try.pinned (OpenSpec.ofChange Rows.pageBackSpec) :=
  OpenClaim.holds_of_wide 3 Try.f3 rfl rfl rfl rfl rfl rfl rfl ⟨rfl, rfl, rfl, rfl, rfl⟩ rfl rfl rfl rfl rfl (by kernel_rfl) Try.func3 (by kernel_rfl)
    (of_decide_eq_true (by kernel_rfl)) (by unfold Func.isWrapper; first | (rw [if_pos (by decide +kernel)]; kernel_rfl) | (rw [if_neg (by decide +kernel)]; exact ⟨rfl, rfl⟩))
    (fun os started H enc _ => lifted os started H enc)

/-- THE STATEMENT -/
theorem proved : Rows.PageBackSaid := over
#print axioms proved
end Go.Proofs.Ytjaehhjehedjoaa.pageBack
