/- For every two uint64, two strings and a uint8 cut: where both can be put and the numbers differ, the first cut % 65 bytes of the one mark with the rest of the other are no mark (mark.Get answers false), or one of the two; and the document's example of layer 7 holds: MarkTorn answers true.
Conditions: none; every input that can be read is spoken of. -/
import Derived.Test.YtidkdmdfbmjpnaaRows
import Derived.Test.YtidkdmdfbmjpnaaBase
import Derived.Test.YtidkdmdfbmjpnaaMarA
import Derived.BigQuiet
import Derived.Deep.QuietTactic
import Derived.WalkKit
import Derived.ProofKit
import Derived.OpenShut
import Derived.ShutString
import Derived.ChangeOld
import Derived.Below
import Derived.SliceStrings
namespace Go.Proofs.Ytidkdmdfbmjpnaa.markTorn
open Go.ChangeShapes Go.WideShapes Go.ChangeAt Go.RowKit
open Go.ChangeMaps (open_string shut_string)
set_option linter.unusedVariables false

theorem below_drewN {B : Nat} {a w : World} (h : Below B a w) (q : Nat) : Below B a (w.drewN q) := ⟨h.os, h.tape, h.output, h.size, h.block⟩

theorem own : ownKnob Try.prog.godebug = none := by kernel_rfl
theorem laidOut : laidOutB Try.prog = true := by kernel_rfl

theorem walk (a0 : Int) (a1 : Int) (a2 : ByteArray) (a3 : ByteArray) (a4 : Int) (w : World) (w0 : (Lit.int .u64 a0).wf = true) (w1 : (Lit.int .u64 a1).wf = true) (w2 : a2.size ≤ maxLen) (w3 : a3.size ≤ maxLen) (w4 : (Lit.int .u8 a4).wf = true) :
    Calls Try.prog 3 #[.int .u64 a0, .int .u64 a1, .string a2, .string a3, .int .u8 a4] w fun e w' => e = .returned (.bool true) ∧ Below w.heap.size w w' := by
  unfold maxLen at w2 w3
  have b := bounds_u64 w0
  have c := bounds_u64 w1
  have d := bounds_u8 w4
  obtain ⟨m, rfl⟩ := Int.eq_ofNat_of_zero_le b.1
  obtain ⟨n, rfl⟩ := Int.eq_ofNat_of_zero_le c.1
  obtain ⟨q, rfl⟩ := Int.eq_ofNat_of_zero_le d.1
  have puts : ∀ (k : Nat) (t : ByteArray), k ≤ 18446744073709551615 → ∃ (S : ByteArray) (e0 : Int), (e0 = 0 ∧ t.size ≤ 48 ∧ S = mkB k t ∨ e0 = 3 ∧ 48 < t.size) ∧ RowKit.Hid (∀ w : World, Calls Try.prog 7 #[.int .u64 k, .string t] w fun e w' => e = .returned (.tuple #[.string S, .int .i64 e0]) ∧ Below w.heap.size w w') := by
    intro k t hk
    by_cases h : t.size ≤ 48
    · exact ⟨_, 0, .inl ⟨rfl, h, rfl⟩, fun w => mput_yes k t w hk h⟩
    · exact ⟨_, 3, .inr ⟨rfl, by omega⟩, fun w => mput_no k t w hk (by omega)⟩
  obtain ⟨S, e0, hS, HS⟩ := puts m a2 (by omega)
  obtain ⟨T, f0, hT, HT⟩ := puts n a3 (by omega)
  clear puts
  by_cases c1 : e0 = 0 ∧ f0 = 0 ∧ m ≠ n
  · obtain ⟨rfl, rfl, hne⟩ := c1
    have hS1 : a2.size ≤ 48 ∧ S = mkB m a2 := by exact hS.elim (fun h => h.2) (fun h => absurd h.1 (by decide))
    have hT1 : a3.size ≤ 48 ∧ T = mkB n a3 := by exact hT.elim (fun h => h.2) (fun h => absurd h.1 (by decide))
    clear hS hT
    obtain ⟨s1, hS⟩ := hS1
    obtain ⟨t1, hT⟩ := hT1
    have zs := mkB_size m a2 s1
    have zt := mkB_size n a3 t1
    obtain ⟨k, hk⟩ : ∃ k : Nat, q % 65 = k := ⟨_, rfl⟩
    have hk64 : k ≤ 64 := by omega
    have TORN := torn m n a2 a3 k (by omega) (by omega) hne s1 t1 hk64
    have e65 : ((q : Int) % 65) = (k : Int) := by omega
    have hq : ((m : Int) == (n : Int)) = false := by rw [beq_eq_false_iff_ne]; omega
    rw [← hS, ← hT] at TORN
    rw [← hS] at zs
    rw [← hT] at zt
    have zsi : (S.size : Int) = 64 := by omega
    have zti : (T.size : Int) = 64 := by omega
    have zx : (S.extract 0 k).size = k := by rw [ByteArray.size_extract]; omega
    have zy : (T.extract k 64).size = 64 - k := by rw [ByteArray.size_extract]; omega
    obtain ⟨A, hA⟩ : ∃ A, A = S.extract 0 k := ⟨_, rfl⟩
    obtain ⟨B, hB⟩ : ∃ B, B = T.extract k 64 := ⟨_, rfl⟩
    rw [← hA] at TORN zx
    rw [← hB] at TORN zy
    have RA : ∀ w : World, (Instr.slice 9 (.string S) none (some (.int .i64 k)) none).run Try.prog w = .ok (.string A) w := fun w => by
      have h := run_slice_string_h (P := Try.prog) w 9 S Try.underlying9 .i64 (k : Int) (by omega) (by omega)
      rw [h, hA, Int.toNat_natCast]
    have RB : ∀ w : World, (Instr.slice 9 (.string T) (some (.int .i64 k)) none none).run Try.prog w = .ok (.string B) w := fun w => by
      have h := run_slice_string_l (P := Try.prog) w 9 T Try.underlying9 .i64 (k : Int) (by omega) (by omega)
      rw [h, hB, Int.toNat_natCast, zt]
    obtain ⟨U, hU⟩ : ∃ U, U = A ++ B := ⟨_, rfl⟩
    have zu : U.size ≤ 64 := by rw [hU, ByteArray.size_append]; omega
    have HG := Lib.hid (fun w => mget_any U w (by omega))
    rw [← hU] at TORN
    have zA : A.size ≤ 64 := by omega
    have zB : B.size ≤ 64 := by omega
    have hmn := mN_le U
    generalize mN U = N at *
    generalize mT U = X at *
    have hU2 := hU.symm
    clear hU hA hB hS hT zx zy zs zt e65 hne
    have main : ∀ (i t1 t2 : Bool), isM U = i → (U.toList == S.toList) = t1 → (U.toList == T.toList) = t2 → (i = true → t1 = true ∨ t2 = true) → (q : Int) % 65 = k → Calls Try.prog 3 #[.int .u64 m, .int .u64 n, .string a2, .string a3, .int .u8 q] w fun e w' => e = .returned (.bool true) ∧ Below w.heap.size w w' := by
      intro i t1 t2 hi h1 h2 hor e65
      rw [hi] at HG
      clear hi TORN hk
      cases i <;> cases t1 <;> cases t2 <;> (try exact absurd (hor rfl) (by decide))
      all_goals
        clear hor
        go_enter Try.func3, Try.ntmps3
        go_wp2_with (first
          | (go_at_call 7; (first | (with_reducible refine (HS.out _).mono ?_; rintro e w1 ⟨rfl, hb1⟩) | (with_reducible refine (HT.out _).mono ?_; rintro e w2 ⟨rfl, hb2⟩))))
        go_quiet (fail)
        rename_i nq
        have hb2' := below_drewN hb2 nq
        generalize w2.drewN nq = W2 at hb2' ⊢
        go_wp2_with (first
          | (go_at_call 9; with_reducible refine (HG.out _).mono ?_; rintro e w3 ⟨rfl, hb3⟩)
          | (go_at_call 8; refine (awake_any _).mono ?_; rintro e w4 ⟨rfl, hb4⟩))
        go_ret
        exact ⟨rfl, hb1.trans ((hb2'.mono hb1.size).trans ((hb3.mono (Nat.le_trans hb1.size hb2'.size)).trans (hb4.mono (Nat.le_trans hb1.size (Nat.le_trans hb2'.size hb3.size)))))⟩
    refine main _ _ _ rfl rfl rfl (fun hi => ?_) (by omega)
    rcases TORN hi with h | h
    · left; rw [h]; simp
    · right; rw [h]; simp
  · have hm : ∀ (t : Bool), t = ((m : Int) == (n : Int)) → (e0 = 0 → f0 = 0 → t = true) → Calls Try.prog 3 #[.int .u64 m, .int .u64 n, .string a2, .string a3, .int .u8 q] w fun e w' => e = .returned (.bool true) ∧ Below w.heap.size w w' := by
      intro t ht hor
      have ht2 := ht.symm
      clear c1 ht
      rcases hS with ⟨rfl, -⟩ | ⟨rfl, -⟩ <;> rcases hT with ⟨rfl, -⟩ | ⟨rfl, -⟩ <;> cases t <;> (try exact absurd (hor rfl rfl) (by decide))
      all_goals
        clear hor
        go_enter Try.func3, Try.ntmps3
        go_wp2_with (first
          | (go_at_call 7; (first | (with_reducible refine (HS.out _).mono ?_; rintro e w1 ⟨rfl, hb1⟩) | (with_reducible refine (HT.out _).mono ?_; rintro e w2 ⟨rfl, hb2⟩)))
          | (go_at_call 8; refine (awake_any _).mono ?_; rintro e w4 ⟨rfl, hb4⟩))
        go_ret
        exact ⟨rfl, hb1.trans ((hb2.mono hb1.size).trans (hb4.mono (Nat.le_trans hb1.size hb2.size)))⟩
    refine hm _ rfl (fun h0 h1 => ?_)
    have : m = n := by
      by_cases hmn : m = n
      · exact hmn
      · exact absurd ⟨h0, h1, hmn⟩ c1
    rw [this]; simp

set_option maxRecDepth 100000 in
theorem lifted (os : Os) (started : os.Started) (H : Type) (enc : TypeId × Value → H) :
    ReturnsInHanded {} Try.checked os 3 .any (Rows.markTornSpec.pre6 enc Try.prog Try.f3 Rows.markTornRow.domain false) (Rows.markTornSpec.post enc Try.prog Try.f3 false true false false) := by
  refine returnsInHanded_of_change (C := Try.checked) own started (by kernel_rfl) Try.func3
    (ChangeSpec.witness6 (enc := enc) (C := Try.checked) false ⟨#[], #[.int .u64 0, .int .u64 0, .string ByteArray.empty, .string ByteArray.empty, .int .u8 0], []⟩ 8 (by kernel_rfl) (by kernel_rfl) (by kernel_rfl) (by kernel_rfl)) ?_
  intro W base args ds gs before hval0 hW hcnd _
  have hval : ∀ (j : Nat) t v, Try.f3.params[j]? = some t → args[j]? = some v → Value.okWide Try.prog W .any base t v := hval0
  have hW' := hW
  obtain ⟨p, q, hA0, hV, rfl, hfz, hnd⟩ := hW
  have hA : DataW.TrodAll enc Try.prog W 0 (fun _ => true) true Try.f3.params.toList args.toList ds p := hA0
  rw [Try.params3] at hA hval
  obtain ⟨v0, vs0, d0, ds0, p0, q0, hargs, rfl, rfl, h0, r0⟩ := trodAll_cons hA
  obtain ⟨v1, vs1, d1, ds1, p1, q1, rfl, rfl, rfl, h1, r1⟩ := trodAll_cons r0
  obtain ⟨v2, vs2, d2, ds2, p2, q2, rfl, rfl, rfl, h2, r2⟩ := trodAll_cons r1
  obtain ⟨v3, vs3, d3, ds3, p3, q3, rfl, rfl, rfl, h3, r3⟩ := trodAll_cons r2
  obtain ⟨v4, vs4, d4, ds4, p4, q4, rfl, rfl, rfl, h4, r4⟩ := trodAll_cons r3
  obtain ⟨rfl, rfl, rfl⟩ := trodAll_nil r4
  obtain rfl : args = #[v0, v1, v2, v3, v4] := by cases args; simp_all
  obtain ⟨rfl, rfl⟩ := trodVars_none hV
  obtain ⟨a0, rfl, rfl, rfl, w0⟩ := open_int Try.underlying22 (hval 0 22 v0 rfl rfl) h0
  obtain ⟨a1, rfl, rfl, rfl, w1⟩ := open_int Try.underlying22 (hval 1 22 v1 rfl rfl) h1
  obtain ⟨a2, rfl, rfl, rfl, w2⟩ := open_string Try.underlying9 (hval 2 9 v2 rfl rfl) h2
  obtain ⟨a3, rfl, rfl, rfl, w3⟩ := open_string Try.underlying9 (hval 3 9 v3 rfl rfl) h3
  obtain ⟨a4, rfl, rfl, rfl, w4⟩ := open_int Try.underlying5 (hval 4 5 v4 rfl rfl) h4
  clear hA0 hval0
  refine (walk a0 a1 a2 a3 a4 W w0 w1 w2 w3 w4).mono fun e W' ⟨he, bel⟩ => ?_
  subst he
  exact ⟨_, rfl, _, _, _, [], _, [], hW', trodAll_mk1 (shut_bool Try.underlying4 _), (trodAll_cons_mk (shut_int Try.underlying22 w0) (trodAll_cons_mk (shut_int Try.underlying22 w1) (trodAll_cons_mk (shut_string Try.underlying9 w2) (trodAll_cons_mk (shut_string Try.underlying9 w3) (trodAll_cons_mk (shut_int Try.underlying5 w4) trodAll_mk0))))), rfl, bel.frame _, fun h => by cases h⟩

theorem over : Rows.markTornRow.holds Try.pinned (OpenSpec.ofChange Rows.markTornSpec) :=
  OpenClaim.holds_of_wide 3 Try.f3 rfl rfl rfl rfl rfl rfl rfl ⟨rfl, rfl, rfl, rfl, rfl⟩ rfl rfl rfl rfl rfl (by kernel_rfl) Try.func3 (by kernel_rfl)
    (of_decide_eq_true (by kernel_rfl)) (by unfold Func.isWrapper; first | (rw [if_pos (by decide +kernel)]; kernel_rfl) | (rw [if_neg (by decide +kernel)]; exact ⟨rfl, rfl⟩))
    (fun os started H enc _ => lifted os started H enc)

/-- THE STATEMENT -/
theorem proved : Rows.MarkTornSaid := over
#print axioms proved
end Go.Proofs.Ytidkdmdfbmjpnaa.markTorn
