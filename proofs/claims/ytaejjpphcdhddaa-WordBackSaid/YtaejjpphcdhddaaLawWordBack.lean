/- For every uint64 n, every uint8 size and all strings ahead and behind, what word.Put put (size % 9 bytes of n) between them is got there by word.Get, as far as it fits (word.Cut), and the document's examples of layer 1 hold: WordBack answers true.
Conditions: none; every input that can be read is spoken of. -/
import Derived.Test.YtaejjpphcdhddaaRows
import Derived.Test.YtaejjpphcdhddaaAwake
import Derived.WalkKit
import Derived.ProofKit
import Derived.OpenShut
import Derived.ShutString
namespace Go.Proofs.Ytaejjpphcdhddaa.wordBack
open Go.ChangeShapes Go.WideShapes Go.ChangeAt Go.RowKit
open Go.ChangeMaps (open_string shut_string)
set_option linter.unusedVariables false      -- a walk need not use every 'w<i>' (that an integer argument fits its kind)

theorem putL_length (n k : Nat) : (putL n k).length = k := by simp [putL]
theorem putB_size (n k : Nat) : (⟨(putL n k).toArray⟩ : ByteArray).size = k := by
  show (putL n k).toArray.size = k
  simp [putL]
theorem back_byte (A B : ByteArray) (n k i : Nat) (hi : i < k) : bN (A ++ ⟨(putL n k).toArray⟩ ++ B) (A.size + i) = (byteAt n i).toNat := by
  have hs := putB_size n k
  have hz : A.size + i < (A ++ (⟨(putL n k).toArray⟩ : ByteArray) ++ B).size := by simp only [ByteArray.size_append]; omega
  rw [bN_of _ _ hz]
  congr 1
  rw [ByteArray.getElem_append_left (by simp only [ByteArray.size_append]; omega), ByteArray.getElem_append_right (by omega)]
  simp [putL, ByteArray.getElem_eq_getElem_data]
theorem back_getN (A B : ByteArray) (n k : Nat) : ∀ j, j ≤ k → getN (A ++ ⟨(putL n k).toArray⟩ ++ B) A.size j = n % 2 ^ (8 * j) := by
  intro j
  induction j with
  | zero => intro _; simp [getN, Nat.mod_one]
  | succ j ih =>
    intro hj
    unfold getN
    rw [ih (by omega), back_byte A B n k j (by omega), show 8 * (j + 1) = 8 * j + 8 by omega, Nat.pow_add, Nat.mod_mul]
    unfold byteAt
    rw [UInt8.toNat_ofNat', Nat.mul_comm (_ % 2 ^ 8)]
theorem back_all (n k : Nat) (A B : ByteArray) (hn : n ≤ 18446744073709551615) (hk : k ≤ 8) (hA : A.size ≤ 1000) (hB : B.size ≤ 1000) :
    ∃ (T : ByteArray) (q : Nat), T.size ≤ 8 ∧ T.size = k ∧
      (∀ w : World, Calls Try.prog 11 #[.int .u64 n, .int .i64 k] w fun e w' => e = .returned (.string T) ∧ w' = w.alloc (.cells (putCells n k) 40)) ∧
      (∀ w : World, Calls Try.prog 12 #[.string (A ++ T ++ B), .int .i64 A.size, .int .i64 k] w fun e w' => e = .returned (.tuple #[.int .u64 q, .bool true]) ∧ w = w') ∧
      (∀ w : World, Calls Try.prog 13 #[.int .u64 n, .int .i64 (8 * k)] w fun e w' => e = .returned (.int .u64 q) ∧ w = w') := by
  have hs := putB_size n k
  refine ⟨⟨(putL n k).toArray⟩, n % 2 ^ (8 * k), by omega, hs, fun w => put_yes n k w hn hk, fun w => ?_, fun w => ?_⟩
  · have hz : (A ++ (⟨(putL n k).toArray⟩ : ByteArray) ++ B).size = A.size + k + B.size := by simp only [ByteArray.size_append]; omega
    have h := get_yes (A ++ ⟨(putL n k).toArray⟩ ++ B) A.size k w (by omega) hk (by omega)
    rw [back_getN A B n k k (Nat.le_refl _)] at h
    exact h
  · by_cases h0 : k = 0
    · subst h0
      have h := cut_low (n : Int) (8 * ((0 : Nat) : Int)) w (by omega) (by omega) (by omega)
      simpa [Nat.mod_one] using h
    · by_cases h8 : k = 8
      · subst h8
        have h := cut_high (n : Int) (8 * ((8 : Nat) : Int)) w (by omega) (by omega) (by omega)
        have e : n % 2 ^ (8 * 8) = n := Nat.mod_eq_of_lt (by omega)
        rw [e]; exact h
      · have h := cut_mid (n : Int) (8 * (k : Int)) w (by omega) (by omega) (by omega) (by omega)
        have e : (8 * (k : Int)).toNat = 8 * k := by omega
        rw [e] at h
        have e2 : ((n % 2 ^ (8 * k) : Nat) : Int) = (n : Int) % 2 ^ (8 * k) := by push_cast; rfl
        rw [e2]; exact h

theorem own : ownKnob Try.prog.godebug = none := by kernel_rfl

/-! ### STEP 1: THE WALK: the Go text returns true. 'Grown w w'': the world has at most new blocks (Derived/RowKit3.lean). Part the cases AHEAD of 'go_enter' where a test parts the walk; take each callee by a contract of your own. -/
theorem walk (a0 : Int) (a1 : Int) (a2 : ByteArray) (a3 : ByteArray) (w0 : (Lit.int .u64 a0).wf = true) (w1 : (Lit.int .u8 a1).wf = true) (w2 : a2.size ≤ maxLen) (w3 : a3.size ≤ maxLen) (w : World) :
    Calls Try.prog 3 #[.int .u64 a0, .int .u8 a1, .string a2, .string a3] w fun e w' => e = .returned (.bool true) ∧ Grown w w' := by
  unfold maxLen at w2 w3
  have b := bounds_u64 w0
  have c := bounds_u8 w1
  obtain ⟨n, rfl⟩ := Int.eq_ofNat_of_zero_le b.1
  obtain ⟨m, rfl⟩ := Int.eq_ofNat_of_zero_le c.1
  by_cases h1 : 1000 < a2.size
  · go_enter Try.func3, Try.ntmps3
    go_wp2_with (go_at_call 10; refine (awake_any _).mono ?_; rintro e w' ⟨rfl, rfl⟩)
    go_ret
    exact ⟨rfl, by repeat (first | exact Grown.refl _ | apply Grown.drew | apply Grown.alloc)⟩
  · by_cases h2 : 1000 < a3.size
    · go_enter Try.func3, Try.ntmps3
      go_wp2_with (go_at_call 10; refine (awake_any _).mono ?_; rintro e w' ⟨rfl, rfl⟩)
      go_ret
      exact ⟨rfl, by repeat (first | exact Grown.refl _ | apply Grown.drew | apply Grown.alloc)⟩
    · have g1 : a2.size ≤ 1000 := by omega
      have g2 : a3.size ≤ 1000 := by omega
      clear h1 h2 w2 w3
      obtain ⟨T, q, hT, hTk, FP, FG, FC⟩ := back_all n (m % 9) a2 a3 (by omega) (by omega) g1 g2
      have hTz : ((T.size : Int) == (m : Int) % 9) = true := by rw [hTk]; simp
      have HT := Lib.hid hTk
      clear hTk
      go_enter Try.func3, Try.ntmps3
      go_wp2_with (first
        | (go_at_call 10; refine (awake_any _).mono ?_; rintro e w' ⟨rfl, rfl⟩)
        | (go_at_call 11; refine (FP _).mono ?_; rintro e w' ⟨rfl, rfl⟩)
        | (go_at_call 12; refine (FG _).mono ?_; rintro e w' ⟨rfl, rfl⟩)
        | (go_at_call 13; refine (FC _).mono ?_; rintro e w' ⟨rfl, rfl⟩))
      go_ret
      exact ⟨rfl, by repeat (first | exact Grown.refl _ | apply Grown.drew | apply Grown.alloc)⟩

/-! ### THE ROW's STEP: WRITTEN OUT: LEAVE IT -/
set_option maxRecDepth 100000 in
theorem lifted (os : Os) (started : os.Started) (H : Type) (enc : TypeId × Value → H) :
    ReturnsInHanded {} Try.checked os 3 .any (Rows.wordBackSpec.pre6 enc Try.prog Try.f3 Rows.wordBackRow.domain false) (Rows.wordBackSpec.post enc Try.prog Try.f3 false true false false) := by
  refine returnsInHanded_of_change (C := Try.checked) own started (by kernel_rfl) Try.func3
    (ChangeSpec.witness6 (enc := enc) (C := Try.checked) false ⟨#[], #[.int .u64 0, .int .u8 0, .string ByteArray.empty, .string ByteArray.empty], []⟩ 8 (by kernel_rfl) (by kernel_rfl) (by kernel_rfl) (by kernel_rfl)) ?_
  intro W base args ds gs before hval0 hW hcnd _
  have hval : ∀ (j : Nat) t v, Try.f3.params[j]? = some t → args[j]? = some v → Value.okWide Try.prog W .any base t v := hval0
  have hW' := hW
  obtain ⟨p, q, hA0, hV, rfl, hfz, hnd⟩ := hW
  have hA : DataW.TrodAll enc Try.prog W 0 (fun _ => true) true Try.f3.params.toList args.toList ds p := hA0
  rw [Try.params3] at hA hval
  obtain ⟨v0, vs0, d0, ds0, p0, q0, hargs, rfl, rfl, h0, r0⟩ := trodAll_cons hA
  obtain ⟨v1, vs1, d1, ds1, p1, q1, rfl, rfl, rfl, h1, r1⟩ := trodAll_cons r0
  obtain ⟨v2, vs2, d2, ds2, p2, q2, rfl, rfl, rfl, h2, r2⟩ := trodAll_cons r1
  obtain ⟨v3, vs3, d3, ds3, p3, q3, rfl, rfl, rfl, h3, r3⟩ := trodAll_cons r2
  obtain ⟨rfl, rfl, rfl⟩ := trodAll_nil r3
  obtain rfl : args = #[v0, v1, v2, v3] := by cases args; simp_all
  obtain ⟨rfl, rfl⟩ := trodVars_none hV
  obtain ⟨a0, rfl, rfl, rfl, w0⟩ := open_int Try.underlying22 (hval 0 22 v0 rfl rfl) h0
  obtain ⟨a1, rfl, rfl, rfl, w1⟩ := open_int Try.underlying5 (hval 1 5 v1 rfl rfl) h1
  obtain ⟨a2, rfl, rfl, rfl, w2⟩ := open_string Try.underlying9 (hval 2 9 v2 rfl rfl) h2
  obtain ⟨a3, rfl, rfl, rfl, w3⟩ := open_string Try.underlying9 (hval 3 9 v3 rfl rfl) h3
  clear hA0 hval0
  simp only [List.append_nil] at hW'
  refine (walk a0 a1 a2 a3 w0 w1 w2 w3 W).mono fun e W' ⟨he, hg⟩ => ?_
  subst he
  exact ⟨_, rfl, post_of_same (pa := []) (pv := []) hW' (fun _ _ _ => (trodAll_cons_mk (shut_bool Try.underlying4 _) trodAll_mk0)) (fun sp _ => (trodAll_cons_mk (shut_int Try.underlying22 w0) (trodAll_cons_mk (shut_int Try.underlying5 w1) (trodAll_cons_mk (shut_string Try.underlying9 w2) (trodAll_cons_mk (shut_string Try.underlying9 w3) trodAll_mk0))))) (fun _ _ => rfl) rfl
    (hg.frame _) hg.2.1 (ok_one (by kernel_rfl) rfl (okWide_bool_mk Try.underlying4 _))⟩

theorem over : Rows.wordBackRow.holds Try.pinned (OpenSpec.ofChange Rows.wordBackSpec) :=
  OpenClaim.holds_of_wide 3 Try.f3 rfl rfl rfl rfl rfl rfl rfl ⟨rfl, rfl, rfl, rfl, rfl⟩ rfl rfl rfl rfl rfl (by kernel_rfl) Try.func3 (by kernel_rfl)
    (of_decide_eq_true (by kernel_rfl)) (by unfold Func.isWrapper; first | (rw [if_pos (by decide +kernel)]; kernel_rfl) | (rw [if_neg (by decide +kernel)]; exact ⟨rfl, rfl⟩))
    (fun os started H enc _ => lifted os started H enc)

/-- THE STATEMENT -/
theorem proved : Rows.WordBackSaid :=
  over
#print axioms proved
end Go.Proofs.Ytaejjpphcdhddaa.wordBack
