
/- The contracts of the seventh reference package (Put, Get), and of the first's Put and Get as far as it calls them. Conditions: the arguments' own ranges; a text of at most 48 bytes for Put. -/
import Derived.Test.YtmincpmkiheofaaMarM
import Derived.Test.YtmincpmkiheofaaArr
import Derived.BigQuiet
import Derived.Deep.QuietTactic
import Derived.Laws.IdiomStrings
import Derived.Below
namespace Go.Proofs.Ytmincpmkiheofaa
open Go.ChangeShapes Go.WideShapes Go.ChangeAt Go.RowKit
set_option linter.unusedVariables false

theorem rget_step (s : ByteArray) (j : Nat) (hj : j < 8) (h : j < s.size) :
    IntKind.u64.wrap ((getN s 0 j : Nat) + IntKind.u64.wrap (IntKind.u64.wrap ((s[j]'h).toNat : Nat) * IntKind.u64.wrap (2 ^ (8 * j)))) = (getN s 0 (j + 1) : Nat) := by
  rw [← bN_of s j h]
  have hb := bN_lt s j
  have ht := getN_top s 0 (j + 1) (by omega)
  have hu : getN s 0 (j + 1) = getN s 0 j + bN s j * 2 ^ (8 * j) := by rw [getN, Nat.zero_add]
  have hp : (2 : Nat) ^ (8 * j) ≤ 2 ^ 56 := Nat.pow_le_pow_right (by omega) (by omega)
  have e0 : (2 : Int) ^ (8 * j) = ((2 ^ (8 * j) : Nat) : Int) := by push_cast; rfl
  rw [e0]
  rw [hu] at ht ⊢
  clear hu e0
  generalize (2 : Nat) ^ (8 * j) = q at *
  generalize bN s j = b at *
  have e1 : IntKind.u64.wrap (b : Int) = b := IntWalk.u64_in _ (by omega)
  have e3 : IntKind.u64.wrap (q : Int) = q := IntWalk.u64_in _ (by omega)
  have e2 : (b : Int) * (q : Int) = ((b * q : Nat) : Int) := by push_cast; rfl
  rw [e1, e3, e2]
  generalize b * q = r at *
  rw [IntWalk.u64_in (r : Int) (by omega), IntWalk.u64_in _ (by omega)]
  omega
theorem rget_power (j : Nat) : IntKind.u64.wrap (IntKind.u64.wrap (2 ^ (8 * j)) * 256) = IntKind.u64.wrap (2 ^ (8 * (j + 1))) := by
  have e : (2 : Int) ^ (8 * (j + 1)) = 2 ^ (8 * j) * 256 := by rw [show 8 * (j + 1) = 8 * j + 8 by omega, Int.pow_add]; rfl
  rw [e]
  generalize (2 : Int) ^ (8 * j) = q
  rw [IntKind.wrap_u64, IntKind.wrap_u64, IntKind.wrap_u64]
  omega

theorem div_step (n j : Nat) : n / 2 ^ (8 * j) / 256 = n / 2 ^ (8 * (j + 1)) := by
  rw [Nat.div_div_eq_div_mul, show 8 * (j + 1) = 8 * j + 8 by omega, Nat.pow_add]
theorem putL_snoc (n j : Nat) : putL n (j + 1) = putL n j ++ [byteAt n j] := by simp [putL, List.range_succ]

theorem rput_any (n k : Nat) (w : World) (hn : n ≤ 18446744073709551615) (hk : k ≤ 8) :
    Calls Try.prog 51 #[.int .u64 n, .int .i64 k] w fun e w' => e = .returned (.string ⟨(putL n k).toArray⟩) ∧ Below w.heap.size w w' := by
  go_enter Try.func51, Try.ntmps51
  go_wp2
  go_loopw [0, 5, 6] (fun x s i wr => ∃ j X : Nat, j ≤ k ∧ i = .int .i64 j ∧ s = .string ⟨(putL n j).toArray⟩ ∧ x = .int .u64 X ∧ X = n / 2 ^ (8 * j) ∧ Below w.heap.size w wr) (fun _ _ i _ => k - (intOf i).toNat)
  case atStart => exact ⟨0, n, by omega, rfl, rfl, rfl, by simp, Below.refl _ _⟩
  case round =>
    obtain ⟨j, X, hj, rfl, rfl, rfl, hX, hg⟩ := hrel
    have hXn : X ≤ 18446744073709551615 := by rw [hX]; exact Nat.le_trans (Nat.div_le_self _ _) hn
    have HX := Lib.hid hX
    clear hX
    by_cases hlt : j < k
    · have hrun : (convert 62 9 (.slice (some ⟨wr.heap.size, 0, none⟩) 1 1)).run Try.prog (wr.alloc (.cells #[.int .u8 ((X : Int) % 256)] 5)) = .ok (.string ⟨[byteAt n j].toArray⟩) (wr.alloc (.cells #[.int .u8 ((X : Int) % 256)] 5)) := by
        exact run_convert_bytes_back (P := Try.prog) (wr.alloc (.cells #[.int .u8 ((X : Int) % 256)] 5)) 62 9 5 ⟨wr.heap.size, 0, none⟩ 1 [byteAt n j] Try.underlying62 Try.underlying5 Try.underlying9
          (fun i hi => by
            have hij : i = 0 := by simpa using hi
            subst hij
            have ea : (⟨wr.heap.size, 0, none⟩ : Addr).add 0 = ⟨wr.heap.size, 0, none⟩ := rfl
            rw [ea, World.cell?_alloc_mark]
            simp [byteAt, HX.out])
      have hlen : (putL n j).length ≤ 8 := by simp [putL]; omega
      go_wp2
      go_roundw
      case rel => exact ⟨j + 1, X / 256, by omega, by go_num, by rw [putL_snoc]; exact congrArg Value.string (ByteArray.ext (by simp)), by go_num, by rw [HX.out, div_step], hg.alloc hg.size _⟩
      case measure => simp [intOf]; omega
    · have hjs : j = k := by omega
      subst hjs
      go_wp2
      go_ret
      exact ⟨rfl, hg⟩

theorem rput7_any (n : Nat) (t : ByteArray) (w : World) (hn : n ≤ 18446744073709551615) (ht : t.size ≤ 48) :
    Calls Try.prog 50 #[.int .u64 n, .string t] w fun e w' => e = .returned (.string (mkB n t)) ∧ Below w.heap.size w w' := by
  have HP := Lib.hid (show ∀ w : World, Calls Try.prog 51 #[.int .u64 n, .int .i64 8] w fun e w' => e = .returned (.string (nB n)) ∧ Below w.heap.size w w' from fun w => rput_any n 8 w hn (by omega))
  have hN := nB_size n
  have HE := Lib.hid (show nB n ++ t ++ zB (48 - t.size) ++ nB n = mkB n t from rfl)
  have HS : ∀ j, (nB n ++ t ++ zB j).size = 8 + t.size + j := fun j => by simp only [ByteArray.size_append, nB_size, zB_size]
  have HZ : ∀ j, nB n ++ t ++ zB j ++ ⟨#[0]⟩ = nB n ++ t ++ zB (j + 1) := fun j => by
    have : zB (j + 1) = zB j ++ ⟨#[0]⟩ := ByteArray.ext (by rw [ByteArray.data_append]; show (List.replicate (j + 1) (0 : UInt8)).toArray = (List.replicate j (0 : UInt8)).toArray ++ #[0]; rw [List.replicate_succ']; exact Array.ext' (by simp))
    rw [this, ByteArray.append_assoc]
  have H0 : nB n ++ t = nB n ++ t ++ zB 0 := by rw [show zB 0 = ByteArray.empty from rfl, ByteArray.append_empty]
  have hN2 : (nB n).size ≤ 8 := by omega
  replace H0 := Lib.hid H0
  replace HZ := Lib.hid HZ
  replace HS := Lib.hid HS
  generalize nB n = NB at *
  obtain ⟨F, hF⟩ : ∃ F : Nat → ByteArray, F = fun j => NB ++ t ++ zB j := ⟨_, rfl⟩
  go_enter Try.func50, Try.ntmps50
  go_wp2_with (go_at_call 51; refine (HP.out _).mono ?_; rintro e w1 ⟨rfl, hb1⟩)
  go_loop [5] (fun s => ∃ j : Nat, j + t.size ≤ 48 ∧ s = .string (NB ++ t ++ zB j)) (fun s => match s with | .string b => 56 - b.size | _ => 0)
  case atStart => exact ⟨0, by omega, by rw [← H0.out]⟩
  case round =>
    obtain ⟨j, hj, rfl⟩ := hrel
    have hz := HS.out j
    have e1 := Lib.hid (HZ.out j)
    have e2 := Lib.hid (HS.out (j + 1))
    obtain ⟨X, hX⟩ : ∃ X, X = NB ++ t ++ zB j := ⟨_, rfl⟩
    rw [← hX] at hz e1 ⊢
    by_cases hlt : j + t.size < 48
    · have hzz : X.size < 56 := by omega
      clear hX
      go_wp2
      go_round
      case rel => exact ⟨j + 1, by omega, by rw [e1.out]⟩
      case measure => simp only []; rw [e1.out, e2.out]; omega
    · have hzz : ¬ X.size < 56 := by omega
      have HQ := Lib.hid (show X ++ NB = mkB n t by rw [hX, ← HE.out, show j = 48 - t.size by omega])
      have hx2 : X.size ≤ 100 := by omega
      clear hX hz
      go_wp2_with (go_at_call 51; refine (HP.out _).mono ?_; rintro e w2 ⟨rfl, hb2⟩)
      go_ret
      exact ⟨rets_eq HQ.out, hb1.trans (hb2.mono hb1.size)⟩
end Go.Proofs.Ytmincpmkiheofaa
