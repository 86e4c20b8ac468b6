
/- The contracts of the seventh reference package (Put, Get), and of the first's Put and Get as far as it calls them. Conditions: the arguments' own ranges; a text of at most 48 bytes for Put. -/
import Derived.Test.YteepggjbgdjchaaDoorMarM
import Derived.Test.YteepggjbgdjchaaDoorArr
import Derived.BigQuiet
import Derived.Deep.QuietTactic
import Derived.Laws.IdiomStrings
import Derived.Below
namespace Go.Proofs.YteepggjbgdjchaaDoor
open Go.ChangeShapes Go.WideShapes Go.ChangeAt Go.RowKit
set_option linter.unusedVariables false

theorem rget_step (s : ByteArray) (j : Nat) (hj : j < 8) (h : j < s.size) :
    IntKind.u64.wrap ((getN s 0 j : Nat) + IntKind.u64.wrap (IntKind.u64.wrap ((s[j]'h).toNat : Nat) * IntKind.u64.wrap (2 ^ (8 * j)))) = (getN s 0 (j + 1) : Nat) := by
  rw [← bN_of s j h]
  have hb := bN_lt s j
  have ht := getN_top s 0 (j + 1) (by omega)
  have hu : getN s 0 (j + 1) = getN s 0 j + bN s j * 2 ^ (8 * j) := by rw [getN, Nat.zero_add]
  have hp : (2 : Nat) ^ (8 * j) ≤ 2 ^ 56 := Nat.pow_le_pow_right (by omega) (by omega)
  have e0 : (2 : Int) ^ (8 * j) = ((2 ^ (8 * j) : Nat) : Int) := by push_cast; rfl
  rw [e0]
  rw [hu] at ht ⊢
  clear hu e0
  generalize (2 : Nat) ^ (8 * j) = q at *
  generalize bN s j = b at *
  have e1 : IntKind.u64.wrap (b : Int) = b := IntWalk.u64_in _ (by omega)
  have e3 : IntKind.u64.wrap (q : Int) = q := IntWalk.u64_in _ (by omega)
  have e2 : (b : Int) * (q : Int) = ((b * q : Nat) : Int) := by push_cast; rfl
  rw [e1, e3, e2]
  generalize b * q = r at *
  rw [IntWalk.u64_in (r : Int) (by omega), IntWalk.u64_in _ (by omega)]
  omega
theorem rget_power (j : Nat) : IntKind.u64.wrap (IntKind.u64.wrap (2 ^ (8 * j)) * 256) = IntKind.u64.wrap (2 ^ (8 * (j + 1))) := by
  have e : (2 : Int) ^ (8 * (j + 1)) = 2 ^ (8 * j) * 256 := by rw [show 8 * (j + 1) = 8 * j + 8 by omega, Int.pow_add]; rfl
  rw [e]
  generalize (2 : Int) ^ (8 * j) = q
  rw [IntKind.wrap_u64, IntKind.wrap_u64, IntKind.wrap_u64]
  omega

theorem rget_any (s : ByteArray) (w : World) (hs : s.size ≤ 8) :
    Calls Tryd.prog 33 #[.string s] w fun e w' => e = .returned (.int .u64 (getN s 0 s.size)) ∧ w = w' := by
  go_enter Tryd.func33, Tryd.ntmps33
  go_wp2
  go_loop [3, 4, 5] (fun n p i => ∃ j : Nat, j ≤ s.size ∧ i = .int .i64 j ∧ n = .int .u64 (getN s 0 j) ∧ p = .int .u64 (IntKind.u64.wrap (2 ^ (8 * j)))) (fun _ _ i => s.size - (intOf i).toNat)
  case atStart => exact ⟨0, by omega, rfl, rfl, rfl⟩
  case round =>
    obtain ⟨j, hj, rfl, rfl, rfl⟩ := hrel
    by_cases hlt : j < s.size
    · have H := Lib.hid (rget_step s j (by omega) hlt)
      have HP := Lib.hid (rget_power j)
      go_wp2
      go_round
      case rel => exact ⟨j + 1, by omega, by go_num, by rw [H.out], by rw [HP.out]⟩
      case measure => simp [intOf]; omega
    · have hjs : j = s.size := by omega
      subst hjs
      go_wp2
      go_ret
      exact ⟨rfl, rfl⟩

theorem div_step (n j : Nat) : n / 2 ^ (8 * j) / 256 = n / 2 ^ (8 * (j + 1)) := by
  rw [Nat.div_div_eq_div_mul, show 8 * (j + 1) = 8 * j + 8 by omega, Nat.pow_add]
theorem putL_snoc (n j : Nat) : putL n (j + 1) = putL n j ++ [byteAt n j] := by simp [putL, List.range_succ]

theorem rput_any (n k : Nat) (w : World) (hn : n ≤ 18446744073709551615) (hk : k ≤ 8) :
    Calls Tryd.prog 32 #[.int .u64 n, .int .i64 k] w fun e w' => e = .returned (.string ⟨(putL n k).toArray⟩) ∧ Below w.heap.size w w' := by
  go_enter Tryd.func32, Tryd.ntmps32
  go_wp2
  go_loopw [0, 5, 6] (fun x s i wr => ∃ j X : Nat, j ≤ k ∧ i = .int .i64 j ∧ s = .string ⟨(putL n j).toArray⟩ ∧ x = .int .u64 X ∧ X = n / 2 ^ (8 * j) ∧ Below w.heap.size w wr) (fun _ _ i _ => k - (intOf i).toNat)
  case atStart => exact ⟨0, n, by omega, rfl, rfl, rfl, by simp, Below.refl _ _⟩
  case round =>
    obtain ⟨j, X, hj, rfl, rfl, rfl, hX, hg⟩ := hrel
    have hXn : X ≤ 18446744073709551615 := by rw [hX]; exact Nat.le_trans (Nat.div_le_self _ _) hn
    have HX := Lib.hid hX
    clear hX
    by_cases hlt : j < k
    · have hrun : (convert 66 9 (.slice (some ⟨wr.heap.size, 0, none⟩) 1 1)).run Tryd.prog (wr.alloc (.cells #[.int .u8 ((X : Int) % 256)] 5)) = .ok (.string ⟨[byteAt n j].toArray⟩) (wr.alloc (.cells #[.int .u8 ((X : Int) % 256)] 5)) := by
        exact run_convert_bytes_back (P := Tryd.prog) (wr.alloc (.cells #[.int .u8 ((X : Int) % 256)] 5)) 66 9 5 ⟨wr.heap.size, 0, none⟩ 1 [byteAt n j] Tryd.underlying66 Tryd.underlying5 Tryd.underlying9
          (fun i hi => by
            have hij : i = 0 := by simpa using hi
            subst hij
            have ea : (⟨wr.heap.size, 0, none⟩ : Addr).add 0 = ⟨wr.heap.size, 0, none⟩ := rfl
            rw [ea, World.cell?_alloc_mark]
            simp [byteAt, HX.out])
      have hlen : (putL n j).length ≤ 8 := by simp [putL]; omega
      go_wp2
      go_roundw
      case rel => exact ⟨j + 1, X / 256, by omega, by go_num, by rw [putL_snoc]; exact congrArg Value.string (ByteArray.ext (by simp)), by go_num, by rw [HX.out, div_step], hg.alloc hg.size _⟩
      case measure => simp [intOf]; omega
    · have hjs : j = k := by omega
      subst hjs
      go_wp2
      go_ret
      exact ⟨rfl, hg⟩

end Go.Proofs.YteepggjbgdjchaaDoor
