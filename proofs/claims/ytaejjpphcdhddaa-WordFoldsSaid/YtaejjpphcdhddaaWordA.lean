/- The plain contracts of the functions of package word that only compute, and of the plain functions of the first reference package. No condition but the arguments' own ranges. -/
import Derived.Test.YtaejjpphcdhddaaRows
import Derived.Test.YtaejjpphcdhddaaShelf
import Derived.Test.YtaejjpphcdhddaaMathW
import Derived.WalkKit
import Derived.ProofKit
import Derived.OpenShut
import Derived.Lib.Hide
import Derived.PlainAid
namespace Go.Proofs.Ytaejjpphcdhddaa
open Go.ChangeShapes Go.WideShapes Go.ChangeAt Go.RowKit
set_option linter.unusedVariables false

theorem ret_eq {k : IntKind} {a b : Int} (h : a = b) : Ending.returned (.int k a) = .returned (.int k b) := by rw [h]
theorem retb_eq {a b : Bool} (h : a = b) : Ending.returned (.bool a) = .returned (.bool b) := by rw [h]

theorem isSize_yes (x : Int) (w : World) (h0 : 0 ≤ x) (h1 : x ≤ 8) :
    Calls Try.prog 24 #[.int .i64 x] w fun e w' => e = .returned (.bool true) ∧ w = w' := by
  go_enter Try.func24, Try.ntmps24
  go_wp2
  go_ret
  exact ⟨rfl, rfl⟩

theorem isSize_no (x : Int) (w : World) (h0 : x < 0 ∨ 8 < x) :
    Calls Try.prog 24 #[.int .i64 x] w fun e w' => e = .returned (.bool false) ∧ w = w' := by
  rcases h0 with h | h
  · go_enter Try.func24, Try.ntmps24
    go_wp2
    go_ret
    exact ⟨rfl, rfl⟩
  · have h0 : 0 ≤ x := by omega
    have h8 : decide (x ≤ 8) = false := by simpa using h
    go_enter Try.func24, Try.ntmps24
    go_wp2
    go_ret
    exact ⟨rfl, rfl⟩

theorem fold_any (n : Int) (w : World) (h0 : -9223372036854775808 ≤ n) (h1 : n ≤ 9223372036854775807) :
    Calls Try.prog 15 #[.int .i64 n] w fun e w' => e = .returned (.int .u64 (foldZ n)) ∧ w = w' := by
  have H := Lib.hid (fold_eq n h0 h1)
  go_enter Try.func15, Try.ntmps15
  go_wp2
  go_ret
  exact ⟨ret_eq H.out, rfl⟩

theorem unfold_any (u : Int) (w : World) (h0 : 0 ≤ u) (h1 : u ≤ 18446744073709551615) :
    Calls Try.prog 14 #[.int .u64 u] w fun e w' => e = .returned (.int .i64 (unfoldZ u)) ∧ w = w' := by
  have H := Lib.hid (unfold_eq u h0 h1)
  go_enter Try.func14, Try.ntmps14
  go_wp2
  go_ret
  exact ⟨ret_eq H.out, rfl⟩

theorem cut_low (u b : Int) (w : World) (h0 : 0 ≤ u) (h1 : u ≤ 18446744073709551615) (hb : b < 1) :
    Calls Try.prog 13 #[.int .u64 u, .int .i64 b] w fun e w' => e = .returned (.int .u64 0) ∧ w = w' := by
  go_enter Try.func13, Try.ntmps13
  go_wp2
  go_ret
  exact ⟨rfl, rfl⟩

theorem cut_high (u b : Int) (w : World) (h0 : 0 ≤ u) (h1 : u ≤ 18446744073709551615) (hb : 64 ≤ b) :
    Calls Try.prog 13 #[.int .u64 u, .int .i64 b] w fun e w' => e = .returned (.int .u64 u) ∧ w = w' := by
  go_enter Try.func13, Try.ntmps13
  go_wp2
  go_ret
  exact ⟨rfl, rfl⟩

theorem cut_mid (u b : Int) (w : World) (h0 : 0 ≤ u) (h1 : u ≤ 18446744073709551615) (hb0 : 1 ≤ b) (hb : b < 64) :
    Calls Try.prog 13 #[.int .u64 u, .int .i64 b] w fun e w' => e = .returned (.int .u64 (u % 2 ^ b.toNat)) ∧ w = w' := by
  have H := Lib.hid (cut_eq u b h0 h1 hb)
  go_enter Try.func13, Try.ntmps13
  go_wp2
  go_ret
  exact ⟨ret_eq H.out, rfl⟩

theorem fits_out (n b : Int) (w : World) (h0 : -9223372036854775808 ≤ n) (h1 : n ≤ 9223372036854775807) (hb : b < 1 ∨ 64 < b) :
    Calls Try.prog 19 #[.int .i64 n, .int .i64 b] w fun e w' => e = .returned (.bool false) ∧ w = w' := by
  rcases hb with hb | hb
  all_goals
    go_enter Try.func19, Try.ntmps19
    go_wp2
    go_ret
    exact ⟨rfl, rfl⟩

theorem fits_in (n b : Int) (w : World) (h0 : -9223372036854775808 ≤ n) (h1 : n ≤ 9223372036854775807) (hb0 : 1 ≤ b) (hb : b ≤ 64) :
    Calls Try.prog 19 #[.int .i64 n, .int .i64 b] w fun e w' => e = .returned (.bool (fitsB n b)) ∧ w = w' := by
  have H := Lib.hid (fits_eq n b hb0)
  go_enter Try.func19, Try.ntmps19
  go_wp2
  all_goals (go_ret; refine ⟨retb_eq ?_, rfl⟩; refine Eq.trans ?_ H.out; rename_i hz; simp [hz, Bool.beq_eq_decide_eq])

theorem width_any (u : Int) (w : World) (h0 : 0 ≤ u) (h1 : u ≤ 18446744073709551615) :
    Calls Try.prog 22 #[.int .u64 u] w fun e w' => e = .returned (.int .i64 (Lib.bitLen u.toNat)) ∧ w = w' := by
  go_enter Try.func22, Try.ntmps22
  go_wp2_with (go_at_call 25; refine (Try.bits_Len64 _ _ (by omega) (by omega)).mono ?_; rintro e w' ⟨rfl, rfl⟩)
  go_ret
  exact ⟨rfl, rfl⟩

end Go.Proofs.Ytaejjpphcdhddaa
