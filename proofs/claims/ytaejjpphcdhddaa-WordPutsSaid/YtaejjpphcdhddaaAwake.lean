/- The contract of the first law package's awake: the document's examples of layer 1 hold. No condition. -/
import Derived.Test.YtaejjpphcdhddaaRefA
import Derived.Test.YtaejjpphcdhddaaRefB
namespace Go.Proofs.Ytaejjpphcdhddaa
open Go.ChangeShapes Go.WideShapes Go.ChangeAt Go.RowKit
set_option linter.unusedVariables false

theorem get_ex1 (w : World) : Calls Try.prog 12 #[.string ⟨#[2, 1]⟩, .int .i64 0, .int .i64 2] w fun e w' => e = .returned (.tuple #[.int .u64 258, .bool true]) ∧ w = w' :=
  get_yes ⟨#[2, 1]⟩ 0 2 w (by decide) (by decide) (by decide)
theorem get_ex2 (w : World) : Calls Try.prog 12 #[.string ⟨#[2, 1]⟩, .int .i64 1, .int .i64 2] w fun e w' => e = .returned (.tuple #[.int .u64 0, .bool false]) ∧ w = w' :=
  get_no ⟨#[2, 1]⟩ 1 2 w (by decide) (by decide) (by decide) (by decide) (by decide) (by decide)
theorem put_ex1 (w : World) : Calls Try.prog 11 #[.int .u64 258, .int .i64 2] w fun e w' => e = .returned (.string ⟨#[2, 1]⟩) ∧ w' = w.alloc (.cells (putCells 258 2) 40) :=
  put_yes 258 2 w (by decide) (by decide)
theorem fold_ex1 (w : World) : Calls Try.prog 15 #[.int .i64 (-1)] w fun e w' => e = .returned (.int .u64 1) ∧ w = w' :=
  fold_any (-1) w (by decide) (by decide)
theorem width_ex1 (w : World) : Calls Try.prog 22 #[.int .u64 255] w fun e w' => e = .returned (.int .i64 8) ∧ w = w' :=
  width_any 255 w (by decide) (by decide)

theorem awake_any (w : World) :
    Calls Try.prog 10 #[] w fun e w' => e = .returned (.bool true) ∧ w' = w.alloc (.cells (putCells 258 2) 40) := by
  go_enter Try.func10, Try.ntmps10
  go_wp2_with (first
    | (go_at_call 12; (first | (with_reducible refine (get_ex1 _).mono ?_) | (with_reducible refine (get_ex2 _).mono ?_)); rintro e w' ⟨rfl, rfl⟩)
    | (go_at_call 11; refine (put_ex1 _).mono ?_; rintro e w' ⟨rfl, rfl⟩)
    | (go_at_call 15; refine (fold_ex1 _).mono ?_; rintro e w' ⟨rfl, rfl⟩)
    | (go_at_call 22; refine (width_ex1 _).mono ?_; rintro e w' ⟨rfl, rfl⟩))
  go_ret
  exact ⟨rfl, rfl⟩
end Go.Proofs.Ytaejjpphcdhddaa
