
/- What disk.Load refuses. Conditions: those that each theorem names. -/
import Derived.Test.YtmincpmkiheofaaDisF
namespace Go.Proofs.Ytmincpmkiheofaa
open Go.ChangeShapes Go.WideShapes Go.ChangeAt Go.RowKit
set_option linter.unusedVariables false
set_option linter.unusedSimpArgs false

theorem load_no (w : World) (s : ByteArray) (h : ¬ s.size % 64 = 0 ∨ s.size = 0 ∨ 65536 * 64 < s.size) (hm : s.size ≤ 9223372036854775807) :
    Calls Try.prog 23 #[.string s] w fun e w' => e = .returned (.tuple #[.pointer none, .int .i64 1]) ∧ w = w' := by
  by_cases c : s.size % 64 = 0
  · have HI := isCount_any ((s.size : Int) / 64) w (wf_mk (by omega) (by omega))
    have e1 : (decide (1 ≤ (s.size : Int) / 64) && decide ((s.size : Int) / 64 ≤ 65536)) = false := by simp; omega
    rw [e1] at HI
    replace HI := Lib.hid HI
    have t1 : ((s.size : Int) % 64 == 0) = true := by simp; omega
    have t1' : ((s.size : Int) % 64 != 0) = false := by simp; omega
    clear e1 c h
    go_enter Try.func23, Try.ntmps23
    go_wp2_with (first | (go_at_call 27; refine HI.out.mono ?_; rintro e w' ⟨rfl, rfl⟩))
    go_ret2
    exact ⟨rfl, rfl⟩
  · have t1 : ((s.size : Int) % 64 == 0) = false := by simp; omega
    have t1' : ((s.size : Int) % 64 != 0) = true := by simp; simp at t1; exact t1
    clear c h
    go_enter Try.func23, Try.ntmps23
    go_wp2
    go_ret2
    exact ⟨rfl, rfl⟩
end Go.Proofs.Ytmincpmkiheofaa
