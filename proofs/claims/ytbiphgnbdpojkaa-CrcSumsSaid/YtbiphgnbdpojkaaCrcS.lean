/- The contracts of Seal of the second reference package and of the second law package's awake. Condition: a text of at most a million bytes. -/
import Derived.Test.YtbiphgnbdpojkaaCrcR
import Derived.Laws.IdiomStrings
namespace Go.Proofs.Ytbiphgnbdpojkaa
open Go.ChangeShapes Go.WideShapes Go.ChangeAt Go.RowKit
set_option linter.unusedVariables false

theorem conv4 (n : Nat) (hn : n < 4294967296) : ∃ T : ByteArray, T.size ≤ 4 ∧ T = ⟨(putL n 4).toArray⟩ ∧ ∀ w : World, ∀ c, (convert 24 9 (.slice (some ⟨w.heap.size, 0, none⟩) 4 c)).run Try.prog (w.alloc (.cells #[.int .u8 ((n : Int) % 256), .int .u8 ((n : Int) / 256 % 256), .int .u8 ((n : Int) / 65536 % 256), .int .u8 ((n : Int) / 16777216)] 5)) = .ok (.string T) (w.alloc (.cells #[.int .u8 ((n : Int) % 256), .int .u8 ((n : Int) / 256 % 256), .int .u8 ((n : Int) / 65536 % 256), .int .u8 ((n : Int) / 16777216)] 5)) := by
  refine ⟨⟨(putL n 4).toArray⟩, by show (putL n 4).toArray.size ≤ 4; simp [putL], rfl, fun w c => ?_⟩
  have e : putL n 4 = [byteAt n 0, byteAt n 1, byteAt n 2, byteAt n 3] := rfl
  have b0 : ((n : Int) % 256) = ((byteAt n 0).toNat : Nat) := by have := byte_eq n 0; simpa using this
  have b1 : ((n : Int) / 256 % 256) = ((byteAt n 1).toNat : Nat) := by have := byte_eq n 1; simpa using this
  have b2 : ((n : Int) / 65536 % 256) = ((byteAt n 2).toNat : Nat) := by have := byte_eq n 2; simpa using this
  have b3 : ((n : Int) / 16777216) = ((byteAt n 3).toNat : Nat) := by
    have := byte_eq n 3
    rw [← this]
    have : (2 : Int) ^ (8 * 3) = 16777216 := by decide
    rw [this]; omega
  rw [b0, b1, b2, b3, e]
  generalize byteAt n 0 = x0
  generalize byteAt n 1 = x1
  generalize byteAt n 2 = x2
  generalize byteAt n 3 = x3
  refine run_convert_bytes_back (P := Try.prog) _ 24 9 5 ⟨w.heap.size, 0, none⟩ c [x0, x1, x2, x3] Try.underlying24 Try.underlying5 Try.underlying9 (fun i hi => ?_)
  have ea : (⟨w.heap.size, 0, none⟩ : Addr).add i = ⟨w.heap.size, i, none⟩ := by unfold Addr.add; split <;> simp_all
  rw [ea, World.cell?_alloc_mark]
  have hi4 : i < 4 := by simpa using hi
  match i, hi4 with
  | 0, _ => rfl
  | 1, _ => rfl
  | 2, _ => rfl
  | 3, _ => rfl

theorem rseal_any (s : ByteArray) (w : World) (hs : s.size ≤ 1000000) :
    Calls Try.prog 13 #[.string s] w fun e w' => e = .returned (.string (sealB s)) ∧ Below w.heap.size w w' := by
  have hlt := sumL_lt s.data.toList
  have HR := Lib.hid (rsum_any s w hs)
  obtain ⟨T, hT, hTe, hrun⟩ := conv4 _ hlt
  have HE := Lib.hid (show s ++ T = sealB s by rw [hTe]; rfl)
  clear hTe
  generalize sumL s.data.toList = n at *
  go_enter Try.func13, Try.ntmps13
  go_wp2_with (go_at_call 12; refine HR.out.mono ?_; rintro e w' ⟨rfl, hb⟩)
  go_ret
  exact ⟨rets_eq (by rw [HE.out]), hb.alloc hb.size _⟩

theorem strs_two (s t : ByteArray) (w : World) : Strs (w.alloc (.cells #[.string s, .string t] 9)) (some ⟨w.heap.size, 0, none⟩) [s, t] :=
  Or.inr ⟨w.heap.size, 0, rfl, fun i h => by
    have hi : i < 2 := by simpa using h
    match i, hi with
    | 0, _ => rw [World.cell?_alloc_mark]; rfl
    | 1, _ => rw [World.cell?_alloc_mark]; rfl⟩
def exL : List UInt8 := [49, 50, 51, 52, 53, 54, 55, 56, 57]
theorem ex_sum : sumL exL = 3421780262 := by decide +kernel
theorem sum_ex1 (w : World) :
    Calls Try.prog 11 #[.slice (some ⟨w.heap.size, 0, none⟩) 2 2] (w.alloc (.cells #[.string ⟨#[49, 50, 51, 52]⟩, .string ⟨#[53, 54, 55, 56, 57]⟩] 9)) fun e w' => e = .returned (.int .u32 3421780262) ∧ w.alloc (.cells #[.string ⟨#[49, 50, 51, 52]⟩, .string ⟨#[53, 54, 55, 56, 57]⟩] 9) = w' := by
  have h := sum_any (some ⟨w.heap.size, 0, none⟩) 2 2 [⟨#[49, 50, 51, 52]⟩, ⟨#[53, 54, 55, 56, 57]⟩] _ rfl (by omega) (fun x hx => by
    simp only [List.mem_cons, List.not_mem_nil, or_false] at hx
    rcases hx with rfl | rfl
    · show (4 : Nat) ≤ _; omega
    · show (5 : Nat) ≤ _; omega) (strs_two ⟨#[49, 50, 51, 52]⟩ ⟨#[53, 54, 55, 56, 57]⟩ w)
  have e : cat [⟨#[49, 50, 51, 52]⟩, ⟨#[53, 54, 55, 56, 57]⟩] = exL := rfl
  rw [e, ex_sum] at h
  exact h
theorem sum_ex2 (w : World) :
    Calls Try.prog 11 #[.slice none 0 0] w fun e w' => e = .returned (.int .u32 0) ∧ w = w' := by
  have h := sum_any none 0 0 [] w rfl (by omega) (fun x hx => by cases hx) (Or.inl rfl)
  have e : sumL (cat []) = 0 := by decide +kernel
  rw [e] at h
  exact h
theorem awake_any (w : World) :
    Calls Try.prog 8 #[] w fun e w' => e = .returned (.bool true) ∧ Below w.heap.size w w' := by
  go_enter Try.func8, Try.ntmps8
  go_wp2_with (first
    | (go_at_call 11; (first | (with_reducible refine (sum_ex1 _).mono ?_) | (with_reducible refine (sum_ex2 _).mono ?_)); rintro e w' ⟨rfl, rfl⟩))
  go_ret
  exact ⟨rfl, (Below.refl _ _).alloc (Nat.le_refl _) _⟩
end Go.Proofs.Ytbiphgnbdpojkaa
