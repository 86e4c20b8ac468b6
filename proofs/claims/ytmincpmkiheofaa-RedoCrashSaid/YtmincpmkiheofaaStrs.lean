
/- Rows of strings that are written one behind another; slices of strings that stand in memory. It speaks of no function. -/
import Derived.Test.YtmincpmkiheofaaSta
import Derived.Deep.OwnRows
import Derived.KernelRfl
namespace Go.Proofs.Ytmincpmkiheofaa
open Go.ChangeShapes Go.WideShapes Go.ChangeAt Go.RowKit
set_option linter.unusedVariables false
set_option linter.unusedSimpArgs false

theorem info_st : (Try.prog.info? 9).map (fun i => (i.zero, i.size, i.bytes)) = some (some (.string ⟨#[]⟩), 1, 16) := by kernel_rfl
/-- a row of n strings whose first j are laid -/
def rowS (n : Nat) (g : Nat → ByteArray) (j : Nat) : Array Value := ((List.range n).map fun i => .string (if i < j then g i else ⟨#[]⟩)).toArray
theorem rowS_size (n : Nat) (g : Nat → ByteArray) (j : Nat) : (rowS n g j).size = n := by simp [rowS]
theorem rowS_get (n : Nat) (g : Nat → ByteArray) (j i : Nat) (hi : i < n) : (rowS n g j)[i]? = some (.string (if i < j then g i else ⟨#[]⟩)) := by simp [rowS, hi]
theorem rowS_zero (n : Nat) (g : Nat → ByteArray) : madeCells #[Value.string ⟨#[]⟩] n = rowS n g 0 := by
  apply Array.ext'
  rw [toList_madeCells_one]
  simp only [rowS, Nat.not_lt_zero, if_false, List.map_const', List.length_range]
theorem rowS_set (n : Nat) (g : Nat → ByteArray) (j : Nat) (hj : j < n) : (rowS n g j).setIfInBounds j (.string (g j)) = rowS n g (j + 1) := by
  apply Array.ext_getElem?
  intro i
  by_cases hi : i < n
  · rw [Array.getElem?_setIfInBounds, rowS_get n g (j + 1) i hi, rowS_get n g j i hi, rowS_size]
    by_cases h : j = i
    · subst h; simp [hj]
    · simp only [h, if_false]
      by_cases h1 : i < j
      · rw [if_pos h1, if_pos (by omega)]
      · rw [if_neg h1, if_neg (by omega)]
  · rw [Array.getElem?_eq_none (by simp [rowS_size]; omega), Array.getElem?_eq_none (by simp [rowS_size]; omega)]
/-- make([]string, n) -/
theorem make_strs (n : Nat) (hn : n ≤ 1000000) (g : Nat → ByteArray) (w : World) : (Instr.makeSlice 35 (.int .i64 (n : Int)) (.int .i64 (n : Int))).run Try.prog w = .ok (.slice (some ⟨w.heap.size, 0, none⟩) n n) (w.alloc (.cells (rowS n g 0) 9)) := by
  have := run_make_row' (P := Try.prog) 35 9 (.string ⟨#[]⟩) 16 Try.underlying35 info_st rfl .i64 .i64 n (by omega) (by omega) w
  rw [rowS_zero n g] at this
  exact this
/-- a slice of strings in memory: the strings l, in a block of which S says something -/
def StrsIn (w : World) (S : Nat → Prop) (v : Value) (l : List ByteArray) : Prop :=
  ∃ a cap, v = .slice a l.length cap ∧ l.length ≤ cap ∧ cap ≤ maxLen ∧ (∀ s ∈ l, s.size ≤ maxLen) ∧
    (l = [] ∨ ∃ b o, a = some ⟨b, o, none⟩ ∧ S b ∧ b < w.heap.size ∧ ∀ i (h : i < l.length), w.cell? ⟨b, o + i, none⟩ = some (.string (l[i]'h)))
theorem StrsIn.mono {w : World} {S T : Nat → Prop} {v : Value} {l : List ByteArray} (h : StrsIn w S v l) (k : ∀ b, b < w.heap.size → S b → T b) : StrsIn w T v l := by
  obtain ⟨a, cap, h1, h2, h3, h4, h5⟩ := h
  refine ⟨a, cap, h1, h2, h3, h4, ?_⟩
  rcases h5 with h5 | ⟨b, o, e, hS, hb, hc⟩
  · exact .inl h5
  · exact .inr ⟨b, o, e, k b hb hS, hb, hc⟩
theorem StrsIn.keep {w w' : World} {S T : Nat → Prop} {v : Value} {l : List ByteArray} (h : StrsIn w S v l) (hc : Chg T w w') (k : ∀ b, b < w.heap.size → S b → ¬ T b) : StrsIn w' S v l := by
  obtain ⟨a, cap, h1, h2, h3, h4, h5⟩ := h
  refine ⟨a, cap, h1, h2, h3, h4, ?_⟩
  rcases h5 with h5 | ⟨b, o, e, hS, hb, hcl⟩
  · exact .inl h5
  · exact .inr ⟨b, o, e, hS, Nat.lt_of_lt_of_le hb hc.size, fun i hi => hc.cell (hcl i hi) (k b hb hS)⟩
theorem StrsIn.below {w w' : World} {S : Nat → Prop} {v : Value} {l : List ByteArray} (h : StrsIn w S v l) (hb : Below w.heap.size w w') : StrsIn w' S v l := h.keep (Chg.of (S := fun _ => False) hb) fun _ _ _ => id
theorem StrsIn.nil (w : World) (S : Nat → Prop) : StrsIn w S (.slice none 0 0) [] := ⟨none, 0, rfl, Nat.le_refl _, Nat.zero_le _, by simp, .inl rfl⟩
/-- a row that was made and laid whole -/
theorem StrsIn.row {w : World} {S : Nat → Prop} {b n : Nat} {g : Nat → ByteArray} (ho : Own w b 9 (rowS n g n)) (hn : n ≤ maxLen) (hg : ∀ i, i < n → (g i).size ≤ maxLen) (hS : S b) : StrsIn w S (.slice (some ⟨b, 0, none⟩) n n) ((List.range n).map g) := by
  refine ⟨some ⟨b, 0, none⟩, n, by simp, by simp, hn, ?_, ?_⟩
  · intro s hs
    obtain ⟨i, hi, rfl⟩ := List.mem_map.1 hs
    exact hg i (List.mem_range.1 hi)
  · refine .inr ⟨b, 0, rfl, hS, ho.in_, fun i hi => ?_⟩
    have hi' : i < n := by simpa using hi
    have := ho.at_.1 i
    rw [rowS_get n g n i hi', if_pos hi'] at this
    rw [Nat.zero_add, this]
    simp
/-- what a walk sees of it -/
theorem StrsIn.open_ {w : World} {S : Nat → Prop} {v : Value} {l : List ByteArray} (h : StrsIn w S v l) : ∃ a cap, v = .slice a l.length cap ∧ l.length ≤ cap ∧ cap ≤ maxLen ∧ (∀ i (hi : i < l.length), (l[i]'hi).size ≤ maxLen ∧ ∃ b o, a = some ⟨b, o, none⟩ ∧ S b ∧ b < w.heap.size ∧ w.cell? ⟨b, o + i, none⟩ = some (.string (l[i]'hi))) := by
  obtain ⟨a, cap, h1, h2, h3, h4, h5⟩ := h
  refine ⟨a, cap, h1, h2, h3, fun i hi => ⟨h4 _ (List.getElem_mem hi), ?_⟩⟩
  rcases h5 with h5 | ⟨b, o, e, hS, hb, hcl⟩
  · subst h5; simp at hi
  · exact ⟨b, o, e, hS, hb, hcl i hi⟩
end Go.Proofs.Ytmincpmkiheofaa
