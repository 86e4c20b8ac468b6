
/- The contract of the document's Dirty: numbers put in one by one, rising. Conditions: those that each theorem names. -/
import Derived.Test.YtjncmaaofminkaaPorG
namespace Go.Proofs.Ytjncmaaofminkaa
open Go.ChangeShapes Go.WideShapes Go.ChangeAt Go.RowKit
set_option linter.unusedVariables false
set_option linter.unusedSimpArgs false

/-- a number into a rising list -/
def ins (n : Int) : List Int → List Int
  | [] => [n]
  | x :: l => if n < x then n :: x :: l else x :: ins n l
theorem ins_perm (n : Int) : ∀ l, (ins n l).Perm (n :: l)
  | [] => List.Perm.refl _
  | x :: l => by
    unfold ins
    split
    · exact List.Perm.refl _
    · exact ((ins_perm n l).cons x).trans (List.Perm.swap n x l)
theorem ins_rise (n : Int) : ∀ l : List Int, l.Pairwise (· ≤ ·) → (ins n l).Pairwise (· ≤ ·)
  | [], _ => by simp [ins]
  | x :: l, h => by
    have h' := List.pairwise_cons.1 h
    unfold ins
    split
    · rename_i hlt
      refine List.pairwise_cons.2 ⟨fun y hy => ?_, h⟩
      rcases List.mem_cons.1 hy with rfl | hy
      · omega
      · have := h'.1 y hy; omega
    · rename_i hge
      refine List.pairwise_cons.2 ⟨fun y hy => ?_, ins_rise n l h'.2⟩
      rcases List.mem_cons.1 ((ins_perm n l).mem_iff.1 hy) with rfl | hy
      · omega
      · exact h'.1 y hy
theorem sortI_rise (l : List Int) : (sortI l).Pairwise (· ≤ ·) := by
  have := List.pairwise_mergeSort (le := fun (x y : Int) => decide (x ≤ y)) (fun a b c h1 h2 => by simp at *; omega) (fun a b => by simp; omega) l
  exact this.imp fun h => by simpa using h
theorem ins_sortI (n : Int) (l : List Int) : ins n (sortI l) = sortI (l ++ [n]) := by
  have h1 := ins_rise n _ (sortI_rise l)
  have h2 := sortI_rise (l ++ [n])
  have h3 : (ins n (sortI l)).Perm (sortI (l ++ [n])) :=
    ((ins_perm n _).trans ((List.mergeSort_perm l _).cons n)).trans ((List.perm_append_singleton n l).symm.trans (List.mergeSort_perm (l ++ [n]) _).symm)
  exact h3.eq_of_pairwise (fun a b _ _ h1 h2 => by omega) h1 h2
/-- what stands behind some of the list's numbers -/
def stepI (n : Int) (a : List Int × Bool) (x : Int) : List Int × Bool := if a.2 = false ∧ n < x then (a.1 ++ [n] ++ [x], true) else (a.1 ++ [x], a.2)
def stI (n : Int) (l : List Int) : List Int × Bool := l.foldl (stepI n) ([], false)
theorem stI_true (n : Int) : ∀ (l a : List Int), l.foldl (stepI n) (a, true) = (a ++ l, true)
  | [], a => by simp
  | x :: l, a => by
    rw [List.foldl_cons]
    have : stepI n (a, true) x = (a ++ [x], true) := by simp [stepI]
    rw [this, stI_true n l]
    simp
def finI (n : Int) (r : List Int × Bool) : List Int := if r.2 = true then r.1 else r.1 ++ [n]
theorem stI_ins (n : Int) : ∀ (l a : List Int), finI n (l.foldl (stepI n) (a, false)) = a ++ ins n l
  | [], a => by simp [ins, finI]
  | x :: l, a => by
    by_cases h : n < x
    · have e1 : (x :: l).foldl (stepI n) (a, false) = (a ++ [n] ++ [x] ++ l, true) := by
        rw [List.foldl_cons]
        have : stepI n (a, false) x = (a ++ [n] ++ [x], true) := by simp [stepI, h]
        rw [this, stI_true]
      rw [e1]
      simp [finI, ins, h]
    · have e1 : (x :: l).foldl (stepI n) (a, false) = l.foldl (stepI n) (a ++ [x], false) := by
        rw [List.foldl_cons]
        have : stepI n (a, false) x = (a ++ [x], false) := by simp [stepI, h]
        rw [this]
      rw [e1, stI_ins n l]
      simp [ins, h]
theorem stI_next (n : Int) (l : List Int) (k : Nat) (hk : k < l.length) : stI n (l.take (k + 1)) = stepI n (stI n (l.take k)) (l[k]'hk) := by
  unfold stI
  rw [List.take_succ_eq_append_getElem hk, List.foldl_append]
  rfl
theorem stI_len (n : Int) : ∀ (l a : List Int) (d : Bool), (l.foldl (stepI n) (a, d)).1.length ≤ a.length + l.length + 1 ∧ (d = true → (l.foldl (stepI n) (a, d)).1.length ≤ a.length + l.length)
  | [], a, d => by simp
  | x :: l, a, d => by
    rw [List.foldl_cons]
    cases d with
    | true =>
      have : stepI n (a, true) x = (a ++ [x], true) := by simp [stepI]
      rw [this, stI_true]
      simp
    | false =>
      by_cases h : n < x
      · have : stepI n (a, false) x = (a ++ [n] ++ [x], true) := by simp [stepI, h]
        rw [this, stI_true]
        simp; omega
      · have : stepI n (a, false) x = (a ++ [x], false) := by simp [stepI, h]
        rw [this]
        have h2 := (stI_len n l (a ++ [x]) false).1
        simp at h2 ⊢
        omega
theorem stI_few (n : Int) (l : List Int) (k : Nat) : (stI n (l.take k)).1.length ≤ k + 1 := by
  have := (stI_len n (l.take k) [] false).1
  unfold stI
  simp at this ⊢
  omega
/-- the dirty numbers of the first k frames, rising -/
def dk (R : List RF) (k : Nat) : List Int := dirtyR (R.take k)
theorem dk_yes (R : List RF) (k : Nat) (hk : k < R.length) (h : (R[k]'hk).dirty = true) : dk R (k + 1) = ins (R[k]'hk).no (dk R k) := by
  unfold dk dirtyR
  rw [ins_sortI, List.take_succ_eq_append_getElem hk, List.filter_append, List.map_append]
  simp [h]
theorem dk_no (R : List RF) (k : Nat) (hk : k < R.length) (h : (R[k]'hk).dirty = false) : dk R (k + 1) = dk R k := by
  unfold dk dirtyR
  rw [List.take_succ_eq_append_getElem hk, List.filter_append, List.map_append]
  simp [h]
theorem dk_len (R : List RF) (k : Nat) : (dk R k).length ≤ k := by
  unfold dk dirtyR sortI
  rw [(List.mergeSort_perm _ _).length_eq, List.length_map]
  exact Nat.le_trans (List.length_filter_le _ _) (by simp; omega)
theorem row_shape {w : World} {B : Nat} {v : Value} {xs : List Int} (h : w.ownsRow B 3 1 v xs.length (ints xs)) : ∃ a c, v = .slice a xs.length c ∧ xs.length ≤ c ∧ c ≤ maxLen ∧ ∀ k (hk : k < xs.length), ∃ g, a = some ⟨g, 0, none⟩ ∧ v.ownBlock = some g ∧ w.cell? ⟨g, k, none⟩ = some (.int .i64 (xs[k]'hk)) := by
  rcases h.2 with ⟨rfl, h0⟩ | ⟨g, cap, cur, rfl, h1, h2, h3, h4, h5, h6⟩
  · exact ⟨none, 0, by rw [h0], by omega, by unfold maxLen; omega, fun k hk => by omega⟩
  · refine ⟨_, cap, rfl, h3, h4, fun k hk => ⟨g, rfl, rfl, ?_⟩⟩
    have := World.ownsRow.cellAt h k (by omega)
    rw [this]
    simp [ints, hk]
/-- what an append of one number leaves -/
theorem row_push {w w5 : World} {B Bw : Nat} {v v' : Value} {xs : List Int} {x : Int} {o : Obj} {W0 : World} (hw : w.ownsRow B 3 1 v xs.length (ints xs)) (hg : (w.alloc o).grownBy w5 v.ownBlock) (ho : w5.ownsRow B 3 1 v' (xs.length + 1) (ints xs ++ [.int .i64 x])) (hb : Below Bw W0 w) (hB : Bw ≤ B) (hBs : Bw ≤ w.heap.size) :
    w5.ownsRow B 3 1 v' (xs ++ [x]).length (ints (xs ++ [x])) ∧ Below Bw W0 w5 ∧ Chg (fun q => B ≤ q) w w5 := by
  have g5 : Chg (fun q => v.ownBlock = some q) w w5 := ((Chg.refl _ w).alloc _).grown hg fun q e => .inl e
  refine ⟨?_, ?_, g5.mono fun q _ e => (hw.lt q e).1⟩
  · rw [List.length_append]
    unfold ints at ho ⊢
    rw [List.map_append]
    exact ho
  · exact ⟨g5.os.trans hb.os, g5.tape.trans hb.tape, g5.output.trans hb.output, Nat.le_trans hb.size g5.size, fun q hq => (g5.block q (by omega) fun e => by have := (hw.lt q e).1; omega).trans (hb.block q hq)⟩
end Go.Proofs.Ytjncmaaofminkaa
