
/- Numbers by digits of base 65536, the lowest first: what lists of digits stand for. It speaks of no function. -/
import Derived.Lib.ItoaNum
namespace Go.Proofs.YtdnjkminicmffaaDoor

/-- the digits of a number, none above the highest that isn't 0 -/
def digs (n : Nat) : List Int := if h : n = 0 then [] else (n % 65536 : Int) :: digs (n / 65536)
termination_by n
decreasing_by omega
/-- what a list of digits stands for -/
def vl : List Int → Int
  | [] => 0
  | d :: r => d + 65536 * vl r
def Dg (zs : List Int) : Prop := ∀ d ∈ zs, 0 ≤ d ∧ d ≤ 65535
/-- without noughts on top -/
def tr : List Int → List Int
  | [] => []
  | d :: r => match tr r with
    | [] => if d = 0 then [] else [d]
    | e :: s => d :: e :: s

theorem digs_zero : digs 0 = [] := by rw [digs]; simp
theorem digs_pos {n : Nat} (h : n ≠ 0) : digs n = (n % 65536 : Int) :: digs (n / 65536) := by rw [digs, dif_neg h]
theorem digs_nil {n : Nat} (h : digs n = []) : n = 0 := by
  by_cases e : n = 0
  · exact e
  · rw [digs_pos e] at h; cases h
theorem Dg.nil : Dg [] := fun d h => by cases h
theorem Dg.cons {d : Int} {r : List Int} (h0 : 0 ≤ d) (h1 : d ≤ 65535) (h : Dg r) : Dg (d :: r) := fun e he => by
  rcases List.mem_cons.1 he with rfl | he
  · exact ⟨h0, h1⟩
  · exact h e he
theorem Dg.head {d : Int} {r : List Int} (h : Dg (d :: r)) : 0 ≤ d ∧ d ≤ 65535 := h d (by simp)
theorem Dg.tail {d : Int} {r : List Int} (h : Dg (d :: r)) : Dg r := fun e he => h e (by simp [he])
theorem Dg.append {a b : List Int} (h : Dg a) (k : Dg b) : Dg (a ++ b) := fun e he => by
  rcases List.mem_append.1 he with he | he
  · exact h e he
  · exact k e he
theorem Dg.snoc {a : List Int} {d : Int} (h : Dg a) (h0 : 0 ≤ d) (h1 : d ≤ 65535) : Dg (a ++ [d]) := h.append (Dg.nil.cons h0 h1)
theorem Dg.left {a b : List Int} (h : Dg (a ++ b)) : Dg a := fun e he => h e (by simp [he])
theorem Dg.right {a b : List Int} (h : Dg (a ++ b)) : Dg b := fun e he => h e (by simp [he])
theorem Dg.at {zs : List Int} (h : Dg zs) {i : Nat} {d : Int} (e : zs[i]? = some d) : 0 ≤ d ∧ d ≤ 65535 := h d (List.mem_of_getElem? e)
theorem Dg.digs (n : Nat) : Dg (digs n) := by
  induction n using Nat.strongRecOn with
  | ind n ih =>
    by_cases e : n = 0
    · rw [e, digs_zero]; exact Dg.nil
    · rw [digs_pos e]
      exact (ih (n / 65536) (by omega)).cons (by omega) (by omega)
theorem vl_digs (n : Nat) : vl (digs n) = n := by
  induction n using Nat.strongRecOn with
  | ind n ih =>
    by_cases e : n = 0
    · rw [e, digs_zero]; rfl
    · rw [digs_pos e, vl, ih (n / 65536) (by omega)]
      omega
theorem vl_nonneg : ∀ {zs : List Int}, Dg zs → 0 ≤ vl zs
  | [], _ => by simp [vl]
  | d :: r, h => by
    have := vl_nonneg h.tail
    have := h.head
    rw [vl]; omega
theorem vl_append : ∀ (a b : List Int), vl (a ++ b) = vl a + 65536 ^ a.length * vl b
  | [], b => by simp [vl]
  | d :: r, b => by
    rw [List.cons_append, vl, vl_append r b, vl, List.length_cons, Int.pow_succ, Int.mul_add, Int.add_assoc, ← Int.mul_assoc, Int.mul_comm (65536 ^ r.length) 65536]
theorem vl_snoc (a : List Int) (d : Int) : vl (a ++ [d]) = vl a + 65536 ^ a.length * d := by
  rw [vl_append]; simp [vl]
theorem vl_lt : ∀ {zs : List Int}, Dg zs → vl zs < 65536 ^ zs.length
  | [], _ => by simp [vl]
  | d :: r, h => by
    have := vl_lt h.tail
    have := h.head
    rw [vl, List.length_cons, Int.pow_succ]; omega
theorem tr_zero : ∀ a : List Int, tr (a ++ [0]) = tr a
  | [] => rfl
  | d :: r => by rw [List.cons_append, tr, tr_zero r, tr]
theorem tr_last : ∀ (a : List Int) {d : Int}, d ≠ 0 → tr (a ++ [d]) = a ++ [d]
  | [], d, h => by simp [tr, h]
  | e :: r, d, h => by
    rw [List.cons_append, tr, tr_last r h]
    cases hr : r ++ [d] with
    | nil => simp at hr
    | cons x s => rfl
theorem tr_digs : ∀ {zs : List Int}, Dg zs → tr zs = digs (vl zs).toNat
  | [], _ => by simp [tr, vl, digs_zero]
  | d :: r, h => by
    have ih := tr_digs h.tail
    have h0 := vl_nonneg h.tail
    obtain ⟨h1, h2⟩ := h.head
    by_cases e : (vl (d :: r)).toNat = 0
    · have e1 : vl r = 0 := by rw [vl] at e; omega
      have e2 : d = 0 := by rw [vl] at e; omega
      rw [e, digs_zero, tr, ih, e1]
      simp [digs_zero, e2]
    · have e1 : (vl (d :: r)).toNat / 65536 = (vl r).toNat := by rw [vl]; omega
      have e2 : (((vl (d :: r)).toNat % 65536 : Nat) : Int) = d := by rw [vl]; omega
      rw [digs_pos e, e1, tr, ih]
      have e3 : ((vl (d :: r)).toNat : Int) % 65536 = d := by rw [vl]; omega
      rw [e3]
      cases hr : digs (vl r).toNat with
      | nil =>
        have : vl r = 0 := by have := digs_nil hr; omega
        have : d ≠ 0 := by rw [vl] at e; omega
        simp [this]
      | cons x s => rfl
/-- a list with the right length is the number's own -/
theorem digs_of {zs : List Int} (h : Dg zs) (k : zs = [] ∨ 65536 ^ (zs.length - 1) ≤ vl zs) : zs = digs (vl zs).toNat := by
  rcases List.eq_nil_or_concat zs with rfl | ⟨a, d, rfl⟩
  · simp [vl, digs_zero]
  · rw [List.concat_eq_append] at *
    have hd : d ≠ 0 := by
      rintro rfl
      rcases k with k | k
      · simp at k
      · rw [vl_snoc] at k
        have := vl_lt h.left
        simp at k
        omega
    rw [← tr_digs h, tr_last a hd]
theorem digs_len {n : Nat} (h : n ≠ 0) : 65536 ^ ((digs n).length - 1) ≤ (n : Int) ∧ 1 ≤ (digs n).length := by
  induction n using Nat.strongRecOn with
  | ind n ih =>
    rw [digs_pos h]
    refine ⟨?_, by simp⟩
    by_cases e : n / 65536 = 0
    · rw [e, digs_zero]; simp; omega
    · obtain ⟨h1, h2⟩ := ih (n / 65536) (by omega) e
      simp only [List.length_cons, Nat.add_sub_cancel]
      rw [show (digs (n / 65536)).length = (digs (n / 65536)).length - 1 + 1 by omega, Int.pow_succ]
      omega
theorem digs_lt (n : Nat) : (n : Int) < 65536 ^ (digs n).length := by
  have := vl_lt (Dg.digs n)
  rwa [vl_digs] at this
/-- a longer one is greater -/
theorem digs_longer {m n : Nat} (h : (digs m).length < (digs n).length) : m < n := by
  have h1 := digs_lt m
  have hn : n ≠ 0 := by rintro rfl; rw [digs_zero] at h; simp at h
  obtain ⟨h2, _⟩ := digs_len hn
  have h3 : (65536 : Int) ^ (digs m).length ≤ 65536 ^ ((digs n).length - 1) := by
    have hjk : (digs m).length ≤ (digs n).length - 1 := by omega
    generalize (digs n).length - 1 = k at hjk ⊢
    generalize (digs m).length = j at hjk ⊢
    obtain ⟨t, rfl⟩ : ∃ t, k = j + t := ⟨k - j, by omega⟩
    rw [Int.pow_add]
    have h4 : (0 : Int) < 65536 ^ j := Int.pow_pos (by decide)
    have h5 : (0 : Int) < 65536 ^ t := Int.pow_pos (by decide)
    have := Int.mul_le_mul_of_nonneg_left (show (1 : Int) ≤ 65536 ^ t by omega) (show (0 : Int) ≤ 65536 ^ j by omega)
    omega
  omega
theorem digs_inj {m n : Nat} (h : digs m = digs n) : m = n := by
  have h1 := vl_digs m
  rw [h, vl_digs] at h1
  omega
/-- the upper part of a list of digits -/
theorem vl_drop (zs : List Int) (i : Nat) (d : Int) (h : zs[i]? = some d) : vl (zs.drop i) = d + 65536 * vl (zs.drop (i + 1)) := by
  obtain ⟨hi, e⟩ := List.getElem?_eq_some_iff.1 h
  rw [List.drop_eq_getElem_cons hi, e, vl]
theorem vl_drop_ge (zs : List Int) (i : Nat) (h : zs.length ≤ i) : vl (zs.drop i) = 0 := by
  rw [List.drop_eq_nil_of_le h]; rfl
theorem vl_take (zs : List Int) (i : Nat) (d : Int) (h : zs[i]? = some d) : vl (zs.take (i + 1)) = vl (zs.take i) + 65536 ^ i * d := by
  obtain ⟨hi, e⟩ := List.getElem?_eq_some_iff.1 h
  rw [List.take_succ_eq_append_getElem hi, e, vl_snoc, List.length_take, Nat.min_eq_left (by omega)]
theorem vl_take_drop (zs : List Int) (i : Nat) (h : i ≤ zs.length) : vl zs = vl (zs.take i) + 65536 ^ i * vl (zs.drop i) := by
  conv => lhs; rw [← List.take_append_drop i zs, vl_append, List.length_take, Nat.min_eq_left h]
theorem Dg.take {zs : List Int} (h : Dg zs) (i : Nat) : Dg (zs.take i) := fun e he => h e (List.mem_of_mem_take he)
theorem Dg.drop {zs : List Int} (h : Dg zs) (i : Nat) : Dg (zs.drop i) := fun e he => h e (List.mem_of_mem_drop he)
theorem Dg.set {zs : List Int} (h : Dg zs) (i : Nat) {d : Int} (h0 : 0 ≤ d) (h1 : d ≤ 65535) : Dg (zs.set i d) := fun e he => by
  rcases List.mem_or_eq_of_mem_set he with he | rfl
  · exact h e he
  · exact ⟨h0, h1⟩
theorem vl_set : ∀ (zs : List Int) (i : Nat) (d e : Int), zs[i]? = some e → vl (zs.set i d) = vl zs + 65536 ^ i * (d - e)
  | [], i, d, e, h => by simp at h
  | x :: r, 0, d, e, h => by
    obtain rfl : x = e := by simpa using h
    rw [List.set_cons_zero, vl, vl, Int.pow_zero]; omega
  | x :: r, i + 1, d, e, h => by
    have ih := vl_set r i d e (by simpa using h)
    rw [List.set_cons_succ, vl, ih, vl, Int.pow_succ, Int.mul_add, Int.mul_comm (65536 ^ i) 65536, Int.mul_assoc]
    omega
theorem vl_replicate (n : Nat) : vl (List.replicate n 0) = 0 := by
  induction n with
  | zero => rfl
  | succ n ih => rw [List.replicate_succ, vl, ih]; rfl
theorem Dg.replicate (n : Nat) : Dg (List.replicate n 0) := fun e he => by
  obtain ⟨_, rfl⟩ := List.mem_replicate.1 he
  omega
#print axioms digs_of
end Go.Proofs.YtdnjkminicmffaaDoor
