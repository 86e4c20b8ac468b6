
/- Mathematics of pages in rising lists, of rooms, of what the page 0 tells. It speaks of no function. -/
import Derived.Test.YtndhmidgnpobjaaGreatDoorPagM
namespace Go.Proofs.YtndhmidgnpobjaaGreatDoor
set_option linter.unusedVariables false
set_option linter.unusedSimpArgs false

section
variable {α : Type}
/-- the numbers rise -/
def asc (l : List (Nat × α)) : Prop := l.Pairwise fun x y => x.1 < y.1
def lk (l : List (Nat × α)) (n : Nat) : Option α := (l.find? fun x => x.1 == n).map (·.2)
def ins (n : Nat) (v : α) : List (Nat × α) → List (Nat × α)
  | [] => [(n, v)]
  | y :: l => if n < y.1 then (n, v) :: y :: l else if n = y.1 then (n, v) :: l else y :: ins n v l
def insAll (l ps : List (Nat × α)) : List (Nat × α) := ps.foldl (fun l p => ins p.1 p.2 l) l
theorem lk_nil (n : Nat) : lk ([] : List (Nat × α)) n = none := rfl
theorem lk_cons (x : Nat × α) (l : List (Nat × α)) (n : Nat) : lk (x :: l) n = if x.1 = n then some x.2 else lk l n := by
  unfold lk
  by_cases h : x.1 = n
  · simp [h]
  · simp [h]
theorem lk_none {l : List (Nat × α)} {n : Nat} (h : ∀ x ∈ l, x.1 ≠ n) : lk l n = none := by
  induction l with
  | nil => rfl
  | cons y l ih => rw [lk_cons, if_neg (h y (by simp)), ih fun x hx => h x (by simp [hx])]
theorem lk_mem {l : List (Nat × α)} {n : Nat} {v : α} (h : lk l n = some v) : (n, v) ∈ l := by
  induction l with
  | nil => simp [lk_nil] at h
  | cons y l ih =>
    rw [lk_cons] at h
    split at h
    · rename_i e
      injection h with h
      subst h; subst e
      simp
    · exact List.mem_cons_of_mem _ (ih h)
theorem lk_not {l : List (Nat × α)} {n : Nat} (h : lk l n = none) : ∀ x ∈ l, x.1 ≠ n := by
  induction l with
  | nil => simp
  | cons y l ih =>
    rw [lk_cons] at h
    split at h
    · cases h
    · rename_i e
      intro x hx
      rcases List.mem_cons.1 hx with rfl | hx
      · exact e
      · exact ih h x hx
theorem asc_cons {x : Nat × α} {l : List (Nat × α)} : asc (x :: l) ↔ (∀ y ∈ l, x.1 < y.1) ∧ asc l := List.pairwise_cons
theorem mem_lk {l : List (Nat × α)} (ha : asc l) {n : Nat} {v : α} (h : (n, v) ∈ l) : lk l n = some v := by
  induction l with
  | nil => simp at h
  | cons y l ih =>
    obtain ⟨h1, h2⟩ := asc_cons.1 ha
    rw [lk_cons]
    rcases List.mem_cons.1 h with rfl | h
    · simp
    · have := h1 _ h
      rw [if_neg (by simp only at this; omega), ih h2 h]
theorem asc_nodup {l : List (Nat × α)} (ha : asc l) : (l.map (·.1)).Nodup := by
  unfold asc at ha
  rw [List.nodup_iff_pairwise_ne, List.pairwise_map]
  exact ha.imp fun h => Nat.ne_of_lt h
theorem lk_ins (n : Nat) (v : α) : ∀ (l : List (Nat × α)) (k : Nat), asc l → lk (ins n v l) k = if n = k then some v else lk l k
  | [], k, _ => by rw [ins, lk_cons]
  | y :: l, k, ha => by
    obtain ⟨h1, h2⟩ := asc_cons.1 ha
    unfold ins
    split
    · rw [lk_cons]
    · split
      · rename_i e1 e2
        rw [lk_cons, lk_cons]
        by_cases e : n = k
        · simp [e]
        · simp only [e, if_false]
          rw [if_neg (by omega)]
      · rename_i e1 e2
        rw [lk_cons, lk_ins n v l k h2, lk_cons]
        by_cases e : n = k
        · simp only [e, if_true]
          rw [if_neg (by omega)]
        · simp only [e, if_false]
theorem mem_ins {n : Nat} {v : α} : ∀ {l : List (Nat × α)} {x : Nat × α}, x ∈ ins n v l → x = (n, v) ∨ x ∈ l
  | [], x, h => .inl (by simpa [ins] using h)
  | y :: l, x, h => by
    unfold ins at h
    split at h
    · exact (List.mem_cons.1 h)
    · split at h
      · rcases List.mem_cons.1 h with h | h
        · exact .inl h
        · exact .inr (List.mem_cons_of_mem _ h)
      · rcases List.mem_cons.1 h with h | h
        · exact .inr (by simp [h])
        · rcases mem_ins h with h | h
          · exact .inl h
          · exact .inr (List.mem_cons_of_mem _ h)
theorem asc_ins (n : Nat) (v : α) : ∀ {l : List (Nat × α)}, asc l → asc (ins n v l)
  | [], _ => by simp [ins, asc]
  | y :: l, ha => by
    obtain ⟨h1, h2⟩ := asc_cons.1 ha
    unfold ins
    split
    · rename_i e
      refine asc_cons.2 ⟨fun x hx => ?_, ha⟩
      rcases List.mem_cons.1 hx with rfl | hx
      · exact e
      · have := h1 x hx; simp only; omega
    · split
      · rename_i e1 e2
        refine asc_cons.2 ⟨fun x hx => ?_, h2⟩
        have := h1 x hx
        simp only
        omega
      · rename_i e1 e2
        refine asc_cons.2 ⟨fun x hx => ?_, asc_ins n v h2⟩
        rcases mem_ins hx with rfl | hx
        · simp only; omega
        · exact h1 x hx
theorem ins_len (n : Nat) (v : α) : ∀ (l : List (Nat × α)), asc l → (ins n v l).length = if (lk l n).isSome then l.length else l.length + 1
  | [], _ => rfl
  | y :: l, ha => by
    obtain ⟨h1, h2⟩ := asc_cons.1 ha
    have ih := ins_len n v l h2
    rw [lk_cons]
    unfold ins
    by_cases e : n < y.1
    · have h0 : lk l n = none := lk_none fun x hx => by have := h1 x hx; omega
      have e3 : ¬ y.1 = n := by omega
      rw [if_pos e, if_neg e3, h0]
      rfl
    · rw [if_neg e]
      by_cases e2 : n = y.1
      · rw [if_pos e2, if_pos e2.symm]
        simp
      · have e3 : ¬ y.1 = n := fun h => e2 h.symm
        rw [if_neg e2, if_neg e3, List.length_cons, ih]
        cases (lk l n).isSome <;> simp
theorem asc_ext : ∀ {a b : List (Nat × α)}, asc a → asc b → (∀ n, lk a n = lk b n) → a = b
  | [], [], _, _, _ => rfl
  | [], y :: b, _, _, h => by
    have := h y.1
    rw [lk_nil, lk_cons, if_pos rfl] at this
    cases this
  | x :: a, [], _, _, h => by
    have := h x.1
    rw [lk_nil, lk_cons, if_pos rfl] at this
    cases this
  | x :: a, y :: b, ha, hb, h => by
    obtain ⟨a1, a2⟩ := asc_cons.1 ha
    obtain ⟨b1, b2⟩ := asc_cons.1 hb
    have e : x.1 = y.1 := by
      have hx := h x.1
      have hy := h y.1
      rw [lk_cons, if_pos rfl, lk_cons] at hx
      rw [lk_cons, lk_cons, if_pos rfl] at hy
      by_cases e : x.1 = y.1
      · exact e
      · rw [if_neg (by omega)] at hx
        rw [if_neg e] at hy
        have m1 := b1 _ (lk_mem hx.symm)
        have m2 := a1 _ (lk_mem hy)
        simp only at m1 m2
        omega
    have e2 : x.2 = y.2 := by
      have hx := h x.1
      rw [lk_cons, if_pos rfl, lk_cons, if_pos e.symm] at hx
      injection hx
    have e3 : x = y := Prod.ext e e2
    subst e3
    rw [asc_ext a2 b2 fun n => ?_]
    have := h n
    rw [lk_cons, lk_cons] at this
    by_cases en : x.1 = n
    · rw [lk_none fun z hz => by have := a1 z hz; omega, lk_none fun z hz => by have := b1 z hz; omega]
    · simpa [en] using this
theorem insAll_cons (l : List (Nat × α)) (p : Nat × α) (ps : List (Nat × α)) : insAll l (p :: ps) = insAll (ins p.1 p.2 l) ps := rfl
theorem insAll_snoc (l : List (Nat × α)) (p : Nat × α) (ps : List (Nat × α)) : insAll l (ps ++ [p]) = ins p.1 p.2 (insAll l ps) := by simp [insAll]
theorem asc_insAll : ∀ (ps : List (Nat × α)) {l : List (Nat × α)}, asc l → asc (insAll l ps)
  | [], _, h => h
  | p :: ps, l, h => asc_insAll ps (asc_ins p.1 p.2 h)
theorem mem_insAll : ∀ {ps : List (Nat × α)} {l : List (Nat × α)} {x : Nat × α}, x ∈ insAll l ps → x ∈ ps ∨ x ∈ l
  | [], _, _, h => .inr h
  | p :: ps, l, x, h => by
    rcases mem_insAll (ps := ps) h with h | h
    · exact .inl (List.mem_cons_of_mem _ h)
    · rcases mem_ins h with h | h
      · exact .inl (by simp [h])
      · exact .inr h
theorem lk_insAll {l : List (Nat × α)} (ha : asc l) : ∀ (ps : List (Nat × α)), asc ps → ∀ k, lk (insAll l ps) k = match lk ps k with | some v => some v | none => lk l k := by
  intro ps
  induction ps generalizing l with
  | nil => intro _ k; rfl
  | cons p ps ih =>
    intro hp k
    obtain ⟨h1, h2⟩ := asc_cons.1 hp
    rw [insAll_cons, ih (asc_ins p.1 p.2 ha) h2 k, lk_ins _ _ _ _ ha, lk_cons]
    by_cases e : p.1 = k
    · rw [if_pos e, if_pos e, lk_none fun x hx => by have := h1 x hx; omega]
    · rw [if_neg e, if_neg e]
end

/-- a page: its kind, and its whole room -/
abbrev Pag := Nat × ByteArray
structure PagOk (x : Pag) : Prop where
  lo : 1 ≤ x.1
  hi : x.1 ≤ 255
  size : x.2.size = 496
/-- a room of its whole length -/
def fl (t : ByteArray) : ByteArray := t ++ zB (496 - t.size)
theorem fl_size (t : ByteArray) (h : t.size ≤ 496) : (fl t).size = 496 := by unfold fl; rw [ByteArray.size_append, zB_size]; omega
theorem fl_full (t : ByteArray) (h : t.size = 496) : fl t = t := by
  refine ba_ext' ?_
  unfold fl
  rw [app_list, h]
  simp [zB]
/-- the text by which the pool holds a page -/
def fr (x : Pag) : ByteArray := ⟨#[UInt8.ofNat x.1]⟩ ++ x.2
theorem fr_size {x : Pag} (h : x.2.size = 496) : (fr x).size = 497 := by
  unfold fr; rw [ByteArray.size_append, h]; rfl
theorem fr_kind {x : Pag} (h : PagOk x) : bN (fr x) 0 = x.1 := by
  unfold fr
  rw [bN_left _ _ 0 (by show 0 < 1; omega)]
  have h1 := h.hi
  rw [bN_of _ 0 (by show 0 < 1; omega)]
  show (UInt8.ofNat x.1).toNat = x.1
  simp
  omega
theorem fr_rest {x : Pag} (h : x.2.size = 496) : (fr x).extract 1 (fr x).size = x.2 := by
  refine ba_ext' ?_
  rw [extract_list, fr_size h]
  unfold fr
  rw [app_list]
  show (([UInt8.ofNat x.1] ++ x.2.data.toList).drop 1).take 496 = x.2.data.toList
  rw [show ([UInt8.ofNat x.1] ++ x.2.data.toList).drop 1 = x.2.data.toList from rfl]
  exact List.take_of_length_le (by rw [len_list, h]; omega)
/-- the page 0's room -/
def hroom (u f : Nat) (r : Nat → Nat) : ByteArray := fl ⟨(putL u 4 ++ putL f 4 ++ (List.range 8).flatMap fun i => putL (r i) 8).toArray⟩
def rdU (t : ByteArray) : Nat := getN t 0 4
def rdF (t : ByteArray) : Nat := getN t 4 4
def rdR (t : ByteArray) (i : Nat) : Nat := getN t (8 + 8 * i) 8
/-- a free page's room -/
def froom (n : Nat) : ByteArray := fl ⟨(putL n 4).toArray⟩
theorem put_text_size (L : List UInt8) : (⟨L.toArray⟩ : ByteArray).size = L.length := by simp [ByteArray.size]
theorem flat8 (r : Nat → Nat) : ((List.range 8).flatMap fun i => putL (r i) 8).length = 64 := by
  simp [List.range, List.range.loop, putL_len]
theorem hroom_pre (u f : Nat) (r : Nat → Nat) : (putL u 4 ++ putL f 4 ++ (List.range 8).flatMap fun i => putL (r i) 8).length = 72 := by
  rw [List.length_append, List.length_append, flat8, putL_len, putL_len]
theorem hroom_size (u f : Nat) (r : Nat → Nat) : (hroom u f r).size = 496 := fl_size _ (by rw [put_text_size, hroom_pre]; omega)
theorem hroom_list (u f : Nat) (r : Nat → Nat) : (hroom u f r).data.toList = putL u 4 ++ (putL f 4 ++ (((List.range 8).flatMap fun i => putL (r i) 8) ++ List.replicate 424 0)) := by
  unfold hroom fl
  rw [app_list, put_text_size, hroom_pre]
  show (putL u 4 ++ putL f 4 ++ (List.range 8).flatMap fun i => putL (r i) 8) ++ List.replicate 424 0 = _
  rw [List.append_assoc, List.append_assoc]
theorem num_putL4 (n : Nat) (h : n < 4294967296) : num (putL n 4) = n := num_put4 n h
theorem hroom_U (u f : Nat) (r : Nat → Nat) (h : u < 4294967296) : rdU (hroom u f r) = u := by
  unfold rdU
  rw [getN_list _ _ _ (by rw [hroom_size]; omega), hroom_list, List.drop_zero, take_of (putL_len u 4), num_putL4 u h]
theorem hroom_F (u f : Nat) (r : Nat → Nat) (h : f < 4294967296) : rdF (hroom u f r) = f := by
  unfold rdF
  rw [getN_list _ _ _ (by rw [hroom_size]; omega), hroom_list, drop_of (putL_len u 4), take_of (putL_len f 4), num_putL4 f h]
theorem getN_putL (s : ByteArray) (p k n : Nat) (hk : k ≤ 8) (h : p + k ≤ s.size) (hn : n < 2 ^ (8 * k)) (e : (s.data.toList.drop p).take k = putL n k) : getN s p k = n := by
  have key : getN s p k = getN ⟨(putL n k).toArray⟩ 0 k := by
    rw [getN_list s p k h, getN_list _ 0 k (by rw [put_text_size, putL_len]; omega), e]
    simp [List.take_of_length_le, putL_len]
  rw [key]
  have gen : ∀ j, j ≤ k → getN ⟨(putL n k).toArray⟩ 0 j = n % 2 ^ (8 * j) := by
    intro j
    induction j with
    | zero => intro _; simp [getN, Nat.mod_one]
    | succ j ih =>
      intro hj
      rw [getN, ih (by omega)]
      have hb : bN ⟨(putL n k).toArray⟩ (0 + j) = n / 2 ^ (8 * j) % 256 := by
        rw [bN_of _ _ (by rw [put_text_size, putL_len]; omega)]
        show ((putL n k).toArray[0 + j]'(by simp [putL_len]; omega)).toNat = _
        simp [putL, byteAt]
      rw [hb, show 8 * (j + 1) = 8 * j + 8 by omega, Nat.pow_add, show (2 : Nat) ^ 8 = 256 from rfl, Nat.mod_mul, Nat.mul_comm (2 ^ (8 * j)) (n / 2 ^ (8 * j) % 256)]
  rw [gen k (Nat.le_refl k), Nat.mod_eq_of_lt hn]
theorem flat8_at (r : Nat → Nat) (i : Nat) (hi : i < 8) (B : List UInt8) : ((((List.range 8).flatMap fun i => putL (r i) 8) ++ B).drop (8 * i)).take 8 = putL (r i) 8 := by
  have e : ((List.range 8).flatMap fun i => putL (r i) 8) = putL (r 0) 8 ++ (putL (r 1) 8 ++ (putL (r 2) 8 ++ (putL (r 3) 8 ++ (putL (r 4) 8 ++ (putL (r 5) 8 ++ (putL (r 6) 8 ++ (putL (r 7) 8 ++ []))))))) := rfl
  rw [e]
  have d : ∀ (n : Nat) (X : List UInt8) (j : Nat), (putL n 8 ++ X).drop (8 * (j + 1)) = X.drop (8 * j) := fun n X j => by
    rw [show 8 * (j + 1) = 8 + 8 * j by omega, ← List.drop_drop, drop_of (putL_len n 8)]
  simp only [List.append_assoc]
  rcases (by omega : i = 0 ∨ i = 1 ∨ i = 2 ∨ i = 3 ∨ i = 4 ∨ i = 5 ∨ i = 6 ∨ i = 7) with rfl | rfl | rfl | rfl | rfl | rfl | rfl | rfl <;>
    simp only [d, show (8 * 1 : Nat) = 8 * (0 + 1) from rfl, show (8 * 2 : Nat) = 8 * (1 + 1) from rfl, show (8 * 3 : Nat) = 8 * (2 + 1) from rfl, show (8 * 4 : Nat) = 8 * (3 + 1) from rfl, show (8 * 5 : Nat) = 8 * (4 + 1) from rfl, show (8 * 6 : Nat) = 8 * (5 + 1) from rfl, show (8 * 7 : Nat) = 8 * (6 + 1) from rfl, Nat.mul_zero, List.drop_zero] <;>
    exact take_of (putL_len _ 8)
theorem hroom_R (u f : Nat) (r : Nat → Nat) (i : Nat) (hi : i < 8) (h : r i < 18446744073709551616) : rdR (hroom u f r) i = r i := by
  unfold rdR
  refine getN_putL _ _ _ _ (by omega) (by rw [hroom_size]; omega) (by rw [show 8 * 8 = 64 from rfl]; exact Nat.lt_of_lt_of_le h (Nat.le_of_eq (by rfl))) ?_
  rw [hroom_list, show 8 + 8 * i = 4 + (4 + 8 * i) by omega, ← List.drop_drop, drop_of (putL_len u 4), ← List.drop_drop, drop_of (putL_len f 4)]
  exact flat8_at r i hi _
theorem hroom_congr (u f : Nat) (r q : Nat → Nat) (h : ∀ i, i < 8 → r i = q i) : hroom u f r = hroom u f q := by
  have e : ((List.range 8).flatMap fun i => putL (r i) 8) = (List.range 8).flatMap fun i => putL (q i) 8 := by
    simp only [List.range, List.range.loop, List.flatMap_cons, h 0 (by omega), h 1 (by omega), h 2 (by omega), h 3 (by omega), h 4 (by omega), h 5 (by omega), h 6 (by omega), h 7 (by omega), List.flatMap_nil]
  unfold hroom
  rw [e]
structure IsHd (most : Nat) (x : Pag) : Prop where
  kind : x.1 = 1
  room : x.2 = hroom (rdU x.2) (rdF x.2) (rdR x.2)
  lo : 1 ≤ rdU x.2
  hi : rdU x.2 ≤ most
  free : rdF x.2 < rdU x.2
theorem IsHd.ok {most : Nat} {x : Pag} (h : IsHd most x) : PagOk x := ⟨by rw [h.kind]; omega, by rw [h.kind]; omega, by rw [h.room, hroom_size]⟩
theorem IsHd.mk' {most u f : Nat} {r : Nat → Nat} (h1 : 1 ≤ u) (h2 : u ≤ most) (h3 : f < u) (hm : most ≤ 65536) (hr : ∀ i, i < 8 → r i < 18446744073709551616) : IsHd most (1, hroom u f r) := by
  have e1 : rdU (hroom u f r) = u := hroom_U u f r (by omega)
  have e2 : rdF (hroom u f r) = f := hroom_F u f r (by omega)
  refine ⟨rfl, ?_, by rw [e1]; exact h1, by rw [e1]; exact h2, by rw [e1, e2]; exact h3⟩
  show hroom u f r = hroom (rdU (hroom u f r)) (rdF (hroom u f r)) (rdR (hroom u f r))
  rw [e1, e2]
  exact hroom_congr u f _ _ fun i hi => (hroom_R u f r i hi (hr i hi)).symm
theorem rdR_lt (t : ByteArray) (i : Nat) : rdR t i < 18446744073709551616 := getN_top t _ 8 (by omega)
theorem rdU_lt (t : ByteArray) : rdU t < 4294967296 := getN_lt t 0 4
theorem rdF_lt (t : ByteArray) : rdF t < 4294967296 := getN_lt t 4 4
end Go.Proofs.YtndhmidgnpobjaaGreatDoor
