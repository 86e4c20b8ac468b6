
/- Mathematics of rooms of slots: the bytes of a list of slots, what stands in any bytes, and that each is the other's. It speaks of no function. -/
import Derived.Test.YteepggjbgdjchaaDoorWordB
import Derived.Test.YteepggjbgdjchaaDoorWordC
import Derived.Test.YteepggjbgdjchaaDoorMarM
namespace Go.Proofs.YteepggjbgdjchaaDoor
open Go.ChangeShapes Go.WideShapes Go.ChangeAt Go.RowKit
set_option linter.unusedVariables false
set_option linter.unusedSimpArgs false

abbrev Sl := Bool × ByteArray
def emS : Sl := (false, ⟨#[]⟩)
/-- an empty slot -/
def isE (s : Sl) : Bool := !s.1 && decide (s.2.size = 0)
/-- an empty one has no record -/
def okS (s : Sl) : Bool := s.1 || decide (s.2.size = 0)
def told (s : Sl) : Nat := if s.1 then s.2.size + 1 else 0
def nums (l : List Sl) : List UInt8 := l.flatMap fun s => putL (told s) 2
def recs (l : List Sl) : List UInt8 := l.flatMap fun s => s.2.data.toList
def sz (l : List Sl) : Nat := 2 + 2 * l.length + (recs l).length
def rmL (l : List Sl) : List UInt8 := putL l.length 2 ++ (nums l ++ (recs l ++ List.replicate (496 - sz l) 0))
def rmB (l : List Sl) : ByteArray := ⟨(rmL l).toArray⟩
/-- without empty ones at the end -/
def tr (l : List Sl) : List Sl := (l.reverse.dropWhile isE).reverse
theorem isE_em : isE emS = true := rfl
theorem isE_eq (s : Sl) (h : isE s = true) : s = emS := by
  obtain ⟨u, r⟩ := s
  simp [isE] at h
  obtain ⟨rfl, h⟩ := h
  subst h
  rfl
theorem okS_no (s : Sl) (h : okS s = true) (h1 : s.1 = false) : s = emS := isE_eq s (by simp [okS, h1] at h; simp [isE, h1, h])
theorem tr_nil : tr [] = [] := rfl
theorem tr_yes (l : List Sl) (s : Sl) (h : isE s = true) : tr (l ++ [s]) = tr l := by simp [tr, List.dropWhile_cons, h]
theorem tr_no (l : List Sl) (s : Sl) (h : isE s = false) : tr (l ++ [s]) = l ++ [s] := by simp [tr, List.dropWhile_cons, h]
theorem snoc_cases (l : List Sl) : l = [] ∨ ∃ k s, l = k ++ [s] := by
  rcases List.eq_nil_or_concat l with h | ⟨k, s, h⟩
  · exact .inl h
  · exact .inr ⟨k, s, by simpa using h⟩
theorem tr_take : ∀ (n : Nat) (l : List Sl), l.length = n → ∃ k, k ≤ l.length ∧ tr l = l.take k ∧ (∀ s ∈ l.drop k, isE s = true) := by
  intro n
  induction n with
  | zero => intro l h; obtain rfl : l = [] := List.length_eq_zero_iff.1 h; exact ⟨0, Nat.le_refl _, rfl, by simp⟩
  | succ n ih =>
    intro l h
    rcases snoc_cases l with rfl | ⟨m, s, rfl⟩
    · simp at h
    · simp at h
      cases hs : isE s with
      | false => exact ⟨m.length + 1, by simp, by rw [tr_no _ _ hs, List.take_of_length_le (by simp)], by simp⟩
      | true =>
        obtain ⟨k, h1, h2, h3⟩ := ih m h
        refine ⟨k, by simp; omega, ?_, ?_⟩
        · rw [tr_yes _ _ hs, h2, List.take_append_of_le_length h1]
        · intro x hx
          rw [List.drop_append_of_le_length h1] at hx
          rcases List.mem_append.1 hx with hx | hx
          · exact h3 x hx
          · simp at hx; rw [hx]; exact hs
theorem tr_len (l : List Sl) : (tr l).length ≤ l.length := by
  obtain ⟨k, h1, h2, _⟩ := tr_take _ l rfl
  rw [h2]; simp; omega
theorem tr_same (l : List Sl) (h : (tr l).length = l.length) : tr l = l := by
  obtain ⟨k, h1, h2, _⟩ := tr_take _ l rfl
  rw [h2] at h ⊢
  simp at h
  rw [List.take_of_length_le (by omega)]
theorem tr_tr (l : List Sl) : tr (tr l) = tr l := by
  obtain ⟨n, hn⟩ : ∃ n, n = l.length := ⟨_, rfl⟩
  induction n generalizing l with
  | zero => obtain rfl : l = [] := List.length_eq_zero_iff.1 hn.symm; rfl
  | succ n ih =>
    rcases snoc_cases l with rfl | ⟨m, s, rfl⟩
    · rfl
    · cases hs : isE s with
      | true => rw [tr_yes _ _ hs]; exact ih m (by simpa using hn)
      | false => rw [tr_no _ _ hs, tr_no _ _ hs]
theorem tr_mem (l : List Sl) : ∀ s ∈ tr l, s ∈ l := by
  obtain ⟨k, _, h2, _⟩ := tr_take _ l rfl
  rw [h2]
  exact fun s hs => List.mem_of_mem_take hs
theorem recs_app (a b : List Sl) : recs (a ++ b) = recs a ++ recs b := by simp [recs]
theorem nums_app (a b : List Sl) : nums (a ++ b) = nums a ++ nums b := by simp [nums]
theorem recs_one (s : Sl) : recs [s] = s.2.data.toList := by simp [recs]
theorem nums_one (s : Sl) : nums [s] = putL (told s) 2 := by simp [nums]
theorem putL_two (n : Nat) : putL n 2 = [byteAt n 0, byteAt n 1] := rfl
theorem len_data (s : ByteArray) : s.data.toList.length = s.size := Array.length_toList
theorem nums_len (l : List Sl) : (nums l).length = 2 * l.length := by
  induction l with
  | nil => rfl
  | cons s l ih => rw [show nums (s :: l) = putL (told s) 2 ++ nums l from rfl, List.length_append, ih, putL_two, List.length_cons]; simp; omega
theorem sz_snoc (l : List Sl) (s : Sl) : sz (l ++ [s]) = sz l + 2 + s.2.size := by
  unfold sz
  rw [recs_app, recs_one]
  simp only [List.length_append, len_data, List.length_singleton]
  omega
theorem sz_take (l : List Sl) (k : Nat) : sz (l.take k) ≤ sz l := by
  have e : recs l = recs (l.take k) ++ recs (l.drop k) := by rw [← recs_app, List.take_append_drop]
  have h1 : (l.take k).length ≤ l.length := by rw [List.length_take]; omega
  unfold sz
  rw [e, List.length_append]
  omega
theorem sz_tr (l : List Sl) : sz (tr l) ≤ sz l := by
  obtain ⟨k, _, h2, _⟩ := tr_take _ l rfl
  rw [h2]; exact sz_take l k
theorem rm_len (l : List Sl) (h : sz l ≤ 496) : (rmL l).length = 496 := by
  unfold rmL
  rw [List.length_append, List.length_append, List.length_append, nums_len, List.length_replicate, putL_two]
  unfold sz at h ⊢
  simp only [List.length_cons, List.length_nil]
  omega
theorem rmB_size (l : List Sl) (h : sz l ≤ 496) : (rmB l).size = 496 := by
  show (rmL l).toArray.size = 496
  simpa using rm_len l h

/-- the number i of a room, 0 behind its end -/
def nm (s : ByteArray) (i : Nat) : Nat := if 2 * i + 2 ≤ s.size then getN s (2 * i) 2 else 0
theorem nm_lt (s : ByteArray) (i : Nat) : nm s i < 65536 := by
  unfold nm; split
  · have := getN_lt s (2 * i) 2; omega
  · omega
theorem getN_two (s : ByteArray) (p : Nat) : getN s p 2 = bN s p + 256 * bN s (p + 1) := by
  show 0 + bN s (p + 0) * 2 ^ (8 * 0) + bN s (p + 1) * 2 ^ (8 * 1) = _
  rw [Nat.add_zero]
  omega
theorem byte_lo (x y : Nat) (hx : x < 256) : byteAt (x + 256 * y) 0 = UInt8.ofNat x := by
  apply UInt8.toNat_inj.1
  simp [byteAt] <;> omega
theorem byte_hi (x y : Nat) (hx : x < 256) : byteAt (x + 256 * y) 1 = UInt8.ofNat y := by
  unfold byteAt
  congr 1
  omega
theorem bN_at (s : ByteArray) (i : Nat) (h : i < s.size) : s.data.toList[i]? = some (UInt8.ofNat (bN s i)) := by
  rw [bN_of s i h, UInt8.ofNat_toNat, Array.getElem?_toList]
  rw [Array.getElem?_eq_getElem (by exact h)]
  rfl
theorem put_get (s : ByteArray) (p : Nat) (h : p + 2 ≤ s.size) : putL (getN s p 2) 2 = (s.data.toList.drop p).take 2 := by
  have h0 := bN_at s p (by omega)
  have h1 := bN_at s (p + 1) (by omega)
  rw [getN_two, putL_two, byte_lo _ _ (bN_lt s p), byte_hi _ _ (bN_lt s p)]
  apply List.ext_getElem?
  intro i
  rw [List.getElem?_take, List.getElem?_drop]
  match i with
  | 0 => simpa using h0.symm
  | 1 => simpa using h1.symm
  | i + 2 => simp; intro h; omega
/-- what two bytes are -/
theorem get_put (s : ByteArray) (p n : Nat) (h : p + 2 ≤ s.size) (hn : n < 65536) (e : (s.data.toList.drop p).take 2 = putL n 2) : getN s p 2 = n := by
  rw [← put_get s p h, putL_two, putL_two] at e
  have hx := getN_lt s p 2
  obtain ⟨x, hx'⟩ : ∃ x, x = getN s p 2 := ⟨_, rfl⟩
  rw [← hx'] at e hx ⊢
  simp only [List.cons.injEq] at e
  have e0 := congrArg UInt8.toNat e.1
  have e1 := congrArg UInt8.toNat e.2.1
  simp [byteAt] at e0 e1
  omega

/-- the slots that the first k numbers tell, and where their records end -/
def stp (s : ByteArray) : Nat → Option (List Sl × Nat)
  | 0 => some ([], 2 + 2 * nm s 0)
  | k + 1 => match stp s k with
    | none => none
    | some (l, a) => if nm s (k + 1) = 0 then some (l ++ [emS], a)
      else if s.size < a + nm s (k + 1) - 1 then none else some (l ++ [(true, s.extract a (a + nm s (k + 1) - 1))], a + nm s (k + 1) - 1)
theorem stp_none (s : ByteArray) (k : Nat) (h : stp s k = none) : ∀ n, k ≤ n → stp s n = none := by
  intro n
  induction n with
  | zero => intro hk; obtain rfl : k = 0 := by omega
            exact h
  | succ n ih =>
    intro hk
    by_cases e : k = n + 1
    · rw [← e]; exact h
    · unfold stp; rw [ih (by omega)]
/-- what stands there -/
structure Stp (s : ByteArray) (k : Nat) (l : List Sl) (a : Nat) : Prop where
  len : l.length = k
  end_ : a = 2 + 2 * nm s 0 + (recs l).length
  le : a ≤ s.size
  ok : ∀ x ∈ l, okS x = true
  num : nums l = (s.data.toList.drop 2).take (2 * k)
  rcs : recs l = (s.data.toList.drop (2 + 2 * nm s 0)).take (recs l).length
theorem ext_list (s : ByteArray) (a b : Nat) : (s.extract a b).data.toList = (s.data.toList.take b).drop a := by
  rw [ByteArray.data_extract, Array.toList_extract, List.extract_eq_take_drop, List.drop_take]
theorem Stp.more {s : ByteArray} {k : Nat} {l : List Sl} {a : Nat} (h : Stp s k l a) (x : Sl) (b : Nat) (hk : k < nm s 0) (hn : 2 + 2 * nm s 0 ≤ s.size) (ht : told x = nm s (k + 1)) (hx : okS x = true) (hb : b = a + x.2.size) (hle : b ≤ s.size) (hr : x.2.data.toList = (s.data.toList.drop a).take x.2.size) : Stp s (k + 1) (l ++ [x]) b := by
  have hlen : (recs (l ++ [x])).length = (recs l).length + x.2.size := by rw [recs_app, recs_one, List.length_append, len_data]
  refine ⟨by simp [h.len], by rw [hlen, hb, h.end_]; omega, hle, ?_, ?_, ?_⟩
  · intro y hy
    rcases List.mem_append.1 hy with hy | hy
    · exact h.ok y hy
    · simp at hy; rw [hy]; exact hx
  · rw [nums_app, nums_one, h.num, ht]
    have e : nm s (k + 1) = getN s (2 + 2 * k) 2 := by unfold nm; rw [if_pos (by omega)]; congr 1; omega
    rw [e, put_get s (2 + 2 * k) (by omega), show 2 * (k + 1) = 2 * k + 2 by omega, List.take_add, List.drop_drop]
  · rw [hlen, recs_app, recs_one, List.take_add, List.drop_drop, ← h.rcs, ← h.end_]
    congr 1
theorem stp_is (s : ByteArray) (hn : 2 + 2 * nm s 0 ≤ s.size) : ∀ k l a, k ≤ nm s 0 → stp s k = some (l, a) → Stp s k l a := by
  intro k
  induction k with
  | zero =>
    intro l a _ h
    unfold stp at h
    injection h with h
    injection h with h1 h2
    subst h1 h2
    exact ⟨rfl, by simp [recs], hn, by simp, by simp [nums], by simp [recs]⟩
  | succ k ih =>
    intro l a hk h
    unfold stp at h
    cases hs : stp s k with
    | none => rw [hs] at h; cases h
    | some q =>
      obtain ⟨m, b⟩ := q
      rw [hs] at h
      have H := ih m b (by omega) hs
      simp only at h
      by_cases h0 : nm s (k + 1) = 0
      · rw [if_pos h0] at h
        injection h with h
        injection h with h1 h2
        subst h1 h2
        exact H.more emS b (by omega) hn (by rw [h0]; rfl) rfl rfl H.le (by show ([] : List UInt8) = List.take 0 _; simp)
      · rw [if_neg h0] at h
        by_cases h1 : s.size < b + nm s (k + 1) - 1
        · rw [if_pos h1] at h; cases h
        · rw [if_neg h1] at h
          injection h with h
          injection h with h2 h3
          subst h2 h3
          have z : (s.extract b (b + nm s (k + 1) - 1)).size = nm s (k + 1) - 1 := by rw [ByteArray.size_extract]; omega
          refine H.more _ _ (by omega) hn ?_ rfl ?_ (by omega) ?_
          · show (if true = true then (s.extract b (b + nm s (k + 1) - 1)).size + 1 else 0) = _
            rw [if_pos rfl, z]; omega
          · show _ = b + (s.extract b (b + nm s (k + 1) - 1)).size
            rw [z]; omega
          · show (s.extract b (b + nm s (k + 1) - 1)).data.toList = List.take (s.extract b (b + nm s (k + 1) - 1)).size _
            rw [z, ext_list, List.drop_take]
            congr 1
            omega
/-- the slots of a room -/
def rd (s : ByteArray) : Option (List Sl) :=
  if s.size = 496 ∧ 2 + 2 * nm s 0 ≤ 496 then
    match stp s (nm s 0) with
    | none => none
    | some (l, a) => if (tr l).length = l.length ∧ s.data.toList.drop a = List.replicate (496 - a) 0 then some l else none
  else none
/-- slots that a room can be of -/
structure Fit (l : List Sl) : Prop where
  ok : ∀ x ∈ l, okS x = true
  tr : tr l = l
  sz : sz l ≤ 496
theorem rd_sound (s : ByteArray) (l : List Sl) (h : rd s = some l) : Fit l ∧ rmB l = s := by
  unfold rd at h
  by_cases h1 : s.size = 496 ∧ 2 + 2 * nm s 0 ≤ 496
  · rw [if_pos h1] at h
    cases hs : stp s (nm s 0) with
    | none => rw [hs] at h; cases h
    | some q =>
      obtain ⟨m, a⟩ := q
      rw [hs] at h
      simp only at h
      by_cases h2 : (tr m).length = m.length ∧ s.data.toList.drop a = List.replicate (496 - a) 0
      · rw [if_pos h2] at h
        injection h with h
        subst h
        have H := stp_is s (by omega) _ _ _ (Nat.le_refl _) hs
        have hz : sz m = a := by rw [H.end_]; unfold sz; rw [H.len]
        refine ⟨⟨H.ok, tr_same _ h2.1, by rw [hz]; have := H.le; omega⟩, ?_⟩
        apply ByteArray.ext
        apply Array.toList_inj.1
        show (rmL m).toArray.toList = _
        rw [List.toList_toArray]
        unfold rmL
        rw [hz, H.len, H.num, ← h2.2]
        have e0 : putL (nm s 0) 2 = s.data.toList.take 2 := by
          have : nm s 0 = getN s 0 2 := by unfold nm; rw [if_pos (by omega)]
          rw [this, put_get s 0 (by omega), List.drop_zero]
        have e3 : s.data.toList.drop a = ((s.data.toList.drop 2).drop (2 * nm s 0)).drop (recs m).length := by rw [List.drop_drop, List.drop_drop, H.end_]; congr 1; omega
        have e4 : recs m = ((s.data.toList.drop 2).drop (2 * nm s 0)).take (recs m).length := by rw [List.drop_drop]; exact H.rcs
        rw [e0, e3]
        conv => lhs; rhs; rhs; lhs; rw [e4]
        rw [List.take_append_drop, List.take_append_drop, List.take_append_drop]
      · rw [if_neg h2] at h; cases h
  · rw [if_neg h1] at h; cases h
theorem tolds_lt {l : List Sl} (h : sz l ≤ 496) (i : Nat) (hi : i < l.length) : told (l[i]'hi) ≤ 497 := by
  have e : l = l.take i ++ [l[i]'hi] ++ l.drop (i + 1) := by
    rw [List.take_append_getElem hi, List.take_append_drop]
  have h1 := sz_take l (i + 1)
  rw [← List.take_append_getElem hi, sz_snoc] at h1
  unfold told
  split <;> omega
theorem nums_at (l : List Sl) (i : Nat) (hi : i < l.length) : ((nums l).drop (2 * i)).take 2 = putL (told (l[i]'hi)) 2 := by
  have e : nums l = nums (l.take i) ++ (putL (told (l[i]'hi)) 2 ++ nums (l.drop (i + 1))) := by
    rw [← nums_one, ← nums_app, ← nums_app]
    congr 1
    rw [← List.append_assoc, List.take_append_getElem hi, List.take_append_drop]
  rw [e, List.drop_append, List.drop_of_length_le (by rw [nums_len, List.length_take]; omega), List.nil_append, nums_len, List.length_take, show 2 * i - 2 * min i l.length = 0 by omega, List.drop_zero, List.take_append, List.take_of_length_le (by simp [putL_two])]
  simp [putL_two]
theorem rm_list (l : List Sl) : (rmB l).data.toList = rmL l := by show (rmL l).toArray.toList = _; simp
theorem rm_nm0 (l : List Sl) (h : sz l ≤ 496) : nm (rmB l) 0 = l.length := by
  have z := rmB_size l h
  have hl : l.length < 65536 := by unfold sz at h; omega
  unfold nm
  rw [if_pos (by omega)]
  refine get_put _ _ _ (by omega) hl ?_
  rw [rm_list]
  unfold rmL
  rw [putL_two]
  simp
theorem rm_nm (l : List Sl) (h : sz l ≤ 496) (i : Nat) (hi : i < l.length) : nm (rmB l) (i + 1) = told (l[i]'hi) := by
  have z := rmB_size l h
  have hl : 2 + 2 * l.length ≤ 496 := by unfold sz at h; omega
  unfold nm
  rw [if_pos (by omega)]
  refine get_put _ _ _ (by omega) (by have := tolds_lt h i hi; omega) ?_
  rw [rm_list]
  unfold rmL
  rw [show 2 * (i + 1) = 2 + 2 * i by omega, ← List.drop_drop, List.drop_left' (by simp [putL_two]),
    List.drop_append_of_le_length (by rw [nums_len]; omega), List.take_append_of_le_length (by rw [List.length_drop, nums_len]; omega)]
  exact nums_at l i hi
theorem rm_base (l : List Sl) : (rmL l).drop (2 + 2 * l.length) = recs l ++ List.replicate (496 - sz l) 0 := by
  unfold rmL
  rw [← List.drop_drop, List.drop_left' (by simp [putL_two]), List.drop_left' (nums_len l)]
theorem rm_stp (l : List Sl) (h : Fit l) : ∀ k, k ≤ l.length → stp (rmB l) k = some (l.take k, 2 + 2 * l.length + (recs (l.take k)).length) := by
  intro k
  have z := rmB_size l h.sz
  induction k with
  | zero => intro _; unfold stp; rw [rm_nm0 l h.sz]; simp [recs]
  | succ k ih =>
    intro hk
    unfold stp
    rw [ih (by omega), rm_nm l h.sz k (by omega)]
    simp only
    have ek : l.take (k + 1) = l.take k ++ [l[k]'(by omega)] := by rw [List.take_append_getElem]
    have hs := sz_take l (k + 1)
    have hzz := h.sz
    obtain ⟨x, hx⟩ : ∃ x, x = l[k]'(by omega) := ⟨_, rfl⟩
    rw [← hx] at ek ⊢
    have hxm : x ∈ l := by rw [hx]; exact List.getElem_mem _
    rw [ek] at hs
    have hlk : sz (l.take k ++ [x]) = 2 + 2 * (k + 1) + (recs (l.take k)).length + x.2.size := by
      rw [sz_snoc]; unfold sz; rw [List.length_take]; omega
    have hR : (recs l).length = (recs (l.take k)).length + x.2.size + (recs (l.drop (k + 1))).length := by
      rw [show recs l = recs (l.take (k + 1)) ++ recs (l.drop (k + 1)) by rw [← recs_app, List.take_append_drop], ek, recs_app, recs_one, List.length_append, List.length_append, len_data]
    have hzl : sz l = 2 + 2 * l.length + (recs l).length := rfl
    cases hu : x.1 with
    | false =>
      have e := okS_no x (h.ok x hxm) hu
      have e2 : x.2.size = 0 := by rw [e]; rfl
      rw [if_pos (by unfold told; rw [hu]; rfl), ek, recs_app, recs_one, List.length_append, len_data, e2, e, Nat.add_zero]
    | true =>
      have et : told x = x.2.size + 1 := by unfold told; rw [hu]; rfl
      rw [et, if_neg (by omega), if_neg (by omega), ek, recs_app, recs_one, List.length_append, len_data]
      have ext : (rmB l).extract (2 + 2 * l.length + (recs (l.take k)).length) (2 + 2 * l.length + (recs (l.take k)).length + (x.2.size + 1) - 1) = x.2 := by
        apply ByteArray.ext
        apply Array.toList_inj.1
        rw [ext_list, List.drop_take, rm_list, ← List.drop_drop, rm_base]
        rw [show recs l = recs (l.take (k + 1)) ++ recs (l.drop (k + 1)) by rw [← recs_app, List.take_append_drop], ek, recs_app, recs_one, List.append_assoc, List.append_assoc, List.drop_append, List.drop_length, List.nil_append, Nat.sub_self, List.drop_zero]
        rw [List.take_append_of_le_length (by rw [len_data]; omega), List.take_of_length_le (by rw [len_data]; omega)]
      rw [ext, show 2 + 2 * l.length + (recs (l.take k)).length + (x.2.size + 1) - 1 = 2 + 2 * l.length + ((recs (l.take k)).length + x.2.size) by omega, show ((true, x.2) : Sl) = x from Prod.ext hu.symm rfl]
theorem rd_rm (l : List Sl) (h : Fit l) : rd (rmB l) = some l := by
  have z := rmB_size l h.sz
  have hz := h.sz
  unfold rd
  rw [rm_nm0 l h.sz, rm_stp l h l.length (Nat.le_refl _), if_pos ⟨z, by unfold sz at hz; omega⟩]
  simp only [List.take_length]
  have hc : (rmB l).data.toList.drop (2 + 2 * l.length + (recs l).length) = List.replicate (496 - (2 + 2 * l.length + (recs l).length)) 0 := by
    rw [rm_list, ← List.drop_drop, rm_base, List.drop_left' rfl]
    rfl
  rw [if_pos ⟨by rw [h.tr], hc⟩]
/-- what packing answers: the room, and the error -/
def pk (l : List Sl) : ByteArray × Nat := if l.all okS = false then (⟨#[]⟩, 2) else if 496 < sz (tr l) then (⟨#[]⟩, 8) else (rmB (tr l), 0)
theorem pk_fit {l : List Sl} (h : (pk l).2 = 0) : Fit (tr l) ∧ pk l = (rmB (tr l), 0) := by
  unfold pk at h ⊢
  by_cases h1 : l.all okS = false
  · rw [if_pos h1] at h; cases h
  · rw [if_neg h1] at h ⊢
    by_cases h2 : 496 < sz (tr l)
    · rw [if_pos h2] at h; cases h
    · rw [if_neg h2]
      refine ⟨⟨fun x hx => ?_, tr_tr l, by omega⟩, rfl⟩
      have : l.all okS = true := by simpa using h1
      exact List.all_eq_true.1 this x (tr_mem l x hx)
theorem pk_room {l : List Sl} (h : Fit l) : pk l = (rmB l, 0) := by
  unfold pk
  rw [if_neg (by rw [List.all_eq_true.2 h.ok]; simp), h.tr, if_neg (by have := h.sz; omega)]
/-- the document's reading: what is packed again is the room -/
theorem rd_pk (s : ByteArray) (h1 : s.size = 496) (h2 : 2 + 2 * nm s 0 ≤ 496) : rd s = (match stp s (nm s 0) with | none => none | some (l, _) => if pk l = (s, 0) then some l else none) := by
  cases hs : stp s (nm s 0) with
  | none => unfold rd; rw [if_pos ⟨h1, h2⟩, hs]
  | some q =>
    obtain ⟨l, a⟩ := q
    simp only
    have H := stp_is s (by omega) _ _ _ (Nat.le_refl _) hs
    by_cases hp : pk l = (s, 0)
    · rw [if_pos hp]
      obtain ⟨hf, he⟩ := pk_fit (l := l) (by rw [hp])
      have e : rmB (tr l) = s := by rw [hp] at he; injection he with he _; exact he.symm
      have n0 := rm_nm0 _ hf.sz
      rw [e] at n0
      have et : tr l = l := tr_same l (by rw [← n0, H.len])
      rw [et] at hf e
      rw [← e]; exact rd_rm l hf
    · rw [if_neg hp]
      cases hr : rd s with
      | none => rfl
      | some m =>
        exfalso
        have hs' := rd_sound s m hr
        unfold rd at hr
        rw [if_pos ⟨h1, h2⟩, hs] at hr
        simp only at hr
        by_cases h3 : (tr l).length = l.length ∧ s.data.toList.drop a = List.replicate (496 - a) 0
        · rw [if_pos h3] at hr
          injection hr with hr
          subst hr
          exact hp (by rw [pk_room hs'.1, hs'.2])
        · rw [if_neg h3] at hr; cases hr
theorem rd_no (s : ByteArray) (h : ¬ (s.size = 496 ∧ 2 + 2 * nm s 0 ≤ 496)) : rd s = none := by unfold rd; rw [if_neg h]
end Go.Proofs.YteepggjbgdjchaaDoor
