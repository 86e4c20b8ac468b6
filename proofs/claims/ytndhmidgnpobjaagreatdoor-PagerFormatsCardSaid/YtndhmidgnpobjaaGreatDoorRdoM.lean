
/- Plain mathematics of the log: a page's sectors, the page that nine sectors hold, marks of transactions, what stands on sectors. It speaks of no function. No condition but those that each theorem names. -/
import Derived.Test.YtndhmidgnpobjaaGreatDoorPagM
namespace Go.Proofs.YtndhmidgnpobjaaGreatDoor
open Go.ChangeShapes Go.WideShapes Go.ChangeAt Go.RowKit
set_option linter.unusedVariables false
set_option linter.unusedSimpArgs false

/-- a page with noughts behind it, 567 bytes -/
def restB (p : ByteArray) : ByteArray := p ++ zB (567 - p.size)
/-- a byte 00 at the place 10 -/
def layB (s : ByteArray) : ByteArray := s.extract 0 10 ++ ⟨#[0]⟩ ++ s.extract 10 s.size
/-- the page's sector i -/
def secB (p : ByteArray) (i : Nat) : ByteArray := layB ((restB p).extract (i * 63) ((i + 1) * 63))
def secs (p : ByteArray) : List ByteArray := (List.range 9).map (secB p)
/-- a sector without its byte at the place 10 -/
def stripB (s : ByteArray) : ByteArray := s.extract 0 10 ++ s.extract 11 s.size
def catL (ss : List ByteArray) : List UInt8 := ss.flatMap fun s => (stripB s).data.toList
def gatP (ss : List ByteArray) : ByteArray := (⟨(catL ss).toArray⟩ : ByteArray).extract 0 512
def isPg (ss : List ByteArray) : Bool := decide (secs (gatP ss) = ss)
/-- the mark of a transaction of n pages -/
def cntB (n : Nat) : ByteArray := ⟨(putL n 2).toArray⟩ ++ ⟨#[1]⟩
def markB (seq n : Nat) : ByteArray := mkB seq (cntB n)

theorem mk_size (l : List UInt8) : (⟨l.toArray⟩ : ByteArray).size = l.length := by show l.toArray.size = _; simp
theorem bN_mk (l : List UInt8) (j : Nat) : bN ⟨l.toArray⟩ j = (l.getD j 0).toNat := by
  unfold bN
  by_cases h : j < l.length
  · rw [dif_pos (by rw [mk_size]; exact h)]
    simp [ByteArray.getElem_eq_getElem_data, h]
  · rw [dif_neg (by rw [mk_size]; exact h)]
    simp [h]
theorem bN_list (s : ByteArray) (j : Nat) : bN s j = (s.data.toList.getD j 0).toNat := bN_mk s.data.toList j
theorem bN_out (s : ByteArray) (j : Nat) (h : s.size ≤ j) : bN s j = 0 := by unfold bN; rw [dif_neg (by omega)]
theorem bN_app (a b : ByteArray) (j : Nat) : bN (a ++ b) j = if j < a.size then bN a j else bN b (j - a.size) := by
  split
  · exact bN_left a b j (by assumption)
  · rename_i h
    by_cases hb : j - a.size < b.size
    · have := bN_right a b (j - a.size) hb
      rwa [show a.size + (j - a.size) = j by omega] at this
    · rw [bN_out _ j (by rw [ByteArray.size_append]; omega), bN_out b _ (by omega)]
theorem bN_zB (k j : Nat) : bN (zB k) j = 0 := by
  show bN ⟨(List.replicate k (0 : UInt8)).toArray⟩ j = 0
  rw [bN_mk]
  by_cases h : j < k <;> simp [h]
theorem bN_one (x : UInt8) (j : Nat) : bN ⟨#[x]⟩ j = if j = 0 then x.toNat else 0 := by
  have := bN_mk [x] j
  rw [this]
  cases j <;> simp
theorem restB_size (p : ByteArray) (h : p.size ≤ 567) : (restB p).size = 567 := by unfold restB; rw [ByteArray.size_append, zB_size]; omega
theorem restB_byte (p : ByteArray) (j : Nat) : bN (restB p) j = bN p j := by
  unfold restB
  rw [bN_app, bN_zB]
  split
  · rfl
  · rw [bN_out p j (by omega)]
theorem layB_size (s : ByteArray) (h : s.size = 63) : (layB s).size = 64 := by
  unfold layB
  simp only [ByteArray.size_append, ByteArray.size_extract, h]
  rfl
theorem layB_byte (s : ByteArray) (h : s.size = 63) (k : Nat) (hk : k < 64) : bN (layB s) k = if k < 10 then bN s k else if k = 10 then 0 else bN s (k - 1) := by
  unfold layB
  have z1 : (s.extract 0 10).size = 10 := by rw [ByteArray.size_extract]; omega
  have z2 : (s.extract 0 10 ++ (⟨#[0]⟩ : ByteArray)).size = 11 := by rw [ByteArray.size_append, z1]; rfl
  rw [bN_app, z2, bN_app, z1]
  by_cases h1 : k < 10
  · rw [if_pos (by omega), if_pos h1, if_pos h1, bN_extract s 0 10 k (by omega) (by omega), Nat.zero_add]
  · by_cases h2 : k = 10
    · subst h2
      rw [if_pos (by omega), if_neg h1, if_neg h1, if_pos rfl, bN_one]
      rfl
    · rw [if_neg (by omega), if_neg h1, if_neg h2, bN_extract s 10 s.size (k - 11) (by omega) (by omega)]
      congr 1; omega
theorem part_size (p : ByteArray) (h : p.size ≤ 567) (i : Nat) (hi : i < 9) : ((restB p).extract (i * 63) ((i + 1) * 63)).size = 63 := by
  rw [ByteArray.size_extract, restB_size p h]; omega
theorem secB_size (p : ByteArray) (h : p.size ≤ 567) (i : Nat) (hi : i < 9) : (secB p i).size = 64 := layB_size _ (part_size p h i hi)
theorem secB_byte (p : ByteArray) (h : p.size ≤ 567) (i : Nat) (hi : i < 9) (k : Nat) (hk : k < 64) : bN (secB p i) k = if k < 10 then bN p (63 * i + k) else if k = 10 then 0 else bN p (63 * i + k - 1) := by
  have hz := part_size p h i hi
  have hr := restB_size p h
  have e : ∀ j, j < 63 → bN ((restB p).extract (i * 63) ((i + 1) * 63)) j = bN p (63 * i + j) := fun j hj => by
    rw [bN_extract _ _ _ j (by omega) (by omega), restB_byte]
    congr 1; omega
  unfold secB
  rw [layB_byte _ hz k hk]
  by_cases h1 : k < 10
  · rw [if_pos h1, if_pos h1, e k (by omega)]
  · rw [if_neg h1, if_neg h1]
    by_cases h2 : k = 10
    · rw [if_pos h2, if_pos h2]
    · rw [if_neg h2, if_neg h2, e (k - 1) (by omega)]
      congr 1; omega
theorem stripB_size (s : ByteArray) (h : s.size = 64) : (stripB s).size = 63 := by
  unfold stripB
  simp only [ByteArray.size_append, ByteArray.size_extract, h]
  rfl
theorem stripB_byte (s : ByteArray) (h : s.size = 64) (k : Nat) (hk : k < 63) : bN (stripB s) k = if k < 10 then bN s k else bN s (k + 1) := by
  unfold stripB
  have z1 : (s.extract 0 10).size = 10 := by rw [ByteArray.size_extract]; omega
  rw [bN_app, z1]
  by_cases h1 : k < 10
  · rw [if_pos h1, if_pos h1, bN_extract s 0 10 k (by omega) (by omega), Nat.zero_add]
  · rw [if_neg h1, if_neg h1, bN_extract s 11 s.size (k - 10) (by omega) (by omega)]
    congr 1; omega
theorem catL_len : ∀ (ss : List ByteArray), (∀ s ∈ ss, s.size = 64) → (catL ss).length = ss.length * 63
  | [], _ => rfl
  | s :: ss, h => by
    have ih := catL_len ss fun x hx => h x (by simp [hx])
    have h1 := stripB_size s (h s (by simp))
    have h2 : (stripB s).data.toList.length = (stripB s).size := rfl
    simp only [catL, List.flatMap_cons, List.length_append, List.length_cons] at *
    omega
theorem catL_at : ∀ (ss : List ByteArray) (i k : Nat) (hi : i < ss.length), (∀ s ∈ ss, s.size = 64) → k < 63 → (catL ss).getD (63 * i + k) 0 = (stripB (ss[i]'hi)).data.toList.getD k 0
  | s :: ss, i, k, hi, h, hk => by
    have h1 := stripB_size s (h s (by simp))
    have h2 : (stripB s).data.toList.length = 63 := h1
    have e : catL (s :: ss) = (stripB s).data.toList ++ catL ss := by simp [catL]
    rw [e]
    cases i with
    | zero =>
      simp only [List.getD_eq_getElem?_getD, List.getElem_cons_zero]
      rw [List.getElem?_append_left (by omega)]
      simp
    | succ i =>
      have := catL_at ss i k (by simpa using hi) (fun x hx => h x (by simp [hx])) hk
      simp only [List.getD_eq_getElem?_getD, List.getElem_cons_succ] at this ⊢
      rw [List.getElem?_append_right (by omega), h2, show 63 * (i + 1) + k - 63 = 63 * i + k by omega]
      exact this
theorem gatP_size (ss : List ByteArray) (h : ∀ s ∈ ss, s.size = 64) (hl : ss.length = 9) : (gatP ss).size = 512 := by
  have := catL_len ss h
  unfold gatP
  rw [ByteArray.size_extract]
  have e : (⟨(catL ss).toArray⟩ : ByteArray).size = (catL ss).length := mk_size _
  omega
theorem gatP_byte (ss : List ByteArray) (h : ∀ s ∈ ss, s.size = 64) (hl : ss.length = 9) (j : Nat) (hj : j < 512) : bN (gatP ss) j = ((catL ss).getD j 0).toNat := by
  have := catL_len ss h
  have e : (⟨(catL ss).toArray⟩ : ByteArray).size = (catL ss).length := mk_size _
  unfold gatP
  rw [bN_extract _ 0 512 j (by omega) (by omega), Nat.zero_add, bN_mk]
/-- the page of a page's sectors is the page -/
theorem gatP_secs (p : ByteArray) (h : p.size = 512) : gatP (secs p) = p := by
  have hs : ∀ s ∈ secs p, s.size = 64 := fun s hs => by
    obtain ⟨i, hi, rfl⟩ := List.mem_map.1 hs
    exact secB_size p (by omega) i (List.mem_range.1 hi)
  have hl : (secs p).length = 9 := by simp [secs]
  have hz := gatP_size (secs p) hs hl
  refine bN_ext _ _ (by omega) fun j hj => ?_
  rw [gatP_byte _ hs hl j (by omega)]
  have hi : j / 63 < 9 := by omega
  have := catL_at (secs p) (j / 63) (j % 63) (by omega) hs (by omega)
  rw [show 63 * (j / 63) + j % 63 = j by omega] at this
  rw [this, ← bN_list]
  have e : (secs p)[j / 63]'(by omega) = secB p (j / 63) := by simp [secs]
  rw [e, stripB_byte _ (secB_size p (by omega) _ hi) _ (by omega)]
  split
  · rw [secB_byte p (by omega) _ hi _ (by omega), if_pos (by assumption)]
    exact congrArg (bN p) (by omega)
  · rw [secB_byte p (by omega) _ hi _ (by omega), if_neg (by omega), if_neg (by omega)]
    exact congrArg (bN p) (by omega)
theorem isPg_secs (p : ByteArray) (h : p.size = 512) : isPg (secs p) = true := by
  unfold isPg
  rw [gatP_secs p h]
  exact decide_eq_true rfl

theorem cntB_size (n : Nat) : (cntB n).size = 3 := by
  unfold cntB
  rw [ByteArray.size_append]
  show (putL n 2).toArray.size + 1 = 3
  simp [putL]
theorem markB_size (seq n : Nat) : (markB seq n).size = 64 := mkB_size seq _ (by rw [cntB_size]; omega)
theorem markB_body (seq n k : Nat) (hk : k < 48) : bN (markB seq n) (8 + k) = bN (cntB n) k := by
  have h8 := nB_size seq
  have hc := cntB_size n
  have hz := zB_size (48 - (cntB n).size)
  unfold markB mkB
  rw [bN_left _ _ _ (by simp only [ByteArray.size_append]; omega), ByteArray.append_assoc, ← h8, bN_right _ _ k (by simp only [ByteArray.size_append]; omega), bN_app, bN_zB]
  split
  · rfl
  · rw [bN_out _ _ (by omega)]
theorem cntB_byte (n : Nat) : bN (cntB n) 0 = n % 256 ∧ bN (cntB n) 1 = n / 256 % 256 ∧ bN (cntB n) 2 = 1 := by
  have z : (⟨(putL n 2).toArray⟩ : ByteArray).size = 2 := by show (putL n 2).toArray.size = 2; simp [putL]
  have e : putL n 2 = [byteAt n 0, byteAt n 1] := rfl
  have b0 : (byteAt n 0).toNat = n % 256 := by unfold byteAt; rw [UInt8.toNat_ofNat']; simp
  have b1 : (byteAt n 1).toNat = n / 256 % 256 := by unfold byteAt; rw [UInt8.toNat_ofNat']
  unfold cntB
  refine ⟨?_, ?_, ?_⟩
  · rw [bN_app, z, if_pos (by omega), bN_mk, e]; exact b0
  · rw [bN_app, z, if_pos (by omega), bN_mk, e]; exact b1
  · rw [bN_app, z, if_neg (by omega), bN_one]; rfl
theorem markB_ten (seq n : Nat) : bN (markB seq n) 10 = 1 := by rw [markB_body seq n 2 (by omega)]; exact (cntB_byte n).2.2
theorem markB_count (seq n : Nat) (hn : n < 65536) : getN (markB seq n) 8 2 = n := by
  have h0 := markB_body seq n 0 (by omega)
  have h1 := markB_body seq n 1 (by omega)
  have hc := cntB_byte n
  simp only [getN]
  rw [show 8 + 0 = 8 + 0 from rfl, h0, h1, hc.1, hc.2.1]
  omega
/-- how many pages the transaction has whose mark the sector is; 0, if it is none that fits -/
def cnt (x : ByteArray) (seq left : Nat) : Nat := if 1 ≤ getN x 8 2 ∧ getN x 8 2 ≤ 64 ∧ 1 + 9 * getN x 8 2 ≤ left ∧ x = markB seq (getN x 8 2) then getN x 8 2 else 0
theorem cnt_le (x : ByteArray) (seq left : Nat) : cnt x seq left ≤ 64 := by unfold cnt; split <;> omega
theorem cnt_fit (x : ByteArray) (seq left : Nat) (h : cnt x seq left ≠ 0) : 1 + 9 * cnt x seq left ≤ left ∧ x = markB seq (cnt x seq left) := by
  unfold cnt at h ⊢
  split
  · rename_i hc; exact ⟨hc.2.2.1, hc.2.2.2⟩
  · rename_i hc; exact absurd (if_neg hc) h
theorem cnt_mark (seq n left : Nat) (h1 : 1 ≤ n) (h2 : n ≤ 64) (h3 : 1 + 9 * n ≤ left) : cnt (markB seq n) seq left = n := by
  unfold cnt
  rw [markB_count seq n (by omega), if_pos ⟨h1, h2, h3, rfl⟩]
theorem cnt_no (x : ByteArray) (seq left : Nat) (h : ∀ n, 1 ≤ n → n ≤ 64 → x ≠ markB seq n) : cnt x seq left = 0 := by
  unfold cnt
  split
  · rename_i hc; exact absurd hc.2.2.2 (h _ hc.1 hc.2.1)
  · rfl
/-- nine sectors from one on -/
def nine (f : Nat → ByteArray) (p : Nat) : List ByteArray := (List.range 9).map fun i => f (p + i)
def pgs (f : Nat → ByteArray) (p n : Nat) : List ByteArray := (List.range n).map fun k => gatP (nine f (p + 9 * k))
def txn (f : Nat → ByteArray) (p seq left : Nat) : List ByteArray := if ∀ k, k < cnt (f p) seq left → isPg (nine f (p + 1 + 9 * k)) = true then pgs f (p + 1) (cnt (f p) seq left) else []
theorem pgs_len (f : Nat → ByteArray) (p n : Nat) : (pgs f p n).length = n := by simp [pgs]
theorem txn_le (f : Nat → ByteArray) (p seq left : Nat) : (txn f p seq left).length ≤ 64 := by
  unfold txn; split
  · rw [pgs_len]; exact cnt_le _ _ _
  · simp
theorem txn_fit (f : Nat → ByteArray) (p seq left : Nat) (h : (txn f p seq left).length ≠ 0) : 1 + 9 * (txn f p seq left).length ≤ left := by
  unfold txn at h ⊢; split at h
  · rename_i hc
    rw [if_pos hc, pgs_len]
    rw [pgs_len] at h
    exact (cnt_fit _ _ _ h).1
  · exact absurd rfl h
/-- the transactions that stand from p on, the first of the number seq, and how many sectors they take -/
def stands (f : Nat → ByteArray) : Nat → Nat → Nat → Nat → List (Nat × List ByteArray)
  | 0, _, _, _ => []
  | fuel + 1, p, left, seq => if (txn f p seq left).length = 0 then [] else (seq, txn f p seq left) :: stands f fuel (p + (1 + 9 * (txn f p seq left).length)) (left - (1 + 9 * (txn f p seq left).length)) ((seq + 1) % 18446744073709551616)
def long (l : List (Nat × List ByteArray)) : Nat := (l.map fun x => 1 + 9 * x.2.length).sum
/-- all that stands in a stretch -/
def standsAt (f : Nat → ByteArray) (size seq : Nat) : List (Nat × List ByteArray) := stands f (size + 1) 0 size seq
theorem stands_stop (f : Nat → ByteArray) (fuel p left seq : Nat) (h : (txn f p seq left).length = 0) : stands f fuel p left seq = [] := by
  cases fuel with
  | zero => rfl
  | succ n => unfold stands; rw [if_pos h]
theorem stands_step (f : Nat → ByteArray) (fuel p left seq : Nat) (hf : 0 < fuel) (h : (txn f p seq left).length ≠ 0) : stands f fuel p left seq = (seq, txn f p seq left) :: stands f (fuel - 1) (p + (1 + 9 * (txn f p seq left).length)) (left - (1 + 9 * (txn f p seq left).length)) ((seq + 1) % 18446744073709551616) := by
  cases fuel with
  | zero => omega
  | succ n => rw [stands, if_neg h]; rfl
theorem stands_long (f : Nat → ByteArray) : ∀ (fuel p left seq : Nat), long (stands f fuel p left seq) ≤ left
  | 0, _, _, _ => by simp [stands, long]
  | fuel + 1, p, left, seq => by
    unfold stands
    split
    · simp [long]
    · rename_i h
      have ih := stands_long f fuel (p + (1 + 9 * (txn f p seq left).length)) (left - (1 + 9 * (txn f p seq left).length)) ((seq + 1) % 18446744073709551616)
      have := txn_fit f p seq left h
      simp only [long, List.map_cons, List.sum_cons] at ih ⊢
      omega
theorem txn_zero (f : Nat → ByteArray) (p seq : Nat) : txn f p seq 0 = [] := by
  have : cnt (f p) seq 0 = 0 := by
    by_cases h : cnt (f p) seq 0 = 0
    · exact h
    · have := (cnt_fit _ _ _ h).1; omega
  unfold txn
  rw [this]
  split <;> rfl
theorem txn_no (f : Nat → ByteArray) (p seq left k : Nat) (hk : k < cnt (f p) seq left) (h : isPg (nine f (p + 1 + 9 * k)) = false) : txn f p seq left = [] := by
  unfold txn
  rw [if_neg]
  intro hh
  rw [hh k hk] at h
  cases h
theorem txn_yes (f : Nat → ByteArray) (p seq left : Nat) (h : ∀ k, k < cnt (f p) seq left → isPg (nine f (p + 1 + 9 * k)) = true) : txn f p seq left = pgs f (p + 1) (cnt (f p) seq left) := by
  unfold txn; rw [if_pos h]
def lenOf : Value → Nat
  | .slice _ n _ => n
  | _ => 0
theorem long_snoc (ts : List (Nat × List ByteArray)) (t : Nat × List ByteArray) : long (ts ++ [t]) = long ts + (1 + 9 * t.2.length) := by
  simp [long]
theorem long_ge (ts : List (Nat × List ByteArray)) : ts.length ≤ long ts := by
  induction ts with
  | nil => exact Nat.le_refl _
  | cons t ts ih => simp only [long, List.map_cons, List.sum_cons, List.length_cons] at *; omega
end Go.Proofs.YtndhmidgnpobjaaGreatDoor
