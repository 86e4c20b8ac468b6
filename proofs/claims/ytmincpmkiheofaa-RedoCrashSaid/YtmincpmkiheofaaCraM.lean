
/- Plain mathematics of crashes of a log: what stands on the sectors behind writes that are kept, torn or lost. It speaks of no function. Conditions: those that each theorem names. -/
import Derived.Test.YtmincpmkiheofaaRdlN
import Derived.Test.YtmincpmkiheofaaDisE
namespace Go.Proofs.Ytmincpmkiheofaa
open Go.ChangeShapes Go.WideShapes Go.ChangeAt Go.RowKit
set_option linter.unusedVariables false
set_option linter.unusedSimpArgs false

/-- the transactions ts stand from p on -/
def Laid (f : Nat → ByteArray) : Nat → Nat → Nat → List (Nat × List ByteArray) → Prop
  | _, _, _, [] => True
  | p, left, seq, t :: ts => t.1 = seq ∧ t.2.length ≠ 0 ∧ txn f p seq left = t.2 ∧ Laid f (p + (1 + 9 * t.2.length)) (left - (1 + 9 * t.2.length)) ((seq + 1) % 18446744073709551616) ts
theorem Laid.fit {f : Nat → ByteArray} : ∀ (ts : List (Nat × List ByteArray)) (p left seq : Nat), Laid f p left seq ts → long ts ≤ left
  | [], _, _, _, _ => Nat.zero_le _
  | t :: ts, p, left, seq, h => by
    obtain ⟨h1, h2, h3, h4⟩ := h
    have := Laid.fit ts _ _ _ h4
    have hf := txn_fit f p seq left (by rw [h3]; exact h2)
    rw [h3] at hf
    simp only [long, List.map_cons, List.sum_cons] at this ⊢
    omega
theorem txn_congr2 {f g : Nat → ByteArray} {p seq left : Nat} (h0 : (txn f p seq left).length ≠ 0) (h : ∀ q, p ≤ q → q < p + (1 + 9 * (txn f p seq left).length) → g q = f q) : txn g p seq left = txn f p seq left := by
  have e0 : g p = f p := h p (Nat.le_refl _) (by omega)
  have hc : ∀ k, k < cnt (f p) seq left → isPg (nine f (p + 1 + 9 * k)) = true := by
    by_cases c : ∀ k, k < cnt (f p) seq left → isPg (nine f (p + 1 + 9 * k)) = true
    · exact c
    · unfold txn at h0; rw [if_neg c] at h0; exact absurd rfl h0
  have e1 : txn f p seq left = pgs f (p + 1) (cnt (f p) seq left) := by unfold txn; rw [if_pos hc]
  rw [e1, pgs_len] at h
  have hn : ∀ k, k < cnt (f p) seq left → nine g (p + 1 + 9 * k) = nine f (p + 1 + 9 * k) := fun k hk => nine_congr fun q h1 h2 => h q (by omega) (by omega)
  rw [e1]
  unfold txn
  rw [e0, if_pos (fun k hk => by rw [hn k hk]; exact hc k hk)]
  unfold pgs
  apply List.map_congr_left
  intro k hk
  rw [hn k (List.mem_range.1 hk)]
theorem Laid.congr {f g : Nat → ByteArray} : ∀ (ts : List (Nat × List ByteArray)) (p left seq : Nat), Laid f p left seq ts → (∀ q, p ≤ q → q < p + long ts → g q = f q) → Laid g p left seq ts
  | [], _, _, _, _, _ => trivial
  | t :: ts, p, left, seq, h, hg => by
    obtain ⟨h1, h2, h3, h4⟩ := h
    have hl : long (t :: ts) = 1 + 9 * t.2.length + long ts := by simp [long]
    rw [hl] at hg
    refine ⟨h1, h2, ?_, Laid.congr ts _ _ _ h4 fun q a b => hg q (by omega) (by omega)⟩
    rw [txn_congr2 (by rw [h3]; exact h2) fun q a b => hg q a (by rw [h3] at b; omega), h3]
theorem Laid.snoc {f : Nat → ByteArray} (t : Nat × List ByteArray) (h2 : t.2.length ≠ 0) : ∀ (ts : List (Nat × List ByteArray)) (p left seq : Nat), Laid f p left seq ts → seq < 18446744073709551616 → t.1 = (seq + ts.length) % 18446744073709551616 → txn f (p + long ts) t.1 (left - long ts) = t.2 → Laid f p left seq (ts ++ [t])
  | [], p, left, seq, _, hs, h1, h3 => by
    have e : t.1 = seq := by simp at h1; omega
    refine ⟨e, h2, ?_, trivial⟩
    rw [← e]; exact h3
  | a :: ts, p, left, seq, h, hs, h1, h3 => by
    obtain ⟨a1, a2, a3, a4⟩ := h
    have hl : long (a :: ts) = 1 + 9 * a.2.length + long ts := by simp [long]
    rw [hl] at h3
    refine ⟨a1, a2, a3, Laid.snoc t h2 ts _ _ _ a4 (Nat.mod_lt _ (by omega)) ?_ ?_⟩
    · rw [h1, List.length_cons]; omega
    · rw [Nat.add_assoc, Nat.sub_sub]; exact h3
theorem Laid.stands {f : Nat → ByteArray} : ∀ (ts : List (Nat × List ByteArray)) (fuel p left seq : Nat), Laid f p left seq ts → seq < 18446744073709551616 → ts.length < fuel →
    (txn f (p + long ts) ((seq + ts.length) % 18446744073709551616) (left - long ts)).length = 0 → stands f fuel p left seq = ts
  | [], fuel, p, left, seq, _, hs, hf, h0 => by
    refine stands_stop f fuel p left seq ?_
    have e : (seq + ([] : List (Nat × List ByteArray)).length) % 18446744073709551616 = seq := by simp; omega
    rw [e] at h0
    exact h0
  | t :: ts, fuel, p, left, seq, h, hs, hf, h0 => by
    obtain ⟨h1, h2, h3, h4⟩ := h
    have hl : long (t :: ts) = 1 + 9 * t.2.length + long ts := by simp [long]
    rw [hl, List.length_cons] at h0
    simp only [List.length_cons] at hf
    rw [stands_step f fuel p left seq (by omega) (by rw [h3]; exact h2), h3]
    have ih := Laid.stands ts (fuel - 1) (p + (1 + 9 * t.2.length)) (left - (1 + 9 * t.2.length)) ((seq + 1) % 18446744073709551616) h4 (Nat.mod_lt _ (by omega)) (by omega) (by
      have e : ((seq + 1) % 18446744073709551616 + ts.length) % 18446744073709551616 = (seq + (ts.length + 1)) % 18446744073709551616 := by omega
      rw [e, Nat.sub_sub, Nat.add_assoc]
      exact h0)
    rw [ih, ← h1]
/-- no mark of the number, nor what a torn write can make one but itself -/
structure Open1 (X : ByteArray) (nx : Nat) : Prop where
  size : X.size = 64
  first : bN X 10 = 1 → ∀ i, i < 8 → bN X i = bN (nB nx) i
  no : ∀ n, 1 ≤ n → n ≤ 64 → X ≠ markB nx n
theorem Open1.of {X : ByteArray} {nx : Nat} (h : X.size = 64) (h0 : bN X 10 = 0) : Open1 X nx := ⟨h, fun h1 => by omega, fun n _ _ e => by rw [e, markB_ten] at h0; omega⟩
/-- a sector over which a write is torn -/
def torn1 (t X : ByteArray) (b : Nat) : ByteArray := t.extract 0 b ++ X.extract b 64
theorem torn1_size (t X : ByteArray) (b : Nat) (ht : t.size = 64) (hX : X.size = 64) (hb : b ≤ 64) : (torn1 t X b).size = 64 := by
  unfold torn1; rw [ByteArray.size_append, ByteArray.size_extract, ByteArray.size_extract]; omega
theorem torn1_byte (t X : ByteArray) (b : Nat) (ht : t.size = 64) (hX : X.size = 64) (hb : b ≤ 64) (i : Nat) (hi : i < 64) : bN (torn1 t X b) i = if i < b then bN t i else bN X i := by
  have z : (t.extract 0 b).size = b := by rw [ByteArray.size_extract]; omega
  unfold torn1
  rw [bN_app, z]
  by_cases c : i < b
  · rw [if_pos c, if_pos c, bN_extract t 0 b i (by omega) (by omega), Nat.zero_add]
  · rw [if_neg c, if_neg c, bN_extract X b 64 (i - b) (by omega) (by omega)]
    exact congrArg (bN X) (by omega)
/-- a torn mark is none, or the mark -/
theorem torn_mark {X : ByteArray} {nx n b : Nat} (h : Open1 X nx) (hn : n ≤ 64) (hb : b ≤ 64) : Open1 (torn1 (markB nx n) X b) nx ∨ torn1 (markB nx n) X b = markB nx n := by
  have hm := markB_size nx n
  have hz := torn1_size (markB nx n) X b hm h.size hb
  have hby := torn1_byte (markB nx n) X b hm h.size hb
  by_cases hc : ∃ m, 1 ≤ m ∧ m ≤ 64 ∧ torn1 (markB nx n) X b = markB nx m
  · obtain ⟨m, m1, m2, e⟩ := hc
    by_cases c8 : b ≤ 8
    · -- the text is the old one's: the old one was this mark
      exfalso
      refine h.no m m1 m2 (bN_ext _ _ (by rw [h.size, markB_size]) fun i hi => ?_)
      rw [h.size] at hi
      have h10 : bN X 10 = 1 := by
        have := hby 10 (by omega)
        rw [if_neg (by omega), e, markB_ten] at this
        exact this.symm
      by_cases ci : i < b
      · rw [h.first h10 i (by omega), markB_first nx m i (by omega)]
      · have := hby i hi
        rw [if_neg ci, e] at this
        exact this.symm
    · right
      have e8 : bN (markB nx m) 8 = bN (markB nx n) 8 := by
        have := hby 8 (by omega)
        rw [if_pos (by omega), e] at this
        exact this
      have m8 := markB_body nx m 0 (by omega)
      have n8 := markB_body nx n 0 (by omega)
      rw [(cntB_byte m).1] at m8
      rw [(cntB_byte n).1] at n8
      have : m = n := by
        simp only [Nat.add_zero] at m8 n8
        omega
      rw [e, this]
  · left
    refine ⟨hz, fun h10 i hi => ?_, fun m m1 m2 e => hc ⟨m, m1, m2, e⟩⟩
    rw [hby i (by omega)]
    by_cases ci : i < b
    · rw [if_pos ci, markB_first nx n i hi]
    · rw [if_neg ci]
      rw [hby 10 (by omega), if_neg (by omega)] at h10
      exact h.first h10 i hi
end Go.Proofs.Ytmincpmkiheofaa
