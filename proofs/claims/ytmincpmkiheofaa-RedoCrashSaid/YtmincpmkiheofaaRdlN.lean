
/- What stands on a disk is what stands in its bytes: plain mathematics. Conditions: a disk without pending writes. -/
import Derived.Test.YtmincpmkiheofaaRdlB
import Derived.Test.YtmincpmkiheofaaRdrN
namespace Go.Proofs.Ytmincpmkiheofaa
open Go.ChangeShapes Go.WideShapes Go.ChangeAt Go.RowKit
set_option linter.unusedVariables false
set_option linter.unusedSimpArgs false

theorem nine_congr {f g : Nat → ByteArray} {p : Nat} (h : ∀ q, p ≤ q → q < p + 9 → f q = g q) : nine f p = nine g p := by
  unfold nine
  apply List.map_congr_left
  intro i hi
  have := List.mem_range.1 hi
  exact h _ (by omega) (by omega)
theorem txn_congr {f g : Nat → ByteArray} {p seq left : Nat} (h : ∀ q, p ≤ q → q < p + left → f q = g q) : txn f p seq left = txn g p seq left := by
  by_cases h0 : left = 0
  · subst h0; rw [txn_zero, txn_zero]
  · have e0 : f p = g p := h p (Nat.le_refl _) (by omega)
    have hn : ∀ k, k < cnt (g p) seq left → nine f (p + 1 + 9 * k) = nine g (p + 1 + 9 * k) := fun k hk => by
      have := (cnt_fit (g p) seq left (by omega)).1
      exact nine_congr fun q h1 h2 => h q (by omega) (by omega)
    have hp : pgs f (p + 1) (cnt (g p) seq left) = pgs g (p + 1) (cnt (g p) seq left) := by
      unfold pgs
      apply List.map_congr_left
      intro k hk
      rw [hn k (List.mem_range.1 hk)]
    unfold txn
    rw [e0]
    by_cases c : ∀ k, k < cnt (g p) seq left → isPg (nine g (p + 1 + 9 * k)) = true
    · rw [if_pos c, if_pos (fun k hk => by rw [hn k hk]; exact c k hk), hp]
    · rw [if_neg c, if_neg (fun hh => c fun k hk => by rw [← hn k hk]; exact hh k hk)]
theorem stands_congr (f g : Nat → ByteArray) : ∀ (fuel p left seq : Nat), (∀ q, p ≤ q → q < p + left → f q = g q) → stands f fuel p left seq = stands g fuel p left seq
  | 0, _, _, _, _ => rfl
  | fuel + 1, p, left, seq, h => by
    have e := txn_congr (seq := seq) h
    unfold stands
    rw [e]
    split
    · rfl
    · rename_i h0
      have hf := txn_fit g p seq left h0
      rw [stands_congr f g fuel _ _ _ fun q h1 h2 => h q (by omega) (by omega)]
theorem stands_seq (f : Nat → ByteArray) : ∀ (fuel p left seq : Nat), seq ≤ 18446744073709551615 → ∀ t ∈ stands f fuel p left seq, t.1 ≤ 18446744073709551615
  | 0, _, _, _, _, t, ht => by simp [stands] at ht
  | fuel + 1, p, left, seq, h, t, ht => by
    unfold stands at ht
    split at ht
    · simp at ht
    · rcases List.mem_cons.1 ht with rfl | ht
      · exact h
      · exact stands_seq f fuel _ _ _ (by omega) t ht
theorem str_ext (L : List UInt8) (a b : Nat) (h : a ≤ b) (hb : b ≤ L.length) : (strOf L).extract a b = strOf ((L.drop a).take (b - a)) := by
  have z : (strOf L).size = L.length := mk_size L
  have z1 : ((strOf L).extract a b).size = b - a := by rw [ByteArray.size_extract]; omega
  have z2 : (strOf ((L.drop a).take (b - a))).size = b - a := by unfold strOf; rw [mk_size]; simp; omega
  refine bN_ext _ _ (by omega) fun i hi => ?_
  rw [z1] at hi
  rw [bN_extract _ a b i (by omega) (by omega)]
  unfold strOf
  rw [bN_mk, bN_mk]
  simp [List.getD_eq_getElem?_getD, List.getElem?_take, hi]
theorem vw_img {N : Nat} {s : St} (hok : s.Ok N) (hw : s.wr = []) (k : Nat) (hk : k < N) : vw s k = (strOf s.sure).extract (64 * k) (64 * k + 64) := by
  have hl := hok.len
  rw [str_ext _ _ _ (by omega) (by omega)]
  unfold vw
  rw [hw]
  show secOf s.sure (k : Int) = _
  unfold secOf
  rw [show (k : Int).toNat * 64 = 64 * k by omega, show 64 * k + 64 - 64 * k = 64 by omega]
theorem stands_img {N : Nat} {s : St} (hok : s.Ok N) (hw : s.wr = []) (fr sz seq : Nat) (hfit : fr + sz ≤ N) : standsAt (st s fr) sz seq = standsAt (fA ((strOf s.sure).extract (64 * fr) (64 * (fr + sz)))) sz seq := by
  unfold standsAt
  have z : (strOf s.sure).size = N * 64 := by rw [← hok.len]; exact mk_size _
  refine stands_congr _ _ _ _ _ _ fun q _ hq => ?_
  unfold st fA
  rw [vw_img hok hw _ (by omega), ext_ext _ _ _ _ _ (by omega) (by omega) (by omega)]
  congr 1 <;> omega
end Go.Proofs.Ytmincpmkiheofaa
