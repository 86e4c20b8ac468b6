
/- What a sector holds behind writes that are kept, torn or lost; logs at rest: plain mathematics. It speaks of no function. Conditions: those that each theorem names. -/
import Derived.Test.YtmincpmkiheofaaCraM
namespace Go.Proofs.Ytmincpmkiheofaa
open Go.ChangeShapes Go.WideShapes Go.ChangeAt Go.RowKit
set_option linter.unusedVariables false
set_option linter.unusedSimpArgs false

theorem putB_get (L : List UInt8) (o : Nat) (u : ByteArray) (h : o + u.size ≤ L.length) (j : Nat) : (putB L o u)[j]? = if o ≤ j ∧ j < o + u.size then u.data.toList[j - o]? else L[j]? := by
  have hu : u.data.toList.length = u.size := rfl
  unfold putB
  rw [hu]
  by_cases h1 : j < o
  · rw [List.append_assoc, List.getElem?_append_left (by rw [List.length_take]; omega), List.getElem?_take, if_pos h1, if_neg (by omega)]
  · by_cases h2 : j < o + u.size
    · rw [List.append_assoc, List.getElem?_append_right (by rw [List.length_take]; omega), List.length_take, Nat.min_eq_left (by omega), List.getElem?_append_left (by omega), if_pos ⟨by omega, h2⟩]
    · rw [List.getElem?_append_right (by rw [List.length_append, List.length_take]; omega), List.length_append, List.length_take, Nat.min_eq_left (by omega), hu, List.getElem?_drop, if_neg (by omega)]
      congr 1
      omega
theorem sec_get (L : List UInt8) (i j : Nat) : ((L.drop (i * 64)).take 64)[j]? = if j < 64 then L[i * 64 + j]? else none := by
  rw [List.getElem?_take]
  split
  · rw [List.getElem?_drop]
  · rfl
theorem sec_put_ne (L : List UInt8) (a i : Nat) (u : ByteArray) (hne : a ≠ i) (hu : u.size ≤ 64) (hl : a * 64 + 64 ≤ L.length) : secOf (putB L (a * 64) u) i = secOf L i := by
  unfold secOf
  congr 1
  refine List.ext_getElem? fun j => ?_
  rw [Int.toNat_natCast, sec_get, sec_get]
  split
  · rw [putB_get _ _ _ (by omega), if_neg (by omega)]
  · rfl
theorem sec_size (L : List UInt8) (i : Nat) (hl : i * 64 + 64 ≤ L.length) : (secOf L i).size = 64 := by
  unfold secOf strOf
  rw [mk_size, Int.toNat_natCast, List.length_take, List.length_drop]
  omega
theorem sec_byte (L : List UInt8) (i j : Nat) (hj : j < 64) : bN (secOf L i) j = (L[i * 64 + j]?.getD 0).toNat := by
  unfold secOf strOf
  rw [bN_mk, Int.toNat_natCast, List.getD_eq_getElem?_getD, sec_get, if_pos hj]
theorem sec_put_torn (L : List UInt8) (i : Nat) (t : ByteArray) (k : Nat) (ht : t.size = 64) (hk : k ≤ 64) (hl : i * 64 + 64 ≤ L.length) : secOf (putB L (i * 64) (t.extract 0 k)) i = torn1 t (secOf L i) k := by
  have hz : (t.extract 0 k).size = k := by rw [ByteArray.size_extract]; omega
  have hX := sec_size L i hl
  have hl2 : (putB L (i * 64) (t.extract 0 k)).length = L.length := putB_len _ _ _ (by omega)
  refine bN_ext _ _ (by rw [sec_size _ _ (by omega), torn1_size t _ k ht hX hk]) fun j hj => ?_
  rw [sec_size _ _ (by omega)] at hj
  rw [torn1_byte t _ k ht hX hk j hj, sec_byte _ _ _ hj, putB_get _ _ _ (by omega), hz]
  by_cases c : j < k
  · rw [if_pos (by omega), if_pos c, ← List.getD_eq_getElem?_getD, ← bN_list, show i * 64 + j - i * 64 = j by omega, bN_extract t 0 k j (by omega) (by omega), Nat.zero_add]
  · rw [if_neg (by omega), if_neg c, sec_byte _ _ _ hj]
theorem sec_put_same (L : List UInt8) (i : Nat) (t : ByteArray) (ht : t.size = 64) (hl : i * 64 + 64 ≤ L.length) : secOf (putB L (i * 64) (t.extract 0 64)) i = t := by
  rw [sec_put_torn L i t 64 ht (by omega) hl]
  have hX := sec_size L i hl
  refine bN_ext _ _ (by rw [torn1_size t _ 64 ht hX (by omega), ht]) fun j hj => ?_
  rw [torn1_size t _ 64 ht hX (by omega)] at hj
  rw [torn1_byte t _ 64 ht hX (by omega) j hj, if_pos hj]
/-- writes that a disk of n sectors takes -/
def Fits (n : Nat) (l : List (Nat × ByteArray)) : Prop := ∀ x ∈ l, x.1 < n ∧ x.2.size = 64
theorem Fits.tail {n : Nat} {x : Nat × ByteArray} {l : List (Nat × ByteArray)} (h : Fits n (x :: l)) : Fits n l := fun y hy => h y (by simp [hy])
theorem put_len {n : Nat} {x : Nat × ByteArray} {L : List UInt8} {k : Nat} (hL : L.length = n * 64) (h1 : x.1 < n) (h2 : x.2.size = 64) : (putB L (x.1 * 64) (x.2.extract 0 k)).length = n * 64 := by
  have hs : (x.2.extract 0 k).size ≤ 64 := by rw [ByteArray.size_extract]; omega
  rw [putB_len _ _ _ (by omega), hL]
theorem sec_settled (kp : Nat → Nat) (n i : Nat) : ∀ (l : List (Nat × ByteArray)) (j : Nat) (L : List UInt8), L.length = n * 64 → Fits n l → (∀ x ∈ l, x.1 ≠ i) → secOf (settled kp l j L) i = secOf L i
  | [], _, _, _, _, _ => rfl
  | x :: l, j, L, h, hx, hn => by
    have h1 := hx x (by simp)
    have hs : (x.2.extract 0 (kp j)).size ≤ 64 := by rw [ByteArray.size_extract]; omega
    exact (sec_settled kp n i l (j + 1) _ (put_len h h1.1 h1.2) hx.tail fun y hy => hn y (by simp [hy])).trans (sec_put_ne L x.1 i _ (hn x (by simp)) hs (by omega))
/-- noughts at the place 10 stay where only such are written -/
theorem zero_settled (kp : Nat → Nat) (hkp : ∀ j, kp j ≤ 64) (n i : Nat) (hi : i < n) : ∀ (l : List (Nat × ByteArray)) (j : Nat) (L : List UInt8), L.length = n * 64 → Fits n l → (∀ x ∈ l, bN x.2 10 = 0) → bN (secOf L i) 10 = 0 → bN (secOf (settled kp l j L) i) 10 = 0
  | [], _, _, _, _, _, h => h
  | x :: l, j, L, h, hx, hn, h0 => by
    have h1 := hx x (by simp)
    refine zero_settled kp hkp n i hi l (j + 1) _ (put_len h h1.1 h1.2) hx.tail (fun y hy => hn y (by simp [hy])) ?_
    by_cases c : x.1 = i
    · subst c
      rw [sec_put_torn L x.1 x.2 (kp j) h1.2 (hkp j) (by omega), torn1_byte _ _ _ h1.2 (sec_size _ _ (by omega)) (hkp j) 10 (by omega)]
      split
      · exact hn x (by simp)
      · exact h0
    · have hs : (x.2.extract 0 (kp j)).size ≤ 64 := by rw [ByteArray.size_extract]; omega
      rw [sec_put_ne L x.1 i _ c hs (by omega)]
      exact h0
/-- what is written at places that differ is there -/
theorem all_settled (n : Nat) : ∀ (l : List (Nat × ByteArray)) (j : Nat) (L : List UInt8), L.length = n * 64 → Fits n l → (l.map (·.1)).Nodup → ∀ x ∈ l, secOf (settled (fun _ => 64) l j L) x.1 = x.2
  | [], _, _, _, _, _, x, hx => by cases hx
  | y :: l, j, L, h, hf, hn, x, hx => by
    have h1 := hf y (by simp)
    rw [List.map_cons, List.nodup_cons] at hn
    have hl := put_len (k := 64) h h1.1 h1.2
    rcases List.mem_cons.1 hx with rfl | hx
    · refine (sec_settled (fun _ => 64) n x.1 l (j + 1) _ hl hf.tail fun z hz e => hn.1 (e ▸ List.mem_map_of_mem hz)).trans ?_
      exact sec_put_same L x.1 x.2 h1.2 (by omega)
    · exact all_settled n l (j + 1) _ hl hf.tail hn.2 x hx
theorem settled_app (kp : Nat → Nat) : ∀ (a b : List (Nat × ByteArray)) (j : Nat) (L : List UInt8), settled kp (a ++ b) j L = settled kp b (j + a.length) (settled kp a j L)
  | [], b, j, L => rfl
  | x :: a, b, j, L => by
    have := settled_app kp a b (j + 1) (putB L (x.1 * 64) (x.2.extract 0 (kp j)))
    rw [List.cons_append, settled, settled, this, List.length_cons]
    congr 1
    omega
/-- a log at rest: the transactions S stand, and behind them nothing -/
structure Idle (f : Nat → ByteArray) (size seq : Nat) (S : List (Nat × List ByteArray)) : Prop where
  laid : Laid f 0 size seq S
  sz : ∀ q, q < size → (f q).size = 64
  zero : ∀ q, long S < q → q < size → bN (f q) 10 = 0
  mark : long S < size → Open1 (f (long S)) ((seq + S.length) % 18446744073709551616)
theorem txn_len0 {f : Nat → ByteArray} {p seq left : Nat} (h : cnt (f p) seq left = 0) : (txn f p seq left).length = 0 := by
  unfold txn
  split
  · rw [pgs_len]; exact h
  · rfl
section
variable {f g : Nat → ByteArray} {size seq : Nat} {S : List (Nat × List ByteArray)}
theorem Idle.fit (h : Idle f size seq S) : long S ≤ size := h.laid.fit
theorem Idle.stands (h : Idle f size seq S) (hs : seq < 18446744073709551616) : standsAt f size seq = S := by
  have hf := h.fit
  have hg := long_ge S
  refine Laid.stands S (size + 1) 0 size seq h.laid hs (by omega) ?_
  rw [Nat.zero_add]
  by_cases c : long S < size
  · exact txn_len0 (cnt_no _ _ _ (h.mark c).no)
  · rw [show size - long S = 0 by omega, txn_zero]; rfl
theorem Idle.keep (h : Idle f size seq S) (h1 : ∀ q, q ≤ long S → q < size → g q = f q) (h2 : ∀ q, q < size → (g q).size = 64) (h3 : ∀ q, long S < q → q < size → bN (g q) 10 = 0) : Idle g size seq S := by
  have hf := h.fit
  refine ⟨Laid.congr S _ _ _ h.laid fun q _ b => h1 q (by omega) (by omega), h2, h3, fun c => ?_⟩
  rw [h1 _ (Nat.le_refl _) c]
  exact h.mark c
theorem Idle.torn (h : Idle f size seq S) (h1 : ∀ q, q < long S → g q = f q) (h2 : ∀ q, q < size → (g q).size = 64) (h3 : ∀ q, long S < q → q < size → bN (g q) 10 = 0) (h4 : long S < size → Open1 (g (long S)) ((seq + S.length) % 18446744073709551616)) : Idle g size seq S :=
  ⟨Laid.congr S _ _ _ h.laid fun q _ b => h1 q (by omega), h2, h3, h4⟩
theorem Idle.more (h : Idle f size seq S) (hs : seq < 18446744073709551616) (ps : List ByteArray) (n1 : 1 ≤ ps.length) (n2 : ps.length ≤ 64) (n3 : 1 + 9 * ps.length ≤ size - long S) (hp : ∀ p ∈ ps, p.size = 512)
    (h1 : ∀ q, q < long S → g q = f q) (hm : g (long S) = markB ((seq + S.length) % 18446744073709551616) ps.length)
    (hpg : ∀ k (hk : k < ps.length) i, i < 9 → g (long S + 1 + 9 * k + i) = secB (ps[k]'hk) i)
    (h2 : ∀ q, q < size → (g q).size = 64) (h3 : ∀ q, long S < q → q < size → bN (g q) 10 = 0) : Idle g size seq (S ++ [((seq + S.length) % 18446744073709551616, ps)]) := by
  have hf := h.fit
  have hn : ∀ k (hk : k < ps.length), nine g (long S + 1 + 9 * k) = secs (ps[k]'hk) := fun k hk => by
    unfold nine secs
    apply List.map_congr_left
    intro i hi
    exact hpg k hk i (List.mem_range.1 hi)
  have hc : cnt (g (long S)) ((seq + S.length) % 18446744073709551616) (size - long S) = ps.length := by rw [hm]; exact cnt_mark _ _ _ n1 n2 n3
  have ht : txn g (long S) ((seq + S.length) % 18446744073709551616) (size - long S) = ps := by
    rw [txn_yes, hc]
    · refine List.ext_getElem (pgs_len _ _ _) fun k h1 h2 => ?_
      have e : (pgs g (long S + 1) ps.length)[k] = gatP (nine g (long S + 1 + 9 * k)) := by simp [pgs]
      rw [e, hn k h2]
      exact gatP_secs _ (hp _ (List.getElem_mem h2))
    · rw [hc]
      intro k hk
      rw [hn k hk]
      exact isPg_secs _ (hp _ (List.getElem_mem hk))
  have hl : long (S ++ [((seq + S.length) % 18446744073709551616, ps)]) = long S + (1 + 9 * ps.length) := long_snoc _ _
  refine ⟨Laid.snoc _ (by show ps.length ≠ 0; omega) S 0 size seq (Laid.congr S _ _ _ h.laid fun q _ b => h1 q (by omega)) hs rfl ?_, h2, fun q a b => h3 q (by omega) b, fun c => Open1.of (h2 _ c) (h3 _ (by omega) c)⟩
  rw [Nat.zero_add]
  exact ht
theorem Idle.nil (h2 : ∀ q, q < size → (f q).size = 64) (h3 : ∀ q, q < size → bN (f q) 10 = 0) : Idle f size seq [] :=
  ⟨trivial, h2, fun q _ b => h3 q b, fun c => Open1.of (h2 _ c) (h3 _ c)⟩
end
end Go.Proofs.Ytmincpmkiheofaa
