
/- What a sector holds behind writes to others: mathematics; and acts that are still there behind calls. It speaks of no function. -/
import Derived.Test.YtgddogjieemgeaaDisI
namespace Go.Proofs.Ytgddogjieemgeaa
open Go.ChangeShapes Go.WideShapes Go.ChangeAt Go.RowKit
set_option linter.unusedVariables false
set_option linter.unusedSimpArgs false

theorem putB_get (L : List UInt8) (o : Nat) (u : ByteArray) (h : o + u.size ≤ L.length) (j : Nat) : (putB L o u)[j]? = if o ≤ j ∧ j < o + u.size then u.data.toList[j - o]? else L[j]? := by
  have hu : u.data.toList.length = u.size := rfl
  unfold putB
  rw [hu]
  by_cases h1 : j < o
  · rw [List.append_assoc, List.getElem?_append_left (by rw [List.length_take]; omega), List.getElem?_take, if_pos h1, if_neg (by omega)]
  · by_cases h2 : j < o + u.size
    · rw [List.append_assoc, List.getElem?_append_right (by rw [List.length_take]; omega), List.length_take, Nat.min_eq_left (by omega), List.getElem?_append_left (by omega), if_pos ⟨by omega, h2⟩]
    · rw [List.getElem?_append_right (by rw [List.length_append, List.length_take]; omega), List.length_append, List.length_take, Nat.min_eq_left (by omega), hu, List.getElem?_drop, if_neg (by omega)]
      congr 1
      omega
theorem sec_get (L : List UInt8) (i j : Nat) : ((L.drop (i * 64)).take 64)[j]? = if j < 64 then L[i * 64 + j]? else none := by
  rw [List.getElem?_take]
  split
  · rw [List.getElem?_drop]
  · rfl
theorem sec_put_ne (L : List UInt8) (a i : Nat) (u : ByteArray) (hne : a ≠ i) (hu : u.size ≤ 64) (hl : a * 64 + 64 ≤ L.length) : secOf (putB L (a * 64) u) i = secOf L i := by
  unfold secOf
  congr 1
  refine List.ext_getElem? fun j => ?_
  rw [Int.toNat_natCast, sec_get, sec_get]
  split
  · rw [putB_get _ _ _ (by omega), if_neg (by omega)]
  · rfl
theorem sec_put_same (L : List UInt8) (i : Nat) (u : ByteArray) (hu : u.size = 64) (hl : i * 64 + 64 ≤ L.length) : secOf (putB L (i * 64) u) i = u := by
  have hu' : u.data.toList.length = 64 := hu
  have e : ((putB L (i * 64) u).drop (i * 64)).take 64 = u.data.toList := by
    refine List.ext_getElem? fun j => ?_
    rw [sec_get]
    split
    · rw [putB_get _ _ _ (by omega), if_pos (by omega)]
      congr 1
      omega
    · rw [List.getElem?_eq_none (by omega)]
  unfold secOf strOf
  rw [Int.toNat_natCast, e]
theorem sec_settled (kp : Nat → Nat) (n i : Nat) : ∀ (l : List (Nat × ByteArray)) (j : Nat) (L : List UInt8), L.length = n * 64 → (∀ x ∈ l, x.1 < n ∧ x.2.size = 64) → (∀ x ∈ l, x.1 ≠ i) → secOf (settled kp l j L) i = secOf L i
  | [], _, _, _, _, _ => rfl
  | x :: l, j, L, h, hx, hn => by
    have h1 := hx x (by simp)
    have hs : (x.2.extract 0 (kp j)).size ≤ 64 := by rw [ByteArray.size_extract]; omega
    have hl : (putB L (x.1 * 64) (x.2.extract 0 (kp j))).length = n * 64 := by rw [putB_len _ _ _ (by rw [h]; omega), h]
    exact (sec_settled kp n i l (j + 1) _ hl (fun y hy => hx y (by simp [hy])) fun y hy => hn y (by simp [hy])).trans (sec_put_ne L x.1 i _ (hn x (by simp)) hs (by rw [h]; omega))
/-- the sector i is T, whatever crashes come -/
def Good (i : Nat) (T : ByteArray) (s : St) : Prop := secOf s.sure i = T ∧ ∀ x ∈ s.wr, x.1 ≠ i
section
variable {i n : Nat} {T : ByteArray} {s : St}
theorem Good.burnt (h : Good i T s) : Good i T (burn s).2 := by
  obtain ⟨h1, h2⟩ := burn_eq s
  exact ⟨by rw [h2]; exact h.1, by rw [h1]; exact h.2⟩
theorem Good.wrote (h : Good i T s) (ta : Int) (t : ByteArray) (hto : ta ≠ (i : Int)) (ht : 0 ≤ ta) : Good i T (wres n s ta t).2 := by
  unfold wres
  split
  · exact h
  · split
    · exact h
    · split
      · refine ⟨h.burnt.1, fun x hx => ?_⟩
        rcases List.mem_append.1 hx with hx | hx
        · exact h.2 x hx
        · obtain rfl : x = (ta.toNat, t) := by simpa using hx
          show ta.toNat ≠ i
          omega
      · exact h.burnt
theorem Good.settle (h : Good i T s) (ok : s.Ok n) (kp : Nat → Nat) (f : Int) (d : Bool) : Good i T ⟨settled kp s.wr 0 s.sure, [], f, d⟩ :=
  ⟨(sec_settled kp n i s.wr 0 s.sure ok.len ok.wr h.2).trans h.1, by simp⟩
theorem Good.flushed (h : Good i T s) (ok : s.Ok n) : Good i T (fres s).2 := by
  unfold fres
  split
  · exact h
  · split
    · exact h.settle ok _ _ _
    · exact h.burnt
theorem Good.crashed (h : Good i T s) (ok : s.Ok n) (len : Nat) (zs : List Bool) (torn bytes : Int) : Good i T (cres s len zs torn bytes) := h.settle ok _ _ _
theorem Good.read (h : Good i T s) (hi : i < n) : rres n s i = if s.down then (⟨#[]⟩, 11) else (T, 0) := by
  unfold rres
  have hl : lastOf s.wr i = none := by
    cases e : lastOf s.wr i with
    | none => rfl
    | some x => obtain ⟨h1, h2⟩ := lastOf_mem e; exact absurd (by omega) (h.2 x h1)
  rw [hl, if_neg (show ¬ ¬ (0 ≤ (i : Int) ∧ (i : Int) < n) by omega)]
  split
  · rfl
  · show (secOf s.sure i, (0 : Int)) = _; rw [h.1]
theorem wres_len (n : Nat) (s : St) (ta : Int) (t : ByteArray) : (wres n s ta t).2.wr.length ≤ s.wr.length + 1 := by
  have := (burn_eq s).1
  unfold wres
  split
  · exact Nat.le_succ _
  · split
    · exact Nat.le_succ _
    · split
      · simp
      · rw [this]; omega
theorem fres_len (s : St) : (fres s).2.wr.length ≤ s.wr.length := by
  have := (burn_eq s).1
  unfold fres
  split
  · exact Nat.le_refl _
  · split
    · simp
    · rw [this]; omega
end
theorem IsBools.keep {w w' : World} {a : Option Addr} {len cap : Nat} {zs : List Bool} (h : IsBools w a len cap zs) (hb : Below w.heap.size w w') : IsBools w' a len cap zs := by
  obtain ⟨h1, h2, h3⟩ := h
  refine ⟨h1, h2, ?_⟩
  rcases h3 with h3 | ⟨b, o, rfl, h3⟩
  · exact .inl h3
  · exact .inr ⟨b, o, rfl, fun i hi => Go.Proofs.Ytgddogjieemgeaa.keep hb (h3 i hi)⟩
theorem ActD.Ok.stay {w w' : World} {x : ActD} (h : x.Ok w) (hb : Below w.heap.size w w') : x.Ok w' :=
  ⟨h.act, h.byte, h.at_, h.n, h.s, h.keep.keep hb, fun b o e hl => Nat.lt_of_lt_of_le (h.old b o e hl) hb.size⟩
theorem IsActs.keep {w w' : World} {a : Option Addr} {len cap : Nat} {l : List ActD} (h : IsActs w a len cap l) (hb : Below w.heap.size w w') : IsActs w' a len cap l := by
  obtain ⟨h1, h2, h3, h4⟩ := h
  refine ⟨h1, h2, h3, ?_⟩
  rcases h4 with h4 | ⟨b, o, rfl, hbz, h4⟩
  · exact .inl h4
  · refine .inr ⟨b, o, rfl, Nat.lt_of_lt_of_le hbz hb.size, fun i hi => ⟨fun j hj => ?_, (h4 i hi).2.stay hb⟩⟩
    rw [hb.cell (p := ⟨b, o + i * 6 + j, none⟩) hbz]
    exact (h4 i hi).1 j hj
end Go.Proofs.Ytgddogjieemgeaa
