
/- plus and minus of croftref03, their results as rows of digits. -/
import Derived.Test.YtdnjkminicmffaaDoorRefQ
namespace Go.Proofs.YtdnjkminicmffaaDoor
open Go.ChangeShapes Go.WideShapes Go.ChangeAt Go.RowKit
set_option linter.unusedVariables false

/-- a slice that a call has appended to -/
theorem own_row {w : World} {B T n : Nat} {v : Value} {zs : List Int} (h : w.ownsRow B 3 1 v n (zs.map (Value.int .i64))) : ∃ a cap, v = .slice a n cap ∧ DRow w T B a n cap zs := by
  obtain ⟨h1, h2⟩ := h
  have hl : zs.length = n := by simpa using h1
  rcases h2 with ⟨rfl, rfl⟩ | ⟨g, cap, cur, rfl, hg, hh, hn, hc, hs, ht⟩
  · exact ⟨none, 0, rfl, hl, Nat.le_refl _, by unfold maxLen; omega, .inl (List.length_eq_zero_iff.1 hl)⟩
  · refine ⟨_, cap, rfl, hl, hn, hc, .inr ⟨g, 0, rfl, .inr hg, fun i z hz => ?_⟩⟩
    have ho : Own w g 3 cur := hh
    obtain ⟨e1, _, _⟩ := ho.at_
    have hi : i < n := by
      have := (List.getElem?_eq_some_iff.1 hz).1
      omega
    rw [Nat.zero_add, e1, ← Array.getElem?_toList]
    have e2 : (cur.toList.take (n * 1))[i]? = some (.int .i64 z) := by rw [ht]; simp [hz]
    rw [List.getElem?_take] at e2
    rw [if_pos (by omega)] at e2
    exact e2
theorem plus_num (m n : Nat) (T T' C T2 C2 : Nat) (a b : Option Addr) (la lb ca cb : Nat) (w : World) (hla : la ≤ 100000000) (hlb : lb ≤ 100000000) (hx : DRow w T C a la ca (digs m)) (hy : DRow w T2 C2 b lb cb (digs n)) :
    Calls Tryd.prog 38 #[.slice a la ca, .slice b lb cb] w fun e w' => ∃ a' l' c', e = .returned (.slice a' l' c') ∧ DRow w' T' w.heap.size a' l' c' (digs (m + n)) ∧ Below w.heap.size w w' := by
  refine (plus_walk m n T C T2 C2 a b la lb ca cb w hla hlb hx hy).mono ?_
  rintro e w' ⟨v, k, rfl, ho, hb⟩
  obtain ⟨a', c', rfl, hd⟩ := own_row (T := T') ho
  exact ⟨a', k, c', rfl, hd, hb⟩
theorem minus_num (m n : Nat) (hmn : n ≤ m) (T T' C T2 C2 : Nat) (a b : Option Addr) (la lb ca cb : Nat) (w : World) (hla : la ≤ 100000000) (hx : DRow w T C a la ca (digs m)) (hy : DRow w T2 C2 b lb cb (digs n)) :
    Calls Tryd.prog 40 #[.slice a la ca, .slice b lb cb] w fun e w' => ∃ a' l' c' zs, e = .returned (.slice a' l' c') ∧ DRow w' T' w.heap.size a' l' c' zs ∧ Dg zs ∧ vl zs = (m : Int) - n ∧ Below w.heap.size w w' := by
  refine (minus_walk m n hmn T C T2 C2 a b la lb ca cb w hla hx hy).mono ?_
  rintro e w' ⟨v, zs, rfl, ho, hd, hv, hb⟩
  obtain ⟨a', c', rfl, hr⟩ := own_row (T := T') ho
  exact ⟨a', la, c', zs, rfl, hr, hd, hv, hb⟩
end Go.Proofs.YtdnjkminicmffaaDoor
