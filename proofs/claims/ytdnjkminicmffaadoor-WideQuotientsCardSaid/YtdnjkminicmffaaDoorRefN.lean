
/- Numbers of croftref03 as values: trim makes one of any digits; Neg. -/
import Derived.Test.YtdnjkminicmffaaDoorRefT
namespace Go.Proofs.YtdnjkminicmffaaDoor
open Go.ChangeShapes Go.WideShapes Go.ChangeAt Go.RowKit
set_option linter.unusedVariables false

/-- the value of a croftref03.Num that is the number z -/
def Num (w : World) (T C : Nat) (v : Value) (z : Int) : Prop := ∃ a len cap, v = .agg #[.bool (decide (z < 0)), .slice a len cap] ∧ DRow w T C a len cap (digs z.natAbs)
theorem Num.keep {w w' : World} {T C : Nat} {v : Value} {z : Int} (h : Num w T C v z) (hb : Below w.heap.size w w') : Num w' T C v z := by
  obtain ⟨a, len, cap, h1, h2⟩ := h
  exact ⟨a, len, cap, h1, h2.keep hb⟩
theorem DRow.take {w : World} {T C : Nat} {a : Option Addr} {len cap : Nat} {zs : List Int} (h : DRow w T C a len cap zs) (k : Nat) (hk : k ≤ len) : DRow w T C a k cap (zs.take k) := by
  obtain ⟨h1, h2, h3, h4⟩ := h
  refine ⟨by rw [List.length_take]; omega, by omega, h3, ?_⟩
  rcases h4 with h4 | ⟨b, o, ha, ht, hc⟩
  · left; rw [h4]; simp
  · right
    refine ⟨b, o, ha, ht, fun i z hz => hc i z ?_⟩
    rw [List.getElem?_take] at hz
    split at hz
    · exact hz
    · cases hz
theorem trim_num (T C : Nat) (neg : Bool) (a : Option Addr) (len cap : Nat) (zs : List Int) (n : Int) (w : World) (hr : DRow w T C a len cap zs) (hd : Dg zs) (hn : vl zs = n) :
    Calls Tryd.prog 33 #[.agg #[.bool neg, .slice a len cap]] w fun e w' => ∃ v, e = .returned v ∧ Num w' T C v (if neg then -n else n) ∧ Below w.heap.size w w' := by
  refine (trim_any T C neg a len cap zs w hr).mono ?_
  rintro e w' ⟨k, rfl, ht, hk, hb⟩
  have h0 : 0 ≤ n := hn ▸ vl_nonneg hd
  have hz : digs (if neg then -n else n).natAbs = tr zs := by
    rw [tr_digs hd, hn]
    congr 1
    split <;> omega
  refine ⟨_, rfl, ⟨a, k, cap, ?_, ?_⟩, hb⟩
  · congr 4
    by_cases e : n = 0
    · have : tr zs = [] := by rw [tr_digs hd, hn, e]; exact digs_zero
      rw [this, e]; simp
    · have : (tr zs).isEmpty = false := by
        rw [tr_digs hd, hn]
        cases h : digs n.toNat with
        | nil => have := digs_nil h; omega
        | cons _ _ => rfl
      rw [this]
      cases neg <;> simp <;> omega
  · rw [hz, ht]
    exact (hr.take k hk).keep hb

/-- a store into a block that is neither below T nor from C on -/
theorem Num.put {w : World} {T C : Nat} {v : Value} {z : Int} (h : Num w T C v z) {p i : Nat} (hT : T ≤ p) (hC : p < C) (u : Value) : Num (w.setCell ⟨p, i, none⟩ u) T C v z := by
  obtain ⟨a, len, cap, h1, h2, h3, h4, h5⟩ := h
  refine ⟨a, len, cap, h1, h2, h3, h4, h5.imp id ?_⟩
  rintro ⟨b, o, ha, ht, hc⟩
  refine ⟨b, o, ha, ht, fun i z hz => ?_⟩
  rw [World.cell?_of_block (w := w) (a := ⟨b, o + i, none⟩) (Below.heap_setCell w _ u b (show b ≠ p by omega))]
  exact hc i z hz
theorem Num.mono {w : World} {T C T' C' : Nat} {v : Value} {z : Int} (h : Num w T C v z) (hT : T ≤ T') (hC : C' ≤ C) : Num w T' C' v z := by
  obtain ⟨a, len, cap, h1, h2, h3, h4, h5⟩ := h
  refine ⟨a, len, cap, h1, h2, h3, h4, h5.imp id ?_⟩
  rintro ⟨b, o, ha, ht, hc⟩
  exact ⟨b, o, ha, by omega, hc⟩
/-- what is there lies below the heap's size -/
theorem Num.old {w : World} {T C C' : Nat} {v : Value} {z : Int} (h : Num w T C v z) (hC : C = w.heap.size) : Num w T C' v z := by
  obtain ⟨a, len, cap, h1, h2, h3, h4, h5⟩ := h
  refine ⟨a, len, cap, h1, h2, h3, h4, ?_⟩
  rcases h5 with h5 | ⟨b, o, ha, ht, hc⟩
  · exact .inl h5
  · by_cases e : digs z.natAbs = []
    · exact .inl e
    · obtain ⟨d, r, hd⟩ := List.exists_cons_of_ne_nil e
      have := cell_lt (hc 0 d (by rw [hd]; rfl))
      exact .inr ⟨b, o, ha, .inl (by omega), hc⟩
theorem Num.shape {w : World} {T C : Nat} {v : Value} {z : Int} (h : Num w T C v z) : ∃ n a len cap, v = .agg #[.bool n, .slice a len cap] := by
  obtain ⟨a, len, cap, h1, _⟩ := h
  exact ⟨_, a, len, cap, h1⟩

set_option maxHeartbeats 4000000 in
set_option maxRecDepth 20000 in
theorem neg_num (T : Nat) (v : Value) (z : Int) (w : World) (hT : T ≤ w.heap.size) (hv : Num w T w.heap.size v z) :
    Calls Tryd.prog 17 #[v] w fun e w' => ∃ v', e = .returned v' ∧ Num w' T w.heap.size v' (-z) ∧ Below w.heap.size w w' := by
  have hv' := hv.old (C' := w.heap.size + 1 + 1) rfl
  obtain ⟨a, len, cap, rfl, hr⟩ := hv'
  have TR1 : ∀ w', Below w.heap.size w w' → Calls Tryd.prog 33 #[.agg #[.bool (!decide (z < 0)), .slice a len cap]] w' fun e w'' => ∃ v, e = .returned v ∧ (∃ n a len cap, v = .agg #[.bool n, .slice a len cap]) ∧ Num w'' T (w.heap.size + 1 + 1) v (-z) ∧ Below w'.heap.size w' w'' := fun w' hb => by
    refine (trim_num T (w.heap.size + 1 + 1) (!decide (z < 0)) a len cap (digs z.natAbs) z.natAbs w' (hr.keep hb) (Dg.digs _) (vl_digs _)).mono ?_
    rintro e w'' ⟨v, he, hn, hb'⟩
    have e1 : (if (!decide (z < 0)) = true then -(z.natAbs : Int) else z.natAbs) = -z := by
      by_cases h : z < 0
      · simp [h]; omega
      · simp [h]; omega
    rw [e1] at hn
    exact ⟨v, he, hn.shape, hn, hb'⟩
  have TR := Lib.hid TR1
  clear TR1 hr hv
  obtain ⟨s, hs⟩ : ∃ s, decide (z < 0) = s := ⟨_, rfl⟩
  rw [hs] at TR ⊢
  clear hs
  go_enter Tryd.func17, Tryd.ntmps17
  go_wp2_with fail
  go_at_call 33
  refine (TR.out _ (by repeat' (first | (with_reducible exact Below.refl _ _) | (with_reducible assumption) | (with_reducible refine below_drewN ?_ _) | (with_reducible refine Below.drew ?_) | (with_reducible refine Below.alloc ?_ ?_ _) | (with_reducible refine Below.setCell ?_ ?_ _) | (with_reducible refine then_ ?_ (by with_reducible assumption) ?_) | (with_reducible exact Nat.le_refl _) | (with_reducible exact Nat.le_succ _) | (with_reducible exact Nat.le_succ_of_le (by with_reducible assumption)) | omega | (simp; done) | (simp; omega) | (exact Nat.le_succ _) | (exact Nat.le_succ_of_le (by with_reducible assumption))))).mono ?_
  rintro e w1 ⟨v', rfl, ⟨n', a', l', c', rfl⟩, hn, hb⟩
  have O2 : Own w1 (w.heap.size + 1) 27 #[.bool false, .slice none 0 0] := by
    refine Own.keep ?_ hb
    repeat' (first | (with_reducible assumption) | (with_reducible refine Own.drawnN ?_ _) | (with_reducible refine Own.drawn ?_) | (with_reducible refine Own.made_at ?_; first | rfl | (simp; done) | omega | (simp; omega)) | (with_reducible refine Own.more ?_ _) | (with_reducible refine Own.apart ?_ ?_ _ _; rotate_left; first | omega | (simp; done) | (simp; omega)) | (refine Own.put ?_ _ _))
  obtain ⟨Q1, Q2, Q3⟩ := O2.at_
  have hB : Below w.heap.size w w1 := by
    refine then_ ?_ hb (by simp; omega)
    repeat' (first | (with_reducible exact Below.refl _ _) | (with_reducible assumption) | (with_reducible refine below_drewN ?_ _) | (with_reducible refine Below.drew ?_) | (with_reducible refine Below.alloc ?_ ?_ _) | (with_reducible refine Below.setCell ?_ ?_ _) | (with_reducible refine then_ ?_ (by with_reducible assumption) ?_) | (with_reducible exact Nat.le_refl _) | (with_reducible exact Nat.le_succ _) | (with_reducible exact Nat.le_succ_of_le (by with_reducible assumption)) | omega | (simp; done) | (simp; omega) | (exact Nat.le_succ _) | (exact Nat.le_succ_of_le (by with_reducible assumption)))
  clear hb O2
  have HN := Lib.hid hn
  clear hn TR
  go_wp2
  refine bodyPost_ret (v := .agg #[.bool n', .slice a' l' c']) (by simp [results, Tryd.results17, go_sem, Q1]) rfl ⟨_, rfl, ?_, ?_⟩
  · exact ((HN.out.put (by omega) (by omega) _).put (by omega) (by omega) _).mono (Nat.le_refl _) (by omega)
  · repeat' (first | (with_reducible exact Below.refl _ _) | (with_reducible assumption) | (with_reducible refine below_drewN ?_ _) | (with_reducible refine Below.drew ?_) | (with_reducible refine Below.alloc ?_ ?_ _) | (with_reducible refine Below.setCell ?_ ?_ _) | (with_reducible refine then_ ?_ (by with_reducible assumption) ?_) | (with_reducible exact Nat.le_refl _) | (with_reducible exact Nat.le_succ _) | (with_reducible exact Nat.le_succ_of_le (by with_reducible assumption)) | omega | (simp; done) | (simp; omega) | (exact Nat.le_succ _) | (exact Nat.le_succ_of_le (by with_reducible assumption)))
end Go.Proofs.YtdnjkminicmffaaDoor
