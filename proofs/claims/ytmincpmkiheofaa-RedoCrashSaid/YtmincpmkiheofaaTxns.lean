
/- Slices of transactions (a number and a slice of strings each) that stand in memory, or grow there. It speaks of no function. -/
import Derived.Test.YtmincpmkiheofaaStrs
namespace Go.Proofs.Ytmincpmkiheofaa
open Go.ChangeShapes Go.WideShapes Go.ChangeAt Go.RowKit
set_option linter.unusedVariables false
set_option linter.unusedSimpArgs false

def txc : List (Nat × List ByteArray) → List Value → List Value
  | t :: ts, v :: vs => .int .u64 (t.1 : Int) :: v :: txc ts vs
  | _, _ => []
theorem txc_len : ∀ (ts : List (Nat × List ByteArray)) (vs : List Value), vs.length = ts.length → (txc ts vs).length = ts.length * 2
  | [], [], _ => rfl
  | t :: ts, v :: vs, h => by
    have := txc_len ts vs (by simpa using h)
    simp only [txc, List.length_cons]
    omega
theorem txc_at : ∀ (ts : List (Nat × List ByteArray)) (vs : List Value) (h : vs.length = ts.length) (i : Nat) (hi : i < ts.length), (txc ts vs)[i * 2]? = some (.int .u64 ((ts[i]'hi).1 : Int)) ∧ (txc ts vs)[i * 2 + 1]? = vs[i]?
  | t :: ts, v :: vs, h, 0, _ => ⟨rfl, rfl⟩
  | t :: ts, v :: vs, h, i + 1, hi => by
    have := txc_at ts vs (by simpa using h) i (by simpa using hi)
    have e : (i + 1) * 2 = i * 2 + 1 + 1 := by omega
    rw [e]
    exact this
theorem txc_snoc : ∀ (ts : List (Nat × List ByteArray)) (vs : List Value) (t : Nat × List ByteArray) (v : Value), vs.length = ts.length → txc (ts ++ [t]) (vs ++ [v]) = txc ts vs ++ [.int .u64 (t.1 : Int), v]
  | [], [], _, _, _ => rfl
  | a :: ts, b :: vs, t, v, h => by
    have := txc_snoc ts vs t v (by simpa using h)
    simp only [List.cons_append, txc, this]
/-- transactions in memory -/
def TxnsIn (w : World) (S : Nat → Prop) (v : Value) (ts : List (Nat × List ByteArray)) : Prop :=
  ∃ a cap, v = .slice a ts.length cap ∧ ts.length ≤ cap ∧ cap ≤ maxLen ∧
    (ts = [] ∨ ∃ b o, a = some ⟨b, o, none⟩ ∧ S b ∧ b < w.heap.size ∧ ∀ i (h : i < ts.length), w.cell? ⟨b, o + i * 2, none⟩ = some (.int .u64 ((ts[i]'h).1 : Int)) ∧ ∃ u, w.cell? ⟨b, o + i * 2 + 1, none⟩ = some u ∧ StrsIn w S u (ts[i]'h).2)
theorem TxnsIn.nil (w : World) (S : Nat → Prop) : TxnsIn w S (.slice none 0 0) [] := ⟨none, 0, rfl, Nat.le_refl _, Nat.zero_le _, .inl rfl⟩
theorem TxnsIn.keep {w w' : World} {S T : Nat → Prop} {v : Value} {ts : List (Nat × List ByteArray)} (h : TxnsIn w S v ts) (hc : Chg T w w') (k : ∀ b, b < w.heap.size → S b → ¬ T b) : TxnsIn w' S v ts := by
  obtain ⟨a, cap, h1, h2, h3, h5⟩ := h
  refine ⟨a, cap, h1, h2, h3, ?_⟩
  rcases h5 with h5 | ⟨b, o, e, hS, hb, hcl⟩
  · exact .inl h5
  · refine .inr ⟨b, o, e, hS, Nat.lt_of_lt_of_le hb hc.size, fun i hi => ?_⟩
    obtain ⟨c1, u, c2, c3⟩ := hcl i hi
    exact ⟨hc.cell c1 (k b hb hS), u, hc.cell c2 (k b hb hS), c3.keep hc k⟩
theorem TxnsIn.mono {w : World} {S T : Nat → Prop} {v : Value} {ts : List (Nat × List ByteArray)} (h : TxnsIn w S v ts) (k : ∀ b, b < w.heap.size → S b → T b) : TxnsIn w T v ts := by
  obtain ⟨a, cap, h1, h2, h3, h5⟩ := h
  refine ⟨a, cap, h1, h2, h3, ?_⟩
  rcases h5 with h5 | ⟨b, o, e, hS, hb, hcl⟩
  · exact .inl h5
  · refine .inr ⟨b, o, e, k b hb hS, hb, fun i hi => ?_⟩
    obtain ⟨c1, u, c2, c3⟩ := hcl i hi
    exact ⟨c1, u, c2, c3.mono k⟩
theorem TxnsIn.below {w w' : World} {S : Nat → Prop} {v : Value} {ts : List (Nat × List ByteArray)} (h : TxnsIn w S v ts) (hb : Below w.heap.size w w') : TxnsIn w' S v ts := h.keep (Chg.of (S := fun _ => False) hb) fun _ _ _ => id
theorem TxnsIn.open_ {w : World} {S : Nat → Prop} {v : Value} {ts : List (Nat × List ByteArray)} (h : TxnsIn w S v ts) : ∃ a cap, v = .slice a ts.length cap ∧ ts.length ≤ cap ∧ cap ≤ maxLen ∧ ∀ i (hi : i < ts.length), ∃ b o, a = some ⟨b, o, none⟩ ∧ S b ∧ b < w.heap.size ∧ w.cell? ⟨b, o + i * 2, none⟩ = some (.int .u64 ((ts[i]'hi).1 : Int)) ∧ ∃ u, w.cell? ⟨b, o + i * 2 + 1, none⟩ = some u ∧ StrsIn w S u (ts[i]'hi).2 := by
  obtain ⟨a, cap, h1, h2, h3, h5⟩ := h
  refine ⟨a, cap, h1, h2, h3, fun i hi => ?_⟩
  rcases h5 with h5 | ⟨b, o, e, hS, hb, hcl⟩
  · subst h5; simp at hi
  · exact ⟨b, o, e, hS, hb, hcl i hi⟩
/-- transactions in a slice that grows: vs are the values of their slices of strings -/
structure TxRow (w : World) (T : TypeId) (S : Nat → Prop) (v : Value) (ts : List (Nat × List ByteArray)) (vs : List Value) : Prop where
  len : vs.length = ts.length
  row : w.ownsRow 0 T 2 v ts.length (txc ts vs)
  at_ : ∀ g, v.ownBlock = some g → S g
  strs : ∀ i (h : i < ts.length), ∃ u, vs[i]? = some u ∧ StrsIn w (fun b => S b ∧ v.ownBlock ≠ some b) u (ts[i]'h).2
def TxOwn (w : World) (T : TypeId) (S : Nat → Prop) (v : Value) (ts : List (Nat × List ByteArray)) : Prop := ∃ vs, TxRow w T S v ts vs
theorem TxOwn.nil (w : World) (T : TypeId) (S : Nat → Prop) : TxOwn w T S (.slice none 0 0) [] :=
  ⟨[], rfl, World.ownsRow_nil _ _ _ _, (by intro g hg; cases hg), (by intro i h; exact absurd h (Nat.not_lt_zero _))⟩
theorem own_keep {w w' : World} {e : TypeId} {size : Nat} {v : Value} {n : Nat} {xs : List Value} (h : w.ownsRow 0 e size v n xs) (hk : ∀ g, v.ownBlock = some g → w'.heap[g]? = w.heap[g]?) : w'.ownsRow 0 e size v n xs := by
  refine ⟨h.1, ?_⟩
  rcases h.2 with h2 | ⟨g, cap, cur, rfl, r1, r2, r3⟩
  · exact .inl h2
  · exact .inr ⟨g, cap, cur, rfl, r1, (hk g rfl).trans r2, r3⟩
theorem TxOwn.keep {w w' : World} {T : TypeId} {S U : Nat → Prop} {v : Value} {ts : List (Nat × List ByteArray)} (h : TxOwn w T S v ts) (hc : Chg U w w') (k : ∀ b, b < w.heap.size → S b → ¬ U b) : TxOwn w' T S v ts := by
  obtain ⟨vs, h1, h2, h3, h4⟩ := h
  refine ⟨vs, h1, own_keep h2 fun g hg => hc.block g (h2.lt g hg).2 (k g (h2.lt g hg).2 (h3 g hg)), h3, fun i hi => ?_⟩
  obtain ⟨u, hu, hs⟩ := h4 i hi
  exact ⟨u, hu, hs.keep hc fun b hb hS => k b hb hS.1⟩
theorem TxOwn.below {w w' : World} {T : TypeId} {S : Nat → Prop} {v : Value} {ts : List (Nat × List ByteArray)} (h : TxOwn w T S v ts) (hb : Below w.heap.size w w') : TxOwn w' T S v ts := h.keep (Chg.of (S := fun _ => False) hb) fun _ _ _ => id
theorem TxOwn.mono {w : World} {T : TypeId} {S U : Nat → Prop} {v : Value} {ts : List (Nat × List ByteArray)} (h : TxOwn w T S v ts) (k : ∀ b, b < w.heap.size → S b → U b) : TxOwn w T U v ts := by
  obtain ⟨vs, h1, h2, h3, h4⟩ := h
  refine ⟨vs, h1, h2, fun g hg => k g (h2.lt g hg).2 (h3 g hg), fun i hi => ?_⟩
  obtain ⟨u, hu, hs⟩ := h4 i hi
  exact ⟨u, hu, hs.mono fun b hb hS => ⟨k b hb hS.1, hS.2⟩⟩
theorem TxOwn.shape {w : World} {T : TypeId} {S : Nat → Prop} {v : Value} {ts : List (Nat × List ByteArray)} (h : TxOwn w T S v ts) : ∃ a c, v = .slice a ts.length c ∧ ts.length ≤ c ∧ c ≤ maxLen := by
  obtain ⟨vs, h1, h2, h3, h4⟩ := h
  rcases h2.2 with ⟨rfl, h⟩ | ⟨g, cap, cur, rfl, _, _, r1, r2, _⟩
  · exact ⟨none, 0, by rw [h], by omega, Nat.zero_le _⟩
  · exact ⟨_, _, rfl, r1, r2⟩
/-- one more, by append -/
theorem TxRow.push {w wa w3 : World} {T : TypeId} {S : Nat → Prop} {v v' u : Value} {ts : List (Nat × List ByteArray)} {vs : List Value} {t : Nat × List ByteArray} (h : TxRow w T S v ts vs) (hu : StrsIn w (fun b => S b ∧ v.ownBlock ≠ some b) u t.2)
    (ha : Below w.heap.size w wa) (hown : w3.ownsRow 0 T 2 v' (ts.length + 1) (txc ts vs ++ [.int .u64 (t.1 : Int), u])) (hg : wa.grownBy w3 v.ownBlock) (hl : v'.ownBlock = v.ownBlock ∨ v'.ownBlock = some wa.heap.size) (hS : ∀ q, w.heap.size ≤ q → S q) :
    TxOwn w3 T S v' (ts ++ [t]) ∧ Chg (fun q => v.ownBlock = some q) w w3 := by
  have hc : Chg (fun q => v.ownBlock = some q) w w3 := (Chg.of ha).grown hg fun k hk => .inl hk
  have kk : ∀ u l, StrsIn w (fun b => S b ∧ v.ownBlock ≠ some b) u l → StrsIn w3 (fun b => S b ∧ v'.ownBlock ≠ some b) u l := fun u l hs => by
    have h1 : StrsIn w (fun b => S b ∧ v.ownBlock ≠ some b ∧ v'.ownBlock ≠ some b) u l := hs.mono fun b hb hh => ⟨hh.1, hh.2, by
      rcases hl with hl | hl
      · rw [hl]; exact hh.2
      · rw [hl]; have := ha.size; intro e; injection e; omega⟩
    exact (h1.keep hc fun b hb hh => hh.2.1).mono fun b hb hh => ⟨hh.1, hh.2.2⟩
  refine ⟨⟨vs ++ [u], by simp [h.len], ?_, ?_, fun i hi => ?_⟩, hc⟩
  · rw [txc_snoc ts vs t u h.len, List.length_append]
    exact hown
  · intro g hg'
    rcases hl with hl | hl
    · exact h.at_ g (hl ▸ hg')
    · rw [hl] at hg'; injection hg' with e; exact e ▸ hS _ ha.size
  · by_cases hlt : i < ts.length
    · obtain ⟨u', hu', hs'⟩ := h.strs i hlt
      refine ⟨u', by rw [List.getElem?_append_left (by have := h.len; omega)]; exact hu', ?_⟩
      rw [List.getElem_append_left hlt]
      exact kk _ _ hs'
    · have e : i = ts.length := by simp at hi; omega
      subst e
      refine ⟨u, by rw [List.getElem?_append_right (by have := h.len; omega), h.len]; simp, ?_⟩
      rw [List.getElem_append_right (by omega)]
      simp only [Nat.sub_self, List.getElem_cons_zero]
      exact kk _ _ hu
theorem TxOwn.in_ {w : World} {T : TypeId} {S : Nat → Prop} {v : Value} {ts : List (Nat × List ByteArray)} (h : TxOwn w T S v ts) : TxnsIn w S v ts := by
  obtain ⟨a, c, hv, hc1, hc2⟩ := h.shape
  obtain ⟨vs, h1, h2, h3, h4⟩ := h
  refine ⟨a, c, hv, hc1, hc2, ?_⟩
  rcases h2.2 with ⟨_, h⟩ | ⟨g, cap, cur, hv2, r0, r1, r2, r3, r4, r5⟩
  · exact .inl (List.length_eq_zero_iff.1 h)
  · by_cases h0 : ts = []
    · exact .inl h0
    · rw [hv2] at h2 h3 h4
      refine .inr ⟨g, 0, ?_, h3 g rfl, (h2.lt g rfl).2, fun i hi => ?_⟩
      · rw [hv] at hv2; exact (Value.slice.inj hv2).1
      · have ha := txc_at ts vs h1 i hi
        obtain ⟨u, hu, hs⟩ := h4 i hi
        refine ⟨?_, u, ?_, hs.mono fun b _ hh => hh.1⟩
        · rw [Nat.zero_add]
          exact (h2.cellAt (i * 2) (by omega)).trans ha.1
        · rw [Nat.zero_add]
          exact (h2.cellAt (i * 2 + 1) (by omega)).trans (ha.2.trans hu)
end Go.Proofs.Ytmincpmkiheofaa
