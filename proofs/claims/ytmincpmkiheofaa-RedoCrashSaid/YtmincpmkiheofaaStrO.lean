
/- Slices of strings that grow by append. It speaks of no function. -/
import Derived.Test.YtmincpmkiheofaaTxns
namespace Go.Proofs.Ytmincpmkiheofaa
open Go.ChangeShapes Go.WideShapes Go.ChangeAt Go.RowKit
set_option linter.unusedVariables false
set_option linter.unusedSimpArgs false

structure StrOwn (w : World) (S : Nat → Prop) (v : Value) (l : List ByteArray) : Prop where
  row : w.ownsRow 0 9 1 v l.length (l.map .string)
  at_ : ∀ g, v.ownBlock = some g → S g
  small : ∀ s ∈ l, s.size ≤ maxLen
theorem StrOwn.nil (w : World) (S : Nat → Prop) : StrOwn w S (.slice none 0 0) [] := ⟨World.ownsRow_nil _ _ _ _, (by intro g hg; cases hg), (by simp)⟩
theorem StrOwn.keep {w w' : World} {S U : Nat → Prop} {v : Value} {l : List ByteArray} (h : StrOwn w S v l) (hc : Chg U w w') (k : ∀ b, b < w.heap.size → S b → ¬ U b) : StrOwn w' S v l :=
  ⟨own_keep h.row fun g hg => hc.block g (h.row.lt g hg).2 (k g (h.row.lt g hg).2 (h.at_ g hg)), h.at_, h.small⟩
theorem StrOwn.below {w w' : World} {S : Nat → Prop} {v : Value} {l : List ByteArray} (h : StrOwn w S v l) (hb : Below w.heap.size w w') : StrOwn w' S v l := h.keep (Chg.of (S := fun _ => False) hb) fun _ _ _ => id
theorem StrOwn.shape {w : World} {S : Nat → Prop} {v : Value} {l : List ByteArray} (h : StrOwn w S v l) : ∃ a c, v = .slice a l.length c ∧ l.length ≤ c ∧ c ≤ maxLen := by
  rcases h.row.2 with ⟨rfl, h0⟩ | ⟨g, cap, cur, rfl, _, _, r1, r2, _⟩
  · exact ⟨none, 0, by rw [h0], by omega, Nat.zero_le _⟩
  · exact ⟨_, _, rfl, r1, r2⟩
theorem StrOwn.in_ {w : World} {S : Nat → Prop} {v : Value} {l : List ByteArray} (h : StrOwn w S v l) : StrsIn w S v l := by
  obtain ⟨a, c, hv, hc1, hc2⟩ := h.shape
  obtain ⟨h1, h2, h3⟩ := h
  refine ⟨a, c, hv, hc1, hc2, h3, ?_⟩
  rcases h1.2 with ⟨_, h⟩ | ⟨g, cap, cur, hv2, r0, r1, r2, r3, r4, r5⟩
  · exact .inl (List.length_eq_zero_iff.1 h)
  · rw [hv2] at h1 h2
    refine .inr ⟨g, 0, ?_, h2 g rfl, (h1.lt g rfl).2, fun i hi => ?_⟩
    · rw [hv] at hv2; exact (Value.slice.inj hv2).1
    · rw [Nat.zero_add]
      refine (h1.cellAt i (by omega)).trans ?_
      simp [hi]
/-- one more, by append -/
theorem StrOwn.push {w wa w3 : World} {S : Nat → Prop} {v v' : Value} {l : List ByteArray} {t : ByteArray} (h : StrOwn w S v l) (ht : t.size ≤ maxLen)
    (ha : Below w.heap.size w wa) (hown : w3.ownsRow 0 9 1 v' (l.length + 1) (l.map .string ++ [.string t])) (hg : wa.grownBy w3 v.ownBlock) (hl : v'.ownBlock = v.ownBlock ∨ v'.ownBlock = some wa.heap.size) (hS : ∀ q, w.heap.size ≤ q → S q) :
    StrOwn w3 S v' (l ++ [t]) ∧ Chg (fun q => v.ownBlock = some q) w w3 := by
  refine ⟨⟨?_, ?_, ?_⟩, (Chg.of ha).grown hg fun k hk => .inl hk⟩
  · simpa using hown
  · intro g hg'
    rcases hl with hl | hl
    · exact h.at_ g (hl ▸ hg')
    · rw [hl] at hg'; injection hg' with e; exact e ▸ hS _ ha.size
  · intro s hs
    rcases List.mem_append.1 hs with hs | hs
    · exact h.small s hs
    · obtain rfl : s = t := by simpa using hs
      exact ht
theorem one_cell (W : World) (T : TypeId) (x : Value) (j : Nat) {u : Value} (hu : [x][j]? = some u) : (W.alloc (.cells #[x] T)).cell? ((⟨W.heap.size, 0, none⟩ : Addr).add j) = some u := by
  have e : (⟨W.heap.size, 0, none⟩ : Addr).add j = ⟨W.heap.size, j, none⟩ := by unfold Addr.add; split <;> simp_all
  rw [e]
  have := (Own.made W T #[x]).at_.1 j
  exact this.trans (by simpa using hu)
end Go.Proofs.Ytmincpmkiheofaa
