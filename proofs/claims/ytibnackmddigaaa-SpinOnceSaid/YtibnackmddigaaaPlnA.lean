
/- Vertices and edges that stand in memory; the contracts of plan's Vertex, Edge and Degree. Conditions: those that each theorem names. -/
import Derived.Test.YtibnackmddigaaaPlnM
import Derived.Test.YtibnackmddigaaaPlnBr
import Derived.Test.YtibnackmddigaaaSta
import Derived.Test.YtibnackmddigaaaMem2
import Derived.Deep.OwnRows
import Derived.BigQuiet
namespace Go.Proofs.Ytibnackmddigaaa.Pl
open Go.ChangeShapes Go.WideShapes Go.ChangeAt Go.RowKit
set_option linter.unusedVariables false
set_option linter.unusedSimpArgs false

theorem bx1 (w : World) (T : TypeId) (cs : Array Value) : Below w.heap.size w (w.alloc (.cells cs T)) := (Below.refl _ _).alloc (Nat.le_refl _) _
/-- rows of three numbers in memory -/
def TIn {α : Type} (p q r : α → Int) (w : World) (v : Value) (L : List α) : Prop :=
  ∃ a cap, v = .slice a L.length cap ∧ L.length ≤ cap ∧ cap ≤ maxLen ∧
    (L = [] ∨ ∃ b o, a = some ⟨b, o, none⟩ ∧ b < w.heap.size ∧ ∀ i (h : i < L.length), w.cell? ⟨b, o + i * 3, none⟩ = some (.int .i64 (p (L[i]'h))) ∧ w.cell? ⟨b, o + i * 3 + 1, none⟩ = some (.int .i64 (q (L[i]'h))) ∧ w.cell? ⟨b, o + i * 3 + 2, none⟩ = some (.int .i64 (r (L[i]'h))))
def VIn (w : World) (v : Value) (L : List Vx) : Prop := TIn Vx.id Vx.x Vx.y w v L
def EIn (w : World) (v : Value) (L : List Eg) : Prop := TIn Eg.id Eg.a Eg.b w v L
section
variable {α : Type} {p q r : α → Int} {w w' : World} {v : Value} {L : List α}
theorem TIn.nil (w : World) : TIn p q r w (.slice none 0 0) [] := ⟨none, 0, rfl, Nat.le_refl _, Nat.zero_le _, .inl rfl⟩
theorem TIn.below (h : TIn p q r w v L) (hb : Below w.heap.size w w') : TIn p q r w' v L := by
  obtain ⟨a, cap, h1, h2, h3, h5⟩ := h
  refine ⟨a, cap, h1, h2, h3, ?_⟩
  rcases h5 with h5 | ⟨b, o, e, hb', hcl⟩
  · exact .inl h5
  · refine .inr ⟨b, o, e, Nat.lt_of_lt_of_le hb' hb.size, fun i hi => ?_⟩
    obtain ⟨c1, c2, c3⟩ := hcl i hi
    exact ⟨keep hb c1, keep hb c2, keep hb c3⟩
theorem TIn.drawn (h : TIn p q r w v L) : TIn p q r w.drew v L := h.below (Below.refl _ _).drew
theorem TIn.keep {S : Nat → Prop} (h : TIn p q r w v L) (hc : Chg S w w') (k : ∀ b o n c, v = .slice (some ⟨b, o, none⟩) n c → ¬ S b) : TIn p q r w' v L := by
  obtain ⟨a, cap, h1, h2, h3, h5⟩ := h
  refine ⟨a, cap, h1, h2, h3, ?_⟩
  rcases h5 with h5 | ⟨b, o, e, hb', hcl⟩
  · exact .inl h5
  · refine .inr ⟨b, o, e, Nat.lt_of_lt_of_le hb' hc.size, fun i hi => ?_⟩
    obtain ⟨c1, c2, c3⟩ := hcl i hi
    have kb := k b o L.length cap (by rw [h1, e])
    exact ⟨hc.cell c1 kb, hc.cell c2 kb, hc.cell c3 kb⟩
/-- of a world's old blocks -/
theorem TIn.old {B : Nat} (h : TIn p q r w v L) (hB : w.heap.size ≤ B) (hb : Below B w w') : TIn p q r w' v L := by
  obtain ⟨a, cap, h1, h2, h3, h5⟩ := h
  refine ⟨a, cap, h1, h2, h3, ?_⟩
  rcases h5 with h5 | ⟨b, o, e, hb', hcl⟩
  · exact .inl h5
  · refine .inr ⟨b, o, e, Nat.lt_of_lt_of_le hb' hb.size, fun i hi => ?_⟩
    have k : ∀ o, w'.cell? ⟨b, o, none⟩ = w.cell? ⟨b, o, none⟩ := fun o => hb.cell (p := ⟨b, o, none⟩) (Nat.lt_of_lt_of_le hb' hB)
    rw [k, k, k]
    exact hcl i hi
theorem TIn.open_ (h : TIn p q r w v L) : ∃ a cap, v = .slice a L.length cap ∧ L.length ≤ cap ∧ cap ≤ maxLen ∧ (∀ k, k ≤ L.length → TIn p q r w (.slice a k cap) (L.take k)) ∧ ∀ i (hi : i < L.length), ∃ b o, a = some ⟨b, o, none⟩ ∧ b < w.heap.size ∧ ∀ W, Below w.heap.size w W →
    W.cell? ⟨b, o + i * 3, none⟩ = some (.int .i64 (p (L[i]'hi))) ∧ W.cell? ⟨b, o + i * 3 + 1, none⟩ = some (.int .i64 (q (L[i]'hi))) ∧ W.cell? ⟨b, o + i * 3 + 2, none⟩ = some (.int .i64 (r (L[i]'hi))) := by
  obtain ⟨a, cap, h1, h2, h3, h5⟩ := h
  refine ⟨a, cap, h1, h2, h3, fun k hk => ?_, fun i hi => ?_⟩
  · refine ⟨a, cap, by rw [List.length_take, Nat.min_eq_left hk], by rw [List.length_take]; omega, h3, ?_⟩
    rcases h5 with h5 | ⟨b, o, e, hb, hcl⟩
    · left; rw [h5]; simp
    · refine .inr ⟨b, o, e, hb, fun i hi => ?_⟩
      rw [List.length_take] at hi
      have := hcl i (by omega)
      rw [List.getElem_take]
      exact this
  · rcases h5 with h5 | ⟨b, o, e, hb, hcl⟩
    · subst h5; simp at hi
    · exact ⟨b, o, e, hb, fun W hW => ⟨Go.Proofs.Ytibnackmddigaaa.keep hW (hcl i hi).1, Go.Proofs.Ytibnackmddigaaa.keep hW (hcl i hi).2.1, Go.Proofs.Ytibnackmddigaaa.keep hW (hcl i hi).2.2⟩⟩
end
theorem any_at {α : Type} {P : α → Bool} {L : List α} {k : Nat} (hk : k < L.length) (h1 : P (L[k]'hk) = true) : L.any P = true := List.any_eq_true.2 ⟨_, List.getElem_mem hk, h1⟩
theorem any_not {α : Type} {P : α → Bool} {L : List α} (h : ∀ i (h : i < L.length), P (L[i]'h) = false) : L.any P = false := by
  rw [List.any_eq_false]
  intro x hx
  obtain ⟨i, hi, rfl⟩ := List.mem_iff_getElem.1 hx
  rw [h i hi]
  simp
theorem three_at {w : World} {p : Nat} {T : TypeId} {x y z : Int} (h : Own w p T #[.int .i64 x, .int .i64 y, .int .i64 z]) : w.cell? ⟨p, 0, none⟩ = some (.int .i64 x) ∧ w.cell? ⟨p, 1, none⟩ = some (.int .i64 y) ∧ w.cell? ⟨p, 2, none⟩ = some (.int .i64 z) := ⟨(h.at_).1 0, (h.at_).1 1, (h.at_).1 2⟩
theorem VIn.sl {w : World} {v : Value} {vs : List Vx} (h : VIn w v vs) : ∃ a c, v = .slice a vs.length c := by obtain ⟨a, c, e, _⟩ := h; exact ⟨a, c, e⟩
theorem EIn.sl {w : World} {e : Value} {es : List Eg} (h : EIn w e es) : ∃ a c, e = .slice a es.length c := by obtain ⟨a, c, e, _⟩ := h; exact ⟨a, c, e⟩
end Go.Proofs.Ytibnackmddigaaa.Pl