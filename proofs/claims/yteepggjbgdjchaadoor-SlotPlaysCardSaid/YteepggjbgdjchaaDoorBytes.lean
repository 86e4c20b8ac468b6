
/- Bytes in a block of the call's own: what a text is as bytes, a byte that is written, bytes that are a text again. It speaks of no function. -/
import Derived.Test.YteepggjbgdjchaaDoorBase
import Derived.Laws.IdiomStrings
namespace Go.Proofs.YteepggjbgdjchaaDoor
open Go.ChangeShapes Go.WideShapes Go.ChangeAt Go.RowKit
set_option linter.unusedVariables false

/-- block b holds the bytes L from its beginning on, and they may be written -/
structure BytesAt (w : World) (b : Nat) (L : List UInt8) : Prop where
  cell : ∀ j (h : j < L.length), w.cell? ⟨b, j, none⟩ = some (.int .u8 ((L[j]'h).toNat : Int))
  free : ∀ j, j < L.length → w.frozen? ⟨b, j, none⟩ = false

theorem BytesAt.store {w : World} {b : Nat} {L : List UInt8} (h : BytesAt w b L) (i : Nat) (hi : i < L.length) (v : UInt8) : BytesAt (w.setCell ⟨b, i, none⟩ (.int .u8 (v.toNat : Int))) b (L.set i v) := by
  refine ⟨fun j hj => ?_, fun j hj => ?_⟩
  · rw [List.length_set] at hj
    by_cases hij : i = j
    · subst hij
      rw [List.getElem_set_self]
      exact World.cell?_setCell_same w _ _ (h.cell i hi)
    · rw [List.getElem_set_ne hij, World.cell?_setCell_other _ _ _ _ (by intro e; injection e with _ e2; exact hij e2)]
      exact h.cell j hj
  · rw [List.length_set] at hj
    rw [World.frozen?_setCell]; exact h.free j hj
theorem to_bytes (P : Program) (w : World) (src dst e : TypeId) (s : ByteArray) (hs : P.underlying src = some .string) (hd : P.underlying dst = some (.slice e)) (he : P.underlying e = some (.int .u8)) :
    ∃ c w', (convert src dst (.string s)).run P w = .ok (.slice (some ⟨w.heap.size, 0, none⟩) s.size c) w' ∧ BytesAt w' w.heap.size s.data.toList ∧ Below w.heap.size w w' ∧ w.heap.size < w'.heap.size := by
  refine ⟨_, _, run_bytes_of_string w src dst e s hs hd he, ⟨fun j hj => ?_, fun j hj => ?_⟩, ((Below.refl _ _).drew).alloc (Nat.le_refl _) _, by simp⟩
  · have hj' : j < s.data.size := by simpa using hj
    have := World.cell?_alloc_mark w.drew (bytesRow s (grownCap w s.size 0 e)) e ((bytesRow s (grownCap w s.size 0 e)).size, (bytesRow s (grownCap w s.size 0 e)).size + 1) j
    rw [bytesRow_at s _ j hj'] at this
    simpa using this
  · have hj' : j < s.data.size := by simpa using hj
    have := World.frozen?_alloc_mark w.drew (bytesRow s (grownCap w s.size 0 e)) e (bytesRow s (grownCap w s.size 0 e)).size ((bytesRow s (grownCap w s.size 0 e)).size + 1) j
    refine this.trans ?_
    have hb : j < (bytesRow s (grownCap w s.size 0 e)).size := by
      have h := bytesRow_at s (grownCap w s.size 0 e) j hj'
      rw [Array.getElem?_eq_some_iff] at h
      exact h.1
    simp; omega
theorem of_bytes (P : Program) (w : World) (src dst e : TypeId) (b cap : Nat) (L : List UInt8) (h : BytesAt w b L) (hs : P.underlying src = some (.slice e)) (he : P.underlying e = some (.int .u8)) (hd : P.underlying dst = some .string) :
    (convert src dst (.slice (some ⟨b, 0, none⟩) L.length cap)).run P w = .ok (.string ⟨L.toArray⟩) w :=
  run_convert_bytes_back (P := P) w src dst e ⟨b, 0, none⟩ cap L hs he hd (fun j hj => by
    have ea : (⟨b, 0, none⟩ : Addr).add j = ⟨b, j, none⟩ := by unfold Addr.add; split <;> simp_all
    rw [ea]; exact h.cell j hj)
end Go.Proofs.YteepggjbgdjchaaDoor
