
/- The contracts of a disk's fuse and of Write. Conditions: those that each theorem names. -/
import Derived.Test.YtmincpmkiheofaaDisA
import Derived.Test.YtmincpmkiheofaaSeq
import Derived.Test.YtmincpmkiheofaaShelf
namespace Go.Proofs.Ytmincpmkiheofaa
open Go.ChangeShapes Go.WideShapes Go.ChangeAt Go.RowKit
set_option linter.unusedVariables false
set_option linter.unusedSimpArgs false

theorem wf_i64 {x : Int} (h : (Lit.int .i64 x).wf = true) : -9223372036854775808 ≤ x ∧ x ≤ 9223372036854775807 := by
  simp [Lit.wf, IntKind.min, IntKind.max, IntKind.signed, IntKind.bits] at h
  omega
theorem wf_mk {x : Int} (h1 : -9223372036854775808 ≤ x) (h2 : x ≤ 9223372036854775807) : (Lit.int .i64 x).wf = true := by
  simp [Lit.wf, IntKind.min, IntKind.max, IntKind.signed, IntKind.bits]
  omega
theorem chg_one (w : World) (d k : Nat) (v : Value) : Chg (· = d) w (w.setCell ⟨d, k, none⟩ v) := (Chg.refl (· = d) w).set ⟨d, k, none⟩ (.inl rfl) v
section
variable {w : World} {d sb mb sc : Nat} {wv : Value} {n : Nat} {s : St}
theorem DiskAt.ne3 (h : DiskAt w d sb mb sc wv n s) : mb ≠ d ∧ mb ≠ sb ∧ ∀ g, wv.ownBlock = some g → g ≠ mb := by
  refine ⟨h.map.ne h.own, h.map.ne_cell (h.sure.cell 0 (by have := h.ok.pos; rw [h.ok.len]; omega)), fun g hg e => ?_⟩
  subst e
  obtain ⟨es, ck, hb, _⟩ := h.map
  rcases h.wrs.2 with ⟨rfl, _⟩ | ⟨g', cap, cur, rfl, _, hc, _⟩
  · cases hg
  · obtain rfl : g' = g := by simpa [Value.ownBlock] using hg
    rw [hc] at hb; cases hb
/-- a field that is a number or a bool is written -/
theorem DiskAt.fld (h : DiskAt w d sb mb sc wv n s) {w' : World} {f : Int} {b : Bool} (hf : (Lit.int .i64 f).wf = true) (hc : Chg (· = d) w w')
    (ho : Own w' d 71 #[.slice (some ⟨sb, 0, none⟩) (n * 64) sc, wv, .map (some mb), .int .i64 f, .bool b]) : DiskAt w' d sb mb sc wv n { s with fuse := f, down := b } := by
  obtain ⟨m1, m2, m3⟩ := h.ne3
  have k : ∀ q, q ≠ d → q < w.heap.size → w'.heap[q]? = w.heap[q]? := fun q hq hl => hc.block q hl hq
  exact ⟨ho, h.cap, h.sure.keep (k sb h.ne1 (h.in_ (.inr (.inl rfl)))), ownsRow_keep h.wrs fun g hg => k g (h.ne2 g hg).1 (h.in_ (.inr (.inr (.inr hg)))), h.map.keep (k mb m1 (h.in_ (.inr (.inr (.inl rfl))))), h.ne1, h.ne2, ⟨h.ok.pos, h.ok.max, h.ok.len, h.ok.wr, h.ok.few, hf⟩⟩
/-- the fuse burns: does the call go on, and what is left of the disk -/
def burn (s : St) : Bool × St := if s.fuse = 0 then (false, { s with down := true }) else if 0 < s.fuse then (!s.down, { s with fuse := s.fuse - 1 }) else (!s.down, s)
theorem lasts_any (h : DiskAt w d sb mb sc wv n s) : Calls Try.prog 60 #[.pointer (some ⟨d, 0, none⟩)] w fun e w' => e = .returned (.bool (burn s).1) ∧ DiskAt w' d sb mb sc wv n (burn s).2 ∧ Chg (· = d) w w' ∧ w'.heap.size = w.heap.size := by
  obtain ⟨o1, o2, o3⟩ := h.own.at_
  have hwf := h.ok.fuse
  obtain ⟨hr1, hr2⟩ := wf_i64 hwf
  have H := Lib.hid h
  clear h hwf
  by_cases h0 : s.fuse = 0
  · have E := Lib.hid (show burn s = (false, { s with down := true }) by simp [burn, h0])
    have F := Lib.hid h0
    rw [h0] at o1
    clear h0 hr1 hr2
    generalize hdn : s.down = dn at o1
    clear hdn
    go_enter Try.func60, Try.ntmps60
    go_wp2
    go_ret
    rw [E.out]
    refine ⟨rfl, H.out.fld H.out.ok.fuse (chg_one _ _ _ _) (Own.put H.out.own 4 _), ?_, ?_⟩
    · exact chg_one _ _ _ _
    · simp [World.setCell]
  · by_cases h1 : 0 < s.fuse
    · have E := Lib.hid (show burn s = (!s.down, { s with fuse := s.fuse - 1 }) by simp [burn, h0, h1])
      have t0 : (s.fuse == 0) = false := by simpa using h0
      have W := wf_mk (x := s.fuse - 1) (by omega) (by omega)
      have W := Lib.hid W
      clear h0
      obtain ⟨dn, hdn⟩ : ∃ dn, dn = s.down := ⟨_, rfl⟩
      rw [← hdn] at o1
      have D := Lib.hid hdn
      clear hdn
      go_enter Try.func60, Try.ntmps60
      go_wp2
      go_ret
      rw [E.out, ← D.out]
      refine ⟨rfl, H.out.fld (f := s.fuse - 1) (b := dn) W.out (chg_one _ _ _ _) (D.out ▸ Own.put H.out.own 3 _), ?_, ?_⟩
      · exact chg_one _ _ _ _
      · simp [World.setCell]
    · have E := Lib.hid (show burn s = (!s.down, s) by simp [burn, h0, h1])
      have t0 : (s.fuse == 0) = false := by simpa using h0
      clear h0
      generalize hdn : s.down = dn at o1
      have D := Lib.hid hdn
      clear hdn
      go_enter Try.func60, Try.ntmps60
      go_wp2
      go_ret
      rw [E.out, D.out]
      exact ⟨rfl, H.out, Chg.refl _ _, rfl⟩
theorem fuse_any (h : DiskAt w d sb mb sc wv n s) (f : Int) (hf : (Lit.int .i64 f).wf = true) : Calls Try.prog 11 #[.pointer (some ⟨d, 0, none⟩), .int .i64 f] w fun e w' => e = .returned (.tuple #[]) ∧ DiskAt w' d sb mb sc wv n { s with fuse := f } ∧ Chg (· = d) w w' ∧ w'.heap.size = w.heap.size := by
  obtain ⟨o1, o2, o3⟩ := h.own.at_
  have H := Lib.hid h
  have F := Lib.hid hf
  clear h hf
  obtain ⟨dn, hdn⟩ : ∃ dn, dn = s.down := ⟨_, rfl⟩
  rw [← hdn] at o1
  have D := Lib.hid hdn
  clear hdn
  go_enter Try.func11, Try.ntmps11
  go_wp2
  go_end0
  refine ⟨rfl, ?_, ?_, ?_⟩
  · have := H.out.fld (f := f) (b := s.down) F.out (chg_one _ _ _ _) (Own.put H.out.own 3 _)
    exact this
  · exact chg_one _ _ _ _
  · simp [World.setCell]
end
end Go.Proofs.Ytmincpmkiheofaa
