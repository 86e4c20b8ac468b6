
/- The document's disk as it lies in memory, and the contracts of its functions that write no bytes. Conditions: those that each theorem names. -/
import Derived.Test.YtgddogjieemgeaaDisJ
namespace Go.Proofs.Ytgddogjieemgeaa
open Go.ChangeShapes Go.WideShapes Go.ChangeAt Go.RowKit
set_option linter.unusedVariables false
set_option linter.unusedSimpArgs false

/-- the document's disk at block r -/
structure RefAt (w : World) (r : Nat) (wv : Value) (n : Nat) (s : St) : Prop where
  own : Own w r 49 #[.string (strOf s.sure), wv, .int .i64 s.fuse, .bool s.down]
  wrs : w.ownsRow 0 70 2 wv s.wr.length (wcells s.wr)
  ne : ∀ g, wv.ownBlock = some g → g ≠ r
  ok : s.Ok n
def rfp (r : Nat) (wv : Value) : Nat → Prop := fun q => q = r ∨ wv.ownBlock = some q
section
variable {w w' : World} {r : Nat} {wv : Value} {n : Nat} {s : St}
theorem RefAt.in_ (h : RefAt w r wv n s) {q : Nat} (hq : rfp r wv q) : q < w.heap.size := by
  rcases hq with rfl | hq
  · exact h.own.in_
  · exact (h.wrs.lt q hq).2
theorem RefAt.keep (h : RefAt w r wv n s) {S : Nat → Prop} (hc : Chg S w w') (hS : ∀ q, rfp r wv q → ¬ S q) : RefAt w' r wv n s := by
  have k : ∀ q, rfp r wv q → w'.heap[q]? = w.heap[q]? := fun q hq => hc.block q (h.in_ hq) (hS q hq)
  exact ⟨(k r (.inl rfl)).trans h.own, ownsRow_keep h.wrs fun g hg => k g (.inr hg), h.ne, h.ok⟩
theorem RefAt.below (h : RefAt w r wv n s) (hb : Below w.heap.size w w') : RefAt w' r wv n s := h.keep (Chg.of (S := fun _ => False) hb) fun _ _ => id
theorem RefAt.slice (h : RefAt w r wv n s) : ∃ a c, wv = .slice a s.wr.length c ∧ s.wr.length ≤ c ∧ c ≤ maxLen := by
  rcases h.wrs.2 with ⟨rfl, h2⟩ | ⟨g, cap, cur, rfl, _, _, h1, h2, _⟩
  · exact ⟨none, 0, by rw [h2], by omega, by unfold maxLen; omega⟩
  · exact ⟨_, _, rfl, h1, h2⟩
theorem RefAt.wcell (h : RefAt w r wv n s) (k : Nat) (hk : k < s.wr.length) : ∃ g c, wv = .slice (some ⟨g, 0, none⟩) s.wr.length c ∧ w.cell? ⟨g, k * 2, none⟩ = some (.int .i64 ((s.wr[k]'hk).1 : Int)) ∧ w.cell? ⟨g, k * 2 + 1, none⟩ = some (.string (s.wr[k]'hk).2) := by
  rcases h.wrs.2 with ⟨rfl, h2⟩ | ⟨g, cap, cur, rfl, h1, h2, h3, h4, h5, h6⟩
  · omega
  · have e := wcells_at s.wr k hk
    have hc := fun j hj => World.ownsRow.cellAt h.wrs j hj
    exact ⟨g, cap, rfl, (hc (k * 2) (by omega)).trans e.1, (hc (k * 2 + 1) (by omega)).trans e.2⟩
/-- the fields but the writes are written -/
theorem RefAt.fld (h : RefAt w r wv n s) {L : List UInt8} {f : Int} {b : Bool} (hL : L.length = n * 64) (hf : (Lit.int .i64 f).wf = true) (hc : Chg (· = r) w w')
    (ho : Own w' r 49 #[.string (strOf L), wv, .int .i64 f, .bool b]) : RefAt w' r wv n ⟨L, s.wr, f, b⟩ :=
  ⟨ho, ownsRow_keep h.wrs fun g hg => hc.block g (h.in_ (.inr hg)) (h.ne g hg), h.ne, ⟨h.ok.pos, h.ok.max, hL, h.ok.wr, h.ok.few, hf⟩⟩
theorem strOf_size (L : List UInt8) : (strOf L).size = L.length := by show L.toArray.size = _; simp
theorem rlen_any (h : RefAt w r wv n s) : Calls Try.prog 26 #[.pointer (some ⟨r, 0, none⟩)] w fun e w' => e = .returned (.int .i64 n) ∧ w = w' := by
  have hl := h.ok.len
  have hm := h.ok.max
  have hz := strOf_size s.sure
  rw [hl] at hz
  obtain ⟨T, hT⟩ : ∃ T, T = strOf s.sure := ⟨_, rfl⟩
  obtain ⟨o1, o2, o3⟩ := h.own.at_
  rw [← hT] at o1 hz
  have e1 : (T.size : Int) / 64 = n := by omega
  have e2 : T.size ≤ 9223372036854775807 := by omega
  clear h hT hl hz
  go_enter Try.func26, Try.ntmps26
  go_wp2
  go_ret
  exact ⟨rfl, rfl⟩
/-- the document's fuse -/
def rburn (s : St) : Bool × St := if s.fuse = 0 then (false, { s with down := true, fuse := -1 }) else if 0 < s.fuse then (true, { s with fuse := s.fuse - 1 }) else (true, s)
theorem rburn_any (h : RefAt w r wv n s) : Calls Try.prog 38 #[.pointer (some ⟨r, 0, none⟩)] w fun e w' => e = .returned (.bool (rburn s).1) ∧ RefAt w' r wv n (rburn s).2 ∧ Chg (· = r) w w' ∧ w'.heap.size = w.heap.size := by
  obtain ⟨o1, o2, o3⟩ := h.own.at_
  have hwf := h.ok.fuse
  obtain ⟨hr1, hr2⟩ := wf_i64 hwf
  have hl := Lib.hid h.ok.len
  have H := Lib.hid h
  clear h hwf
  obtain ⟨T, hT⟩ : ∃ T, T = strOf s.sure := ⟨_, rfl⟩
  obtain ⟨dn, hdn⟩ : ∃ dn, dn = s.down := ⟨_, rfl⟩
  rw [← hT, ← hdn] at o1
  replace hT := Lib.hid hT
  replace hdn := Lib.hid hdn
  by_cases h0 : s.fuse = 0
  · have E := Lib.hid (show rburn s = (false, { s with down := true, fuse := -1 }) by simp [rburn, h0])
    have F := Lib.hid h0
    rw [h0] at o1
    clear h0 hr1 hr2
    go_enter Try.func38, Try.ntmps38
    go_wp2
    go_ret
    rw [E.out]
    refine ⟨rfl, H.out.fld hl.out (wf_mk (by decide) (by decide)) ((chg_one _ _ _ _).same (chg_one _ _ _ _)) ((H.out.own.put 3 _).put 2 _), (chg_one _ _ _ _).same (chg_one _ _ _ _), ?_⟩
    simp [World.setCell]
  · by_cases h1 : 0 < s.fuse
    · have E := Lib.hid (show rburn s = (true, { s with fuse := s.fuse - 1 }) by simp [rburn, h0, h1])
      have t0 : (s.fuse == 0) = false := by simpa using h0
      have W := Lib.hid (wf_mk (x := s.fuse - 1) (by omega) (by omega))
      clear h0
      go_enter Try.func38, Try.ntmps38
      go_wp2
      go_ret
      rw [E.out]
      refine ⟨rfl, H.out.fld hl.out W.out (chg_one _ _ _ _) (H.out.own.put 2 _), chg_one _ _ _ _, ?_⟩
      simp [World.setCell]
    · have E := Lib.hid (show rburn s = (true, s) by simp [rburn, h0, h1])
      have t0 : (s.fuse == 0) = false := by simpa using h0
      clear h0
      go_enter Try.func38, Try.ntmps38
      go_wp2
      go_ret
      rw [E.out]
      exact ⟨rfl, H.out, Chg.refl _ _, rfl⟩
theorem rarm_any (h : RefAt w r wv n s) (f : Int) (hf : (Lit.int .i64 f).wf = true) : Calls Try.prog 21 #[.pointer (some ⟨r, 0, none⟩), .int .i64 f] w fun e w' => e = .returned (.tuple #[]) ∧ RefAt w' r wv n { s with fuse := if f < 0 then -1 else f } ∧ Chg (· = r) w w' := by
  obtain ⟨o1, o2, o3⟩ := h.own.at_
  have hl := Lib.hid h.ok.len
  have H := Lib.hid h
  have F := Lib.hid hf
  clear h hf
  obtain ⟨T, hT⟩ : ∃ T, T = strOf s.sure := ⟨_, rfl⟩
  obtain ⟨dn, hdn⟩ : ∃ dn, dn = s.down := ⟨_, rfl⟩
  rw [← hT, ← hdn] at o1
  replace hT := Lib.hid hT
  replace hdn := Lib.hid hdn
  by_cases h0 : f < 0
  · go_enter Try.func21, Try.ntmps21
    go_wp2
    go_end0
    exact ⟨rfl, H.out.fld hl.out (wf_mk (by decide) (by decide)) ((chg_one _ _ _ _).same (chg_one _ _ _ _)) ((H.out.own.put 2 _).put 2 _), (chg_one _ _ _ _).same (chg_one _ _ _ _)⟩
  · go_enter Try.func21, Try.ntmps21
    go_wp2
    go_end0
    exact ⟨rfl, H.out.fld hl.out F.out (chg_one _ _ _ _) (H.out.own.put 2 _), chg_one _ _ _ _⟩
set_option maxRecDepth 100000 in
theorem put_any (w : World) (L : List UInt8) (o : Nat) (u : ByteArray) (h : o + u.size ≤ L.length) (hL : L.length ≤ 10000000) :
    Calls Try.prog 39 #[.string (strOf L), .int .i64 (o : Int), .string u] w fun e w' => e = .returned (.string (strOf (putB L o u))) ∧ Below w.heap.size w w' := by
  obtain ⟨T, hT⟩ : ∃ T, T = strOf L := ⟨_, rfl⟩
  have hz : T.size = L.length := by rw [hT, strOf_size]
  have E : T.extract 0 o ++ u ++ T.extract (o + u.size) T.size = strOf (putB L o u) := by
    have hu : u.data.toList.length = u.size := rfl
    apply bytes_inj
    have e1 : (T.extract 0 o).data.toList = L.take o := by rw [hT, ByteArray.data_extract, Array.toList_extract]; simp [strOf]
    have e2 : (T.extract (o + u.size) T.size).data.toList = L.drop (o + u.size) := by
      rw [ByteArray.data_extract, Array.toList_extract, List.extract_eq_take_drop, List.take_of_length_le]
      · rw [hT]; rfl
      · rw [List.length_drop]
        have : T.data.toList.length = T.size := rfl
        omega
    rw [ByteArray.data_append, ByteArray.data_append, Array.toList_append, Array.toList_append, e1, e2]
    show _ = (putB L o u).toArray.toList
    simp [putB, hu]
  replace E := Lib.hid E
  rw [← hT]
  have z1 : (T.extract 0 o).size = o := by rw [ByteArray.size_extract]; omega
  have z2 : (T.extract (o + u.size) T.size).size = T.size - (o + u.size) := by rw [ByteArray.size_extract]; omega
  have g1 : (o : Int) ≤ T.size := by omega
  have g2 : (o : Int) + u.size ≤ T.size := by omega
  have g3 : T.size ≤ 10000000 := by omega
  have g4 : o ≤ T.size := by omega
  have g5 : o + u.size ≤ T.size := by omega
  have g6 : ¬ 9223372036854775807 < o + u.size := by omega
  have g7 : IntKind.i64.wrap ((o : Int) + u.size) = (o : Int) + u.size := by rw [IntKind.wrap_i64]; omega
  have g8 : ((o : Int) + u.size).toNat = o + u.size := by omega
  have g9 : (0 : Int) ≤ (o : Int) + u.size := by omega
  have g10 : ¬ 9223372036854775807 < T.size := by omega
  clear hT hz h hL
  go_enter Try.func39, Try.ntmps39
  go_upto_region 1 with fail
  refine wp_region_seq (fun W => True) [0, 1, 2, 3, 4, 5, 6, 7, 8, 9, 10, 11, 12] [] [0, 1, 2, 3, 4, 5, 6, 7, 8, 9, 10, 11, 12] (by kernel_rfl) (by kernel_rfl) rfl (by kernel_rfl) rfl (trivial) (by simp only [picked, List.filterMap_cons, List.filterMap_nil, List.getElem?_cons_zero, List.getElem?_cons_succ, Option.map_some]; exact rfl) ?_
  iterate 13
    refine seq_want (v := ?_) rfl rfl (fun W hS => ?_) ?_
    rotate_left
    · conv => lhs; simp [go_sem, g1, g2, g4, g5, g6, g7, g8, g9, g10, z1, z2]
      first | done | exact rfl
    simp only [Act.put, List.setIfInBounds_toArray, List.set_cons_zero, List.set_cons_succ]
  rw [E.out]
  refine seq_end ?_
  go_wp2
  go_ret
  exact ⟨rfl, (Below.refl _ _).drew⟩
end
end Go.Proofs.Ytgddogjieemgeaa
