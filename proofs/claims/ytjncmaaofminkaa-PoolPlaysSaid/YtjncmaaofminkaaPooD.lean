
/- The contracts of add and New. Conditions: those that each theorem names. -/
import Derived.Test.YtjncmaaofminkaaPooC
import Derived.Carry
namespace Go.Proofs.Ytjncmaaofminkaa
open Go.ChangeShapes Go.WideShapes Go.ChangeAt Go.RowKit
set_option linter.unusedVariables false
set_option linter.unusedSimpArgs false

theorem roomL_sub {L L' : List Fr} {n : Nat} (h : roomL L n = some L') : L'.Sublist L := by
  unfold roomL at h
  split at h
  · injection h with h; subst h; exact List.Sublist.refl _
  · split at h
    · cases h
    · injection h with h; subst h; exact List.filter_sublist
theorem roomL_R (L : List Fr) (n : Nat) : (roomL L n).map (·.map (·.rf)) = roomR (L.map (·.rf)) n := by
  unfold roomL roomR
  rw [List.length_map]
  split
  · rfl
  · cases victim (L.map (·.rf)) with
    | none => rfl
    | some v =>
      show some ((L.filter fun f => f.rf.no != v.no).map (·.rf)) = some ((L.map (·.rf)).filter fun f => f.no != v.no)
      rw [List.filter_map]
      rfl
theorem Ord.push {u : Nat} {L L' : List Fr} (h : Ord u L) (hs : L'.Sublist L) {f : Fr} (hf : f.used = u + 1) : Ord (u + 1) (L' ++ [f]) := by
  refine ⟨?_, fun x hx => ?_⟩
  · rw [List.pairwise_append]
    refine ⟨List.Pairwise.sublist hs h.rise, by simp, fun x hx y hy => ?_⟩
    simp at hy
    subst hy
    have := h.last x (hs.subset hx)
    omega
  · rcases List.mem_append.1 hx with hx | hx
    · have := h.last x (hs.subset hx); omega
    · simp at hx; subst hx; omega
section
variable {w : World} {B p m n u : Nat} {L S T : List Fr} {f : Fr}
theorem Mem.below_base (h : Mem w B p m n u L) : B ≤ w.heap.size := by
  have h1 := h.base p (.inl rfl)
  have h2 := h.own.in_
  omega
theorem add_nil (w : World) (no : Int) (s : ByteArray) (d : Bool) : Calls Try.prog 26 #[.pointer none, .int .i64 no, .string s, .bool d] w fun e w' => e = .returned (.int .i64 1) ∧ w = w' := by
  go_enter Try.func26, Try.ntmps26
  go_wp2
  go_ret
  exact ⟨rfl, rfl⟩
set_option maxRecDepth 10000 in
theorem add_full (h : Mem w B p m n u L) (hO : Ord u L) (hu : u ≤ 1000000) (hn : n ≤ 65536) (hl : L.length ≤ n) (no : Int) (s : ByteArray) (d : Bool) (hE : roomL L n = none) :
    Calls Try.prog 26 #[.pointer (some ⟨p, 0, none⟩), .int .i64 no, .string s, .bool d] w fun e w' => e = .returned (.int .i64 8) ∧ Mem w' B p m n u L ∧ Chg (fpool p m L) w w' := by
  have HM := makeRoom_any h hO hu hn hl
  simp only [hE, Option.isSome_none, Option.getD_none] at HM
  replace HM := Lib.hid HM
  clear h hO hE
  go_enter Try.func26, Try.ntmps26
  go_wp2_with (go_at_call 33; refine HM.out.mono ?_; rintro e w1 ⟨rfl, hm1, hc1⟩)
  go_ret
  exact ⟨rfl, hm1, hc1⟩
set_option maxRecDepth 10000 in
theorem add_room (h : Mem w B p m n u L) (hO : Ord u L) (hu : u ≤ 1000000) (hn : n ≤ 65536) (hl : L.length ≤ n) (no : Int) (hno : no ∉ (L.map (·.rf)).map (·.no)) (s : ByteArray) (hs : s.size ≤ 281474976710656) (d : Bool) {L' : List Fr} (hE : roomL L n = some L') :
    Calls Try.prog 26 #[.pointer (some ⟨p, 0, none⟩), .int .i64 no, .string s, .bool d] w fun e w' =>
      e = .returned (.int .i64 0) ∧ (∃ b, Mem w' B p m n (u + 1) (L' ++ [⟨⟨no, s, d, 0⟩, u + 1, b⟩])) ∧ Chg (fpool p m L) w w' := by
  have HM := makeRoom_any h hO hu hn hl
  have hsub := roomL_sub hE
  simp only [hE, Option.isSome_some, Option.getD_some] at HM
  replace HM := Lib.hid HM
  have HB := Lib.hid h.below_base
  have HPI := Lib.hid h.own.in_
  have HSB := Lib.hid hsub
  have hno2 : ∀ v, (no, v) ∉ L'.map ent := fun v hv => hno (by
    obtain ⟨x, hx, e⟩ := List.mem_map.1 hv
    have : x.rf.no = no := congrArg Prod.fst e
    rw [← this]
    exact List.mem_map.2 ⟨x.rf, List.mem_map.2 ⟨x, hsub.subset hx, rfl⟩, rfl⟩)
  have HN := Lib.hid hno2
  clear h hO hE hsub hno hno2
  go_enter Try.func26, Try.ntmps26
  go_upto_region 6 with (go_at_call 33; refine HM.out.mono ?_; rintro e w1 ⟨rfl, hm1, hc1⟩; have M1 := Lib.hid hm1; have C1 := Lib.hid hc1; clear hm1 hc1)
  go_name_world W0 hW0
  have B0 : Below w1.heap.size w1 W0 := hW0 ▸ (Below.refl _ _).alloc (Nat.le_refl _) _
  have M0 := M1.out.below B0
  have O0 : Own W0 w1.heap.size 55 (fcell ⟨⟨no, ⟨#[]⟩, false, 0⟩, 0, w1.heap.size⟩) := hW0 ▸ Own.made _ _ _
  have z1 : w.heap.size ≤ w1.heap.size := C1.out.size
  clear hW0
  obtain ⟨W1, hmu, hm1, hc1, hs1⟩ := M0.map.put (P := Try.prog) Try.underlying47 Try.underlying3 (.pointer (some ⟨w1.heap.size, 0, none⟩)) HN.out
  have O1 : Own W1 w1.heap.size 55 (fcell ⟨⟨no, ⟨#[]⟩, false, 0⟩, 0, w1.heap.size⟩) := hc1.own O0 (M0.map.ne O0).symm
  have M5 : Mem W1 B p m n u (L' ++ ⟨⟨no, ⟨#[]⟩, false, 0⟩, 0, w1.heap.size⟩ :: []) := by
    refine ⟨hc1.own M0.own M0.ne_map.symm, by rw [List.map_append]; exact hm1, fun x hx => ?_, ?_, fun q hq => ?_⟩
    · rcases List.mem_append.1 hx with hx | hx
      · exact hc1.own (M0.fr x hx) (M0.ne_fr hx).symm
      · simp at hx; subst hx; exact O1
    · rw [List.map_append, List.nodup_append]
      refine ⟨M0.apart, by simp, fun x hx y hy => ?_⟩
      simp at hy
      subst hy
      have := M1.out.in_ (q := x) (.inr (.inr hx))
      omega
    · have hbb := HB.out
      rcases hq with rfl | rfl | hq
      · exact M0.base _ (.inl rfl)
      · exact M0.base _ (.inr (.inl rfl))
      · rw [List.map_append, List.mem_append] at hq
        rcases hq with hq | hq
        · exact M0.base _ (.inr (.inr hq))
        · simp at hq; omega
  have HF := Lib.hid (fill_any M5 hu s hs d)
  have C5 : Chg (fpool p m L) w W1 := (C1.out.call B0).trans hc1 fun q _ e => .inr (.inl e)
  replace C5 := Lib.hid C5
  obtain ⟨o1, o2, o3⟩ := M0.own.at_
  unfold pcell at o1
  clear M1 C1 M0 O0 O1 M5 hm1 hc1 B0 hs1
  go_wp2_with (go_at_call 27; refine HF.out.mono ?_; rintro e w2 ⟨rfl, hm2, hc2⟩)
  go_ret
  have hpi := HPI.out
  refine ⟨rfl, ⟨w1.heap.size, hm2⟩, C5.out.trans hc2 fun q hq e => ?_⟩
  rcases e with rfl | e
  · exact .inl rfl
  · have e2 : q = w1.heap.size := e
    omega
set_option maxRecDepth 10000 in
theorem new_bad (n : Int) (hn : n < 1 ∨ 65536 < n) (w : World) : Calls Try.prog 7 #[.int .i64 n] w fun e w' => e = .returned (.tuple #[.pointer none, .int .i64 1]) ∧ w = w' := by
  by_cases h1 : n < 1
  · go_enter Try.func7, Try.ntmps7
    go_wp2
    go_ret2
    exact ⟨rfl, rfl⟩
  · have h2 : 65536 < n := by omega
    go_enter Try.func7, Try.ntmps7
    go_wp2
    go_ret2
    exact ⟨rfl, rfl⟩
set_option maxRecDepth 10000 in
theorem new_any (n : Nat) (h1 : 1 ≤ n) (h2 : n ≤ 65536) (w : World) (B : Nat) (hB : B ≤ w.heap.size) : Calls Try.prog 7 #[.int .i64 (n : Int)] w fun e w' => ∃ p m, e = .returned (.tuple #[.pointer (some ⟨p, 0, none⟩), .int .i64 0]) ∧ Mem w' B p m n 0 [] ∧ Below w.heap.size w w' := by
  have hmm := @run_makeMap Try.prog
  go_enter Try.func7, Try.ntmps7
  go_wp2
  go_ret2
  have M0 := MapOf.made w .i64
  have B0 : Below w.heap.size w (w.alloc (.map #[] 0)) := (Below.refl _ _).alloc (Nat.le_refl _) _
  refine ⟨w.heap.size + 1, w.heap.size, by simp, ⟨Own.made_at (by simp), M0.keep (Below.heap_alloc _ _ _ M0.in_), by simp, by simp, fun q hq => ?_⟩, B0.alloc (by simp) _⟩
  rcases hq with rfl | rfl | hq
  · omega
  · omega
  · simp at hq
end
end Go.Proofs.Ytjncmaaofminkaa
