
/- The contracts of oldest and its closure: the frame that was used least lately, of those that may go. Conditions: those that each theorem names. -/
import Derived.Test.YtjncmaaofminkaaPooA
import Derived.BigQuiet
namespace Go.Proofs.Ytjncmaaofminkaa
open Go.ChangeShapes Go.WideShapes Go.ChangeAt Go.RowKit
set_option linter.unusedVariables false
set_option linter.unusedSimpArgs false

theorem MapOf.len {P : Program} {w : World} {t kt e : TypeId} {k : IntKind} {l : List (Int × Value)} {b : Nat} (h : MapOf w b k l) (ht : P.underlying t = some (.map kt e)) (ty : TypeId) : (Builtin.len_ #[t] ty #[.map (some b)]).run P w = .ok (.int .i64 (l.length : Int)) w := by
  obtain ⟨es, ck, hb, E⟩ := h
  rw [← E.size]
  simp [Builtin.len_, run_underlying ht, MapKept.run_getObj_map hb, goInt, Result.andThen]
theorem split_map {α β : Type} (g : α → β) : ∀ (L : List α) {s : List β} {x : β} {t : List β}, L.map g = s ++ x :: t → ∃ S f T, L = S ++ f :: T ∧ s = S.map g ∧ x = g f ∧ t = T.map g := by
  intro L s x t h
  obtain ⟨S, l2, rfl, h1, h2⟩ := List.map_eq_append_iff.1 h
  obtain ⟨f, T, rfl, h3, h4⟩ := List.map_eq_cons_iff.1 h2
  exact ⟨S, f, T, rfl, h1.symm, h3.symm, h4.symm⟩
section
variable {w : World} {B p m n u : Nat} {L S T : List Fr} {f : Fr}
/-- may a frame go? -/
theorem mayGo_any (w : World) (f : Fr) (h : Own w f.blk 55 (fcell f)) : Calls Try.prog 38 #[.pointer (some ⟨f.blk, 0, none⟩)] w fun e w' => e = .returned (.bool (free f.rf)) ∧ w = w' := by
  obtain ⟨o1, o2, o3⟩ := h.at_
  unfold fcell at o1
  obtain ⟨⟨no, s, d, pn⟩, us, b⟩ := f
  simp only at o1 o2 o3 ⊢
  clear h
  cases d with
  | true =>
    go_enter Try.func38, Try.ntmps38
    go_wp2
    go_ret
    exact ⟨retb_eq (by simp [free]), rfl⟩
  | false =>
    go_enter Try.func38, Try.ntmps38
    go_wp2
    go_ret
    exact ⟨retb_eq (by simp [free]; rw [Bool.eq_iff_iff]; simp), rfl⟩
/-- the best of those that the loop has seen -/
def Best (u : Nat) (done : List Fr) (least : Nat) (at_ : Int) : Prop :=
  ((least = u + 1 ∧ at_ = 0) ∨ ∃ f ∈ done, free f.rf = true ∧ least = f.used ∧ at_ = f.rf.no) ∧ ∀ g ∈ done, free g.rf = true → least ≤ g.used
theorem Best.start (u : Nat) : Best u [] (u + 1) 0 := ⟨.inl ⟨rfl, rfl⟩, fun g hg => by cases hg⟩
theorem Best.take {u : Nat} {done : List Fr} {least : Nat} {at_ : Int} (h : Best u done least at_) {f : Fr} (hl : f.used < least) (hf : free f.rf = true) : Best u (done ++ [f]) f.used f.rf.no :=
  ⟨.inr ⟨f, by simp, hf, rfl, rfl⟩, fun g hg h1 => by
    rcases List.mem_append.1 hg with hg | hg
    · have := h.2 g hg h1; omega
    · simp at hg; subst hg; exact Nat.le_refl _⟩
theorem Best.pass {u : Nat} {done : List Fr} {least : Nat} {at_ : Int} (h : Best u done least at_) {f : Fr} (hl : ¬ f.used < least ∨ free f.rf = false) : Best u (done ++ [f]) least at_ :=
  ⟨h.1.imp_right fun ⟨g, hg, r⟩ => ⟨g, by simp [hg], r⟩, fun g hg h1 => by
    rcases List.mem_append.1 hg with hg | hg
    · exact h.2 g hg h1
    · simp at hg; subst hg
      rcases hl with hl | hl
      · omega
      · rw [hl] at h1; cases h1⟩
/-- what oldest answers -/
def oldR (L : List Fr) : Int × Bool := match victim (L.map (·.rf)) with
  | none => (0, false)
  | some v => (v.no, true)
theorem Best.ends (hO : Ord u L) {done : List Fr} (hp : done.Perm L) {least : Nat} {at_ : Int} (h : Best u done least at_) : (at_, decide (least ≤ u)) = oldR L := by
  have hm : ∀ g, g ∈ done ↔ g ∈ L := fun g => hp.mem_iff
  unfold oldR
  cases hv : victim (L.map (·.rf)) with
  | none =>
    rcases h.1 with ⟨rfl, rfl⟩ | ⟨f, hf, h1, _⟩
    · simp
    · have := victim_none hv f.rf (List.mem_map.2 ⟨f, (hm f).1 hf, rfl⟩)
      rw [this] at h1; cases h1
  | some v =>
    obtain ⟨hfree, S, T, hL, hS⟩ := victim_some hv
    obtain ⟨S', fv, T', rfl, rfl, rfl, rfl⟩ := split_map (·.rf) L hL
    have h1 := h.2 fv ((hm fv).2 (by simp)) hfree
    have h2 := hO.last fv (by simp)
    rcases h.1 with ⟨rfl, rfl⟩ | ⟨f, hf, h3, rfl, rfl⟩
    · omega
    · have hr := hO.rise
      rw [List.pairwise_append, List.pairwise_cons] at hr
      rcases List.mem_append.1 ((hm f).1 hf) with h4 | h4
      · have := hS f.rf (List.mem_map.2 ⟨f, h4, rfl⟩)
        rw [this] at h3; cases h3
      · rcases List.mem_cons.1 h4 with rfl | h4
        · simp; omega
        · have := hr.2.1.1 f h4
          omega
set_option maxRecDepth 10000 in
set_option maxHeartbeats 1000000 in
theorem oldest_any (h : Mem w B p m n u L) (hO : Ord u L) (hu : u ≤ 1000000) : Calls Try.prog 37 #[.pointer (some ⟨p, 0, none⟩), .func (.func 38) #[] #[]] w fun e w' =>
    e = .returned (.tuple #[.int .i64 (oldR L).1, .bool (oldR L).2]) ∧ Below w.heap.size w w' := by
  obtain ⟨o1, o2, o3⟩ := h.own.at_
  unfold pcell at o1
  have HM := Lib.hid h.map
  have H := Lib.hid h
  have HO := Lib.hid hO
  have FIN := Lib.hid (fun q hq => h.in_ (q := q) hq)
  clear h hO
  go_enter Try.func37, Try.ntmps37
  go_wp2_with (first
    | (at_range; refine wp_range_map _ rfl _ _ rfl _ _ Try.underlying47 .i64 m _ rfl HM.out ?_; intro w0 hr0 hb0 hs0)
    | go_in)
  go_frame
  have R0 := Lib.hid hr0
  have B0 := Lib.hid hb0
  clear hr0 hb0
  go_loopw [6, 7] (fun least at_ wr => ∃ (l : Nat) (a : Int) (done rest : List Fr), least = .int .i64 (l : Int) ∧ at_ = .int .i64 a ∧ (done ++ rest).Perm L ∧ Best u done l a ∧ Rng wr w.heap.size m .i64 (L.map ent) (rest.map ent) ∧ Below w.heap.size w wr)
    (fun _ _ wr => wr.rangeLeft m w.heap.size)
  case atStart => exact ⟨u + 1, 0, [], L, by simp, rfl, List.Perm.refl _, Best.start u, R0.out, B0.out⟩
  case round =>
    obtain ⟨l, a, done, rest, rfl, rfl, hp, hbest, hr, hb⟩ := hrel
    have hb' := H.out.own.keep hb
    obtain ⟨q1, q2, q3⟩ := hb'.at_
    unfold pcell at q1
    have HR := Lib.hid hr
    have HB := Lib.hid hb
    have HP := Lib.hid hp
    have BS := Lib.hid hbest
    clear hr hb hp hbest hb' o1 o2 o3
    go_wp2_with (first
      | (at_next; refine wp_next_map _ rfl _ rfl .i64 m w.heap.size _ _ rfl HR.out ?_ ?_)
      | go_in)
    · intro he
      obtain rfl : rest = [] := by cases rest with
        | nil => rfl
        | cons x r => cases he
      have hend := (BS.out).ends HO.out (by have := HP.out; rw [List.append_nil] at this; exact this)
      replace hend := Lib.hid hend
      clear he
      go_upto_region 7 with fail
      go_quiet (fail)
      go_wp2
      go_ret2
      refine ⟨?_, below_drewN HB.out _⟩
      rw [← hend.out]
      simp
    · intro s i v t w1 he hr1 hc1 hs1 hen
      obtain ⟨S, f, T, rfl, rfl, hie, rfl⟩ := split_map ent rest he
      have h1 : i = f.rf.no := congrArg Prod.fst hie
      have h2 : v = .pointer (some ⟨f.blk, 0, none⟩) := congrArg Prod.snd hie
      subst h1 h2
      have hfL : f ∈ L := HP.out.mem_iff.1 (by simp)
      have hpin := FIN.out p (.inl rfl)
      have hfin := FIN.out f.blk (.inr (.inr (List.mem_map.2 ⟨f, hfL, rfl⟩)))
      have hof : Own w1 f.blk 55 (fcell f) := hc1.own ((H.out.fr f hfL).keep HB.out) (by omega)
      have hop : Own w1 p 49 (pcell n m u) := hc1.own (H.out.own.keep HB.out) (by omega)
      have hb1 : Below w.heap.size w w1 := ((Chg.of (S := (· = w.heap.size)) HB.out).same hc1).below (Nat.le_refl _) (fun q e => by omega)
      have hus := HO.out.last f hfL
      have hp1 : ((done ++ [f]) ++ (S ++ T)).Perm L := by
        refine List.Perm.trans ?_ HP.out
        rw [List.append_assoc]
        refine List.Perm.append_left done ?_
        exact (List.perm_middle (a := f) (l₁ := S) (l₂ := T)).symm
      have hr2 : Rng w1 w.heap.size m .i64 (L.map ent) ((S ++ T).map ent) := by rw [List.map_append]; exact hr1
      have hlen : (S ++ T).length < (S ++ f :: T).length := by simp
      have hms := hr2.left
      have hms0 := HR.out.left
      rw [List.length_map] at hms hms0
      have HM0 := Lib.hid hms0
      have HLT := Lib.hid hlen
      have HMS := Lib.hid hms
      have R2 := Lib.hid hr2
      have B1 := Lib.hid hb1
      have P1 := Lib.hid hp1
      have OF := Lib.hid hof
      obtain ⟨f1, f2, f3⟩ := hof.at_
      unfold fcell at f1
      obtain ⟨r1, r2, r3⟩ := hop.at_
      unfold pcell at r1
      have MG := Lib.hid (mayGo_any w1 f hof)
      obtain ⟨us, hus2⟩ : ∃ us, us = f.used := ⟨_, rfl⟩
      rw [← hus2] at f1 hus
      have US := Lib.hid hus2
      clear he hie hr1 hc1 hof hop hb1 hp1 hr2 hlen hms hms0 q1 q2 q3 hus2
      by_cases hlt : us < l
      · obtain ⟨fr, hfr⟩ : ∃ b, b = free f.rf := ⟨_, rfl⟩
        have FR := Lib.hid hfr
        rw [← hfr] at MG
        clear hfr
        cases fr with
        | true =>
          have BS2 := Lib.hid (BS.out.take (f := f) (by rw [← US.out]; exact hlt) FR.out.symm)
          go_wp2_with (first | (go_at_call 38; refine MG.out.mono ?_; rintro e w' ⟨rfl, rfl⟩) | go_in)
          go_roundw
          case rel => exact ⟨us, f.rf.no, done ++ [f], S ++ T, rfl, rfl, P1.out, by rw [US.out]; exact BS2.out, R2.out, B1.out⟩
          case measure => rw [HMS.out, HM0.out]; exact HLT.out
        | false =>
          have BS2 := Lib.hid (BS.out.pass (f := f) (.inr FR.out.symm))
          go_wp2_with (first | (go_at_call 38; refine MG.out.mono ?_; rintro e w' ⟨rfl, rfl⟩) | go_in)
          go_roundw
          case rel => exact ⟨l, a, done ++ [f], S ++ T, rfl, rfl, P1.out, BS2.out, R2.out, B1.out⟩
          case measure => rw [HMS.out, HM0.out]; exact HLT.out
      · have BS2 := Lib.hid (BS.out.pass (f := f) (.inl (by rw [← US.out]; exact hlt)))
        go_wp2
        go_roundw
        case rel => exact ⟨l, a, done ++ [f], S ++ T, rfl, rfl, P1.out, BS2.out, R2.out, B1.out⟩
        case measure => rw [HMS.out, HM0.out]; exact HLT.out
end
end Go.Proofs.Ytjncmaaofminkaa
