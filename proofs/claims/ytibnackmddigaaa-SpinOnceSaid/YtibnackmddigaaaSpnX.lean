/- merged: Rings by the document: a ring ends where one of its own halves comes again; it is the program's, since no two halves are followed by the same one. Plain mathematics. No condition but those that each theorem names. Rings: each half stands in one, once; each is followed by the next one, the last one by the first; the least stands first, and rings stand by these. Plain mathematics. No condition but those that each theorem names. -/
import Derived.Test.YtibnackmddigaaaSpnH
section
namespace Go.Proofs.Ytibnackmddigaaa.Pl
open Go.ChangeShapes Go.WideShapes Go.ChangeAt Go.RowKit
set_option linter.unusedVariables false
set_option linter.unusedSimpArgs false

theorem prv_pos {l : List Hf} {z : Hf} (hz : z ∈ l) : prv l z = l.getD (if l.idxOf z = 0 then l.length - 1 else l.idxOf z - 1) (0, false) := by
  unfold prv
  split
  · rw [List.getLastD_eq_getLast?, List.getLast?_eq_getElem?, List.getD_eq_getElem?_getD]
  · rfl
theorem nodup_same {l : List Hf} (hn : l.Nodup) {i j : Nat} (hi : i < l.length) (hj : j < l.length) (h : l[i]'hi = l[j]'hj) : i = j := by
  have P := List.pairwise_iff_getElem.1 hn
  rcases Nat.lt_trichotomy i j with c | c | c
  · exact absurd h (P i j hi hj c)
  · exact c
  · exact absurd h.symm (P j i hj hi c)
theorem prv_inj {l : List Hf} (hn : l.Nodup) {x y : Hf} (hx : x ∈ l) (hy : y ∈ l) (h : prv l x = prv l y) : x = y := by
  have ix := List.idxOf_lt_length_of_mem hx
  have iy := List.idxOf_lt_length_of_mem hy
  have gx : l[l.idxOf x]'ix = x := List.getElem_idxOf ix
  have gy : l[l.idxOf y]'iy = y := List.getElem_idxOf iy
  rw [prv_pos hx, prv_pos hy] at h
  have jx : (if l.idxOf x = 0 then l.length - 1 else l.idxOf x - 1) < l.length := by split <;> omega
  have jy : (if l.idxOf y = 0 then l.length - 1 else l.idxOf y - 1) < l.length := by split <;> omega
  rw [List.getD_eq_getElem?_getD, List.getD_eq_getElem?_getD, List.getElem?_eq_getElem jx, List.getElem?_eq_getElem jy] at h
  simp only [Option.getD_some] at h
  have e := nodup_same hn jx jy h
  have e2 : l.idxOf x = l.idxOf y := by
    revert e
    split <;> split <;> omega
  rw [← gx, ← gy]
  simp only [e2]
section
variable {vs : List Vx} {es : List Eg}
theorem nx_inj (hE : FlE vs es) {g h : Hf} (hg : g ∈ hfs es) (hh : h ∈ hfs es) (e : nx vs es g = nx vs es h) : g = h := by
  have d : dst es g = dst es h := by rw [← (nx_mem (vs := vs) hg).2, e, (nx_mem (vs := vs) hh).2]
  unfold nx at e
  rw [d] at e
  have e3 := prv_inj (ot_nodup hE _) (mem_ot.2 ⟨tw_mem.2 hg, d⟩) (mem_ot.2 ⟨tw_mem.2 hh, rfl⟩) e
  unfold tw at e3
  obtain ⟨a, b⟩ := Prod.mk.inj e3
  exact Prod.ext a (by simpa using b)
end
section
variable {f : Hf → Hf} {D : List Hf}
theorem closed_back {met : List Hf} (hi : ∀ x ∈ D, ∀ y ∈ D, f x = f y → x = y) (hm : met.Nodup) (hs : ∀ x ∈ met, x ∈ D) (hc : ∀ x ∈ met, f x ∈ met) {h : Hf} (hD : h ∈ D) (hn : f h ∈ met) : h ∈ met := by
  by_cases k : h ∈ met
  · exact k
  · have n0 : (h :: met).Nodup := List.nodup_cons.2 ⟨k, hm⟩
    have hs1 : ∀ x ∈ h :: met, x ∈ D := by
      intro x hx
      rcases List.mem_cons.1 hx with rfl | hx
      · exact hD
      · exact hs _ hx
    have n1 : ((h :: met).map f).Nodup := List.pairwise_map.2 (List.Pairwise.imp_of_mem (fun {a b} ha hb hab e => hab (hi _ (hs1 _ ha) _ (hs1 _ hb) e)) n0)
    have := nodup_le n1 (H := met) (by
      intro x hx
      obtain ⟨y, hy, rfl⟩ := List.mem_map.1 hx
      rcases List.mem_cons.1 hy with rfl | hy
      · exact hn
      · exact hc _ hy)
    simp only [List.length_map, List.length_cons] at this
    omega
theorem app_one {met : List Hf} {h : Hf} (hm : met.Nodup) (hn : h ∉ met) : (met ++ [h]).Nodup := by
  rw [List.nodup_append]
  refine ⟨hm, by simp, ?_⟩
  intro a ha b hb e
  rw [List.mem_singleton] at hb
  subst hb
  subst e
  exact hn ha
/-- what was met, and a ring more, is closed again -/
theorem walkR_closed (hD : ∀ x ∈ D, f x ∈ D) : ∀ (n : Nat) (met : List Hf) (h : Hf), met.Nodup → (∀ x ∈ met, x ∈ D) → h ∈ D → D.length ≤ n + met.length → (∀ x ∈ met, f x ∈ met ∨ f x = h) →
    (met ++ walkR f n met h).Nodup ∧ (∀ x ∈ met ++ walkR f n met h, x ∈ D) ∧ (∀ x ∈ met ++ walkR f n met h, f x ∈ met ++ walkR f n met h)
  | n, met, h, hm, hs, hh, hl, hc => by
    by_cases k : h ∈ met
    · rw [walkR_stop _ _ _ _ k, List.append_nil]
      refine ⟨hm, hs, fun x hx => ?_⟩
      rcases hc x hx with c | c
      · exact c
      · rw [c]
        exact k
    · have hs1 : ∀ x ∈ met ++ [h], x ∈ D := by
        intro x hx
        rcases List.mem_append.1 hx with hx | hx
        · exact hs _ hx
        · rw [List.mem_singleton] at hx
          subst hx
          exact hh
      cases n with
      | zero =>
        have := nodup_le (app_one hm k) hs1
        simp at this
        omega
      | succ n =>
        have := walkR_closed hD n (met ++ [h]) (f h) (app_one hm k) hs1 (hD _ hh) (by simp; omega) (by
          intro x hx
          rcases List.mem_append.1 hx with hx | hx
          · rcases hc x hx with c | c
            · exact .inl (List.mem_append_left _ c)
            · exact .inl (by rw [c]; simp)
          · rw [List.mem_singleton] at hx
            subst hx
            exact .inr rfl)
        rw [walkR_step _ _ _ _ k]
        rw [List.append_assoc] at this
        exact this
end
end Go.Proofs.Ytibnackmddigaaa.Pl
end
section
namespace Go.Proofs.Ytibnackmddigaaa.Pl
open Go.ChangeShapes Go.WideShapes Go.ChangeAt Go.RowKit
set_option linter.unusedVariables false
set_option linter.unusedSimpArgs false

theorem lsH_asym {a b : Hf} (h : lsH a b = true) : lsH b a = false := by
  obtain ⟨a1, a2⟩ := a
  obtain ⟨b1, b2⟩ := b
  unfold lsH at *
  simp only [Bool.or_eq_true, decide_eq_true_eq, Bool.and_eq_true, Bool.or_eq_false_iff, decide_eq_false_iff_not, Bool.and_eq_false_iff] at *
  cases a2 <;> cases b2 <;> simp at * <;> omega
theorem lsH_irr (a : Hf) : lsH a a = false := by
  obtain ⟨a1, a2⟩ := a
  unfold lsH
  cases a2 <;> simp
theorem hfs_sort {es : List Eg} (h : es.Pairwise fun u v => u.id < v.id) : (hfs es).Pairwise fun a b => lsH a b = true := by
  unfold hfs
  rw [List.pairwise_flatMap]
  refine ⟨fun a _ => by simp [lsH], h.imp ?_⟩
  intro u v huv x hx y hy
  simp only [List.mem_cons, List.not_mem_nil, or_false] at hx hy
  unfold lsH
  rcases hx with rfl | rfl <;> rcases hy with rfl | rfl <;> simp [huv]
section
variable {f : Hf → Hf} {D : List Hf}
theorem walkR_head : ∀ (n : Nat) (met : List Hf) (h : Hf) (k : 0 < (walkR f n met h).length), (walkR f n met h)[0]'k = h := by
  intro n met h k
  cases n with
  | zero => simp [walkR] at k
  | succ n =>
    by_cases c : h ∈ met
    · rw [walkR_stop _ _ _ _ c] at k
      simp at k
    · simp only [walkR_step _ _ _ _ c, List.getElem_cons_zero]
theorem walkR_chain : ∀ (n : Nat) (met : List Hf) (h : Hf) (k : Nat) (hk : k + 1 < (walkR f n met h).length), (walkR f n met h)[k + 1]'hk = f ((walkR f n met h)[k]'(Nat.lt_of_succ_lt hk))
  | 0, met, h, k, hk => by simp [walkR] at hk
  | n + 1, met, h, k, hk => by
    by_cases c : h ∈ met
    · rw [walkR_stop _ _ _ _ c] at hk
      simp at hk
    · have e := walkR_step f n met h c
      simp only [e] at hk ⊢
      simp only [List.length_cons] at hk
      cases k with
      | zero =>
        simp only [List.getElem_cons_succ, List.getElem_cons_zero]
        exact walkR_head _ _ _ (by omega)
      | succ k =>
        simp only [List.getElem_cons_succ]
        exact walkR_chain n _ _ k (by omega)
theorem walkR_next (hi : ∀ x ∈ D, ∀ y ∈ D, f x = f y → x = y) (hD : ∀ x ∈ D, f x ∈ D) {n : Nat} {met : List Hf} {h : Hf} (hm : met.Nodup) (hs : ∀ x ∈ met, x ∈ D) (hc : ∀ x ∈ met, f x ∈ met) (hh : h ∈ D) (hl : D.length ≤ n + met.length) {k : Nat} (hk : k < (walkR f n met h).length) :
    f ((walkR f n met h)[k]'hk) = (walkR f n met h)[(k + 1) % (walkR f n met h).length]'(Nat.mod_lt _ (Nat.zero_lt_of_lt hk)) := by
  obtain ⟨c1, c2, c3⟩ := walkR_closed (f := f) hD n met h hm hs hh hl (fun x hx => .inl (hc x hx))
  have ch := walkR_chain (f := f) n met h
  generalize walkR f n met h = r at *
  by_cases e : k + 1 < r.length
  · have := ch k e
    simp only [Nat.mod_eq_of_lt e]
    exact this.symm
  · have e1 : k + 1 = r.length := by omega
    simp only [e1, Nat.mod_self]
    have m1 : r[k]'hk ∈ met ++ r := List.mem_append_right _ (List.getElem_mem hk)
    have m2 := c3 _ m1
    have nr : r.Nodup := (List.nodup_append.1 c1).2.1
    have dj := (List.nodup_append.1 c1).2.2
    have n1 : f (r[k]'hk) ∉ met := by
      intro k3
      have := closed_back hi hm hs hc (c2 _ m1) k3
      exact dj _ this _ (List.getElem_mem hk) rfl
    rcases List.mem_append.1 m2 with m2 | m2
    · exact absurd m2 n1
    · obtain ⟨j, hj, ej⟩ := List.getElem_of_mem m2
      cases j with
      | zero => exact ej.symm
      | succ j =>
        have e5 := ch j hj
        rw [e5] at ej
        have e6 := hi _ (c2 _ (List.mem_append_right _ (List.getElem_mem (by omega)))) _ (c2 _ m1) ej
        have := nodup_same nr (by omega) hk e6
        omega
def hd (r : List Hf) : Hf := r.headD (0, false)
/-- what rings of a list of halves are -/
structure Ring1 (f : Hf → Hf) (r : List Hf) : Prop where
  ne : 0 < r.length
  nxt : ∀ k (hk : k < r.length), f (r[k]'hk) = r[(k + 1) % r.length]'(Nat.mod_lt _ (Nat.zero_lt_of_lt hk))
  low : ∀ x ∈ r, lsH x (hd r) = false
theorem hd_get {r : List Hf} (h : 0 < r.length) : hd r = r[0]'h := by
  cases r with
  | nil => simp at h
  | cons a r => rfl
theorem rings_once (hi : ∀ x ∈ D, ∀ y ∈ D, f x = f y → x = y) (hD : ∀ x ∈ D, f x ∈ D) {N : Nat} (hN : D.length ≤ N) : ∀ (hs met : List Hf), (∀ x ∈ hs, x ∈ D) → (∀ x ∈ D, x ∈ met ∨ x ∈ hs) → hs.Pairwise (fun a b => lsH a b = true) → met.Nodup → (∀ x ∈ met, x ∈ D) → (∀ x ∈ met, f x ∈ met) →
    (met ++ (ringsR f N hs met).flatten).Nodup ∧ (∀ x ∈ met ++ (ringsR f N hs met).flatten, x ∈ D) ∧ (∀ x ∈ D, x ∈ met ++ (ringsR f N hs met).flatten) ∧ (∀ r ∈ ringsR f N hs met, Ring1 f r ∧ hd r ∈ hs) ∧ (ringsR f N hs met).Pairwise fun a b => lsH (hd a) (hd b) = true
  | [], met, _, hall, _, hm, hs, hc => by
    simp only [ringsR, List.flatten_nil, List.append_nil]
    exact ⟨hm, hs, fun x hx => (hall x hx).elim id fun k => (by cases k), fun r hr => (by cases hr), List.Pairwise.nil⟩
  | h :: l, met, hl, hall, hp, hm, hs, hc => by
    have hh : h ∈ D := hl _ (List.mem_cons_self ..)
    have hp2 := List.pairwise_cons.1 hp
    rw [ringsR]
    by_cases k : h ∈ met
    · rw [walkR_stop _ _ _ _ k, if_pos rfl]
      obtain ⟨a1, a2, a3, a4, a5⟩ := rings_once hi hD hN l met (fun x hx => hl _ (List.mem_cons_of_mem _ hx)) (fun x hx => (hall x hx).elim .inl fun c => (List.mem_cons.1 c).elim (fun c => .inl (by rw [c]; exact k)) .inr) hp2.2 hm hs hc
      exact ⟨a1, a2, a3, fun r hr => ⟨(a4 r hr).1, List.mem_cons_of_mem _ (a4 r hr).2⟩, a5⟩
    · obtain ⟨c1, c2, c3⟩ := walkR_closed (f := f) hD N met h hm hs hh (by omega) (fun x hx => .inl (hc x hx))
      have NX := fun k hk => walkR_next (f := f) hi hD (n := N) hm hs hc hh (by omega) (k := k) hk
      have ne : walkR f N met h ≠ [] := by
        have : 0 < D.length := List.length_pos_of_mem hh
        obtain ⟨n, hn⟩ : ∃ n, N = n + 1 := ⟨N - 1, by omega⟩
        rw [hn, walkR_step _ _ _ _ k]
        exact List.cons_ne_nil _ _
      have HD := walkR_head (f := f) N met h (List.length_pos_iff.2 ne)
      rw [if_neg ne]
      generalize walkR f N met h = r at *
      have hr0 : hd r = h := by rw [hd_get (List.length_pos_iff.2 ne)]; exact HD
      have hr1 : h ∈ r := by rw [← HD]; exact List.getElem_mem _
      have nin : ∀ x ∈ r, x ∉ met := fun x hx hx2 => (List.nodup_append.1 c1).2.2 _ hx2 _ hx rfl
      obtain ⟨a1, a2, a3, a4, a5⟩ := rings_once hi hD hN l (met ++ r) (fun x hx => hl _ (List.mem_cons_of_mem _ hx)) (fun x hx => (hall x hx).elim (fun c => .inl (List.mem_append_left _ c)) fun c => (List.mem_cons.1 c).elim (fun c => .inl (List.mem_append_right _ (by rw [c]; exact hr1))) .inr) hp2.2 c1 c2 c3
      rw [List.flatten_cons, ← List.append_assoc]
      refine ⟨a1, a2, a3, fun s hs2 => ?_, List.pairwise_cons.2 ⟨fun s hs2 => ?_, a5⟩⟩
      · rcases List.mem_cons.1 hs2 with rfl | hs2
        · refine ⟨⟨List.length_pos_iff.2 ne, NX, fun x hx => ?_⟩, by rw [hr0]; exact List.mem_cons_self ..⟩
          rw [hr0]
          rcases (hall x (c2 _ (List.mem_append_right _ hx))) with c | c
          · exact absurd c (nin x hx)
          · rcases List.mem_cons.1 c with rfl | c
            · exact lsH_irr _
            · exact lsH_asym (hp2.1 x c)
        · exact ⟨(a4 s hs2).1, List.mem_cons_of_mem _ (a4 s hs2).2⟩
      · rw [hr0]
        exact hp2.1 _ (a4 s hs2).2
end
theorem rg_once {vs : List Vx} {es : List Eg} (hE : FlE vs es) : (rg vs es).flatten.Nodup ∧ (rg vs es).flatten.length = 2 * es.length ∧ (∀ x ∈ (rg vs es).flatten, x ∈ hfs es) ∧ (∀ r ∈ rg vs es, Ring1 (nx vs es) r) ∧ (rg vs es).Pairwise fun a b => lsH (hd a) (hd b) = true := by
  obtain ⟨a1, a2, a3, a4, a5⟩ := rings_once (f := nx vs es) (D := hfs es) (N := 2 * es.length + 1) (fun x hx y hy => nx_inj hE hx hy) (fun x hx => (nx_mem hx).1) (by rw [hfs_len]; omega) (hfs es) [] (fun x hx => hx) (fun x hx => .inr hx) (hfs_sort hE.rise) List.nodup_nil (by simp) (by simp)
  rw [List.nil_append] at a1 a2 a3
  change (rg vs es).flatten.Nodup at a1
  change ∀ x ∈ (rg vs es).flatten, x ∈ hfs es at a2
  change ∀ x ∈ hfs es, x ∈ (rg vs es).flatten at a3
  refine ⟨a1, ?_, a2, fun r hr => (a4 r hr).1, a5⟩
  have e1 := nodup_le a1 (H := hfs es) a2
  have e2 := nodup_le (hfs_nodup hE.rise) (H := (rg vs es).flatten) a3
  rw [hfs_len] at e1 e2
  omega
end Go.Proofs.Ytibnackmddigaaa.Pl
end
