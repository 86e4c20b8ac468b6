/- -/
import Derived.Test.YthakafnecddliaaSpnJ
import Derived.Test.YthakafnecddliaaPlnR
import Derived.Test.YthakafnecddliaaTree
import Derived.Test.YthakafnecddliaaPlnT
import Derived.Test.YthakafnecddliaaGeoR
section
namespace Go.Proofs.Ythakafnecddliaa.Pl
open Go.ChangeShapes Go.WideShapes Go.ChangeAt Go.RowKit Go.Proofs.Ythakafnecddliaa.Mp
set_option linter.unusedVariables false
set_option linter.unusedSimpArgs false

section
variable {v e : Value} {vs : List Vx} {es : List Eg} {w : World}
set_option maxRecDepth 10000 in
set_option maxHeartbeats 1000000 in
theorem rfrom_any (hv : VIn w v vs) (he : EIn w e es) (hm : es.length ≤ 100000) (h : Hf) (hh : h ∈ hfs es) : Calls Try.prog 26 #[.agg #[v, e], hV h] w fun r w' => r = .returned (.int .i64 (frm es h)) ∧ Below w.heap.size w w' := by
  obtain ⟨k, hk, hix, hfe⟩ := eIx_yes (mem_hfs.1 hh)
  obtain ⟨a, c, rfl⟩ := hv.sl
  have RE := Lib.hid (fun (W : World) (hW : Below w.heap.size w W) => redge_any (.slice a vs.length c) e es h.1 W (TIn.below he hW) ⟨a, _, c, rfl⟩ hm)
  rw [hix] at RE
  obtain ⟨a', c', rfl, hc1, hc2, -, hcl⟩ := he.open_
  obtain ⟨b, o, rfl, hb, hc⟩ := hcl k hk
  have FR : frm es h = if h.2 then (es[k]'hk).b else (es[k]'hk).a := by unfold frm; rw [hfe]
  rw [FR]
  obtain ⟨x, hx⟩ : ∃ x, x = es[k]'hk := ⟨_, rfl⟩
  rw [← hx] at hc ⊢
  have HC := Lib.hid hc
  clear hx hcl hc FR hix hfe hh hv he
  obtain ⟨x1, x2, x3⟩ := x
  obtain ⟨h1, h2⟩ := h
  unfold hV
  simp only at HC RE ⊢
  have hki : (k : Int) < (es.length : Int) := by omega
  generalize vs.length = n at *
  generalize es.length = m at *
  obtain ⟨W0, hW0⟩ : ∃ W0, W0 = (w.alloc (.cells #[.slice a n c, .slice (some ⟨b, o, none⟩) m c'] 25)).alloc (.cells #[.int .i64 h1, .bool h2] 42) := ⟨_, rfl⟩
  have BB : Hid (Below w.heap.size w W0) := Lib.hid (by rw [hW0]; repeat' (first | (with_reducible exact Below.refl _ _) | (with_reducible assumption) | (with_reducible refine below_drewN ?_ _) | (with_reducible refine Below.drew ?_) | (with_reducible refine Below.alloc ?_ ?_ _) | (with_reducible refine Below.setCell ?_ ?_ _) | (with_reducible refine then_ ?_ (by with_reducible assumption) ?_) | (with_reducible exact Nat.le_refl _) | (with_reducible exact Nat.le_succ _) | (with_reducible exact Nat.le_succ_of_le (by with_reducible assumption)) | omega | (simp; done) | (simp; omega) | (exact Nat.le_succ _) | (exact Nat.le_succ_of_le (by with_reducible assumption))))
  have PO : Hid (Own W0 w.heap.size 25 #[.slice a n c, .slice (some ⟨b, o, none⟩) m c']) := Lib.hid (by rw [hW0]; exact (Own.made _ _ _).more _)
  have HO : Hid (Own W0 (w.heap.size + 1) 42 #[.int .i64 h1, .bool h2]) := Lib.hid (by rw [hW0]; exact Own.made_at (by simp))
  have SF : Hid (∀ W, Below W0.heap.size W0 W → Below W0.heap.size W0 W) := Lib.hid fun W hW => hW
  go_enter Try.func26, Try.ntmps26
  go_upto_region 1 with fail
  rw [← hW0]
  clear hW0
  have B1 : Hid (Below W0.heap.size W0 W0.drew) := Lib.hid (Below.refl _ _).drew
  go_cut [5] (fun s5 wx => ∃ g, s5 = .pointer (some ⟨g, 0, none⟩) ∧ Hid (Own wx g 61 #[.int .i64 x1, .int .i64 x2, .int .i64 x3]) ∧ Hid (Below W0.heap.size W0 wx) ∧ W0.heap.size ≤ g)
  case first =>
    go_upto_region 1 with fail
    refine wp_region_tree (fun W => Below W0.heap.size W0 W) [0, 1, 2, 3, 4, 6, 7] [1, 2, 4, 7] 10 (by kernel_rfl) rfl ?_
    generalize hD_ : W0.drew = Wd0 at B1 ⊢
    clear hD_
    refine tree_pure (i := 0) (v := ?_) rfl rfl (by kernel_rfl) (by kernel_rfl) (by kernel_rfl) rfl (fun W hS => ?_) (SF.out _ B1.out) ?_
    rotate_left
    · conv => lhs; simp [go_sem, hki]
      first | done | exact rfl
    simp only [Act.put, List.getElem_toArray, List.getElem_cons_zero, List.getElem_cons_succ, List.setIfInBounds_toArray, List.set_cons_zero, List.set_cons_succ]
    refine tree_pure (i := 1) (v := ?_) rfl rfl (by kernel_rfl) (by kernel_rfl) (by kernel_rfl) rfl (fun W hS => ?_) (SF.out _ B1.out) ?_
    rotate_left
    · have hS := hS rfl
      obtain ⟨g1, g2⟩ := half_at (PO.out.keep hS)
      obtain ⟨g3, g4⟩ := half_at (HO.out.keep hS)
      obtain ⟨y1, y2, y3⟩ := HC.out W (then_ BB.out hS BB.out.size)
      conv => lhs; simp [go_sem, *]
      first | done | exact rfl
    simp only [Act.put, List.getElem_toArray, List.getElem_cons_zero, List.getElem_cons_succ, List.setIfInBounds_toArray, List.set_cons_zero, List.set_cons_succ]
    refine tree_pure (i := 2) (v := ?_) rfl rfl (by kernel_rfl) (by kernel_rfl) (by kernel_rfl) rfl (fun W hS => ?_) (SF.out _ B1.out) ?_
    rotate_left
    · have hS := hS rfl
      obtain ⟨g1, g2⟩ := half_at (PO.out.keep hS)
      obtain ⟨g3, g4⟩ := half_at (HO.out.keep hS)
      obtain ⟨y1, y2, y3⟩ := HC.out W (then_ BB.out hS BB.out.size)
      conv => lhs; simp [go_sem, *]
      first | done | exact rfl
    simp only [Act.put, List.getElem_toArray, List.getElem_cons_zero, List.getElem_cons_succ, List.setIfInBounds_toArray, List.set_cons_zero, List.set_cons_succ]
    refine tree_pure (i := 3) (v := ?_) rfl rfl (by kernel_rfl) (by kernel_rfl) (by kernel_rfl) rfl (fun W hS => ?_) (SF.out _ B1.out) ?_
    rotate_left
    · conv => lhs; simp [go_sem, hki]
      first | done | exact rfl
    simp only [Act.put, List.getElem_toArray, List.getElem_cons_zero, List.getElem_cons_succ, List.setIfInBounds_toArray, List.set_cons_zero, List.set_cons_succ]
    refine tree_pure (i := 4) (v := ?_) rfl rfl (by kernel_rfl) (by kernel_rfl) (by kernel_rfl) rfl (fun W hS => ?_) (SF.out _ B1.out) ?_
    rotate_left
    · have hS := hS rfl
      obtain ⟨g1, g2⟩ := half_at (PO.out.keep hS)
      obtain ⟨g3, g4⟩ := half_at (HO.out.keep hS)
      obtain ⟨y1, y2, y3⟩ := HC.out W (then_ BB.out hS BB.out.size)
      conv => lhs; simp [go_sem, *]
      first | done | exact rfl
    simp only [Act.put, List.getElem_toArray, List.getElem_cons_zero, List.getElem_cons_succ, List.setIfInBounds_toArray, List.set_cons_zero, List.set_cons_succ]
    refine tree_two (i := 5) (k := 8) (by kernel_rfl) rfl rfl ?_ ?_
    · refine ⟨_, rfl, fun K hK => ?_⟩
      go_wp2_with (go_at_call 24; refine (RE.out _ (then_ BB.out B1.out BB.out.size)).mono ?_; rintro e wt1 ⟨rfl, bt1⟩; replace bt1 := Lib.hid bt1)
      replace B1 := Lib.hid (then_ B1.out bt1.out B1.out.size)
      refine hK _ _ (SF.out _ B1.out) ?_
      clear hK K
      refine tree_pure (i := 6) (v := ?_) rfl rfl (by kernel_rfl) (by kernel_rfl) (by kernel_rfl) rfl (fun W hS => ?_) (SF.out _ B1.out) ?_
      rotate_left
      · conv => lhs; simp [go_sem, hki]
        first | done | exact rfl
      simp only [Act.put, List.getElem_toArray, List.getElem_cons_zero, List.getElem_cons_succ, List.setIfInBounds_toArray, List.set_cons_zero, List.set_cons_succ]
      refine tree_pure (i := 7) (v := ?_) rfl rfl (by kernel_rfl) (by kernel_rfl) (by kernel_rfl) rfl (fun W hS => ?_) (SF.out _ B1.out) ?_
      rotate_left
      · have hS := hS rfl
        obtain ⟨g1, g2⟩ := half_at (PO.out.keep hS)
        obtain ⟨g3, g4⟩ := half_at (HO.out.keep hS)
        obtain ⟨y1, y2, y3⟩ := HC.out W (then_ BB.out hS BB.out.size)
        conv => lhs; simp [go_sem, *]
        first | done | exact rfl
      simp only [Act.put, List.getElem_toArray, List.getElem_cons_zero, List.getElem_cons_succ, List.setIfInBounds_toArray, List.set_cons_zero, List.set_cons_succ]
      refine tree_one (i := 8) (by kernel_rfl) rfl ?_
      · refine ⟨_, rfl, fun K hK => ?_⟩
        go_wp2
        obtain ⟨wt2, hW⟩ : ∃ X, X = World.alloc wt1 (.cells #[.int .i64 0, .int .i64 0, .int .i64 0] 61) := ⟨_, rfl⟩
        have bt2 : Hid (Below (wt1).heap.size (wt1) wt2) := Lib.hid (by rw [hW]; exact bx1 _ _ _)
        have t5_ : Hid (Own wt2 (wt1).heap.size 61 #[.int .i64 0, .int .i64 0, .int .i64 0]) := Lib.hid (by rw [hW]; exact Own.made _ _ _)
        have t5_lo : Hid (W0.heap.size ≤ (wt1).heap.size) := Lib.hid B1.out.size
        replace B1 := Lib.hid (then_ B1.out bt2.out B1.out.size)
        rw [← hW]
        obtain ⟨gb_t5, hg_t5⟩ : ∃ g, g = (wt1).heap.size := ⟨_, rfl⟩
        rw [← hg_t5] at t5_ t5_lo ⊢
        clear hW hg_t5
        have t5 := t5_
        refine hK _ _ (SF.out _ B1.out) ?_
        clear hK K
        refine tree_one (i := 9) (by kernel_rfl) rfl ?_
        · refine ⟨_, rfl, fun K hK => ?_⟩
          obtain ⟨fz1, fz2, fz3⟩ := t5.out.at_
          go_wp2
          clear fz1 fz2 fz3
          have t5_f : Hid (Own (World.setCell (World.setCell (World.setCell wt2 ⟨gb_t5, 0, none⟩ (.int .i64 x1)) ⟨gb_t5, 1, none⟩ (.int .i64 x2)) ⟨gb_t5, 2, none⟩ (.int .i64 x3)) gb_t5 61 #[.int .i64 x1, .int .i64 x2, .int .i64 x3]) := Lib.hid ((((t5.out.put 0 _).put 1 _).put 2 _).as (by simp))
          have BF : Hid (Below W0.heap.size W0 (World.setCell (World.setCell (World.setCell wt2 ⟨gb_t5, 0, none⟩ (.int .i64 x1)) ⟨gb_t5, 1, none⟩ (.int .i64 x2)) ⟨gb_t5, 2, none⟩ (.int .i64 x3))) := Lib.hid (Below.setCell (Below.setCell (Below.setCell B1.out (p := ⟨gb_t5, 0, none⟩) (t5_lo.out) _) (p := ⟨gb_t5, 1, none⟩) (t5_lo.out) _) (p := ⟨gb_t5, 2, none⟩) (t5_lo.out) _)
          generalize hWF_ : (World.setCell (World.setCell (World.setCell wt2 ⟨gb_t5, 0, none⟩ (.int .i64 x1)) ⟨gb_t5, 1, none⟩ (.int .i64 x2)) ⟨gb_t5, 2, none⟩ (.int .i64 x3)) = wt3 at t5_f BF ⊢
          clear hWF_
          refine hK _ _ (SF.out _ BF.out) ?_
          clear hK K
          refine tree_end (by kernel_rfl) ?_
          go_wp2_with fail
          go_meet
          exact ⟨_, rfl, t5_f, BF, t5_lo.out⟩
    · refine ⟨_, rfl, fun K hK => ?_⟩
      go_wp2
      obtain ⟨wt4, hW⟩ : ∃ X, X = World.alloc Wd0 (.cells #[.int .i64 0, .int .i64 0, .int .i64 0] 61) := ⟨_, rfl⟩
      have bt4 : Hid (Below (Wd0).heap.size (Wd0) wt4) := Lib.hid (by rw [hW]; exact bx1 _ _ _)
      have t5_ : Hid (Own wt4 (Wd0).heap.size 61 #[.int .i64 0, .int .i64 0, .int .i64 0]) := Lib.hid (by rw [hW]; exact Own.made _ _ _)
      have t5_lo : Hid (W0.heap.size ≤ (Wd0).heap.size) := Lib.hid B1.out.size
      replace B1 := Lib.hid (then_ B1.out bt4.out B1.out.size)
      rw [← hW]
      obtain ⟨gb_t5, hg_t5⟩ : ∃ g, g = (Wd0).heap.size := ⟨_, rfl⟩
      rw [← hg_t5] at t5_ t5_lo ⊢
      clear hW hg_t5
      have t5 := t5_
      refine hK _ _ (SF.out _ B1.out) ?_
      clear hK K
      refine tree_one (i := 5) (by kernel_rfl) rfl ?_
      · refine ⟨_, rfl, fun K hK => ?_⟩
        go_wp2_with (go_at_call 24; refine (RE.out _ (then_ BB.out B1.out BB.out.size)).mono ?_; rintro e wt5 ⟨rfl, bt5⟩; replace bt5 := Lib.hid bt5)
        replace B1 := Lib.hid (then_ B1.out bt5.out B1.out.size)
        replace t5 := Lib.hid (t5.out.keep bt5.out)
        refine hK _ _ (SF.out _ B1.out) ?_
        clear hK K
        refine tree_pure (i := 6) (v := ?_) rfl rfl (by kernel_rfl) (by kernel_rfl) (by kernel_rfl) rfl (fun W hS => ?_) (SF.out _ B1.out) ?_
        rotate_left
        · conv => lhs; simp [go_sem, hki]
          first | done | exact rfl
        simp only [Act.put, List.getElem_toArray, List.getElem_cons_zero, List.getElem_cons_succ, List.setIfInBounds_toArray, List.set_cons_zero, List.set_cons_succ]
        refine tree_pure (i := 7) (v := ?_) rfl rfl (by kernel_rfl) (by kernel_rfl) (by kernel_rfl) rfl (fun W hS => ?_) (SF.out _ B1.out) ?_
        rotate_left
        · have hS := hS rfl
          obtain ⟨g1, g2⟩ := half_at (PO.out.keep hS)
          obtain ⟨g3, g4⟩ := half_at (HO.out.keep hS)
          obtain ⟨y1, y2, y3⟩ := HC.out W (then_ BB.out hS BB.out.size)
          conv => lhs; simp [go_sem, *]
          first | done | exact rfl
        simp only [Act.put, List.getElem_toArray, List.getElem_cons_zero, List.getElem_cons_succ, List.setIfInBounds_toArray, List.set_cons_zero, List.set_cons_succ]
        refine tree_one (i := 9) (by kernel_rfl) rfl ?_
        · refine ⟨_, rfl, fun K hK => ?_⟩
          obtain ⟨fz1, fz2, fz3⟩ := t5.out.at_
          go_wp2
          clear fz1 fz2 fz3
          have t5_f : Hid (Own (World.setCell (World.setCell (World.setCell wt5 ⟨gb_t5, 0, none⟩ (.int .i64 x1)) ⟨gb_t5, 1, none⟩ (.int .i64 x2)) ⟨gb_t5, 2, none⟩ (.int .i64 x3)) gb_t5 61 #[.int .i64 x1, .int .i64 x2, .int .i64 x3]) := Lib.hid ((((t5.out.put 0 _).put 1 _).put 2 _).as (by simp))
          have BF : Hid (Below W0.heap.size W0 (World.setCell (World.setCell (World.setCell wt5 ⟨gb_t5, 0, none⟩ (.int .i64 x1)) ⟨gb_t5, 1, none⟩ (.int .i64 x2)) ⟨gb_t5, 2, none⟩ (.int .i64 x3))) := Lib.hid (Below.setCell (Below.setCell (Below.setCell B1.out (p := ⟨gb_t5, 0, none⟩) (t5_lo.out) _) (p := ⟨gb_t5, 1, none⟩) (t5_lo.out) _) (p := ⟨gb_t5, 2, none⟩) (t5_lo.out) _)
          generalize hWF_ : (World.setCell (World.setCell (World.setCell wt5 ⟨gb_t5, 0, none⟩ (.int .i64 x1)) ⟨gb_t5, 1, none⟩ (.int .i64 x2)) ⟨gb_t5, 2, none⟩ (.int .i64 x3)) = wt6 at t5_f BF ⊢
          clear hWF_
          refine hK _ _ (SF.out _ BF.out) ?_
          clear hK K
          refine tree_end (by kernel_rfl) ?_
          go_wp2_with fail
          go_meet
          exact ⟨_, rfl, t5_f, BF, t5_lo.out⟩
  case rest =>
    obtain ⟨g, rfl, H5, BF, hlo⟩ := hcut
    have HO2 := Lib.hid (HO.out.keep BF.out)
    have HBF := Lib.hid (then_ BB.out BF.out BB.out.size)
    clear BB PO HO SF B1 BF RE HC
    obtain ⟨q1, q2⟩ := half_at HO2.out
    obtain ⟨g0, g1, g2⟩ := three_at H5.out
    cases h2 with
    | true =>
      go_wp2
      go_ret
      exact ⟨rfl, HBF.out⟩
    | false =>
      go_wp2
      go_ret
      exact ⟨rfl, HBF.out⟩
end
end Go.Proofs.Ythakafnecddliaa.Pl
end
section
namespace Go.Proofs.Ythakafnecddliaa.Pl
open Go.ChangeShapes Go.WideShapes Go.ChangeAt Go.RowKit Go.Proofs.Ythakafnecddliaa.Mp
set_option linter.unusedVariables false
set_option linter.unusedSimpArgs false

theorem new_four (W : World) (T : TypeId) (x y z u : Value) (j : Nat) {t : Value} (hu : [x, y, z, u][j]? = some t) : (W.alloc (.cells #[x, y, z, u] T)).cell? ((⟨W.heap.size, 0, none⟩ : Addr).add j) = some t := by
  have e : (⟨W.heap.size, 0, none⟩ : Addr).add j = ⟨W.heap.size, j, none⟩ := by unfold Addr.add; split <;> simp_all
  rw [e]
  have := (Own.made W T #[x, y, z, u]).at_.1 j
  exact this.trans (by simpa using hu)
theorem hfs_snoc (es : List Eg) (x : Eg) : hfs (es ++ [x]) = hfs es ++ [(x.id, false), (x.id, true)] := by simp [hfs]
section
variable {v e : Value} {es : List Eg} {w : World}
set_option maxRecDepth 10000 in
set_option maxHeartbeats 1000000 in
theorem rhalves_any (hv : ∃ a l c, v = .slice a l c) (he : EIn w e es) (hm : es.length ≤ 30000) : Calls Try.prog 42 #[.agg #[v, e]] w fun r w' => ∃ u, r = .returned u ∧ HOwn w' w.heap.size u (hfs es) ∧ Below w.heap.size w w' := by
  obtain ⟨a, n, c, rfl⟩ := hv
  obtain ⟨a', c', rfl, hc1, hc2, -, hcl⟩ := he.open_
  have HE := Lib.hid hcl
  obtain ⟨i0, hi0, hz0, hz1, hz2⟩ := info_of info_Half
  clear he hcl
  obtain ⟨m, hmm⟩ : ∃ m, m = es.length := ⟨_, rfl⟩
  rw [← hmm] at hc1 hm ⊢
  have HM := Lib.hid hmm
  clear hmm
  have PO := Lib.hid (Own.made w 25 #[.slice a n c, .slice a' m c'])
  have BB := Lib.hid (bx1 w 25 #[.slice a n c, .slice a' m c'])
  have SZ : Hid (w.heap.size + 1 = (w.alloc (.cells #[.slice a n c, .slice a' m c'] 25)).heap.size) := Lib.hid (by simp)
  go_enter Try.func42, Try.ntmps42
  go_wp2
  go_loopw [3, 4] (fun u j wr => ∃ k : Nat, k ≤ m ∧ j = .int .i64 (k : Int) ∧ Hid (∃ a c, u = .slice a (2 * k) c) ∧ Hid (HOwn wr (w.heap.size + 1) u (hfs (es.take k))) ∧ Hid (Own wr w.heap.size 25 #[.slice a n c, .slice a' m c']) ∧ Hid (Below w.heap.size w wr)) (fun u j wr => m - (intOf j).toNat)
  case atStart => exact ⟨0, by omega, rfl, Lib.hid ⟨none, 0, rfl⟩, Lib.hid (HOwn.nil _ _), PO, BB⟩
  case round =>
    clear PO BB
    obtain ⟨k, hk, rfl, HSH, HO, HP, HB⟩ := hrel
    obtain ⟨q1, q2⟩ := half_at HP.out
    obtain ⟨au, cu, hsh⟩ := HSH.out
    subst hsh
    by_cases hlt : k < m
    · have hkl : k < es.length := by rw [← HM.out]; exact hlt
      obtain ⟨b, o, rfl, hb, hc⟩ := HE.out k hkl
      obtain ⟨c1, c2, c3⟩ := hc wr HB.out
      have TS := Lib.hid (take_snoc es k hkl)
      obtain ⟨x, hx⟩ : ∃ x, x = es[k]'hkl := ⟨_, rfl⟩
      rw [← hx] at c1 c2 c3 TS
      have HCC : Hid (∀ W, Below w.heap.size w W → W.cell? ⟨b, o + k * 3, none⟩ = some (.int .i64 x.id)) := Lib.hid fun W hW => by rw [hx]; exact (hc W hW).1
      clear hx hc HE
      obtain ⟨x1, x2, x3⟩ := x
      simp only at c1 c2 c3 HCC
      have hki : (k : Int) < (m : Int) := by omega
      have HLN : Hid ((hfs (es.take k)).length = 2 * k) := Lib.hid (by rw [hfs_len, List.length_take]; have := HM.out; omega)
      have BX : Hid (Below wr.heap.size wr (wr.alloc (.cells #[.int .i64 x1, .bool false, .int .i64 x1, .bool true] 42)).drew) := Lib.hid ((bx1 _ _ _).drew)
      have RW : Hid (∀ W, Below wr.heap.size wr W → W.ownsRow (w.heap.size + 1) 42 2 (.slice au (2 * k) cu) (2 * k) (hC (hfs (es.take k)))) := Lib.hid fun W hW => by
        have := HO.out.below hW
        unfold HOwn at this
        rwa [HLN.out] at this
      have HBS : Hid (w.heap.size + 1 ≤ wr.heap.size) := Lib.hid HP.out.in_
      have h63 : 2 * k + 2 ≤ maxLen := by unfold maxLen; omega
      have KS : Hid (∀ w9, (wr.alloc (.cells #[.int .i64 x1, .bool false, .int .i64 x1, .bool true] 42)).drew.grownBy w9 (Value.slice au (2 * k) cu).ownBlock → Below w.heap.size w w9 ∧ Own w9 w.heap.size 25 #[.slice a n c, .slice (some ⟨b, o, none⟩) m c']) := Lib.hid fun w9 hg => by
        have hc : Chg (fun q => (Value.slice au (2 * k) cu).ownBlock = some q) _ w9 := (Chg.refl _ _).grown hg fun k hk => .inl hk
        have hH := HO.out.below BX.out
        exact ⟨((then_ HB.out BX.out HB.out.size).trans (hc.below (then_ HB.out BX.out HB.out.size).size fun q k => by have := (hH.own k).1; omega)), hc.own (HP.out.keep BX.out) fun k => (row_far hH k).1 (HP.out.keep BX.out) (by decide) rfl⟩
      have hnn : ((2 * k : Nat) : Int) = 2 * (k : Int) := by omega
      obtain ⟨n2, hn2⟩ : ∃ n2, n2 = 2 * k := ⟨_, rfl⟩
      rw [← hn2] at RW KS HLN h63 ⊢
      have HN2 := Lib.hid hn2
      clear hnn hn2
      go_upto_region 5 with fail
      refine wp_region_seq (fun W => Below wr.heap.size wr W ∨ Below w.heap.size w W ∧ Own W w.heap.size 25 #[.slice a n c, .slice (some ⟨b, o, none⟩) m c']) (0 :: 1 :: 2 :: 3 :: 4 :: 5 :: 6 :: 7 :: 8 :: 9 :: 10 :: 11 :: 12 :: 13 :: 14 :: 17 :: []) (2 :: 6 :: 9 :: 13 :: []) (0 :: 1 :: 2 :: 3 :: 4 :: 5 :: 6 :: 7 :: 8 :: 9 :: 10 :: 11 :: 12 :: 13 :: 14 :: 15 :: 16 :: 17 :: []) (by kernel_rfl) (by kernel_rfl) rfl (by kernel_rfl) rfl ((.inl (Below.refl _ _).drew)) (by simp only [picked, List.filterMap_cons, List.filterMap_nil, List.getElem?_cons_zero, List.getElem?_cons_succ, Option.map_some]; exact rfl) ?_
      iterate 15
        refine seq_want (v := ?_) rfl rfl (fun W hS => ?_) ?_
        rotate_left
        · first
            | (conv => lhs; simp [go_sem, hki]
               first | done | exact rfl)
            | (have hS := hS rfl
               obtain ⟨q1, q2⟩ : W.cell? ⟨w.heap.size, 0, none⟩ = some (.slice a n c) ∧ W.cell? ⟨w.heap.size, 1, none⟩ = some (.slice (some ⟨b, o, none⟩) m c') := hS.elim (fun h => half_at (HP.out.keep h)) (fun h => half_at h.2)
               have d1 : W.cell? ⟨b, o + k * 3, none⟩ = some (.int .i64 x1) := hS.elim (fun h => keep h c1) (fun h => HCC.out W h.1)
               conv => lhs; simp [go_sem, *, hki]
               first | done | exact rfl)
        simp only [Act.put, List.setIfInBounds_toArray, List.set_cons_zero, List.set_cons_succ]
      refine seq_on rfl rfl fun K hK => ?_
      go_wp2
      refine hK _ _ (.inl BX.out) ?_
      clear hK K
      refine seq_on rfl rfl fun K hK => ?_
      go_wp2_with (at_builtin; refine wpList_append_own_at _ rfl _ _ 40 rfl (w.heap.size + 1) 42 i0 (.agg #[.int .i64 0, .bool false]) 2 16 Try.underlying40 hi0 hz0 hz1 hz2 rfl (by decide) (.slice au n2 cu) n2 (hC (hfs (es.take k))) rfl (RW.out _ BX.out) ⟨wr.heap.size, 0, none⟩ 2 2 [.int .i64 x1, .bool false, .int .i64 x1, .bool true] rfl rfl (fun j u hu => new_four wr _ _ _ _ _ j hu) (by intro u hu; simp at hu; rcases hu with rfl | rfl | rfl | rfl <;> rfl) h63 (by have := HN2.out; omega) (by have := BX.out.size; have := HBS.out; omega) ?_; intro v9 w9 hown hgrow hnil hloc; obtain ⟨ya, yc, rfl⟩ := row_shape hown; have HO9 := Lib.hid hown; have HG9 := Lib.hid hgrow; clear hown hgrow hnil hloc)
      have S9 := Lib.hid (KS.out _ HG9.out)
      refine hK _ _ (.inr S9.out) ?_
      clear hK K
      iterate 1
        refine seq_want (v := ?_) rfl rfl (fun W hS => ?_) ?_
        rotate_left
        · first
            | (conv => lhs; simp [go_sem, hki]
               first | done | exact rfl)
            | (have hS := hS rfl
               obtain ⟨q1, q2⟩ : W.cell? ⟨w.heap.size, 0, none⟩ = some (.slice a n c) ∧ W.cell? ⟨w.heap.size, 1, none⟩ = some (.slice (some ⟨b, o, none⟩) m c') := hS.elim (fun h => half_at (HP.out.keep h)) (fun h => half_at h.2)
               have d1 : W.cell? ⟨b, o + k * 3, none⟩ = some (.int .i64 x1) := hS.elim (fun h => keep h c1) (fun h => HCC.out W h.1)
               conv => lhs; simp [go_sem, *, hki]
               first | done | exact rfl)
        simp only [Act.put, List.setIfInBounds_toArray, List.set_cons_zero, List.set_cons_succ]
      refine seq_end ?_
      have HN9 : Hid (HOwn w9 (w.heap.size + 1) (.slice ya (n2 + 2) yc) (hfs (es.take (k + 1)))) := Lib.hid (by
        rw [TS.out, hfs_snoc]
        have := HO9.out
        unfold HOwn
        rw [hC_app, List.length_append, HLN.out]
        exact this)
      have HS9 : Hid (∃ a c, Value.slice ya (n2 + 2) yc = .slice a (2 * (k + 1)) c) := Lib.hid ⟨ya, yc, by rw [HN2.out]; rfl⟩
      go_wp2
      go_roundw
      case rel => exact ⟨k + 1, by omega, by go_num, HS9, HN9, Lib.hid S9.out.2, Lib.hid S9.out.1⟩
      case measure => simp [intOf] <;> omega
    · obtain rfl : k = m := by omega
      have FIN : Hid (HOwn wr (w.heap.size + 1) (.slice au (2 * k) cu) (hfs es)) := Lib.hid (by have := HO.out; rwa [List.take_of_length_le (by rw [HM.out]; exact Nat.le_refl _)] at this)
      obtain ⟨n2, hn2⟩ : ∃ n2, n2 = 2 * k := ⟨_, rfl⟩
      rw [← hn2] at FIN ⊢
      clear hn2
      go_wp2
      go_ret
      exact ⟨_, rfl, ⟨FIN.out.1, FIN.out.2.imp id fun ⟨g, cap, cur, e1, e2, e3⟩ => ⟨g, cap, cur, e1, Nat.le_of_succ_le e2, e3⟩⟩, HB.out⟩
end
end Go.Proofs.Ythakafnecddliaa.Pl
end
section
namespace Go.Proofs.Ythakafnecddliaa.Pl
open Go.ChangeShapes Go.WideShapes Go.ChangeAt Go.RowKit Go.Proofs.Ythakafnecddliaa.Mp
set_option linter.unusedVariables false
set_option linter.unusedSimpArgs false

theorem insL_none {α : Type} {lt : α → α → Bool} {x : α} : ∀ {l : List α}, l.any (lt x) = false → insL lt x l = l ++ [x]
  | [], _ => rfl
  | y :: l, h => by
    rw [List.any_cons, Bool.or_eq_false_iff] at h
    rw [insL, h.1]
    simp only [Bool.false_eq_true, if_false, List.cons_append]
    rw [insL_none h.2]
theorem insL_app {α : Type} {lt : α → α → Bool} {x : α} : ∀ {l r : List α}, l.any (lt x) = true → insL lt x (l ++ r) = insL lt x l ++ r
  | [], _, h => by cases h
  | y :: l, r, h => by
    rw [List.cons_append, insL, insL]
    cases k : lt x y with
    | true => simp
    | false =>
      rw [List.any_cons, k, Bool.false_or] at h
      simp only [Bool.false_eq_true, if_false, List.cons_append]
      rw [insL_app h]
theorem insL_first {α : Type} {lt : α → α → Bool} {x y : α} : ∀ {l : List α}, l.any (lt x) = false → lt x y = true → insL lt x (l ++ [y]) = l ++ [x, y]
  | [], _, k => by simp [insL, k]
  | z :: l, h, k => by
    rw [List.any_cons, Bool.or_eq_false_iff] at h
    rw [List.cons_append, insL, h.1]
    simp only [Bool.false_eq_true, if_false, List.cons_append]
    rw [insL_first h.2 k]
/-- of a half put into a list: what stands behind the first ones -/
def insP {α : Type} (lt : α → α → Bool) (x : α) (l : List α) : List α := if l.any (lt x) then insL lt x l else l
theorem insP_step {α : Type} (lt : α → α → Bool) (x y : α) (l : List α) : insP lt x (l ++ [y]) = if (!(l.any (lt x)) && lt x y) = true then insP lt x l ++ [x] ++ [y] else insP lt x l ++ [y] := by
  unfold insP
  rw [List.any_append]
  cases h : l.any (lt x) with
  | true => simp [insL_app h]
  | false =>
    cases k : lt x y with
    | true => simp [k, insL_first h k]
    | false => simp [k]
theorem insP_end {α : Type} (lt : α → α → Bool) (x : α) (l : List α) : insL lt x l = if l.any (lt x) then insP lt x l else insP lt x l ++ [x] := by
  unfold insP
  cases h : l.any (lt x) with
  | true => simp
  | false => simp [insL_none h]
def oin (vs : List Vx) (es : List Eg) (i : Int) (l : List Hf) : List Hf := (l.filter fun h => frm es h == i).foldl (fun out x => insL (ltH vs es i) x out) []
theorem oin_skip {vs : List Vx} {es : List Eg} {i : Int} {l : List Hf} {x : Hf} (h : frm es x ≠ i) : oin vs es i (l ++ [x]) = oin vs es i l := by
  unfold oin
  rw [List.filter_append]
  simp [h]
theorem oin_take {vs : List Vx} {es : List Eg} {i : Int} {l : List Hf} {x : Hf} (h : frm es x = i) : oin vs es i (l ++ [x]) = insL (ltH vs es i) x (oin vs es i l) := by
  unfold oin
  rw [List.filter_append, List.foldl_append]
  simp [h]
theorem oin_all (vs : List Vx) (es : List Eg) (i : Int) : oin vs es i (hfs es) = ot vs es i := rfl
theorem oin_mem {vs : List Vx} {es : List Eg} {i : Int} {l : List Hf} {x : Hf} (h : x ∈ oin vs es i l) : x ∈ l ∧ frm es x = i := by
  unfold oin at h
  have hp := fold_perm (ltH vs es i) (l.filter fun h => frm es h == i) []
  have := hp.mem_iff.1 h
  simpa using this
structure OutS (w : World) (q : Nat) (pc : Array Value) (B : Nat) (av : Value) (H : List Hf) (ov : Value) (o : List Hf) : Prop where
  plan : Own w q 25 pc
  all : HOwn w q av H
  out : HOwn w q ov o
  lt : q < B ∧ (∀ g, av.ownBlock = some g → g < B) ∧ ∀ g, ov.ownBlock = some g → g < B
section
variable {w w' : World} {q B : Nat} {pc : Array Value} {av ov : Value} {H o : List Hf}
theorem OutS.keep {S : Nat → Prop} (h : OutS w q pc B av H ov o) (hc : Chg S w w') (hS : ∀ k, S k → B ≤ k) : OutS w' q pc B av H ov o :=
  ⟨hc.own h.plan fun k => by have := hS _ k; have := h.lt.1; omega, h.all.keep hc fun g hg k => by have := hS _ k; have := h.lt.2.1 g hg; omega, h.out.keep hc fun g hg k => by have := hS _ k; have := h.lt.2.2 g hg; omega, h.lt⟩
theorem OutS.below (h : OutS w q pc B av H ov o) (hb : Below w.heap.size w w') : OutS w' q pc B av H ov o := h.keep (Chg.of (S := fun _ => False) hb) fun _ k => k.elim
end
theorem RAr_in {o1 o2 a1 a2 b1 b2 : Int} (rq : Rng o1 o2) (ra : Rng a1 a2) (rb : Rng b1 b2) (w : World) : Calls Try.prog 43 #[.agg #[.int .i64 o1, .int .i64 o2], .agg #[.int .i64 a1, .int .i64 a2], .agg #[.int .i64 b1, .int .i64 b2]] w fun e w' => e = .returned (.int .i64 (rndR o1 o2 a1 a2 b1 b2)) ∧ Below w.heap.size w w' :=
  (Go.Proofs.Ythakafnecddliaa.RAround_in rq ra rb w).mono fun _ _ h => ⟨h.1, h.2.base⟩
/-- how the document holds two halves against each other -/
theorem rar_cm {vs : List Vx} {es : List Eg} (fV' : FlV vs) (hE : FlE vs es) {i : Int} {x y : Hf} (hx : x ∈ lv es i) (hy : y ∈ lv es i) (w : World) :
    Calls Try.prog 43 #[.agg #[.int .i64 (px vs i), .int .i64 (py vs i)], .agg #[.int .i64 (px vs (dst es x)), .int .i64 (py vs (dst es x))], .agg #[.int .i64 (px vs (dst es y)), .int .i64 (py vs (dst es y))]] w fun e w' => e = .returned (.int .i64 (cmH vs es i x y)) ∧ Below w.heap.size w w' := by
  obtain ⟨hx1, hx2⟩ := mem_lv.1 hx
  obtain ⟨hy1, hy2⟩ := mem_lv.1 hy
  obtain ⟨f1, f2, f3⟩ := half_has hE hx1
  obtain ⟨g1, g2, g3⟩ := half_has hE hy1
  rw [hx2] at f1 f3
  rw [hy2] at g1 g3
  have e : cmH vs es i x y = rndR (px vs i) (py vs i) (px vs (dst es x)) (py vs (dst es x)) (px vs (dst es y)) (py vs (dst es y)) := rnd_eq (px_two fV' f1 f2 f3) (px_two fV' g1 g2 g3)
  rw [e]
  exact RAr_in (rng_px fV' f1) (rng_px fV' f2) (rng_px fV' g2) w
end Go.Proofs.Ythakafnecddliaa.Pl
end
