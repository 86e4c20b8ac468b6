
/- Lines in memory; the contracts of holds, meets, canAdd's closure, of slices.IndexFunc and ContainsFunc at points and lines. Conditions: those that each theorem names. -/
import Derived.Test.YtibnackmddigaaaPlnB
import Derived.Test.YtibnackmddigaaaGeoD
namespace Go.Proofs.Ytibnackmddigaaa.Pl
open Go.ChangeShapes Go.WideShapes Go.ChangeAt Go.RowKit
set_option linter.unusedVariables false
set_option linter.unusedSimpArgs false

/-- a line's ends -/
structure Sg where
  a : Int
  b : Int
  c : Int
  d : Int
def lnC (s : Sg) : Array Value := #[.int .i64 s.a, .int .i64 s.b, .int .i64 s.c, .int .i64 s.d, .int .i64 (min s.a s.c), .int .i64 (min s.b s.d), .int .i64 (max s.a s.c), .int .i64 (max s.b s.d)]
def LnAt (w : World) (q : Nat) (s : Sg) : Prop := Own w q 169 (lnC s)
theorem LnAt.cells {w : World} {q : Nat} {s : Sg} (h : LnAt w q s) : w.cell? ⟨q, 0, none⟩ = some (.int .i64 s.a) ∧ w.cell? ⟨q, 1, none⟩ = some (.int .i64 s.b) ∧ w.cell? ⟨q, 2, none⟩ = some (.int .i64 s.c) ∧ w.cell? ⟨q, 3, none⟩ = some (.int .i64 s.d) ∧
    w.cell? ⟨q, 4, none⟩ = some (.int .i64 (min s.a s.c)) ∧ w.cell? ⟨q, 5, none⟩ = some (.int .i64 (min s.b s.d)) ∧ w.cell? ⟨q, 6, none⟩ = some (.int .i64 (max s.a s.c)) ∧ w.cell? ⟨q, 7, none⟩ = some (.int .i64 (max s.b s.d)) := by
  have k := (Own.at_ h).1
  exact ⟨k 0, k 1, k 2, k 3, k 4, k 5, k 6, k 7⟩
def Sg.on (s : Sg) (x y : Int) : Bool := onB x y s.a s.b s.c s.d
def Sg.mt (s t : Sg) : Bool := mtB s.a s.b s.c s.d t.a t.b t.c t.d
theorem two_at {w : World} {p : Nat} {T : TypeId} {x y : Int} (h : Own w p T #[.int .i64 x, .int .i64 y]) : w.cell? ⟨p, 0, none⟩ = some (.int .i64 x) ∧ w.cell? ⟨p, 1, none⟩ = some (.int .i64 y) := ⟨(h.at_).1 0, (h.at_).1 1⟩
set_option maxRecDepth 10000 in
theorem holds_any (q : Nat) (s : Sg) (x y : Int) (w : World) (h : LnAt w q s) : Calls Try.prog 78 #[.pointer (some ⟨q, 0, none⟩), .agg #[.int .i64 x, .int .i64 y]] w fun e w' => e = .returned (.bool (s.on x y)) ∧ Below w.heap.size w w' := by
  have E := Lib.hid (box_on x y s.a s.b s.c s.d)
  have T := Lib.hid (fun W => touch_any (min s.a s.c) (min s.b s.d) (max s.a s.c) (max s.b s.d) x y x y W)
  have N := Lib.hid (fun W => On_any (p1 := x) (p2 := y) (a1 := s.a) (a2 := s.b) (b1 := s.c) (b2 := s.d) W)
  have hr : s.on x y = onB x y s.a s.b s.c s.d := rfl
  rw [hr]
  clear hr
  obtain ⟨t, ht⟩ : ∃ t, t = tcB (min s.a s.c) (min s.b s.d) (max s.a s.c) (max s.b s.d) x y x y := ⟨_, rfl⟩
  obtain ⟨n, hn⟩ : ∃ n, n = onB x y s.a s.b s.c s.d := ⟨_, rfl⟩
  rw [← ht] at E T
  rw [← hn] at E N ⊢
  clear ht hn
  have B0 : Hid (Below w.heap.size w (w.alloc (.cells #[.int .i64 x, .int .i64 y] 37))) := Lib.hid (bx1 _ _ _)
  have F0 : Hid (∀ W, Below w.heap.size w W → LnAt W q s) := Lib.hid fun W hW => Own.keep h hW
  have O0 : Hid (Own (w.alloc (.cells #[.int .i64 x, .int .i64 y] 37)) w.heap.size 37 #[.int .i64 x, .int .i64 y]) := Lib.hid (Own.made _ _ _)
  clear h
  cases t with
  | true =>
    go_enter Try.func78, Try.ntmps78
    go_upto_region 1 with fail
    refine wp_region_seq (fun W => Below w.heap.size w W ∧ Own W w.heap.size 37 #[.int .i64 x, .int .i64 y]) (0 :: 1 :: 2 :: 3 :: 4 :: 5 :: 6 :: 8 :: 9 :: 10 :: 11 :: 12 :: 13 :: 14 :: 15 :: 16 :: 17 :: 19 :: 20 :: []) (3 :: 4 :: 5 :: 9 :: 13 :: 17 :: []) (0 :: 1 :: 2 :: 3 :: 4 :: 5 :: 6 :: 7 :: 8 :: 9 :: 10 :: 11 :: 12 :: 13 :: 14 :: 15 :: 16 :: 17 :: 18 :: 19 :: 20 :: []) (by kernel_rfl) (by kernel_rfl) rfl (by kernel_rfl) rfl (⟨B0.out.drew, O0.out⟩) (by simp only [picked, List.filterMap_cons, List.filterMap_nil, List.getElem?_cons_zero, List.getElem?_cons_succ, Option.map_some]; exact rfl) ?_
    iterate 7
      refine seq_want (v := ?_) rfl rfl (fun W hS => ?_) ?_
      rotate_left
      · first
          | (conv => lhs; simp [go_sem]
             first | done | exact rfl)
          | (have hS := hS rfl
             obtain ⟨g0, g1, g2, g3, g4, g5, g6, g7⟩ := (F0.out _ hS.1).cells
             obtain ⟨k0, k1⟩ := two_at hS.2
             conv => lhs; simp [go_sem, *]
             first | done | exact rfl)
      simp only [Act.put, List.setIfInBounds_toArray, List.set_cons_zero, List.set_cons_succ]
    refine seq_on rfl rfl fun K hK => ?_
    go_wp2_with (go_at_call 98; refine (T.out _).mono ?_; rintro e w2 ⟨rfl, b2⟩)
    have B2 := Lib.hid (then_ B0.out.drew b2 B0.out.size)
    have O2 := Lib.hid ((O0.out.drawn).keep b2)
    clear b2
    refine hK _ _ (⟨B2.out, O2.out⟩) ?_
    clear hK K
    iterate 10
      refine seq_want (v := ?_) rfl rfl (fun W hS => ?_) ?_
      rotate_left
      · first
          | (conv => lhs; simp [go_sem]
             first | done | exact rfl)
          | (have hS := hS rfl
             obtain ⟨g0, g1, g2, g3, g4, g5, g6, g7⟩ := (F0.out _ hS.1).cells
             obtain ⟨k0, k1⟩ := two_at hS.2
             conv => lhs; simp [go_sem, *]
             first | done | exact rfl)
      simp only [Act.put, List.setIfInBounds_toArray, List.set_cons_zero, List.set_cons_succ]
    refine seq_on rfl rfl fun K hK => ?_
    go_wp2_with (go_at_call 99; refine (N.out _).mono ?_; rintro e w3 ⟨rfl, b3⟩)
    have B3 := Lib.hid (then_ B2.out b3 B2.out.size)
    have O3 := Lib.hid (O2.out.keep b3)
    clear b3
    refine hK _ _ (⟨B3.out, O3.out⟩) ?_
    clear hK K
    iterate 2
      refine seq_want (v := ?_) rfl rfl (fun W hS => ?_) ?_
      rotate_left
      · first
          | (conv => lhs; simp [go_sem]
             first | done | exact rfl)
          | (have hS := hS rfl
             obtain ⟨g0, g1, g2, g3, g4, g5, g6, g7⟩ := (F0.out _ hS.1).cells
             obtain ⟨k0, k1⟩ := two_at hS.2
             conv => lhs; simp [go_sem, *]
             first | done | exact rfl)
      simp only [Act.put, List.setIfInBounds_toArray, List.set_cons_zero, List.set_cons_succ]
    refine seq_end ?_
    go_wp2
    go_ret
    exact ⟨retb_eq rfl, B3.out⟩
  | false =>
    have e : n = false := by rw [← E.out]; rfl
    subst e
    go_enter Try.func78, Try.ntmps78
    go_upto_region 1 with fail
    refine wp_region_seq (fun W => Below w.heap.size w W ∧ Own W w.heap.size 37 #[.int .i64 x, .int .i64 y]) (0 :: 1 :: 2 :: 3 :: 4 :: 5 :: 6 :: 8 :: 9 :: 10 :: 11 :: 12 :: 13 :: 14 :: 15 :: 16 :: 17 :: 18 :: 19 :: 20 :: []) (3 :: 4 :: 5 :: []) (0 :: 1 :: 2 :: 3 :: 4 :: 5 :: 6 :: 7 :: 8 :: 9 :: 10 :: 11 :: 12 :: 13 :: 14 :: 15 :: 16 :: 17 :: 18 :: 19 :: 20 :: []) (by kernel_rfl) (by kernel_rfl) rfl (by kernel_rfl) rfl (⟨B0.out.drew, O0.out⟩) (by simp only [picked, List.filterMap_cons, List.filterMap_nil, List.getElem?_cons_zero, List.getElem?_cons_succ, Option.map_some]; exact rfl) ?_
    iterate 7
      refine seq_want (v := ?_) rfl rfl (fun W hS => ?_) ?_
      rotate_left
      · first
          | (conv => lhs; simp [go_sem]
             first | done | exact rfl)
          | (have hS := hS rfl
             obtain ⟨g0, g1, g2, g3, g4, g5, g6, g7⟩ := (F0.out _ hS.1).cells
             obtain ⟨k0, k1⟩ := two_at hS.2
             conv => lhs; simp [go_sem, *]
             first | done | exact rfl)
      simp only [Act.put, List.setIfInBounds_toArray, List.set_cons_zero, List.set_cons_succ]
    refine seq_on rfl rfl fun K hK => ?_
    go_wp2_with (go_at_call 98; refine (T.out _).mono ?_; rintro e w2 ⟨rfl, b2⟩)
    have B2 := Lib.hid (then_ B0.out.drew b2 B0.out.size)
    have O2 := Lib.hid ((O0.out.drawn).keep b2)
    clear b2
    refine hK _ _ (⟨B2.out, O2.out⟩) ?_
    clear hK K
    iterate 1
      refine seq_want (v := ?_) rfl rfl (fun W hS => ?_) ?_
      rotate_left
      · first
          | (conv => lhs; simp [go_sem]
             first | done | exact rfl)
          | (have hS := hS rfl
             obtain ⟨g0, g1, g2, g3, g4, g5, g6, g7⟩ := (F0.out _ hS.1).cells
             obtain ⟨k0, k1⟩ := two_at hS.2
             conv => lhs; simp [go_sem, *]
             first | done | exact rfl)
      simp only [Act.put, List.setIfInBounds_toArray, List.set_cons_zero, List.set_cons_succ]
    refine seq_skip rfl rfl ?_
    simp only [Act.put, List.setIfInBounds_toArray, List.set_cons_zero, List.set_cons_succ]
    refine seq_skip rfl rfl ?_
    simp only [Act.put, List.setIfInBounds_toArray, List.set_cons_zero, List.set_cons_succ]
    refine seq_skip rfl rfl ?_
    simp only [Act.put, List.setIfInBounds_toArray, List.set_cons_zero, List.set_cons_succ]
    refine seq_skip rfl rfl ?_
    simp only [Act.put, List.setIfInBounds_toArray, List.set_cons_zero, List.set_cons_succ]
    refine seq_skip rfl rfl ?_
    simp only [Act.put, List.setIfInBounds_toArray, List.set_cons_zero, List.set_cons_succ]
    refine seq_skip rfl rfl ?_
    simp only [Act.put, List.setIfInBounds_toArray, List.set_cons_zero, List.set_cons_succ]
    refine seq_skip rfl rfl ?_
    simp only [Act.put, List.setIfInBounds_toArray, List.set_cons_zero, List.set_cons_succ]
    refine seq_skip rfl rfl ?_
    simp only [Act.put, List.setIfInBounds_toArray, List.set_cons_zero, List.set_cons_succ]
    refine seq_skip rfl rfl ?_
    simp only [Act.put, List.setIfInBounds_toArray, List.set_cons_zero, List.set_cons_succ]
    refine seq_skip rfl rfl ?_
    simp only [Act.put, List.setIfInBounds_toArray, List.set_cons_zero, List.set_cons_succ]
    iterate 2
      refine seq_want (v := ?_) rfl rfl (fun W hS => ?_) ?_
      rotate_left
      · first
          | (conv => lhs; simp [go_sem]
             first | done | exact rfl)
          | (have hS := hS rfl
             obtain ⟨g0, g1, g2, g3, g4, g5, g6, g7⟩ := (F0.out _ hS.1).cells
             obtain ⟨k0, k1⟩ := two_at hS.2
             conv => lhs; simp [go_sem, *]
             first | done | exact rfl)
      simp only [Act.put, List.setIfInBounds_toArray, List.set_cons_zero, List.set_cons_succ]
    refine seq_end ?_
    go_wp2
    go_ret
    exact ⟨retb_eq rfl, B2.out⟩
set_option maxRecDepth 10000 in
theorem meets_any (q r : Nat) (s t : Sg) (w : World) (h : LnAt w q s) (h2 : LnAt w r t) : Calls Try.prog 83 #[.pointer (some ⟨q, 0, none⟩), .pointer (some ⟨r, 0, none⟩)] w fun e w' => e = .returned (.bool (s.mt t)) ∧ Below w.heap.size w w' := by
  have E := Lib.hid (box_mt s.a s.b s.c s.d t.a t.b t.c t.d)
  have T := Lib.hid (fun W => touch_any (min s.a s.c) (min s.b s.d) (max s.a s.c) (max s.b s.d) (min t.a t.c) (min t.b t.d) (max t.a t.c) (max t.b t.d) W)
  have N := Lib.hid (fun W => Meet_any (a1 := s.a) (a2 := s.b) (b1 := s.c) (b2 := s.d) (c1 := t.a) (c2 := t.b) (d1 := t.c) (d2 := t.d) W)
  have hr : s.mt t = mtB s.a s.b s.c s.d t.a t.b t.c t.d := rfl
  rw [hr]
  clear hr
  obtain ⟨u, hu⟩ : ∃ u, u = tcB (min s.a s.c) (min s.b s.d) (max s.a s.c) (max s.b s.d) (min t.a t.c) (min t.b t.d) (max t.a t.c) (max t.b t.d) := ⟨_, rfl⟩
  obtain ⟨n, hn⟩ : ∃ n, n = mtB s.a s.b s.c s.d t.a t.b t.c t.d := ⟨_, rfl⟩
  rw [← hu] at E T
  rw [← hn] at E N ⊢
  clear hu hn
  have F0 : Hid (∀ W, Below w.heap.size w W → LnAt W q s ∧ LnAt W r t) := Lib.hid fun W hW => ⟨Own.keep h hW, Own.keep h2 hW⟩
  have B0 := Lib.hid (Below.refl w.heap.size w)
  clear h h2
  cases u with
  | true =>
    go_enter Try.func83, Try.ntmps83
    go_upto_region 1 with fail
    refine wp_region_seq (fun W => Below w.heap.size w W) (0 :: 1 :: 2 :: 3 :: 4 :: 5 :: 6 :: 7 :: 9 :: 10 :: 11 :: 12 :: 13 :: 14 :: 15 :: 16 :: 17 :: 18 :: 19 :: 20 :: 21 :: 22 :: 23 :: 24 :: 25 :: 27 :: 28 :: []) (3 :: 7 :: 13 :: 17 :: 21 :: 25 :: []) (0 :: 1 :: 2 :: 3 :: 4 :: 5 :: 6 :: 7 :: 8 :: 9 :: 10 :: 11 :: 12 :: 13 :: 14 :: 15 :: 16 :: 17 :: 18 :: 19 :: 20 :: 21 :: 22 :: 23 :: 24 :: 25 :: 26 :: 27 :: 28 :: []) (by kernel_rfl) (by kernel_rfl) rfl (by kernel_rfl) rfl (B0.out.drew) (by simp only [picked, List.filterMap_cons, List.filterMap_nil, List.getElem?_cons_zero, List.getElem?_cons_succ, Option.map_some]; exact rfl) ?_
    iterate 8
      refine seq_want (v := ?_) rfl rfl (fun W hS => ?_) ?_
      rotate_left
      · first
          | (conv => lhs; simp [go_sem]
             first | done | exact rfl)
          | (have hS := hS rfl
             obtain ⟨g0, g1, g2, g3, g4, g5, g6, g7⟩ := (F0.out _ hS).1.cells
             obtain ⟨f0, f1, f2, f3, f4, f5, f6, f7⟩ := (F0.out _ hS).2.cells
             conv => lhs; simp [go_sem, *]
             first | done | exact rfl)
      simp only [Act.put, List.setIfInBounds_toArray, List.set_cons_zero, List.set_cons_succ]
    refine seq_on rfl rfl fun K hK => ?_
    go_wp2_with (go_at_call 98; refine (T.out _).mono ?_; rintro e w2 ⟨rfl, b2⟩)
    have B2 := Lib.hid (then_ B0.out.drew b2 B0.out.size)
    clear b2
    refine hK _ _ (B2.out) ?_
    clear hK K
    iterate 17
      refine seq_want (v := ?_) rfl rfl (fun W hS => ?_) ?_
      rotate_left
      · first
          | (conv => lhs; simp [go_sem]
             first | done | exact rfl)
          | (have hS := hS rfl
             obtain ⟨g0, g1, g2, g3, g4, g5, g6, g7⟩ := (F0.out _ hS).1.cells
             obtain ⟨f0, f1, f2, f3, f4, f5, f6, f7⟩ := (F0.out _ hS).2.cells
             conv => lhs; simp [go_sem, *]
             first | done | exact rfl)
      simp only [Act.put, List.setIfInBounds_toArray, List.set_cons_zero, List.set_cons_succ]
    refine seq_on rfl rfl fun K hK => ?_
    go_wp2_with (go_at_call 101; refine (N.out _).mono ?_; rintro e w3 ⟨rfl, b3⟩)
    have B3 := Lib.hid (then_ B2.out b3 B2.out.size)
    clear b3
    refine hK _ _ (B3.out) ?_
    clear hK K
    iterate 2
      refine seq_want (v := ?_) rfl rfl (fun W hS => ?_) ?_
      rotate_left
      · first
          | (conv => lhs; simp [go_sem]
             first | done | exact rfl)
          | (have hS := hS rfl
             obtain ⟨g0, g1, g2, g3, g4, g5, g6, g7⟩ := (F0.out _ hS).1.cells
             obtain ⟨f0, f1, f2, f3, f4, f5, f6, f7⟩ := (F0.out _ hS).2.cells
             conv => lhs; simp [go_sem, *]
             first | done | exact rfl)
      simp only [Act.put, List.setIfInBounds_toArray, List.set_cons_zero, List.set_cons_succ]
    refine seq_end ?_
    go_wp2
    go_ret
    exact ⟨retb_eq rfl, B3.out⟩
  | false =>
    have e : n = false := by rw [← E.out]; rfl
    subst e
    go_enter Try.func83, Try.ntmps83
    go_upto_region 1 with fail
    refine wp_region_seq (fun W => Below w.heap.size w W) (0 :: 1 :: 2 :: 3 :: 4 :: 5 :: 6 :: 7 :: 9 :: 10 :: 11 :: 12 :: 13 :: 14 :: 15 :: 16 :: 17 :: 18 :: 19 :: 20 :: 21 :: 22 :: 23 :: 24 :: 25 :: 26 :: 27 :: 28 :: []) (3 :: 7 :: []) (0 :: 1 :: 2 :: 3 :: 4 :: 5 :: 6 :: 7 :: 8 :: 9 :: 10 :: 11 :: 12 :: 13 :: 14 :: 15 :: 16 :: 17 :: 18 :: 19 :: 20 :: 21 :: 22 :: 23 :: 24 :: 25 :: 26 :: 27 :: 28 :: []) (by kernel_rfl) (by kernel_rfl) rfl (by kernel_rfl) rfl (B0.out.drew) (by simp only [picked, List.filterMap_cons, List.filterMap_nil, List.getElem?_cons_zero, List.getElem?_cons_succ, Option.map_some]; exact rfl) ?_
    iterate 8
      refine seq_want (v := ?_) rfl rfl (fun W hS => ?_) ?_
      rotate_left
      · first
          | (conv => lhs; simp [go_sem]
             first | done | exact rfl)
          | (have hS := hS rfl
             obtain ⟨g0, g1, g2, g3, g4, g5, g6, g7⟩ := (F0.out _ hS).1.cells
             obtain ⟨f0, f1, f2, f3, f4, f5, f6, f7⟩ := (F0.out _ hS).2.cells
             conv => lhs; simp [go_sem, *]
             first | done | exact rfl)
      simp only [Act.put, List.setIfInBounds_toArray, List.set_cons_zero, List.set_cons_succ]
    refine seq_on rfl rfl fun K hK => ?_
    go_wp2_with (go_at_call 98; refine (T.out _).mono ?_; rintro e w2 ⟨rfl, b2⟩)
    have B2 := Lib.hid (then_ B0.out.drew b2 B0.out.size)
    clear b2
    refine hK _ _ (B2.out) ?_
    clear hK K
    iterate 1
      refine seq_want (v := ?_) rfl rfl (fun W hS => ?_) ?_
      rotate_left
      · first
          | (conv => lhs; simp [go_sem]
             first | done | exact rfl)
          | (have hS := hS rfl
             obtain ⟨g0, g1, g2, g3, g4, g5, g6, g7⟩ := (F0.out _ hS).1.cells
             obtain ⟨f0, f1, f2, f3, f4, f5, f6, f7⟩ := (F0.out _ hS).2.cells
             conv => lhs; simp [go_sem, *]
             first | done | exact rfl)
      simp only [Act.put, List.setIfInBounds_toArray, List.set_cons_zero, List.set_cons_succ]
    refine seq_skip rfl rfl ?_
    simp only [Act.put, List.setIfInBounds_toArray, List.set_cons_zero, List.set_cons_succ]
    refine seq_skip rfl rfl ?_
    simp only [Act.put, List.setIfInBounds_toArray, List.set_cons_zero, List.set_cons_succ]
    refine seq_skip rfl rfl ?_
    simp only [Act.put, List.setIfInBounds_toArray, List.set_cons_zero, List.set_cons_succ]
    refine seq_skip rfl rfl ?_
    simp only [Act.put, List.setIfInBounds_toArray, List.set_cons_zero, List.set_cons_succ]
    refine seq_skip rfl rfl ?_
    simp only [Act.put, List.setIfInBounds_toArray, List.set_cons_zero, List.set_cons_succ]
    refine seq_skip rfl rfl ?_
    simp only [Act.put, List.setIfInBounds_toArray, List.set_cons_zero, List.set_cons_succ]
    refine seq_skip rfl rfl ?_
    simp only [Act.put, List.setIfInBounds_toArray, List.set_cons_zero, List.set_cons_succ]
    refine seq_skip rfl rfl ?_
    simp only [Act.put, List.setIfInBounds_toArray, List.set_cons_zero, List.set_cons_succ]
    refine seq_skip rfl rfl ?_
    simp only [Act.put, List.setIfInBounds_toArray, List.set_cons_zero, List.set_cons_succ]
    refine seq_skip rfl rfl ?_
    simp only [Act.put, List.setIfInBounds_toArray, List.set_cons_zero, List.set_cons_succ]
    refine seq_skip rfl rfl ?_
    simp only [Act.put, List.setIfInBounds_toArray, List.set_cons_zero, List.set_cons_succ]
    refine seq_skip rfl rfl ?_
    simp only [Act.put, List.setIfInBounds_toArray, List.set_cons_zero, List.set_cons_succ]
    refine seq_skip rfl rfl ?_
    simp only [Act.put, List.setIfInBounds_toArray, List.set_cons_zero, List.set_cons_succ]
    refine seq_skip rfl rfl ?_
    simp only [Act.put, List.setIfInBounds_toArray, List.set_cons_zero, List.set_cons_succ]
    refine seq_skip rfl rfl ?_
    simp only [Act.put, List.setIfInBounds_toArray, List.set_cons_zero, List.set_cons_succ]
    refine seq_skip rfl rfl ?_
    simp only [Act.put, List.setIfInBounds_toArray, List.set_cons_zero, List.set_cons_succ]
    refine seq_skip rfl rfl ?_
    simp only [Act.put, List.setIfInBounds_toArray, List.set_cons_zero, List.set_cons_succ]
    iterate 2
      refine seq_want (v := ?_) rfl rfl (fun W hS => ?_) ?_
      rotate_left
      · first
          | (conv => lhs; simp [go_sem]
             first | done | exact rfl)
          | (have hS := hS rfl
             obtain ⟨g0, g1, g2, g3, g4, g5, g6, g7⟩ := (F0.out _ hS).1.cells
             obtain ⟨f0, f1, f2, f3, f4, f5, f6, f7⟩ := (F0.out _ hS).2.cells
             conv => lhs; simp [go_sem, *]
             first | done | exact rfl)
      simp only [Act.put, List.setIfInBounds_toArray, List.set_cons_zero, List.set_cons_succ]
    refine seq_end ?_
    go_wp2
    go_ret
    exact ⟨retb_eq rfl, B2.out⟩
set_option maxRecDepth 10000 in
theorem there_any (q p : Nat) (s : Sg) (x y : Int) (w : World) (h : LnAt w q s) (h2 : Own w p 37 #[.int .i64 x, .int .i64 y]) : Calls Try.prog 77 #[.pointer (some ⟨q, 0, none⟩), .pointer (some ⟨p, 0, none⟩)] w fun e w' => e = .returned (.bool (s.on x y)) ∧ Below w.heap.size w w' := by
  have T := Lib.hid (holds_any q s x y w h)
  obtain ⟨k0, k1⟩ := two_at h2
  generalize s.on x y = n at *
  clear h h2
  go_enter Try.func77, Try.ntmps77
  go_wp2_with (go_at_call 78; refine T.out.mono ?_; rintro e w2 ⟨rfl, b2⟩; have B2 := Lib.hid b2; clear b2)
  go_ret
  exact ⟨rfl, B2.out⟩
/-- lines in a slice, read alone -/
def LnRd (w : World) (v : Value) (L : List (Nat × Sg)) : Prop := ∃ a c, v = .slice a L.length c ∧ L.length ≤ c ∧ c ≤ maxLen ∧ (∀ x ∈ L, LnAt w x.1 x.2) ∧ ∀ i (hi : i < L.length), ∃ g, a = some ⟨g, 0, none⟩ ∧ ∀ W, Below w.heap.size w W → W.cell? ⟨g, i, none⟩ = some (.pointer (some ⟨(L[i]'hi).1, 0, none⟩))
/-- points in a slice, read alone -/
def PtRd (w : World) (v : Value) (L : List (Int × Int)) : Prop := ∃ a c, v = .slice a L.length c ∧ L.length ≤ c ∧ c ≤ maxLen ∧ ∀ i (hi : i < L.length), ∃ g, a = some ⟨g, 0, none⟩ ∧ ∀ W, Below w.heap.size w W → W.cell? ⟨g, i * 2, none⟩ = some (.int .i64 (L[i]'hi).1) ∧ W.cell? ⟨g, i * 2 + 1, none⟩ = some (.int .i64 (L[i]'hi).2)
set_option maxRecDepth 10000 in
theorem idxL_first (f : FuncId) (u : Value) (p : Nat × Sg → Bool) (v : Value) (L : List (Nat × Sg)) (w : World) (h : LnRd w v L) (HE : ∀ (args : Array Value) (W : World), (callFunc f args).run Try.prog W = .ok (.enter f args) W)
    (HP : ∀ x ∈ L, ∀ W, Below w.heap.size w W → Calls Try.prog f #[u, .pointer (some ⟨x.1, 0, none⟩)] W fun e w' => e = .returned (.bool (p x)) ∧ Below W.heap.size W w') :
    Calls Try.prog 97 #[v, .func (.func f) #[u] #[]] w fun e w' => ∃ z, e = .returned (.int .i64 z) ∧ decide (0 ≤ z) = L.any p ∧ Below w.heap.size w w' := by
  obtain ⟨a, cap, rfl, hc1, hc2, -, hcl⟩ := h
  obtain ⟨n, hn⟩ : ∃ n, n = L.length := ⟨_, rfl⟩
  rw [← hn] at hc1 ⊢
  have hn' := Lib.hid hn
  have hmax : n ≤ 9223372036854775807 := by unfold maxLen at hc2; omega
  replace HP := Lib.hid HP
  clear hn
  go_enter Try.func97, Try.ntmps97
  go_wp2
  go_loopw [8] (fun i wr => ∃ k : Nat, k ≤ n ∧ i = .int .i64 (k : Int) ∧ Hid (∀ j (h : j < L.length), j < k → p (L[j]'h) = false) ∧ Hid (Below w.heap.size w wr)) (fun i wr => n - (intOf i).toNat)
  case atStart => exact ⟨0, by omega, rfl, Lib.hid (fun j h hj => by omega), Lib.hid (Below.refl _ _)⟩
  case round =>
    obtain ⟨k, hk, rfl, hN, hB⟩ := hrel
    by_cases hlt : k < n
    · have hkl : k < L.length := by have := hn'.out; omega
      obtain ⟨b, rfl, hcc⟩ := hcl k hkl
      have c1 := hcc wr hB.out
      have HX := Lib.hid (HP.out _ (List.getElem_mem hkl) wr hB.out)
      obtain ⟨x, hx⟩ : ∃ x, x = L[k]'hkl := ⟨_, rfl⟩
      rw [← hx] at c1 HX
      have hx' := Lib.hid hx
      clear hx hcc
      obtain ⟨x1, x2⟩ := x
      simp only at c1 HX
      cases hpe : p (x1, x2) with
      | true =>
        rw [hpe] at HX
        have hpe' := Lib.hid hpe
        clear hpe
        go_wp2_with (refine HX.out.mono ?_; rintro e w2 ⟨rfl, hb2⟩)
        have hb3 := then_ hB.out hb2 hB.out.size
        go_ret
        exact ⟨_, rfl, by rw [any_at hkl (by rw [← hx'.out]; exact hpe'.out)]; simp, hb3⟩
      | false =>
        rw [hpe] at HX
        have hpe' := Lib.hid hpe
        clear hpe
        go_wp2_with (refine HX.out.mono ?_; rintro e w2 ⟨rfl, hb2⟩)
        have hb3 := Lib.hid (then_ hB.out hb2 hB.out.size)
        go_roundw
        case rel => exact ⟨k + 1, by omega, by go_num, Lib.hid (fun j h hj => by
          by_cases e : j = k
          · subst e; rw [← hx'.out]; exact hpe'.out
          · exact hN.out j h (by omega)), hb3⟩
        case measure => simp [intOf] <;> omega
    · obtain rfl : k = n := by omega
      go_wp2
      go_ret
      exact ⟨_, rfl, by rw [any_not fun j h => hN.out j h (by have := hn'.out; omega)]; rfl, hB.out⟩
set_option maxRecDepth 10000 in
theorem idxL_cap (f : FuncId) (u : Value) (p : Nat × Sg → Bool) (v : Value) (L : List (Nat × Sg)) (w : World) (h : LnRd w v L) (HE : ∀ (args : Array Value) (W : World), (callFunc f args).run Try.prog W = .ok (.enter f args) W)
    (HP : ∀ x ∈ L, ∀ W, Below w.heap.size w W → Calls Try.prog f #[.pointer (some ⟨x.1, 0, none⟩), u] W fun e w' => e = .returned (.bool (p x)) ∧ Below W.heap.size W w') :
    Calls Try.prog 97 #[v, .func (.func f) #[] #[u]] w fun e w' => ∃ z, e = .returned (.int .i64 z) ∧ decide (0 ≤ z) = L.any p ∧ Below w.heap.size w w' := by
  obtain ⟨a, cap, rfl, hc1, hc2, -, hcl⟩ := h
  obtain ⟨n, hn⟩ : ∃ n, n = L.length := ⟨_, rfl⟩
  rw [← hn] at hc1 ⊢
  have hn' := Lib.hid hn
  have hmax : n ≤ 9223372036854775807 := by unfold maxLen at hc2; omega
  replace HP := Lib.hid HP
  clear hn
  go_enter Try.func97, Try.ntmps97
  go_wp2
  go_loopw [8] (fun i wr => ∃ k : Nat, k ≤ n ∧ i = .int .i64 (k : Int) ∧ Hid (∀ j (h : j < L.length), j < k → p (L[j]'h) = false) ∧ Hid (Below w.heap.size w wr)) (fun i wr => n - (intOf i).toNat)
  case atStart => exact ⟨0, by omega, rfl, Lib.hid (fun j h hj => by omega), Lib.hid (Below.refl _ _)⟩
  case round =>
    obtain ⟨k, hk, rfl, hN, hB⟩ := hrel
    by_cases hlt : k < n
    · have hkl : k < L.length := by have := hn'.out; omega
      obtain ⟨b, rfl, hcc⟩ := hcl k hkl
      have c1 := hcc wr hB.out
      have HX := Lib.hid (HP.out _ (List.getElem_mem hkl) wr hB.out)
      obtain ⟨x, hx⟩ : ∃ x, x = L[k]'hkl := ⟨_, rfl⟩
      rw [← hx] at c1 HX
      have hx' := Lib.hid hx
      clear hx hcc
      obtain ⟨x1, x2⟩ := x
      simp only at c1 HX
      cases hpe : p (x1, x2) with
      | true =>
        rw [hpe] at HX
        have hpe' := Lib.hid hpe
        clear hpe
        go_wp2_with (refine HX.out.mono ?_; rintro e w2 ⟨rfl, hb2⟩)
        have hb3 := then_ hB.out hb2 hB.out.size
        go_ret
        exact ⟨_, rfl, by rw [any_at hkl (by rw [← hx'.out]; exact hpe'.out)]; simp, hb3⟩
      | false =>
        rw [hpe] at HX
        have hpe' := Lib.hid hpe
        clear hpe
        go_wp2_with (refine HX.out.mono ?_; rintro e w2 ⟨rfl, hb2⟩)
        have hb3 := Lib.hid (then_ hB.out hb2 hB.out.size)
        go_roundw
        case rel => exact ⟨k + 1, by omega, by go_num, Lib.hid (fun j h hj => by
          by_cases e : j = k
          · subst e; rw [← hx'.out]; exact hpe'.out
          · exact hN.out j h (by omega)), hb3⟩
        case measure => simp [intOf] <;> omega
    · obtain rfl : k = n := by omega
      go_wp2
      go_ret
      exact ⟨_, rfl, by rw [any_not fun j h => hN.out j h (by have := hn'.out; omega)]; rfl, hB.out⟩
set_option maxRecDepth 10000 in
theorem idxP_first (f : FuncId) (u : Value) (p : Int × Int → Bool) (v : Value) (L : List (Int × Int)) (w : World) (h : PtRd w v L) (HE : ∀ (args : Array Value) (W : World), (callFunc f args).run Try.prog W = .ok (.enter f args) W)
    (HP : ∀ x ∈ L, ∀ W, Below w.heap.size w W → Calls Try.prog f #[u, .agg #[.int .i64 x.1, .int .i64 x.2]] W fun e w' => e = .returned (.bool (p x)) ∧ Below W.heap.size W w') :
    Calls Try.prog 100 #[v, .func (.func f) #[u] #[]] w fun e w' => ∃ z, e = .returned (.int .i64 z) ∧ decide (0 ≤ z) = L.any p ∧ Below w.heap.size w w' := by
  obtain ⟨a, cap, rfl, hc1, hc2, hcl⟩ := h
  obtain ⟨n, hn⟩ : ∃ n, n = L.length := ⟨_, rfl⟩
  rw [← hn] at hc1 ⊢
  have hn' := Lib.hid hn
  have hmax : n ≤ 9223372036854775807 := by unfold maxLen at hc2; omega
  replace HP := Lib.hid HP
  clear hn
  go_enter Try.func100, Try.ntmps100
  go_wp2
  go_loopw [8] (fun i wr => ∃ k : Nat, k ≤ n ∧ i = .int .i64 (k : Int) ∧ Hid (∀ j (h : j < L.length), j < k → p (L[j]'h) = false) ∧ Hid (Below w.heap.size w wr)) (fun i wr => n - (intOf i).toNat)
  case atStart => exact ⟨0, by omega, rfl, Lib.hid (fun j h hj => by omega), Lib.hid (Below.refl _ _)⟩
  case round =>
    obtain ⟨k, hk, rfl, hN, hB⟩ := hrel
    by_cases hlt : k < n
    · have hkl : k < L.length := by have := hn'.out; omega
      obtain ⟨b, rfl, hcc⟩ := hcl k hkl
      obtain ⟨c1, c2⟩ := hcc wr hB.out
      have HX := Lib.hid (HP.out _ (List.getElem_mem hkl) wr hB.out)
      obtain ⟨x, hx⟩ : ∃ x, x = L[k]'hkl := ⟨_, rfl⟩
      rw [← hx] at c1 c2 HX
      have hx' := Lib.hid hx
      clear hx hcc
      obtain ⟨x1, x2⟩ := x
      simp only at c1 c2 HX
      cases hpe : p (x1, x2) with
      | true =>
        rw [hpe] at HX
        have hpe' := Lib.hid hpe
        clear hpe
        go_wp2_with (refine HX.out.mono ?_; rintro e w2 ⟨rfl, hb2⟩)
        have hb3 := then_ hB.out hb2 hB.out.size
        go_ret
        exact ⟨_, rfl, by rw [any_at hkl (by rw [← hx'.out]; exact hpe'.out)]; simp, hb3⟩
      | false =>
        rw [hpe] at HX
        have hpe' := Lib.hid hpe
        clear hpe
        go_wp2_with (refine HX.out.mono ?_; rintro e w2 ⟨rfl, hb2⟩)
        have hb3 := Lib.hid (then_ hB.out hb2 hB.out.size)
        go_roundw
        case rel => exact ⟨k + 1, by omega, by go_num, Lib.hid (fun j h hj => by
          by_cases e : j = k
          · subst e; rw [← hx'.out]; exact hpe'.out
          · exact hN.out j h (by omega)), hb3⟩
        case measure => simp [intOf] <;> omega
    · obtain rfl : k = n := by omega
      go_wp2
      go_ret
      exact ⟨_, rfl, by rw [any_not fun j h => hN.out j h (by have := hn'.out; omega)]; rfl, hB.out⟩
set_option maxRecDepth 10000 in
theorem conL_first (f : FuncId) (u : Value) (p : Nat × Sg → Bool) (v : Value) (L : List (Nat × Sg)) (w : World) (h : LnRd w v L) (HE : ∀ (args : Array Value) (W : World), (callFunc f args).run Try.prog W = .ok (.enter f args) W)
    (HP : ∀ x ∈ L, ∀ W, Below w.heap.size w W → Calls Try.prog f #[u, .pointer (some ⟨x.1, 0, none⟩)] W fun e w' => e = .returned (.bool (p x)) ∧ Below W.heap.size W w') :
    Calls Try.prog 76 #[v, .func (.func f) #[u] #[]] w fun e w' => e = .returned (.bool (L.any p)) ∧ Below w.heap.size w w' := by
  have HI := Lib.hid (idxL_first f u p v L w h HE HP)
  obtain ⟨a, c, rfl, _⟩ := h
  obtain ⟨R, hR⟩ : ∃ R, R = L.any p := ⟨_, rfl⟩
  rw [← hR] at HI ⊢
  clear hR HE HP
  go_enter Try.func76, Try.ntmps76
  go_wp2_with (go_at_call 97; refine HI.out.mono ?_; rintro e w2 ⟨z, rfl, hz, b2⟩; have B2 := Lib.hid b2; have HZ := Lib.hid hz; clear b2 hz)
  go_ret
  exact ⟨by rw [HZ.out]; rfl, B2.out⟩
set_option maxRecDepth 10000 in
theorem conL_cap (f : FuncId) (u : Value) (p : Nat × Sg → Bool) (v : Value) (L : List (Nat × Sg)) (w : World) (h : LnRd w v L) (HE : ∀ (args : Array Value) (W : World), (callFunc f args).run Try.prog W = .ok (.enter f args) W)
    (HP : ∀ x ∈ L, ∀ W, Below w.heap.size w W → Calls Try.prog f #[.pointer (some ⟨x.1, 0, none⟩), u] W fun e w' => e = .returned (.bool (p x)) ∧ Below W.heap.size W w') :
    Calls Try.prog 76 #[v, .func (.func f) #[] #[u]] w fun e w' => e = .returned (.bool (L.any p)) ∧ Below w.heap.size w w' := by
  have HI := Lib.hid (idxL_cap f u p v L w h HE HP)
  obtain ⟨a, c, rfl, _⟩ := h
  obtain ⟨R, hR⟩ : ∃ R, R = L.any p := ⟨_, rfl⟩
  rw [← hR] at HI ⊢
  clear hR HE HP
  go_enter Try.func76, Try.ntmps76
  go_wp2_with (go_at_call 97; refine HI.out.mono ?_; rintro e w2 ⟨z, rfl, hz, b2⟩; have B2 := Lib.hid b2; have HZ := Lib.hid hz; clear b2 hz)
  go_ret
  exact ⟨by rw [HZ.out]; rfl, B2.out⟩
set_option maxRecDepth 10000 in
theorem conP_first (f : FuncId) (u : Value) (p : Int × Int → Bool) (v : Value) (L : List (Int × Int)) (w : World) (h : PtRd w v L) (HE : ∀ (args : Array Value) (W : World), (callFunc f args).run Try.prog W = .ok (.enter f args) W)
    (HP : ∀ x ∈ L, ∀ W, Below w.heap.size w W → Calls Try.prog f #[u, .agg #[.int .i64 x.1, .int .i64 x.2]] W fun e w' => e = .returned (.bool (p x)) ∧ Below W.heap.size W w') :
    Calls Try.prog 82 #[v, .func (.func f) #[u] #[]] w fun e w' => e = .returned (.bool (L.any p)) ∧ Below w.heap.size w w' := by
  have HI := Lib.hid (idxP_first f u p v L w h HE HP)
  obtain ⟨a, c, rfl, _⟩ := h
  obtain ⟨R, hR⟩ : ∃ R, R = L.any p := ⟨_, rfl⟩
  rw [← hR] at HI ⊢
  clear hR HE HP
  go_enter Try.func82, Try.ntmps82
  go_wp2_with (go_at_call 100; refine HI.out.mono ?_; rintro e w2 ⟨z, rfl, hz, b2⟩; have B2 := Lib.hid b2; have HZ := Lib.hid hz; clear b2 hz)
  go_ret
  exact ⟨by rw [HZ.out]; rfl, B2.out⟩
end Go.Proofs.Ytibnackmddigaaa.Pl