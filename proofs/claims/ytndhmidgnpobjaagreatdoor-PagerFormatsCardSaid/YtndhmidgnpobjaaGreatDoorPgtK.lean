
/- The contract of the reference's New. Conditions: a number of pages of at most 1000000. -/
import Derived.Test.YtndhmidgnpobjaaGreatDoorPgtH
import Derived.Test.YtndhmidgnpobjaaGreatDoorSwap
namespace Go.Proofs.YtndhmidgnpobjaaGreatDoor
open Go.ChangeShapes Go.WideShapes Go.ChangeAt Go.RowKit
set_option linter.unusedVariables false
set_option linter.unusedSimpArgs false

/-- the document's first state, and its first pager -/
def st0 : RSt := ⟨[1], [hroom 1 0 (fun _ => 0)], [], fun _ => 0⟩
def rs0 (most room : Nat) : RS := ⟨most, room, st0, st0, List.replicate most false⟩
theorem low_block {w : World} {B : Nat} {T : TypeId} {v v' : Value} {l : List Value} {n : Nat} (h : w.ownsRow B T 1 v n l) (hv : ∀ g, v'.ownBlock = some g → g < B) : apart v v' := fun g hg hg' => by
  have h1 := (row_block h hg).1
  have h2 := hv g hg'
  omega
theorem dirty_row (W : World) (m : Nat) (hm : m ≤ 1000000) : (Instr.makeSlice 42 (.int .i64 (m : Int)) (.int .i64 (m : Int))).run Tryz.prog W = .ok (.slice (some ⟨W.heap.size, 0, none⟩) m m) (W.alloc (.cells (madeCells #[.bool false] m) 4)) :=
  run_make_row' (P := Tryz.prog) 42 4 (.bool false) 1 Tryz.underlying42 (by kernel_rfl) rfl .i64 .i64 m (by omega) (by omega) W
theorem made_dirty (W : World) (B m : Nat) (hB : B ≤ W.heap.size) (hm : m ≤ 1000000) : (W.alloc (.cells (madeCells #[.bool false] m) 4)).ownsRow B 4 1 (.slice (some ⟨W.heap.size, 0, none⟩) m m) (List.replicate m false).length (boolV (List.replicate m false)) := by
  have h := World.ownsRow_lit (base := B) (e := 4) (size := 1) W (madeCells #[.bool false] m) m hB (by unfold maxLen; omega) (by rw [size_madeCells]; omega)
  rw [toList_madeCells_one] at h
  rw [List.length_replicate]
  unfold boolV
  rw [List.map_replicate]
  exact h
theorem row_low {w : World} {B C : Nat} {T : TypeId} {v : Value} {l : List Value} {n : Nat} (h : w.ownsRow C T 1 v n l) (hB : B ≤ C) : w.ownsRow B T 1 v n l := by
  refine ⟨h.1, ?_⟩
  rcases h.2 with h2 | ⟨g, cap, cur, rfl, r1, r2⟩
  · exact .inl h2
  · exact .inr ⟨g, cap, cur, rfl, Nat.le_trans hB r1, r2⟩
theorem new_ref {W : World} {b p C most room : Nat} {vk vr vf vd : Value} (ho : Own W p 61 #[.int .i64 (most : Int), .int .i64 (room : Int), .slice (some ⟨b, 0, none⟩) 1 1, .slice (some ⟨b + 1, 0, none⟩) 1 1, .slice none 0 0, .int .u64 0, .int .u64 0, .int .u64 0, .int .u64 0, .int .u64 0, .int .u64 0, .int .u64 0, .int .u64 0, vk, vr, vf, .int .u64 0, .int .u64 0, .int .u64 0, .int .u64 0, .int .u64 0, .int .u64 0, .int .u64 0, .int .u64 0, vd])
    (h1 : StAt W b (.slice (some ⟨b, 0, none⟩) 1 1) (.slice (some ⟨b + 1, 0, none⟩) 1 1) (.slice none 0 0) st0) (h2 : StAt W C vk vr vf st0) (hC : b + 3 ≤ C) (h3 : W.ownsRow b 4 1 vd (List.replicate most false).length (boolV (List.replicate most false))) (hp : b ≤ p) : RefO W b p (rs0 most room) :=
  ⟨_, _, _, vk, vr, vf, vd, ⟨ho, h1, ⟨row_low h2.k (by omega), row_low h2.r (by omega), row_low h2.f (by omega), h2.ap⟩, h3, hp,
    low_block h2.k (fun g hg => by have hg2 : some b = some g := hg; injection hg2 with e; omega),
    fun g _ hg => (by cases hg),
    low_block h2.f (fun g hg => by have hg2 : some b = some g := hg; injection hg2 with e; omega),
    fun g _ hg => (by cases hg),
    low_block h2.r (fun g hg => by have hg2 : some (b + 1) = some g := hg; injection hg2 with e; omega)⟩⟩
set_option maxRecDepth 10000 in
set_option maxHeartbeats 2000000 in
theorem rnew_any (most room : Nat) (w : World) (hm : most ≤ 1000000) (hr : room ≤ 1000000) : Calls Tryz.prog 28 #[.int .i64 (most : Int), .int .i64 (room : Int)] w fun e w' => ∃ p, e = .returned (.pointer (some ⟨p, 0, none⟩)) ∧ RefO w' w.heap.size p (rs0 most room) ∧ Below w.heap.size w w' := by
  have HD := fun W => dirty_row W most hm
  obtain ⟨H0, hH0⟩ : ∃ H0, H0 = hroom 1 0 (fun _ => 0) := ⟨_, rfl⟩
  go_enter Tryz.func28, Tryz.ntmps28
  go_upto_region 2 with fail
  go_name_world W1 hW1
  have OK1 : Own W1 w.heap.size 3 #[.int .i64 1] := hW1 ▸ ((Own.made w _ _).more _).more _
  have OR1 : Own W1 (w.heap.size + 1) 9 #[.string ⟨#[]⟩] := hW1 ▸ (Own.made_at (by simp)).more _
  have OS1 : Own W1 (w.heap.size + 1 + 1) 38 #[.slice (some ⟨w.heap.size, 0, none⟩) 1 1, .slice (some ⟨w.heap.size + 1, 0, none⟩) 1 1, .slice none 0 0, .int .u64 0, .int .u64 0, .int .u64 0, .int .u64 0, .int .u64 0, .int .u64 0, .int .u64 0, .int .u64 0] := by
    rw [← hW1]
    exact Own.made_at (by simp)
  have B1 : Below w.heap.size w W1 := by
    rw [← hW1]
    exact (((Below.refl w.heap.size w).alloc (Nat.le_refl _) _).alloc (by simp) _).alloc (by simp; omega) _
  have z1 : w.heap.size + 3 ≤ W1.heap.size := by rw [← hW1]; simp
  have SA : StAt W1 w.heap.size (.slice (some ⟨w.heap.size, 0, none⟩) 1 1) (.slice (some ⟨w.heap.size + 1, 0, none⟩) 1 1) (.slice none 0 0) ⟨[1], [⟨#[]⟩], [], fun _ => 0⟩ :=
    ⟨⟨rfl, .inr ⟨_, 1, _, rfl, Nat.le_refl _, OK1, Nat.le_refl _, by decide, rfl, rfl⟩⟩, ⟨rfl, .inr ⟨_, 1, _, rfl, Nat.le_succ _, OR1, Nat.le_refl _, by decide, rfl, rfl⟩⟩, World.ownsRow_nil _ _ _ _, fun g _ h => by cases h⟩
  have HH : Hid (∀ W, Below W1.heap.size W1 W → Calls Tryz.prog 91 #[.agg #[.slice (some ⟨w.heap.size, 0, none⟩) 1 1, .slice (some ⟨w.heap.size + 1, 0, none⟩) 1 1, .slice none 0 0, .int .u64 0, .int .u64 0, .int .u64 0, .int .u64 0, .int .u64 0, .int .u64 0, .int .u64 0, .int .u64 0]] W fun e w' => e = .returned (.string H0) ∧ Below W.heap.size W w') := Lib.hid fun W hb => by
    rw [hH0]
    exact rhead_any (SA.below hb) (by decide) (by simp) (by simp)
  have SAH : Hid (∀ W, Own W w.heap.size 3 #[.int .i64 1] → Own W (w.heap.size + 1) 9 #[.string H0] → StAt W w.heap.size (.slice (some ⟨w.heap.size, 0, none⟩) 1 1) (.slice (some ⟨w.heap.size + 1, 0, none⟩) 1 1) (.slice none 0 0) st0) := Lib.hid fun W h1 h2 => by
    have h3 : Own W (w.heap.size + 1) 9 #[.string (hroom 1 0 (fun _ => 0))] := hH0 ▸ h2
    exact ⟨⟨rfl, .inr ⟨_, 1, _, rfl, Nat.le_refl _, h1, Nat.le_refl _, by decide, rfl, rfl⟩⟩, ⟨rfl, .inr ⟨_, 1, _, rfl, Nat.le_succ _, h3, Nat.le_refl _, by decide, rfl, rfl⟩⟩, World.ownsRow_nil _ _ _ _, fun g _ h => by cases h⟩
  have HC : Hid (∀ W, StAt W w.heap.size (.slice (some ⟨w.heap.size, 0, none⟩) 1 1) (.slice (some ⟨w.heap.size + 1, 0, none⟩) 1 1) (.slice none 0 0) st0 → Calls Tryz.prog 92 #[.agg #[.slice (some ⟨w.heap.size, 0, none⟩) 1 1, .slice (some ⟨w.heap.size + 1, 0, none⟩) 1 1, .slice none 0 0, .int .u64 0, .int .u64 0, .int .u64 0, .int .u64 0, .int .u64 0, .int .u64 0, .int .u64 0, .int .u64 0]] W fun e w' => ∃ vk' vr' vf', e = .returned (.agg #[vk', vr', vf', .int .u64 0, .int .u64 0, .int .u64 0, .int .u64 0, .int .u64 0, .int .u64 0, .int .u64 0, .int .u64 0]) ∧ StAt w' W.heap.size vk' vr' vf' st0 ∧ Below W.heap.size W w') := Lib.hid fun W h =>
    copied_any h (by decide) (by decide) (by decide)
  replace OS1 := Lib.hid OS1
  replace OK1 := Lib.hid OK1
  replace OR1 := Lib.hid OR1
  replace B1 := Lib.hid B1
  clear hW1 SA hH0
  replace HD := Lib.hid HD
  refine wp_region_seq (fun W => Own W (w.heap.size + 1 + 1) 38 #[.slice (some ⟨w.heap.size, 0, none⟩) 1 1, .slice (some ⟨w.heap.size + 1, 0, none⟩) 1 1, .slice none 0 0, .int .u64 0, .int .u64 0, .int .u64 0, .int .u64 0, .int .u64 0, .int .u64 0, .int .u64 0, .int .u64 0]) (0 :: 1 :: 2 :: 4 :: []) (1 :: 2 :: []) (0 :: 1 :: 2 :: 3 :: 4 :: 5 :: []) (by kernel_rfl) (by kernel_rfl) rfl (by kernel_rfl) rfl (OS1.out.drawn) (by simp only [picked, List.filterMap_cons, List.filterMap_nil, List.getElem?_cons_zero, List.getElem?_cons_succ, Option.map_some]; exact rfl) ?_
  iterate 3
    refine seq_want (v := ?_) rfl rfl (fun W hS => ?_) ?_
    rotate_left
    · first
        | (conv => lhs; simp [go_sem]
           first | done | exact rfl)
        | (have hS := hS rfl
           obtain ⟨q1, q2, q3⟩ := Own.at_ hS
           conv => lhs; simp [go_sem, *]
           first | done | exact rfl)
    simp only [Act.put, List.setIfInBounds_toArray, List.set_cons_zero, List.set_cons_succ]
  refine seq_on rfl rfl fun K hK => ?_
  go_wp2_with (go_at_call 91; refine (HH.out _ ((Below.refl _ _).drew)).mono ?_; rintro e w2 ⟨rfl, hb2⟩; have C2 := Lib.hid (((Below.refl W1.heap.size W1).drew).trans hb2); clear hb2)
  refine hK _ _ (OS1.out.keep C2.out) ?_
  clear hK K
  iterate 1
    refine seq_want (v := ?_) rfl rfl (fun W hS => ?_) ?_
    rotate_left
    · conv => lhs; simp [go_sem]
      first | done | exact rfl
    simp only [Act.put, List.setIfInBounds_toArray, List.set_cons_zero, List.set_cons_succ]
  obtain ⟨r1, r2, r3⟩ := (OR1.out.keep C2.out).at_
  refine seq_last rfl rfl (by kernel_rfl) rfl fun K hK => ?_
  go_wp2
  refine hK _ _ ?_
  clear hK K
  refine seq_end ?_
  have zc := C2.out.size
  have OK3 := Lib.hid (Own.apart (OK1.out.keep C2.out) (q := w.heap.size + 1) (by omega) 0 (.string H0))
  have OR3 := Lib.hid ((OR1.out.keep C2.out).put 0 (.string H0))
  have OS3 := Lib.hid (Own.apart (OS1.out.keep C2.out) (q := w.heap.size + 1) (by omega) 0 (.string H0))
  have B3 := Lib.hid ((then_ B1.out C2.out B1.out.size).setCell (p := ⟨w.heap.size + 1, 0, none⟩) (Nat.le_succ _) (.string H0))
  clear r1 r2 r3
  go_upto_region 3 with fail
  go_name_world W3 hW3
  rw [hW3] at OK3 OR3 OS3 B3
  have z3 : w.heap.size + 3 ≤ W3.heap.size := by rw [← hW3]; simp; omega
  clear hW3 OS1 OK1 OR1 B1 C2 HH z1 zc
  refine wp_region_swap (fun W => Own W (w.heap.size + 1 + 1) 38 #[.slice (some ⟨w.heap.size, 0, none⟩) 1 1, .slice (some ⟨w.heap.size + 1, 0, none⟩) 1 1, .slice none 0 0, .int .u64 0, .int .u64 0, .int .u64 0, .int .u64 0, .int .u64 0, .int .u64 0, .int .u64 0, .int .u64 0]) (0 :: 1 :: 2 :: 3 :: 5 :: 7 :: 9 :: []) (2 :: 3 :: []) (0 :: 1 :: 2 :: 3 :: 5 :: []) 4 6 (7 :: 8 :: 9 :: []) (by kernel_rfl) (by kernel_rfl) (by kernel_rfl) ⟨rfl, rfl⟩ (OS3.out.drawn) (by simp only [picked, List.filterMap_cons, List.filterMap_nil, List.getElem?_cons_zero, List.getElem?_cons_succ, Option.map_some]; exact rfl) (by simp only [picked, List.filterMap_cons, List.filterMap_nil, List.getElem?_cons_zero, List.getElem?_cons_succ, Option.map_some]; exact rfl) ?_
  iterate 5
    refine pre_want (v := ?_) rfl (fun W hS => ?_) ?_
    rotate_left
    · first
        | (conv => lhs; simp [go_sem]
           first | done | exact rfl)
        | (have hS := hS rfl
           obtain ⟨q1, q2, q3⟩ := Own.at_ hS
           conv => lhs; simp [go_sem, *]
           first | done | exact rfl)
    simp only [Act.put, List.setIfInBounds_toArray, List.set_cons_zero, List.set_cons_succ]
  refine ⟨?_, ?_⟩
  · refine op_on rfl fun K hK => ?_
    go_wp2_with (go_at_call 92; refine (HC.out _ (SAH.out _ OK3.out.drawn OR3.out.drawn)).mono ?_; rintro e w4 ⟨vk, vr, vf, rfl, hSt, hb4⟩)
    refine hK _ _ ⟨OS3.out.drawn.keep hb4, ?_⟩
    clear hK K
    have zb4 : W3.heap.size ≤ w4.heap.size := hb4.size
    have SA4 := Lib.hid (SAH.out _ (OK3.out.drawn.keep hb4) (OR3.out.drawn.keep hb4))
    have St4 := Lib.hid hSt
    have OS4 := Lib.hid (OS3.out.drawn.keep hb4)
    have B4 := Lib.hid (then_ B3.out ((Below.refl W3.heap.size W3).drew.trans hb4) B3.out.size)
    clear hSt hb4
    have hd := HD.out
    refine op_on rfl fun K hK => ?_
    go_wp2
    refine hK _ _ ⟨OS4.out.more _, ?_⟩
    clear hK K
    iterate 1
      refine seq_want (v := ?_) rfl rfl (fun W hS => ?_) ?_
      rotate_left
      · conv => lhs; simp [go_sem]
        first | done | exact rfl
      simp only [Act.put, List.setIfInBounds_toArray, List.set_cons_zero, List.set_cons_succ]
    refine seq_on rfl rfl fun K hK => ?_
    go_wp2
    refine hK _ _ ((OS4.out.more _).more _) ?_
    clear hK K
    iterate 1
      refine seq_want (v := ?_) rfl rfl (fun W hS => ?_) ?_
      rotate_left
      · conv => lhs; simp [go_sem]
        first | done | exact rfl
      simp only [Act.put, List.setIfInBounds_toArray, List.set_cons_zero, List.set_cons_succ]
    refine seq_end ?_
    go_wp2
    have D4 := (made_dirty w4 w.heap.size most (by omega) hm)
    have G1 : Below w4.heap.size w4 (w4.alloc (.cells (madeCells #[.bool false] most) 4)) := (Below.refl _ _).alloc (Nat.le_refl _) _
    go_ret
    refine ⟨_, rfl, new_ref (vk := vk) (vr := vr) (vf := vf) (vd := .slice (some ⟨w4.heap.size, 0, none⟩) most most) (C := W3.heap.size) ?own ?sa ?st (by omega) ?dd ?pp, ?bb⟩
    case own => exact Own.made_at (by simp)
    case sa => exact SA4.out.below (G1.alloc G1.size _)
    case st => exact St4.out.below (G1.alloc G1.size _)
    case dd => exact World.ownsRow.alloc D4 _
    case pp => have := B4.out.size; simp; omega
    case bb => exact (B4.out.alloc B4.out.size _).alloc (by have := B4.out.size; simp; omega) _
  · have hd := HD.out
    refine op_on rfl fun K hK => ?_
    go_wp2
    refine hK _ _ ⟨OS3.out.drawn.more _, ?_⟩
    clear hK K
    obtain ⟨W5, hW5⟩ : ∃ W5, W5 = (W3.drew.alloc (.cells (madeCells #[.bool false] most) 4)) := ⟨_, rfl⟩
    have D5 := made_dirty W3.drew w.heap.size most (by show w.heap.size ≤ W3.heap.size; omega) hm
    have C5 : Below W3.heap.size W3 (W3.drew.alloc (.cells (madeCells #[.bool false] most) 4)) := ((Below.refl W3.heap.size W3).drew).alloc (Nat.le_refl _) _
    have z5 : W3.heap.size + 1 ≤ (W3.drew.alloc (.cells (madeCells #[.bool false] most) 4)).heap.size := by simp
    rw [← hW5] at D5 C5 z5
    first
      | rw [← hW5]
      | (rw [show (W3.alloc (.cells (madeCells #[.bool false] most) 4)).drew = W5 from hW5 ▸ rfl])
    clear hW5
    refine op_on rfl fun K hK => ?_
    go_wp2_with (go_at_call 92; refine (HC.out _ (SAH.out _ (OK3.out.keep C5) (OR3.out.keep C5))).mono ?_; rintro e w4 ⟨vk, vr, vf, rfl, hSt, hb4⟩)
    have C4 : Below W3.heap.size W3 w4 := C5.trans (hb4.mono (by omega))
    refine hK _ _ ⟨OS3.out.keep C4, ?_⟩
    clear hK K
    have SA4 := Lib.hid (SAH.out _ (OK3.out.keep C4) (OR3.out.keep C4))
    have St4 := Lib.hid hSt
    have OS4 := Lib.hid (OS3.out.keep C4)
    have B4 := Lib.hid (then_ B3.out C4 B3.out.size)
    have D4 := Lib.hid (Po.ownsRow_keepB D5 fun g hg => hb4.block g (D5.lt g hg).2)
    clear hSt hb4 C5 C4 D5
    iterate 1
      refine seq_want (v := ?_) rfl rfl (fun W hS => ?_) ?_
      rotate_left
      · conv => lhs; simp [go_sem]
        first | done | exact rfl
      simp only [Act.put, List.setIfInBounds_toArray, List.set_cons_zero, List.set_cons_succ]
    refine seq_on rfl rfl fun K hK => ?_
    go_wp2
    refine hK _ _ (OS4.out.more _) ?_
    clear hK K
    iterate 1
      refine seq_want (v := ?_) rfl rfl (fun W hS => ?_) ?_
      rotate_left
      · conv => lhs; simp [go_sem]
        first | done | exact rfl
      simp only [Act.put, List.setIfInBounds_toArray, List.set_cons_zero, List.set_cons_succ]
    refine seq_end ?_
    go_wp2
    go_ret
    refine ⟨_, rfl, new_ref (vk := vk) (vr := vr) (vf := vf) (vd := .slice (some ⟨W3.heap.size, 0, none⟩) most most) (C := W5.heap.size) ?own ?sa ?st (by omega) ?dd ?pp, ?bb⟩
    case own => exact Own.made_at rfl
    case sa => exact SA4.out.below ((Below.refl _ _).alloc (Nat.le_refl _) _)
    case st => exact St4.out.below ((Below.refl _ _).alloc (Nat.le_refl _) _)
    case dd => exact World.ownsRow.alloc D4.out _
    case pp => exact B4.out.size
    case bb => exact B4.out.alloc B4.out.size _
end Go.Proofs.YtndhmidgnpobjaaGreatDoor
