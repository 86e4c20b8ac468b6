import Derived.Test.YtndhmidgnpobjaaGreatDoorPgtH
import Derived.Test.YtndhmidgnpobjaaGreatDoorSwap
import Derived.BigQuiet
import Derived.Test.YtndhmidgnpobjaaGreatDoorPgvF
set_option linter.unusedVariables false
set_option linter.unusedSimpArgs false
namespace Go.Proofs.YtndhmidgnpobjaaGreatDoor
open Go.ChangeShapes Go.WideShapes Go.ChangeAt Go.RowKit
section
def st0 : RSt := ⟨[1], [zM 1 0 (fun _ => 0)], [], fun _ => 0⟩
def rs0 (most room : Nat) : RS := ⟨most, room, st0, st0, List.replicate most false⟩
theorem Uv {w : World} {B : Nat} {T : TypeId} {v v' : Value} {l : List Value} {n : Nat} (h : w.ownsRow B T 1 v n l) (hv : ∀ g, v'.ownBlock = some g -> g < B) : apart v v' := fun g hg hg' => by
 have h1 := (yC h hg).1;have h2 := hv g hg';omega
theorem Ve (W : World) (m : Nat) (hm : m <= 1000000) : (Instr.makeSlice 42 (.int .i64 (m : Int)) (.int .i64 (m : Int))).run Tryz.prog W = .ok (.slice (some ⟨W.heap.size, 0, none⟩) m m) (W.alloc (.cells (madeCells #[.bool false] m) 4)) :=
 run_make_row' (P := Tryz.prog) 42 4 (.bool false) 1 Tryz.underlying42 (by kernel_rfl) rfl .i64 .i64 m (by omega) (by omega) W
theorem Jv (W : World) (B m : Nat) (hB : B <= W.heap.size) (hm : m <= 1000000) : (W.alloc (.cells (madeCells #[.bool false] m) 4)).ownsRow B 4 1 (.slice (some ⟨W.heap.size, 0, none⟩) m m) (List.replicate m false).length (vL (List.replicate m false)) := by
 have h := World.ownsRow_lit (base := B) (e := 4) (size := 1) W (madeCells #[.bool false] m) m hB (by unfold maxLen; omega) (by rw [size_madeCells]; omega);rw [toList_madeCells_one] at h;rw [List.length_replicate];unfold vL;rw [List.map_replicate];exact h
theorem mJ {w : World} {B C : Nat} {T : TypeId} {v : Value} {l : List Value} {n : Nat} (h : w.ownsRow C T 1 v n l) (hB : B <= C) : w.ownsRow B T 1 v n l := by
 refine ⟨h.1, ?_⟩;rcases h.2 with h2 | ⟨g, cap, cur, rfl, r1, r2⟩
 · exact .inl h2
 · exact .inr ⟨g, cap, cur, rfl, Nat.le_trans hB r1, r2⟩
theorem zFx {W : World} {b p C most room : Nat} {vk vr vf vd : Value} (ho : Own W p 61 #[.int .i64 (most : Int), .int .i64 (room : Int), .slice (some ⟨b, 0, none⟩) 1 1, .slice (some ⟨b + 1, 0, none⟩) 1 1, .slice none 0 0, .int .u64 0, .int .u64 0, .int .u64 0, .int .u64 0, .int .u64 0, .int .u64 0, .int .u64 0, .int .u64 0, vk, vr, vf, .int .u64 0, .int .u64 0, .int .u64 0, .int .u64 0, .int .u64 0, .int .u64 0, .int .u64 0, .int .u64 0, vd])
   (h1 : vU W b (.slice (some ⟨b, 0, none⟩) 1 1) (.slice (some ⟨b + 1, 0, none⟩) 1 1) (.slice none 0 0) st0) (h2 : vU W C vk vr vf st0) (hC : b + 3 <= C) (h3 : W.ownsRow b 4 1 vd (List.replicate most false).length (vL (List.replicate most false))) (hp : b <= p) : gI W b p (rs0 most room) :=
 ⟨_, _, _, vk, vr, vf, vd, ⟨ho, h1, ⟨mJ h2.k (by omega), mJ h2.r (by omega), mJ h2.f (by omega), h2.ap⟩, h3, hp,
   Uv h2.k (fun g hg => by have hg2 : some b = some g := hg; injection hg2 with e; omega),
   fun g _ hg => (by cases hg),
   Uv h2.f (fun g hg => by have hg2 : some b = some g := hg; injection hg2 with e; omega),
   fun g _ hg => (by cases hg),
   Uv h2.r (fun g hg => by have hg2 : some (b + 1) = some g := hg; injection hg2 with e; omega)⟩⟩
set_option maxRecDepth 10000 in
set_option maxHeartbeats 2000000 in
theorem zL2 (most room : Nat) (w : World) (hm : most <= 1000000) (hr : room <= 1000000) : Calls Tryz.prog 28 #[.int .i64 (most : Int), .int .i64 (room : Int)] w fun e w' => ∃ p, e = .returned (.pointer (some ⟨p, 0, none⟩)) /\ gI w' w.heap.size p (rs0 most room) /\ Below w.heap.size w w' := by
 have HD := fun W => Ve W most hm
 obtain ⟨H0, hH0⟩ : ∃ H0, H0 = zM 1 0 (fun _ => 0) := ⟨_, rfl⟩
 go_enter Tryz.func28, Tryz.ntmps28;go_upto_region 2 with fail;go_name_world W1 hW1;have OK1 : Own W1 w.heap.size 3 #[.int .i64 1] := hW1 ▸ ((Own.made w _ _).more _).more _;have OR1 : Own W1 (w.heap.size + 1) 9 #[.string ⟨#[]⟩] := hW1 ▸ (Own.made_at (by simp)).more _;have OS1 : Own W1 (w.heap.size + 1 + 1) 38 #[.slice (some ⟨w.heap.size, 0, none⟩) 1 1, .slice (some ⟨w.heap.size + 1, 0, none⟩) 1 1, .slice none 0 0, .int .u64 0, .int .u64 0, .int .u64 0, .int .u64 0, .int .u64 0, .int .u64 0, .int .u64 0, .int .u64 0] := by
   rw [<- hW1];exact Own.made_at (by simp)
 have B1 : Below w.heap.size w W1 := by
   rw [<- hW1];exact (((Below.refl w.heap.size w).alloc (Nat.le_refl _) _).alloc (by simp) _).alloc (by simp; omega) _
 have z1 : w.heap.size + 3 <= W1.heap.size := by rw [<- hW1]; simp
 have SA : vU W1 w.heap.size (.slice (some ⟨w.heap.size, 0, none⟩) 1 1) (.slice (some ⟨w.heap.size + 1, 0, none⟩) 1 1) (.slice none 0 0) ⟨[1], [⟨#[]⟩], [], fun _ => 0⟩ :=
   ⟨⟨rfl, .inr ⟨_, 1, _, rfl, Nat.le_refl _, OK1, Nat.le_refl _, by decide, rfl, rfl⟩⟩, ⟨rfl, .inr ⟨_, 1, _, rfl, Nat.le_succ _, OR1, Nat.le_refl _, by decide, rfl, rfl⟩⟩, World.ownsRow_nil _ _ _ _, fun g _ h => by cases h⟩
 have HH : Hid (∀ W, Below W1.heap.size W1 W -> Calls Tryz.prog 91 #[.agg #[.slice (some ⟨w.heap.size, 0, none⟩) 1 1, .slice (some ⟨w.heap.size + 1, 0, none⟩) 1 1, .slice none 0 0, .int .u64 0, .int .u64 0, .int .u64 0, .int .u64 0, .int .u64 0, .int .u64 0, .int .u64 0, .int .u64 0]] W fun e w' => e = .returned (.string H0) /\ Below W.heap.size W w') := Lh fun W hb => by
   rw [hH0];exact zAj (SA.below hb) (by decide) (by simp) (by simp)
 have SAH : Hid (∀ W, Own W w.heap.size 3 #[.int .i64 1] -> Own W (w.heap.size + 1) 9 #[.string H0] -> vU W w.heap.size (.slice (some ⟨w.heap.size, 0, none⟩) 1 1) (.slice (some ⟨w.heap.size + 1, 0, none⟩) 1 1) (.slice none 0 0) st0) := Lh fun W h1 h2 => by
   have h3 : Own W (w.heap.size + 1) 9 #[.string (zM 1 0 (fun _ => 0))] := hH0 ▸ h2;exact ⟨⟨rfl, .inr ⟨_, 1, _, rfl, Nat.le_refl _, h1, Nat.le_refl _, by decide, rfl, rfl⟩⟩, ⟨rfl, .inr ⟨_, 1, _, rfl, Nat.le_succ _, h3, Nat.le_refl _, by decide, rfl, rfl⟩⟩, World.ownsRow_nil _ _ _ _, fun g _ h => by cases h⟩
 have HC : Hid (∀ W, vU W w.heap.size (.slice (some ⟨w.heap.size, 0, none⟩) 1 1) (.slice (some ⟨w.heap.size + 1, 0, none⟩) 1 1) (.slice none 0 0) st0 -> Calls Tryz.prog 92 #[.agg #[.slice (some ⟨w.heap.size, 0, none⟩) 1 1, .slice (some ⟨w.heap.size + 1, 0, none⟩) 1 1, .slice none 0 0, .int .u64 0, .int .u64 0, .int .u64 0, .int .u64 0, .int .u64 0, .int .u64 0, .int .u64 0, .int .u64 0]] W fun e w' => ∃ vk' vr' vf', e = .returned (.agg #[vk', vr', vf', .int .u64 0, .int .u64 0, .int .u64 0, .int .u64 0, .int .u64 0, .int .u64 0, .int .u64 0, .int .u64 0]) /\ vU w' W.heap.size vk' vr' vf' st0 /\ Below W.heap.size W w') := Lh fun W h =>
   Jo h (by decide) (by decide) (by decide)
 replace OS1 := Lh OS1;replace OK1 := Lh OK1;replace OR1 := Lh OR1;replace B1 := Lh B1;clear hW1 SA hH0;replace HD := Lh HD;refine zA (fun W => Own W (w.heap.size + 1 + 1) 38 #[.slice (some ⟨w.heap.size, 0, none⟩) 1 1, .slice (some ⟨w.heap.size + 1, 0, none⟩) 1 1, .slice none 0 0, .int .u64 0, .int .u64 0, .int .u64 0, .int .u64 0, .int .u64 0, .int .u64 0, .int .u64 0, .int .u64 0]) (0 :: 1 :: 2 :: 4 :: []) (1 :: 2 :: []) (0 :: 1 :: 2 :: 3 :: 4 :: 5 :: []) (by kernel_rfl) (by kernel_rfl) rfl (by kernel_rfl) rfl (OS1.out.drawn) (by simp only [zQ, List.filterMap_cons, List.filterMap_nil, List.getElem?_cons_zero, List.getElem?_cons_succ, Option.map_some]; exact rfl) ?_;iterate 3
   refine zC (v := ?_) rfl rfl (fun W hS => ?_) ?_;rotate_left
   · first
       | (conv => lhs; simp [go_sem]
          first | done | exact rfl)
       | (have hS := hS rfl
          obtain ⟨q1, q2, q3⟩ := Own.at_ hS;conv => lhs; simp [go_sem, *]
          first | done | exact rfl)
   simp only [Act.put, lA, lZ, lS]
 refine zK rfl rfl fun K hK => ?_
 go_wp2_with (go_at_call 91; refine (HH.out _ ((Below.refl _ _).drew)).mono ?_; rintro e w2 ⟨rfl, hb2⟩; have C2 := Lh (((Below.refl W1.heap.size W1).drew).trans hb2); clear hb2)
 refine hK _ _ (OS1.out.keep C2.out) ?_;clear hK K;iterate 1
   refine zC (v := ?_) rfl rfl (fun W hS => ?_) ?_;rotate_left
   · conv => lhs; simp [go_sem]
     first | done | exact rfl
   simp only [Act.put, lA, lZ, lS]
 obtain ⟨r1, r2, r3⟩ := (OR1.out.keep C2.out).at_;refine xQ rfl rfl (by kernel_rfl) rfl fun K hK => ?_
 go_wp2;refine hK _ _ ?_;clear hK K;refine zN ?_;have zc := C2.out.size;have OK3 := Lh (Own.apart (OK1.out.keep C2.out) (q := w.heap.size + 1) (by omega) 0 (.string H0));have OR3 := Lh ((OR1.out.keep C2.out).put 0 (.string H0));have OS3 := Lh (Own.apart (OS1.out.keep C2.out) (q := w.heap.size + 1) (by omega) 0 (.string H0));have B3 := Lh ((then_ B1.out C2.out B1.out.size).setCell (p := ⟨w.heap.size + 1, 0, none⟩) (Nat.le_succ _) (.string H0));clear r1 r2 r3;go_upto_region 3 with fail;go_name_world W3 hW3;rw [hW3] at OK3 OR3 OS3 B3;have z3 : w.heap.size + 3 <= W3.heap.size := by rw [<- hW3]; simp; omega
 clear hW3 OS1 OK1 OR1 B1 C2 HH z1 zc;refine Yk (fun W => Own W (w.heap.size + 1 + 1) 38 #[.slice (some ⟨w.heap.size, 0, none⟩) 1 1, .slice (some ⟨w.heap.size + 1, 0, none⟩) 1 1, .slice none 0 0, .int .u64 0, .int .u64 0, .int .u64 0, .int .u64 0, .int .u64 0, .int .u64 0, .int .u64 0, .int .u64 0]) (0 :: 1 :: 2 :: 3 :: 5 :: 7 :: 9 :: []) (2 :: 3 :: []) (0 :: 1 :: 2 :: 3 :: 5 :: []) 4 6 (7 :: 8 :: 9 :: []) (by kernel_rfl) (by kernel_rfl) (by kernel_rfl) ⟨rfl, rfl⟩ (OS3.out.drawn) (by simp only [zQ, List.filterMap_cons, List.filterMap_nil, List.getElem?_cons_zero, List.getElem?_cons_succ, Option.map_some]; exact rfl) (by simp only [zQ, List.filterMap_cons, List.filterMap_nil, List.getElem?_cons_zero, List.getElem?_cons_succ, Option.map_some]; exact rfl) ?_;iterate 5
   refine zLj (v := ?_) rfl (fun W hS => ?_) ?_;rotate_left
   · first
       | (conv => lhs; simp [go_sem]
          first | done | exact rfl)
       | (have hS := hS rfl
          obtain ⟨q1, q2, q3⟩ := Own.at_ hS;conv => lhs; simp [go_sem, *]
          first | done | exact rfl)
   simp only [Act.put, lA, lZ, lS]
 refine ⟨?_, ?_⟩
 · refine zG0 rfl fun K hK => ?_
   go_wp2_with (go_at_call 92; refine (HC.out _ (SAH.out _ OK3.out.drawn OR3.out.drawn)).mono ?_; rintro e w4 ⟨vk, vr, vf, rfl, hSt, hb4⟩)
   refine hK _ _ ⟨OS3.out.drawn.keep hb4, ?_⟩;clear hK K;have zb4 : W3.heap.size <= w4.heap.size := hb4.size;have SA4 := Lh (SAH.out _ (OK3.out.drawn.keep hb4) (OR3.out.drawn.keep hb4));have St4 := Lh hSt;have OS4 := Lh (OS3.out.drawn.keep hb4);have B4 := Lh (then_ B3.out ((Below.refl W3.heap.size W3).drew.trans hb4) B3.out.size);clear hSt hb4;have hd := HD.out;refine zG0 rfl fun K hK => ?_
   go_wp2;refine hK _ _ ⟨OS4.out.more _, ?_⟩;clear hK K;iterate 1
     refine zC (v := ?_) rfl rfl (fun W hS => ?_) ?_;rotate_left
     · conv => lhs; simp [go_sem]
       first | done | exact rfl
     simp only [Act.put, lA, lZ, lS]
   refine zK rfl rfl fun K hK => ?_
   go_wp2;refine hK _ _ ((OS4.out.more _).more _) ?_;clear hK K;iterate 1
     refine zC (v := ?_) rfl rfl (fun W hS => ?_) ?_;rotate_left
     · conv => lhs; simp [go_sem]
       first | done | exact rfl
     simp only [Act.put, lA, lZ, lS]
   refine zN ?_;go_wp2;have D4 := (Jv w4 w.heap.size most (by omega) hm)
   have G1 : Below w4.heap.size w4 (w4.alloc (.cells (madeCells #[.bool false] most) 4)) := (Below.refl _ _).alloc (Nat.le_refl _) _;go_ret;refine ⟨_, rfl, zFx (vk := vk) (vr := vr) (vf := vf) (vd := .slice (some ⟨w4.heap.size, 0, none⟩) most most) (C := W3.heap.size) ?own ?sa ?st (by omega) ?dd ?pp, ?bb⟩
   case own => exact Own.made_at (by simp)
   case sa => exact SA4.out.below (G1.alloc G1.size _)
   case st => exact St4.out.below (G1.alloc G1.size _)
   case dd => exact World.ownsRow.alloc D4 _
   case pp => have := B4.out.size; simp; omega
   case bb => exact (B4.out.alloc B4.out.size _).alloc (by have := B4.out.size; simp; omega) _
 · have hd := HD.out;refine zG0 rfl fun K hK => ?_
   go_wp2;refine hK _ _ ⟨OS3.out.drawn.more _, ?_⟩;clear hK K;obtain ⟨W5, hW5⟩ : ∃ W5, W5 = (W3.drew.alloc (.cells (madeCells #[.bool false] most) 4)) := ⟨_, rfl⟩
   have D5 := Jv W3.drew w.heap.size most (by show w.heap.size <= W3.heap.size; omega) hm;have C5 : Below W3.heap.size W3 (W3.drew.alloc (.cells (madeCells #[.bool false] most) 4)) := ((Below.refl W3.heap.size W3).drew).alloc (Nat.le_refl _) _;have z5 : W3.heap.size + 1 <= (W3.drew.alloc (.cells (madeCells #[.bool false] most) 4)).heap.size := by simp
   rw [<- hW5] at D5 C5 z5;first
     | rw [<- hW5]
     | (rw [show (W3.alloc (.cells (madeCells #[.bool false] most) 4)).drew = W5 from hW5 ▸ rfl])
   clear hW5;refine zG0 rfl fun K hK => ?_
   go_wp2_with (go_at_call 92; refine (HC.out _ (SAH.out _ (OK3.out.keep C5) (OR3.out.keep C5))).mono ?_; rintro e w4 ⟨vk, vr, vf, rfl, hSt, hb4⟩)
   have C4 : Below W3.heap.size W3 w4 := C5.trans (hb4.mono (by omega));refine hK _ _ ⟨OS3.out.keep C4, ?_⟩;clear hK K;have SA4 := Lh (SAH.out _ (OK3.out.keep C4) (OR3.out.keep C4));have St4 := Lh hSt;have OS4 := Lh (OS3.out.keep C4);have B4 := Lh (then_ B3.out C4 B3.out.size);have D4 := Lh (Po.ownsRow_keepB D5 fun g hg => hb4.block g (D5.lt g hg).2);clear hSt hb4 C5 C4 D5;iterate 1
     refine zC (v := ?_) rfl rfl (fun W hS => ?_) ?_;rotate_left
     · conv => lhs; simp [go_sem]
       first | done | exact rfl
     simp only [Act.put, lA, lZ, lS]
   refine zK rfl rfl fun K hK => ?_
   go_wp2;refine hK _ _ (OS4.out.more _) ?_;clear hK K;iterate 1
     refine zC (v := ?_) rfl rfl (fun W hS => ?_) ?_;rotate_left
     · conv => lhs; simp [go_sem]
       first | done | exact rfl
     simp only [Act.put, lA, lZ, lS]
   refine zN ?_;go_wp2;go_ret;refine ⟨_, rfl, zFx (vk := vk) (vr := vr) (vf := vf) (vd := .slice (some ⟨W3.heap.size, 0, none⟩) most most) (C := W5.heap.size) ?own ?sa ?st (by omega) ?dd ?pp, ?bb⟩
   case own => exact Own.made_at rfl
   case sa => exact SA4.out.below ((Below.refl _ _).alloc (Nat.le_refl _) _)
   case st => exact St4.out.below ((Below.refl _ _).alloc (Nat.le_refl _) _)
   case dd => exact World.ownsRow.alloc D4.out _
   case pp => exact B4.out.size
   case bb => exact B4.out.alloc B4.out.size _
end
section
theorem zL5 (x0 x1 x2 x3 x4 x5 x6 x7 : Int) (y0 y1 y2 y3 y4 y5 y6 y7 : Int) (w : World) : (Op.equalIn 10000 36 (.agg #[.int .u64 x0, .int .u64 x1, .int .u64 x2, .int .u64 x3, .int .u64 x4, .int .u64 x5, .int .u64 x6, .int .u64 x7]) (.agg #[.int .u64 y0, .int .u64 y1, .int .u64 y2, .int .u64 y3, .int .u64 y4, .int .u64 y5, .int .u64 y6, .int .u64 y7])).run Tryz.prog w = .ok (decide (x0 = y0 /\ x1 = y1 /\ x2 = y2 /\ x3 = y3 /\ x4 = y4 /\ x5 = y5 /\ x6 = y6 /\ x7 = y7)) w := by
 have u3 := Tryz.underlying35;have a3 := Tryz.isAgg35;have z3 := Tryz.sizeOf35;rw [show (10000 : Nat) = 9999 + 1 from rfl, Op.equalIn];simp only [Sem.run_bind, run_underlying Tryz.underlying36, Result.andThen_ok];simp only [Std.Legacy.Range.forIn_eq_forIn_range', Std.Legacy.Range.size, Nat.sub_zero, Nat.add_sub_cancel, Nat.div_one, List.range'_succ, List.range'_zero, List.forIn_cons, List.forIn_nil];go_simp
 by_cases h0 : x0 = y0
 case neg => simp [h0]
 by_cases h1 : x1 = y1
 case neg => simp [h0, h1]
 by_cases h2 : x2 = y2
 case neg => simp [h0, h1, h2]
 by_cases h3 : x3 = y3
 case neg => simp [h0, h1, h2, h3]
 by_cases h4 : x4 = y4
 case neg => simp [h0, h1, h2, h3, h4]
 by_cases h5 : x5 = y5
 case neg => simp [h0, h1, h2, h3, h4, h5]
 by_cases h6 : x6 = y6
 case neg => simp [h0, h1, h2, h3, h4, h5, h6]
 by_cases h7 : x7 = y7
 case neg => simp [h0, h1, h2, h3, h4, h5, h6, h7]
 simp [h0, h1, h2, h3, h4, h5, h6, h7]
def zFz (s t : RSt) : Prop := s.kinds = t.kinds /\ s.rooms = t.rooms /\ ∀ i, i < 8 -> s.roots i = t.roots i
open Classical in
noncomputable def sameB (s t : RSt) : Bool := decide (zFz s t)
open Classical in
theorem zB0 {s t : RSt} (h : ¬ zFz s t) : sameB s t = false := by unfold sameB; exact decide_eq_false h
open Classical in
theorem zB9 {s t : RSt} (h : zFz s t) : sameB s t = true := by unfold sameB; exact decide_eq_true h
theorem Ue {w : World} {B n cp : Nat} {T : TypeId} {a : Option Addr} {l : List Value} (h : w.ownsRow B T 1 (.slice a n cp) n l) (k : Nat) (hk : k < l.length) : ∃ g, a = some ⟨g, 0, none⟩ /\ w.cell? ⟨g, k, none⟩ = some (l[k]'hk) /\ w.frozen? ⟨g, k, none⟩ = false := by
 obtain ⟨a', cp', e, -, h2⟩ := zO h;injection e with e1 _ _;subst e1;obtain ⟨g, h3, -, h4, h5⟩ := h2 k hk;exact ⟨g, h3, h4, h5⟩
section
variable {w w' : World} {B B' : Nat} {vk vr vf uk ur uf : Value} {s t : RSt}
set_option maxRecDepth 10000 in
set_option maxHeartbeats 2000000 in
theorem zKk (h : vU w B vk vr vf s) (k : vU w B' uk ur uf t) (hs : s.rooms.length = s.kinds.length) (ht : t.rooms.length = t.kinds.length) : Calls Tryz.prog 27 #[.agg (stC vk vr vf s.roots), .agg (stC uk ur uf t.roots)] w fun e w' => e = .returned (.bool (sameB s t)) /\ Below w.heap.size w w' := by
 obtain ⟨a1, c1, rfl, -, -⟩ := zO h.k;obtain ⟨a2, c2, rfl, -, -⟩ := zO h.r;obtain ⟨a3, c3, rfl, -, -⟩ := zO h.f;obtain ⟨b1, d1, rfl, -, -⟩ := zO k.k;obtain ⟨b2, d2, rfl, -, -⟩ := zO k.r;obtain ⟨b3, d3, rfl, -, -⟩ := zO k.f;obtain ⟨r, hr⟩ : ∃ r, r = s.roots := ⟨_, rfl⟩
 obtain ⟨q, hq⟩ : ∃ q, q = t.roots := ⟨_, rfl⟩
 obtain ⟨n, hn⟩ : ∃ n, n = s.kinds.length := ⟨_, rfl⟩
 obtain ⟨m, hm⟩ : ∃ m, m = t.kinds.length := ⟨_, rfl⟩
 have HH := Lh (And.intro h k);rw [<- hr, <- hq];have O1 := (Own.made w 38 (stC (.slice a1 s.kinds.length c1) (.slice a2 s.rooms.length c2) (.slice a3 s.free.length c3) r)).more (.cells (stC (.slice b1 t.kinds.length d1) (.slice b2 t.rooms.length d2) (.slice b3 t.free.length d3) q) 38);have O2 : Own ((w.alloc (.cells (stC (.slice a1 s.kinds.length c1) (.slice a2 s.rooms.length c2) (.slice a3 s.free.length c3) r) 38)).alloc (.cells (stC (.slice b1 t.kinds.length d1) (.slice b2 t.rooms.length d2) (.slice b3 t.free.length d3) q) 38)) (w.heap.size + 1) 38 (stC (.slice b1 t.kinds.length d1) (.slice b2 t.rooms.length d2) (.slice b3 t.free.length d3) q) := Own.made_at (by simp);have B2 : Below w.heap.size w ((w.alloc (.cells (stC (.slice a1 s.kinds.length c1) (.slice a2 s.rooms.length c2) (.slice a3 s.free.length c3) r) 38)).alloc (.cells (stC (.slice b1 t.kinds.length d1) (.slice b2 t.rooms.length d2) (.slice b3 t.free.length d3) q) 38)) := (zF _ _ _).alloc (by simp) _;rw [hs, ht, <- hn, <- hm] at O1 O2 B2 ⊢;unfold stC at O1 O2 B2 ⊢;obtain ⟨RB, hRB⟩ : ∃ RB, RB = sameB s t := ⟨_, rfl⟩
 rw [<- hRB];have HE := Lh (And.intro hs (And.intro ht (And.intro hr (And.intro hq (And.intro hn hm)))));have HRB := Lh hRB;have EQ := Lh (fun w => zL5 (r 0) (r 1) (r 2) (r 3) (r 4) (r 5) (r 6) (r 7) (q 0) (q 1) (q 2) (q 3) (q 4) (q 5) (q 6) (q 7) w);obtain ⟨b, hb⟩ : ∃ b, b = decide ((r 0 : Int) = (q 0 : Int) /\ (r 1 : Int) = (q 1 : Int) /\ (r 2 : Int) = (q 2 : Int) /\ (r 3 : Int) = (q 3 : Int) /\ (r 4 : Int) = (q 4 : Int) /\ (r 5 : Int) = (q 5 : Int) /\ (r 6 : Int) = (q 6 : Int) /\ (r 7 : Int) = (q 7 : Int)) := ⟨_, rfl⟩
 rw [<- hb] at EQ;have HB := Lh hb;have hmx := gV h.k;rw [<- hn] at hmx;unfold maxLen at hmx;clear h k hs ht hr hq hn hm hRB hb;have EQo := EQ.out;by_cases c : n = m
 · obtain rfl := c;cases b with
   | false =>
     have E : Hid (RB = false) := Lh (by
       obtain ⟨-, -, e3, e4, -, -⟩ := HE.out;rw [HRB.out];refine zB0 fun hh => (of_decide_eq_false HB.out.symm) ?_
       rw [e3, e4];have hh := hh.2.2;refine ⟨?_, ?_, ?_, ?_, ?_, ?_, ?_, ?_⟩ <;> exact congrArg _ (hh _ (by omega)))
     go_enter Tryz.func27, Tryz.ntmps27;go_upto_region 1 with fail;go_name_world W0 hW0;rw [hW0] at O1 O2 B2;clear hW0;obtain ⟨q1, q2, q3⟩ := O1.at_;obtain ⟨p1, p2, p3⟩ := O2.at_;have HB2 := Lh B2;clear B2 O1 O2;go_wp2;go_ret;rw [E.out];exact ⟨rfl, HB2.out⟩
   | true =>
     go_enter Tryz.func27, Tryz.ntmps27;go_upto_region 1 with fail;go_name_world W0 hW0;rw [hW0] at O1 O2 B2;clear hW0;obtain ⟨q1, q2, q3⟩ := O1.at_;obtain ⟨p1, p2, p3⟩ := O2.at_;have HB2 := Lh B2;have HO1 := Lh O1;have HO2 := Lh O2;clear B2 O1 O2;have HR : Hid (∀ i, i < 8 -> s.roots i = t.roots i) := Lh fun i hi => by
       obtain ⟨-, -, e3, e4, -, -⟩ := HE.out;have h8 := of_decide_eq_true HB.out.symm;rw [e3, e4] at h8;obtain ⟨g0, g1, g2, g3, g4, g5, g6, g7⟩ := h8;rcases Ug hi with rfl | rfl | rfl | rfl | rfl | rfl | rfl | rfl <;> omega
     go_wp2;clear q1 q2 q3 p1 p2 p3 EQo;go_loopw [5] (fun i wr => ∃ k : Nat, k <= n /\ i = .int .i64 (k : Int) /\ Below W0.heap.size W0 wr /\ (∀ j, j < k -> s.kinds[j]? = t.kinds[j]? /\ s.rooms[j]? = t.rooms[j]?)) (fun i wr => n - (intOf i).toNat)
     case atStart => exact ⟨0, Nat.zero_le _, rfl, Below.refl _ _, fun j hj => by omega⟩
     case round =>
       obtain ⟨k, hk, rfl, hbw, hall⟩ := hrel;have HBW := Lh hbw;have HALL := Lh hall;obtain ⟨q1, q2, q3⟩ := (HO1.out.keep hbw).at_;obtain ⟨p1, p2, p3⟩ := (HO2.out.keep hbw).at_;clear hbw hall;by_cases hlt : k < n
       · have t1 : decide (k < n) = true := by simpa using hlt
         have HS := HH.out.1.below (then_ HB2.out HBW.out HB2.out.size);have HT := HH.out.2.below (then_ HB2.out HBW.out HB2.out.size);obtain ⟨e1, e2, -, -, e5, e6⟩ := HE.out;have l1 : k < s.kinds.length := by omega
         have l2 : k < s.rooms.length := by omega
         have l3 : k < t.kinds.length := by omega
         have l4 : k < t.rooms.length := by omega
         obtain ⟨g1, hg1, c1, -⟩ := Ue HS.k k (by simpa [yE] using l1);obtain ⟨g2, hg2, c2, -⟩ := Ue HS.r k (by simpa [xL] using l2);obtain ⟨g3, hg3, c3, -⟩ := Ue HT.k k (by simpa [yE] using l3);obtain ⟨g4, hg4, c4, -⟩ := Ue HT.r k (by simpa [xL] using l4);subst hg1;subst hg2;subst hg3;subst hg4;simp only [yE, xL, List.getElem_map] at c1 c2 c3 c4;have d1 := List.getElem?_eq_getElem l1;have d2 := List.getElem?_eq_getElem l2;have d3 := List.getElem?_eq_getElem l3;have d4 := List.getElem?_eq_getElem l4;obtain ⟨K1, hK1⟩ : ∃ K, K = s.kinds[k] := ⟨_, rfl⟩
         obtain ⟨S1, hS1⟩ : ∃ K, K = s.rooms[k] := ⟨_, rfl⟩
         obtain ⟨K2, hK2⟩ : ∃ K, K = t.kinds[k] := ⟨_, rfl⟩
         obtain ⟨S2, hS2⟩ : ∃ K, K = t.rooms[k] := ⟨_, rfl⟩
         rw [<- hK1] at c1 d1;rw [<- hS1] at c2 d2;rw [<- hK2] at c3 d3;rw [<- hS2] at c4 d4;obtain ⟨x1, hx1⟩ : ∃ x : Int, x = (K1 : Int) := ⟨_, rfl⟩
         obtain ⟨x2, hx2⟩ : ∃ x : Int, x = (K2 : Int) := ⟨_, rfl⟩
         rw [<- hx1] at c1;rw [<- hx2] at c3;have D := Lh (And.intro d1 (And.intro d2 (And.intro d3 (And.intro d4 (And.intro hx1 hx2)))));have DIF : Hid (¬ (K1 = K2 /\ S1 = S2) -> RB = false) := Lh fun hne => by
           rw [HRB.out];refine zB0 fun hh => hne ?_
           rw [hh.1, d3] at d1;rw [hh.2.1, d4] at d2;injection d1 with d1;injection d2 with d2;exact ⟨d1.symm, d2.symm⟩
         clear d1 d2 d3 d4 hx1 hx2 hK1 hS1 hK2 hS2 HS HT e1 e2 e5 e6 l1 l2 l3 l4;go_upto_region 6 with fail;by_cases n1 : x1 = x2
         · have m1 : (x1 != x2) = false := by simpa using n1
           by_cases n2 : S1 = S2
           · have N12 : Hid (∀ j, j < k + 1 -> s.kinds[j]? = t.kinds[j]? /\ s.rooms[j]? = t.rooms[j]?) := Lh fun j hj => by
               obtain ⟨d1, d2, d3, d4, d5, d6⟩ := D.out;by_cases e : j = k
               · subst e;rw [d1, d2, d3, d4, n2];exact ⟨congrArg some (by omega), rfl⟩
               · exact HALL.out j (by omega)
             subst n2;clear n1;go_quiet (fail)
             go_wp2;go_roundw
             case rel => exact ⟨k + 1, by omega, by go_num, zJ HBW.out _, N12.out⟩
             case measure => simp [intOf]; omega
           · have E : Hid (RB = false) := Lh (DIF.out fun h => n2 h.2);have m5 : (S1.toList == S2.toList) = false := by
               rw [beq_eq_false_iff_ne, ByteArray.toList_eq, ByteArray.toList_eq];exact fun e => n2 (ByteArray.ext (Array.toList_inj.1 e))
             clear n1;go_quiet (fail)
             go_wp2;go_ret;rw [E.out];exact ⟨rfl, then_ HB2.out (zJ HBW.out _) HB2.out.size⟩
         · have m1 : (x1 != x2) = true := by simpa using n1
           have E : Hid (RB = false) := Lh (DIF.out fun h => n1 (by
             obtain ⟨-, -, -, -, d5, d6⟩ := D.out;have := h.1;omega))
           clear n1;go_quiet (fail)
           go_wp2;go_ret;rw [E.out];exact ⟨rfl, then_ HB2.out (zJ HBW.out _) HB2.out.size⟩
       · obtain rfl : k = n := by omega
         have t1 : decide (k < k) = false := by simp
         have E : Hid (RB = true) := Lh (by
           obtain ⟨e1, e2, -, -, e5, e6⟩ := HE.out;rw [HRB.out];refine zB9 ⟨List.ext_getElem? fun j => ?_, List.ext_getElem? fun j => ?_, HR.out⟩
           · by_cases hj : j < k
             · exact (HALL.out j hj).1
             · rw [List.getElem?_eq_none (by omega), List.getElem?_eq_none (by omega)]
           · by_cases hj : j < k
             · exact (HALL.out j hj).2
             · rw [List.getElem?_eq_none (by omega), List.getElem?_eq_none (by omega)])
         go_wp2;go_ret;rw [E.out];exact ⟨rfl, then_ HB2.out HBW.out HB2.out.size⟩
 · have E : Hid (RB = false) := Lh (by
     obtain ⟨-, -, -, -, e5, e6⟩ := HE.out;rw [HRB.out];refine zB0 fun hh => c ?_
     rw [e5, e6, hh.1])
   have m1 : (n != m) = true := by simpa using c
   have m2 : ((n : Int) != (m : Int)) = true := by simp; omega
   clear c EQo;go_enter Tryz.func27, Tryz.ntmps27;go_upto_region 1 with fail;go_name_world W0 hW0;rw [hW0] at O1 O2 B2;clear hW0;obtain ⟨q1, q2, q3⟩ := O1.at_;obtain ⟨p1, p2, p3⟩ := O2.at_;have HB2 := Lh B2;clear B2 O1 O2;go_wp2;go_ret;rw [E.out];exact ⟨rfl, HB2.out⟩
end
end
section
section
variable {w w' : World} {B B0 Bp d p c N ll room : Nat} {s : St} {P : PS}
theorem qM.root (h : qM P N ll room) (i : Nat) (hi : i < 8) : P.root i = 0 := by
 unfold PS.root;rw [h.view];exact zBe 1 0 _ i hi (by omega)
end
end
end Go.Proofs.YtndhmidgnpobjaaGreatDoor
