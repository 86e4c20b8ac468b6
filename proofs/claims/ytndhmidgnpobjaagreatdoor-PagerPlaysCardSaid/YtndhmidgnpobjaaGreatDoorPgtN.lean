import Derived.Test.YtndhmidgnpobjaaGreatDoorPgtM
import Derived.BigQuiet
set_option linter.unusedVariables false
set_option linter.unusedSimpArgs false
namespace Go.Proofs.YtndhmidgnpobjaaGreatDoor
open Go.ChangeShapes Go.WideShapes Go.ChangeAt Go.RowKit
section
variable {w w' : World} {B p : Nat} {sk sr sf wk wr wf vd : Value} {R : RS}
theorem zKp (h : Ref w B p sk sr sf wk wr wf vd R) (no : Int) (hn : no < 1 \/ (R.way.kinds.length : Int) <= no) : Calls Tryz.prog 32 #[.pointer (some ⟨p, 0, none⟩), .int .i64 no] w fun e w' => e = .returned (.int .i64 1) /\ w = w' := by
 obtain ⟨ka, kc, rfl, -, -⟩ := zO h.way.k;have ho := h.own;unfold rfC at ho;obtain ⟨n, hn2⟩ : ∃ n, n = R.way.kinds.length := ⟨_, rfl⟩
 rw [<- hn2] at ho hn;obtain ⟨q1, q2, q3⟩ := ho.at_;clear h ho hn2;by_cases c : no < 1
 · clear hn;go_enter Tryz.func32, Tryz.ntmps32;go_wp2;go_ret;exact ⟨rfl, rfl⟩
 · have hm : (n : Int) <= no := by omega
   clear hn;go_enter Tryz.func32, Tryz.ntmps32;go_wp2;go_ret;exact ⟨rfl, rfl⟩
theorem zHp (h : Ref w B p sk sr sf wk wr wf vd R) (no : Nat) (h1 : 1 <= no) (h2 : no < R.way.kinds.length) (hk : R.way.kinds.getD no 0 = 255) : Calls Tryz.prog 32 #[.pointer (some ⟨p, 0, none⟩), .int .i64 (no : Int)] w fun e w' => e = .returned (.int .i64 6) /\ w = w' := by
 obtain ⟨gk, kc, rfl⟩ := yU h.way.k (by simp [yE]; omega);obtain ⟨c1, c2, c3⟩ := uG (k := no) h.way.k (by simp [yE]; omega);have cK : w.cell? ⟨gk, no, none⟩ = some (.int .i64 255) := by
   rw [c1];rw [List.getD_eq_getElem?_getD, List.getElem?_eq_getElem h2] at hk;simp only [yE, List.getElem_map];simp at hk;rw [hk];rfl
 have ho := h.own;unfold rfC at ho;obtain ⟨n, hn2⟩ : ∃ n, n = R.way.kinds.length := ⟨_, rfl⟩
 rw [<- hn2] at ho h2;obtain ⟨q1, q2, q3⟩ := ho.at_;have l0 : (no : Int) < (n : Int) := by omega
 have l1 : ¬ (no : Int) < 1 := by omega
 have l2 : ¬ (n : Int) <= (no : Int) := by omega
 clear h ho hn2 c1 c2 c3 hk h1 h2;go_enter Tryz.func32, Tryz.ntmps32;go_wp2;go_ret;exact ⟨rfl, rfl⟩
set_option maxRecDepth 10000 in
set_option maxHeartbeats 2000000 in
theorem zLt (h : Ref w B p sk sr sf wk wr wf vd R) (hok : R.Ok) (hB : B <= w.heap.size) (no : Nat) (h1 : 1 <= no) (h2 : no < R.way.kinds.length) (hk : R.way.kinds.getD no 0 ≠ 255) (hfl9 : R.way.first < 100000) (hfl5 : ((R.laid no 255 (yI R.way.first)).more no).way.free.length <= 100000) (hf : R.way.free ≠ []) : Calls Tryz.prog 32 #[.pointer (some ⟨p, 0, none⟩), .int .i64 (no : Int)] w fun e w' => e = .returned (.int .i64 (if R.big [no, 0] then 10 else 0)) /\ gI w' B p (if R.big [no, 0] then R else R.relK no) /\ Chg (RT w B) w w' := by
 obtain ⟨i0, hi0, hz0, hz1, hz2⟩ := info_parts Po.info_in;have hrl : 0 < (xL R.way.rooms).length := by simp [xL]; exact hok.way.ne
 have hdl : 0 < (vL R.dirty).length := by simp [vL]; have := hok.dirty; have := hok.kw; omega
 obtain ⟨gk, kc, rfl⟩ := yU h.way.k (by simp [yE]; omega);obtain ⟨gr, rc, rfl⟩ := yU h.way.r hrl;obtain ⟨gd, dc, rfl⟩ := yU h.dirty hdl;obtain ⟨b1, b2, b3⟩ := uG (k := no) h.way.k (by simp [yE]; omega);obtain ⟨kn, hkn⟩ : ∃ kn : Int, kn = (R.way.kinds.getD no 0 : Int) := ⟨_, rfl⟩
 have cK : w.cell? ⟨gk, no, none⟩ = some (.int .i64 kn) := by
   rw [b1, hkn, List.getD_eq_getElem?_getD, List.getElem?_eq_getElem h2];simp [yE]
 have kne : ¬ kn = 255 := by omega
 have hno : no < R.dirty.length := by rw [hok.dirty]; have := hok.kw; omega
 have BG := Lh (fun W (hb : Below w.heap.size w W) => mV ((h.below hb).below (zF W 3 #[.int .i64 (no : Int), .int .i64 0])) [no, 0] (by simp) (fun x hx => by
   have hx : x = no \/ x = 0 := by simpa using hx
   rcases hx with rfl | rfl
   · exact hno
   · omega) (by have := hok.room; omega) (by rw [hok.dirty]; have := hok.most; omega) W.heap.size _ (Own.made W _ _) (vZ no))
 rw [show ([no, 0] : List Nat).length = 2 from rfl] at BG;have EQ := Lh (show R.relK no = ((R.laid no 255 (yI R.way.first)).more no).touch [no, 0] from rfl);have PT := Lh (fun W => show Calls Tryz.prog 96 #[.int .u64 (R.way.first : Int), .int .i64 4] W fun e w' => e = .returned (.string ⟨(zU R.way.first 4).toArray⟩) /\ Below W.heap.size W w' from fR R.way.first 4 W (by omega) (by omega));have z4 : (⟨(zU R.way.first 4).toArray⟩ : ByteArray).size = 4 := by rw [zW, zR]
 have FL := Lh (fun W => show Calls Tryz.prog 94 #[.string ⟨(zU R.way.first 4).toArray⟩, .int .i64 496] W fun e w' => e = .returned (.string (yI R.way.first)) /\ Below W.heap.size W w' from jB _ 496 W (by omega) (by decide));obtain ⟨T4, hT4⟩ : ∃ T4, T4 = (⟨(zU R.way.first 4).toArray⟩ : ByteArray) := ⟨_, rfl⟩
 rw [<- hT4] at PT FL;have u4 : IntKind.u64.wrap (R.way.first : Int) = (R.way.first : Int) := by rw [IntKind.wrap_u64]; omega
 have hfl : 0 < R.way.free.length := List.length_pos_iff.2 hf;obtain ⟨gf, fc, rfl⟩ := yU h.way.f (by simp [yE]; exact hfl);obtain ⟨m, hm⟩ : ∃ m, m + 1 = R.way.free.length := ⟨R.way.free.length - 1, by omega⟩
 obtain ⟨c1, c2, c3⟩ := uG (k := m) h.way.f (by simp [yE]; omega);have cF : w.cell? ⟨gf, m, none⟩ = some (.int .i64 (R.way.first : Int)) := by
   rw [c1];unfold RSt.first;rw [List.getLast?_eq_getElem?, List.getElem?_eq_getElem (by omega)];simp [yE, <- hm]
 have hw := hok.way;have TC := Lh (fun W {wk wr wf vd : Value} (hW : Ref W B p sk sr sf wk wr wf vd ((R.laid no 255 (yI R.way.first)).more no)) => gB (hW.below (zF W 3 #[.int .i64 (no : Int), .int .i64 0])) (show ((R.laid no 255 (yI R.way.first)).more no).way.Ok from by
   have a1 := hw.k;have a2 := hw.kr;have a3 := hw.ne;have a4 := hw.fl;exact ⟨by simp [RS.laid, RS.more]; omega, by simp [RS.laid, RS.more]; omega, by simp [RS.laid, RS.more]; omega, fun x hx => by
     have hx : x ∈ R.way.free \/ x = no := by simpa [RS.laid, RS.more] using hx
     rcases hx with hx | rfl
     · exact hw.f x hx
     · have := hok.kw; have := hok.most; have := hfl5; omega, hw.r, hfl5⟩) [no, 0] (by simp) (fun y hy => by
   have hy : y = no \/ y = 0 := by simpa using hy
   show y < R.dirty.length
   rcases hy with rfl | rfl
   · exact hno
   · omega) W.heap.size _ (Own.made W _ _) (vZ no))
 rw [show ([no, 0] : List Nat).length = 2 from rfl] at TC;have OK := Lh (And.intro hw.kr (And.intro hok.kw (And.intro hok.most (And.intro hok.dirty (And.intro hw.fl (And.intro h2 hno))))));obtain ⟨fi_, hfi⟩ : ∃ fi_, fi_ = R.way.first := ⟨_, rfl⟩
 obtain ⟨F, hF⟩ : ∃ F, F = yI R.way.first := ⟨_, rfl⟩
 rw [<- hF] at FL TC EQ;rw [<- hfi] at PT u4 cF;have ZB := Lh hB;have ho := h.own;have hfm := gV h.way.f;unfold maxLen at hfm;obtain ⟨fl_, hfl_⟩ : ∃ fl_, fl_ = R.way.free.length := ⟨_, rfl⟩
 rw [<- hfl_] at ho hfm h hm;have HFL := Lh hfl_;obtain ⟨n, hn⟩ : ∃ n, n = R.way.kinds.length := ⟨_, rfl⟩
 obtain ⟨rn, hrn⟩ : ∃ rn, rn = R.way.rooms.length := ⟨_, rfl⟩
 obtain ⟨dn, hdn⟩ : ∃ dn, dn = R.dirty.length := ⟨_, rfl⟩
 have HN := Lh (And.intro hn (And.intro hrn hdn));rw [<- hn, <- hrn, <- hdn] at ho h;have H := Lh h;unfold rfC at ho;have HO := Lh ho;obtain ⟨q1, q2, q3⟩ := ho.at_;have k2 : ¬ (no : Int) < 1 := by omega
 have k3 : ¬ (n : Int) <= (no : Int) := by omega
 have l0 : (no : Int) < (n : Int) := by omega
 have s1 : RowKit.wrap64 ((fl_ : Int) - 1) = (m : Int) := by simp [RowKit.wrap64]; omega
 have s2 : IntKind.i64.wrap ((fl_ : Int) - 1) = (m : Int) := by rw [IntKind.wrap_i64]; omega
 have l2 : (m : Int) < (fl_ : Int) := by omega
 have l5 : 0 < fl_ := by omega
 have hgz := c3;have CF := Lh (fun W (hW : Below w.heap.size w W) => (show W.cell? ⟨gf, m, none⟩ = some (.int .i64 (fi_ : Int)) from by rw [<- cF]; exact World.cell?_of_block (hW.block gf hgz)));clear hgz cF;clear h hok hB ho hF hrl hdl hno hw hdn hrn hkn b1 b2 b3 hk h1 h2 hfl9 hfl5 hT4 hfi hfm hfl_ hm hf hfl c1 c2 c3 hn;by_cases hbg : R.big [no, 0] = true
 · simp only [hbg, if_true] at BG ⊢;clear hbg EQ TC FL OK PT HN;go_enter Tryz.func32, Tryz.ntmps32;go_wp2_with (go_at_call 93; refine (BG.out _ (Below.refl _ _)).mono ?_; rintro e w2 ⟨rfl, hb2⟩; have B2 : Hid (Below w.heap.size w w2) := Lh (then_ (Below.alloc (Below.refl _ _) (Nat.le_refl _) _) hb2 (by simp)); clear hb2)
   go_ret;exact ⟨rfl, ⟨_, _, _, _, _, _, _, H.out.below B2.out⟩, Chg.of B2.out⟩
 · have hbg : R.big [no, 0] = false := by simpa using hbg
   simp only [hbg, Bool.false_eq_true, if_false] at BG ⊢;clear hbg;go_enter Tryz.func32, Tryz.ntmps32;go_upto_region 9 with (go_at_call 93; refine (BG.out _ (Below.refl _ _)).mono ?_; rintro e w2 ⟨rfl, hb2⟩; have B2 : Hid (Below w.heap.size w w2) := Lh (then_ (Below.alloc (Below.refl _ _) (Nat.le_refl _) _) hb2 (by simp)); clear hb2; obtain ⟨q1, q2, q3⟩ := (HO.out.keep B2.out).at_)
   refine zA (fun W => Below w.heap.size w W) (0 :: 1 :: 2 :: 3 :: 4 :: 5 :: 6 :: 7 :: 8 :: 9 :: 10 :: 11 :: 12 :: 13 :: 14 :: []) (4 :: 9 :: 13 :: []) (0 :: 1 :: 2 :: 3 :: 4 :: 5 :: 6 :: 7 :: 8 :: 9 :: 10 :: 11 :: 12 :: 13 :: 14 :: []) (by kernel_rfl) (by kernel_rfl) rfl (by kernel_rfl) rfl (B2.out.drew) (by simp only [zQ, List.filterMap_cons, List.filterMap_nil, List.getElem?_cons_zero, List.getElem?_cons_succ, Option.map_some]; exact rfl) ?_;iterate 15
     refine zC (v := ?_) rfl rfl (fun W hS => ?_) ?_;rotate_left
     · first
         | (conv => lhs; simp [go_sem, s1, s2, l2]
            first | done | exact rfl)
         | (have hS := hS rfl
            obtain ⟨q1, q2, q3⟩ := (HO.out.keep hS).at_;have kc := CF.out _ hS;conv => lhs; simp [go_sem, *, s1, s2, l2]
            first | done | exact rfl)
     simp only [Act.put, lA, lZ, lS]
   refine zN ?_;have H3 := Lh (H.out.below B2.out.drew);have C3 : Hid (Chg (RT w B) w w2.drew) := Lh (Chg.of B2.out.drew);clear q1 q2 q3;have O2 := H3.out.own;unfold rfC at O2;obtain ⟨q1, q2, q3⟩ := O2.at_;clear O2;go_upto_region 10 with fail;go_name_world W3 hW3;rw [hW3] at H3 C3;clear hW3 q1 q2 q3;obtain ⟨G, hG⟩ : ∃ G, G = R := ⟨_, rfl⟩
   have EQ2 : Hid (R.relK no = ((G.laid no 255 F).more no).touch [no, 0]) := Lh (by rw [hG]; exact EQ.out);clear EQ;have EQ := EQ2;clear EQ2;rw [<- hG] at H3 TC HN HFL;have LN := Lh (show no < n /\ no < rn /\ no < dn by
     have a2 := OK.out;have a3 := HN.out;rw [hG] at a3;omega)
   have FLM := Lh (show G.way.free.length <= 100000 by rw [hG]; exact OK.out.2.2.2.2.1);clear OK BG H;have O3 := H3.out.own;unfold rfC at O3;obtain ⟨r1, r2, r3⟩ := O3.at_;obtain ⟨k1, k2, k3⟩ := uG (k := no) (by have := H3.out.way.k; rw [<- HN.out.1] at this; exact this) (by simp [yE]; rw [<- HN.out.1]; exact LN.out.1);obtain ⟨x0, hx0⟩ : ∃ x0, W3.cell? ⟨gk, no, none⟩ = some x0 := ⟨_, k1⟩
   have l0 : (no : Int) < (n : Int) := by have := LN.out.1; omega
   have H4 := Lh (H3.out.setKind HN.out.1 no 255);have C4 : Chg (RT w B) w (W3.setCell ⟨gk, no, none⟩ (.int .i64 ((255 : Nat) : Int))) := yF C3.out (by obtain ⟨e1, c, e2⟩ := yC H3.out.way.k rfl; exact vT e1 e2 (.inr (.inl rfl)));replace C4 := Lh C4;clear k1;go_upto_region 11 with fail;go_name_world W4 hW4;first
     | rw [hW4] at H4 C4
     | (rw [show (W3.setCell ⟨gk, no, none⟩ (.int .i64 ((255 : Nat) : Int))) = W4 from hW4] at H4 C4)
   clear hW4 r1 r2 r3 k2 k3 hx0 O3 H3 C3;have O4 := H4.out.own;unfold rfC at O4;replace O4 := Lh O4;have FIN : Hid (∀ W, Below W4.heap.size W4 W -> (∃ x, W.cell? ⟨gr, no, none⟩ = some x) /\ W.frozen? ⟨gr, no, none⟩ = false /\ Ref (W.setCell ⟨gr, no, none⟩ (.string F)) B p sk sr sf (.slice (some ⟨gk, 0, none⟩) n kc) (.slice (some ⟨gr, 0, none⟩) rn rc) (.slice (some ⟨gf, 0, none⟩) fl_ fc) (.slice (some ⟨gd, 0, none⟩) dn dc) (G.laid no 255 F) /\ Chg (RT w B) w (W.setCell ⟨gr, no, none⟩ (.string F))) := Lh fun W hW => by
     have Hb := H4.out.below hW;obtain ⟨k1, k2, k3⟩ := uG (k := no) (by have := Hb.way.r; rw [show ({ G.way with kinds := G.way.kinds.set no 255 } : RSt).rooms.length = rn from HN.out.2.1.symm] at this; exact this) (by simp [xL]; rw [<- HN.out.2.1]; exact LN.out.2.1);refine ⟨⟨_, k1⟩, k2, Hb.setRoom HN.out.2.1 no F, ?_⟩;refine yF (C4.out.trans (Chg.of (S := fun _ => False) hW) fun b _ e => e.elim) ?_;obtain ⟨e1, c, e2⟩ := yC Hb.way.r rfl;exact vT e1 e2 (.inr (.inr (.inl rfl)))
   have l1 : (no : Int) < (rn : Int) := by have := LN.out.2.1; omega
   refine zA (fun W => Own W p 61 #[.int .i64 (G.most : Int), .int .i64 (G.room : Int), sk, sr, sf, .int .u64 (G.sure.roots 0 : Int), .int .u64 (G.sure.roots 1 : Int), .int .u64 (G.sure.roots 2 : Int), .int .u64 (G.sure.roots 3 : Int), .int .u64 (G.sure.roots 4 : Int), .int .u64 (G.sure.roots 5 : Int), .int .u64 (G.sure.roots 6 : Int), .int .u64 (G.sure.roots 7 : Int), .slice (some ⟨gk, 0, none⟩) n kc, .slice (some ⟨gr, 0, none⟩) rn rc, .slice (some ⟨gf, 0, none⟩) fl_ fc, .int .u64 (G.way.roots 0 : Int), .int .u64 (G.way.roots 1 : Int), .int .u64 (G.way.roots 2 : Int), .int .u64 (G.way.roots 3 : Int), .int .u64 (G.way.roots 4 : Int), .int .u64 (G.way.roots 5 : Int), .int .u64 (G.way.roots 6 : Int), .int .u64 (G.way.roots 7 : Int), .slice (some ⟨gd, 0, none⟩) dn dc]) (0 :: 1 :: 2 :: 3 :: 4 :: 5 :: 6 :: 7 :: 10 :: []) (4 :: []) (0 :: 1 :: 2 :: 3 :: 4 :: 5 :: 6 :: 7 :: 8 :: 9 :: 10 :: 11 :: []) (by kernel_rfl) (by kernel_rfl) rfl (by kernel_rfl) rfl (O4.out.drawn) (by simp only [zQ, List.filterMap_cons, List.filterMap_nil, List.getElem?_cons_zero, List.getElem?_cons_succ, Option.map_some]; exact rfl) ?_;iterate 8
     refine zC (v := ?_) rfl rfl (fun W hS => ?_) ?_;rotate_left
     · first
         | (conv => lhs; simp [go_sem, l1, u4]
            first | done | exact rfl)
         | (have hS := hS rfl
            obtain ⟨q1, q2, q3⟩ := Own.at_ hS;conv => lhs; simp [go_sem, *, l1, u4]
            first | done | exact rfl)
     simp only [Act.put, lA, lZ, lS]
   refine zK rfl rfl fun K hK => ?_
   go_wp2_with (go_at_call 96; refine (PT.out _).mono ?_; rintro e w8 ⟨rfl, hb8⟩)
   have B8 := Lh (then_ ((Below.refl W4.heap.size W4).drew) hb8 (Nat.le_refl _));refine hK _ _ (O4.out.keep B8.out) ?_;clear hK K hb8;refine zK rfl rfl fun K hK => ?_
   go_wp2_with (go_at_call 94; refine (FL.out _).mono ?_; rintro e w5 ⟨rfl, hb5⟩)
   have B5 := Lh (then_ (B8.out) hb5 B8.out.size);refine hK _ _ (O4.out.keep B5.out) ?_;clear hK K hb5;iterate 1
     refine zC (v := ?_) rfl rfl (fun W hS => ?_) ?_;rotate_left
     · first
         | (conv => lhs; simp [go_sem, l1, u4]
            first | done | exact rfl)
         | (have hS := hS rfl
            obtain ⟨q1, q2, q3⟩ := Own.at_ hS;conv => lhs; simp [go_sem, *, l1, u4]
            first | done | exact rfl)
     simp only [Act.put, lA, lZ, lS]
   obtain ⟨⟨x1, hx1⟩, hx2, z1, z2⟩ := FIN.out w5 B5.out;have Z1 := Lh z1;have Z2 := Lh z2;clear z1 z2;refine xQ rfl rfl (by kernel_rfl) rfl fun K hK => ?_
   go_wp2;refine hK _ _ ?_;clear hK K hx1 hx2;refine zN ?_;go_upto_region 12 with fail;go_name_world W6 hW6;rw [hW6] at Z1 Z2;clear hW6;have K6 : Hid (W6.ownsRow B 3 1 (.slice (some ⟨gf, 0, none⟩) fl_ fc) fl_ (yE G.way.free)) := Lh (by have := Z1.out.way.f; rw [show (G.laid no 255 F).way.free.length = fl_ from HFL.out.symm] at this; exact this);have zB6 : Hid (B <= W6.heap.size) := Lh (Nat.le_trans ZB.out Z2.out.size);have q1 := Z1.out.own;unfold rfC at q1;obtain ⟨q1, q2, q3⟩ := q1.at_;go_upto_region 13 with (at_builtin; refine wpList_append_own_at _ rfl _ _ 33 rfl B 3 i0 (.int .i64 0) 1 8 Tryz.underlying33 hi0 hz0 hz1 hz2 rfl (by decide) (.slice (some ⟨gf, 0, none⟩) fl_ fc) fl_ (yE G.way.free) rfl (K6.out.alloc _) ⟨W6.heap.size, 0, none⟩ 1 1 [.int .i64 (no : Int)] rfl rfl (fun j u hu => Po.one_cell _ _ _ _ hu) (by intro u hu; simp at hu; subst hu; rfl) (by have := FLM.out; have := HFL.out; unfold maxLen; omega) (by have := FLM.out; have := HFL.out; omega) (by have := zB6.out; simp; omega) ?_; intro v1 y1 hown hgr _ hv1; have h9 : y1.ownsRow B 3 1 v1 ((G.laid no 255 F).way.free.length + 1) (yE (G.laid no 255 F).way.free ++ [.int .i64 (no : Int)]) := (by rw [show (G.laid no 255 F).way.free.length = fl_ from HFL.out.symm]; exact hown); obtain ⟨a1, c1, rfl, -, -⟩ := zO hown; have X3 := Lh (Z1.out.pushFree (x := no) h9 hgr hv1); clear h9 hown hgr hv1 q1 q2 q3; have q1 := X3.out.1; unfold rfC at q1; obtain ⟨q1, q2, q3⟩ := q1.at_)
   have Y1 := X3.out.2.1;have Y2 := yF Z2.out X3.out.2.2;go_name_world W7 hW7;rw [hW7] at Y1 Y2;clear hW7 X3 q1 q2 q3 Z1 Z2 K6 zB6;have Z1 := Lh Y1;have Z2 := Lh Y2;clear Y1 Y2;go_wp2_with (go_at_call 95; refine (TC.out _ Z1.out).mono ?_; rintro e w9 ⟨rfl, h7, hc7⟩; have H7 := Lh h7; have C7 := Lh (yF (Z2.out.trans (Chg.of (S := fun _ => False) (zF W7 3 #[.int .i64 (no : Int), .int .i64 0])) fun b _ e => e.elim) hc7); clear h7 hc7)
   go_ret;exact ⟨rfl, ⟨_, _, _, _, _, _, _, by rw [EQ.out]; exact H7.out⟩, C7.out⟩
set_option maxRecDepth 10000 in
set_option maxHeartbeats 2000000 in
theorem zKg (h : Ref w B p sk sr sf wk wr wf vd R) (hok : R.Ok) (hB : B <= w.heap.size) (no : Nat) (h1 : 1 <= no) (h2 : no < R.way.kinds.length) (hk : R.way.kinds.getD no 0 ≠ 255) (hfl9 : R.way.first < 100000) (hfl5 : ((R.laid no 255 (yI R.way.first)).more no).way.free.length <= 100000) (hf : R.way.free = []) : Calls Tryz.prog 32 #[.pointer (some ⟨p, 0, none⟩), .int .i64 (no : Int)] w fun e w' => e = .returned (.int .i64 (if R.big [no, 0] then 10 else 0)) /\ gI w' B p (if R.big [no, 0] then R else R.relK no) /\ Chg (RT w B) w w' := by
 obtain ⟨i0, hi0, hz0, hz1, hz2⟩ := info_parts Po.info_in;have hrl : 0 < (xL R.way.rooms).length := by simp [xL]; exact hok.way.ne
 have hdl : 0 < (vL R.dirty).length := by simp [vL]; have := hok.dirty; have := hok.kw; omega
 obtain ⟨gk, kc, rfl⟩ := yU h.way.k (by simp [yE]; omega);obtain ⟨gr, rc, rfl⟩ := yU h.way.r hrl;obtain ⟨gd, dc, rfl⟩ := yU h.dirty hdl;obtain ⟨b1, b2, b3⟩ := uG (k := no) h.way.k (by simp [yE]; omega);obtain ⟨kn, hkn⟩ : ∃ kn : Int, kn = (R.way.kinds.getD no 0 : Int) := ⟨_, rfl⟩
 have cK : w.cell? ⟨gk, no, none⟩ = some (.int .i64 kn) := by
   rw [b1, hkn, List.getD_eq_getElem?_getD, List.getElem?_eq_getElem h2];simp [yE]
 have kne : ¬ kn = 255 := by omega
 have hno : no < R.dirty.length := by rw [hok.dirty]; have := hok.kw; omega
 have BG := Lh (fun W (hb : Below w.heap.size w W) => mV ((h.below hb).below (zF W 3 #[.int .i64 (no : Int), .int .i64 0])) [no, 0] (by simp) (fun x hx => by
   have hx : x = no \/ x = 0 := by simpa using hx
   rcases hx with rfl | rfl
   · exact hno
   · omega) (by have := hok.room; omega) (by rw [hok.dirty]; have := hok.most; omega) W.heap.size _ (Own.made W _ _) (vZ no))
 rw [show ([no, 0] : List Nat).length = 2 from rfl] at BG;have EQ := Lh (show R.relK no = ((R.laid no 255 (yI R.way.first)).more no).touch [no, 0] from rfl);have PT := Lh (fun W => show Calls Tryz.prog 96 #[.int .u64 (R.way.first : Int), .int .i64 4] W fun e w' => e = .returned (.string ⟨(zU R.way.first 4).toArray⟩) /\ Below W.heap.size W w' from fR R.way.first 4 W (by omega) (by omega));have z4 : (⟨(zU R.way.first 4).toArray⟩ : ByteArray).size = 4 := by rw [zW, zR]
 have FL := Lh (fun W => show Calls Tryz.prog 94 #[.string ⟨(zU R.way.first 4).toArray⟩, .int .i64 496] W fun e w' => e = .returned (.string (yI R.way.first)) /\ Below W.heap.size W w' from jB _ 496 W (by omega) (by decide));obtain ⟨T4, hT4⟩ : ∃ T4, T4 = (⟨(zU R.way.first 4).toArray⟩ : ByteArray) := ⟨_, rfl⟩
 rw [<- hT4] at PT FL;have u4 : IntKind.u64.wrap (R.way.first : Int) = (R.way.first : Int) := by rw [IntKind.wrap_u64]; omega
 obtain ⟨fa, fc, rfl, -, -⟩ := zO h.way.f;have hf0 : R.way.first = 0 := by unfold RSt.first; rw [hf]; rfl
 have hw := hok.way;have TC := Lh (fun W {wk wr wf vd : Value} (hW : Ref W B p sk sr sf wk wr wf vd ((R.laid no 255 (yI R.way.first)).more no)) => gB (hW.below (zF W 3 #[.int .i64 (no : Int), .int .i64 0])) (show ((R.laid no 255 (yI R.way.first)).more no).way.Ok from by
   have a1 := hw.k;have a2 := hw.kr;have a3 := hw.ne;have a4 := hw.fl;exact ⟨by simp [RS.laid, RS.more]; omega, by simp [RS.laid, RS.more]; omega, by simp [RS.laid, RS.more]; omega, fun x hx => by
     have hx : x ∈ R.way.free \/ x = no := by simpa [RS.laid, RS.more] using hx
     rcases hx with hx | rfl
     · exact hw.f x hx
     · have := hok.kw; have := hok.most; have := hfl5; omega, hw.r, hfl5⟩) [no, 0] (by simp) (fun y hy => by
   have hy : y = no \/ y = 0 := by simpa using hy
   show y < R.dirty.length
   rcases hy with rfl | rfl
   · exact hno
   · omega) W.heap.size _ (Own.made W _ _) (vZ no))
 rw [show ([no, 0] : List Nat).length = 2 from rfl] at TC;have OK := Lh (And.intro hw.kr (And.intro hok.kw (And.intro hok.most (And.intro hok.dirty (And.intro hw.fl (And.intro h2 hno))))));obtain ⟨fi_, hfi⟩ : ∃ fi_, fi_ = R.way.first := ⟨_, rfl⟩
 obtain ⟨F, hF⟩ : ∃ F, F = yI R.way.first := ⟨_, rfl⟩
 rw [<- hF] at FL TC EQ;rw [<- hfi] at PT u4 hf0;have ZB := Lh hB;have ho := h.own;have hfm := gV h.way.f;unfold maxLen at hfm;obtain ⟨fl_, hfl_⟩ : ∃ fl_, fl_ = R.way.free.length := ⟨_, rfl⟩
 rw [<- hfl_] at ho hfm h;have fl0 : fl_ = 0 := by rw [hfl_, hf]; rfl
 subst fl0;have HFL := Lh hfl_;obtain ⟨n, hn⟩ : ∃ n, n = R.way.kinds.length := ⟨_, rfl⟩
 obtain ⟨rn, hrn⟩ : ∃ rn, rn = R.way.rooms.length := ⟨_, rfl⟩
 obtain ⟨dn, hdn⟩ : ∃ dn, dn = R.dirty.length := ⟨_, rfl⟩
 have HN := Lh (And.intro hn (And.intro hrn hdn));rw [<- hn, <- hrn, <- hdn] at ho h;have H := Lh h;unfold rfC at ho;have HO := Lh ho;obtain ⟨q1, q2, q3⟩ := ho.at_;have k2 : ¬ (no : Int) < 1 := by omega
 have k3 : ¬ (n : Int) <= (no : Int) := by omega
 have l0 : (no : Int) < (n : Int) := by omega
 clear h hok hB ho hF hrl hdl hno hw hdn hrn hkn b1 b2 b3 hk h1 h2 hfl9 hfl5 hT4 hfi hfm hfl_ hf hn;by_cases hbg : R.big [no, 0] = true
 · simp only [hbg, if_true] at BG ⊢;clear hbg EQ TC FL OK PT HN;go_enter Tryz.func32, Tryz.ntmps32;go_wp2_with (go_at_call 93; refine (BG.out _ (Below.refl _ _)).mono ?_; rintro e w2 ⟨rfl, hb2⟩; have B2 : Hid (Below w.heap.size w w2) := Lh (then_ (Below.alloc (Below.refl _ _) (Nat.le_refl _) _) hb2 (by simp)); clear hb2)
   go_ret;exact ⟨rfl, ⟨_, _, _, _, _, _, _, H.out.below B2.out⟩, Chg.of B2.out⟩
 · have hbg : R.big [no, 0] = false := by simpa using hbg
   simp only [hbg, Bool.false_eq_true, if_false] at BG ⊢;clear hbg;go_enter Tryz.func32, Tryz.ntmps32;go_upto_region 10 with (go_at_call 93; refine (BG.out _ (Below.refl _ _)).mono ?_; rintro e w2 ⟨rfl, hb2⟩; have B2 : Hid (Below w.heap.size w w2) := Lh (then_ (Below.alloc (Below.refl _ _) (Nat.le_refl _) _) hb2 (by simp)); clear hb2; obtain ⟨q1, q2, q3⟩ := (HO.out.keep B2.out).at_)
   have H3 := Lh (H.out.below B2.out);have C3 : Hid (Chg (RT w B) w w2) := Lh (Chg.of B2.out);go_name_world W3 hW3;rw [hW3] at H3 C3;clear hW3 q1 q2 q3;subst hf0;obtain ⟨G, hG⟩ : ∃ G, G = R := ⟨_, rfl⟩
   have EQ2 : Hid (R.relK no = ((G.laid no 255 F).more no).touch [no, 0]) := Lh (by rw [hG]; exact EQ.out);clear EQ;have EQ := EQ2;clear EQ2;rw [<- hG] at H3 TC HN HFL;have LN := Lh (show no < n /\ no < rn /\ no < dn by
     have a2 := OK.out;have a3 := HN.out;rw [hG] at a3;omega)
   have FLM := Lh (show G.way.free.length <= 100000 by rw [hG]; exact OK.out.2.2.2.2.1);clear OK BG H;have O3 := H3.out.own;unfold rfC at O3;obtain ⟨r1, r2, r3⟩ := O3.at_;obtain ⟨k1, k2, k3⟩ := uG (k := no) (by have := H3.out.way.k; rw [<- HN.out.1] at this; exact this) (by simp [yE]; rw [<- HN.out.1]; exact LN.out.1);obtain ⟨x0, hx0⟩ : ∃ x0, W3.cell? ⟨gk, no, none⟩ = some x0 := ⟨_, k1⟩
   have l0 : (no : Int) < (n : Int) := by have := LN.out.1; omega
   have H4 := Lh (H3.out.setKind HN.out.1 no 255);have C4 : Chg (RT w B) w (W3.setCell ⟨gk, no, none⟩ (.int .i64 ((255 : Nat) : Int))) := yF C3.out (by obtain ⟨e1, c, e2⟩ := yC H3.out.way.k rfl; exact vT e1 e2 (.inr (.inl rfl)));replace C4 := Lh C4;clear k1;go_upto_region 11 with fail;go_name_world W4 hW4;first
     | rw [hW4] at H4 C4
     | (rw [show (W3.setCell ⟨gk, no, none⟩ (.int .i64 ((255 : Nat) : Int))) = W4 from hW4] at H4 C4)
   clear hW4 r1 r2 r3 k2 k3 hx0 O3 H3 C3;have O4 := H4.out.own;unfold rfC at O4;replace O4 := Lh O4;have FIN : Hid (∀ W, Below W4.heap.size W4 W -> (∃ x, W.cell? ⟨gr, no, none⟩ = some x) /\ W.frozen? ⟨gr, no, none⟩ = false /\ Ref (W.setCell ⟨gr, no, none⟩ (.string F)) B p sk sr sf (.slice (some ⟨gk, 0, none⟩) n kc) (.slice (some ⟨gr, 0, none⟩) rn rc) (.slice fa 0 fc) (.slice (some ⟨gd, 0, none⟩) dn dc) (G.laid no 255 F) /\ Chg (RT w B) w (W.setCell ⟨gr, no, none⟩ (.string F))) := Lh fun W hW => by
     have Hb := H4.out.below hW;obtain ⟨k1, k2, k3⟩ := uG (k := no) (by have := Hb.way.r; rw [show ({ G.way with kinds := G.way.kinds.set no 255 } : RSt).rooms.length = rn from HN.out.2.1.symm] at this; exact this) (by simp [xL]; rw [<- HN.out.2.1]; exact LN.out.2.1);refine ⟨⟨_, k1⟩, k2, Hb.setRoom HN.out.2.1 no F, ?_⟩;refine yF (C4.out.trans (Chg.of (S := fun _ => False) hW) fun b _ e => e.elim) ?_;obtain ⟨e1, c, e2⟩ := yC Hb.way.r rfl;exact vT e1 e2 (.inr (.inr (.inl rfl)))
   have l1 : (no : Int) < (rn : Int) := by have := LN.out.2.1; omega
   refine zA (fun W => Own W p 61 #[.int .i64 (G.most : Int), .int .i64 (G.room : Int), sk, sr, sf, .int .u64 (G.sure.roots 0 : Int), .int .u64 (G.sure.roots 1 : Int), .int .u64 (G.sure.roots 2 : Int), .int .u64 (G.sure.roots 3 : Int), .int .u64 (G.sure.roots 4 : Int), .int .u64 (G.sure.roots 5 : Int), .int .u64 (G.sure.roots 6 : Int), .int .u64 (G.sure.roots 7 : Int), .slice (some ⟨gk, 0, none⟩) n kc, .slice (some ⟨gr, 0, none⟩) rn rc, .slice fa 0 fc, .int .u64 (G.way.roots 0 : Int), .int .u64 (G.way.roots 1 : Int), .int .u64 (G.way.roots 2 : Int), .int .u64 (G.way.roots 3 : Int), .int .u64 (G.way.roots 4 : Int), .int .u64 (G.way.roots 5 : Int), .int .u64 (G.way.roots 6 : Int), .int .u64 (G.way.roots 7 : Int), .slice (some ⟨gd, 0, none⟩) dn dc]) (0 :: 1 :: 2 :: 3 :: 4 :: 5 :: 6 :: 7 :: 10 :: []) (4 :: []) (0 :: 1 :: 2 :: 3 :: 4 :: 5 :: 6 :: 7 :: 8 :: 9 :: 10 :: 11 :: []) (by kernel_rfl) (by kernel_rfl) rfl (by kernel_rfl) rfl (O4.out.drawn) (by simp only [zQ, List.filterMap_cons, List.filterMap_nil, List.getElem?_cons_zero, List.getElem?_cons_succ, Option.map_some]; exact rfl) ?_;iterate 8
     refine zC (v := ?_) rfl rfl (fun W hS => ?_) ?_;rotate_left
     · first
         | (conv => lhs; simp [go_sem, l1, u4]
            first | done | exact rfl)
         | (have hS := hS rfl
            obtain ⟨q1, q2, q3⟩ := Own.at_ hS;conv => lhs; simp [go_sem, *, l1, u4]
            first | done | exact rfl)
     simp only [Act.put, lA, lZ, lS]
   refine zK rfl rfl fun K hK => ?_
   go_wp2_with (go_at_call 96; refine (PT.out _).mono ?_; rintro e w8 ⟨rfl, hb8⟩)
   have B8 := Lh (then_ ((Below.refl W4.heap.size W4).drew) hb8 (Nat.le_refl _));refine hK _ _ (O4.out.keep B8.out) ?_;clear hK K hb8;refine zK rfl rfl fun K hK => ?_
   go_wp2_with (go_at_call 94; refine (FL.out _).mono ?_; rintro e w5 ⟨rfl, hb5⟩)
   have B5 := Lh (then_ (B8.out) hb5 B8.out.size);refine hK _ _ (O4.out.keep B5.out) ?_;clear hK K hb5;iterate 1
     refine zC (v := ?_) rfl rfl (fun W hS => ?_) ?_;rotate_left
     · first
         | (conv => lhs; simp [go_sem, l1, u4]
            first | done | exact rfl)
         | (have hS := hS rfl
            obtain ⟨q1, q2, q3⟩ := Own.at_ hS;conv => lhs; simp [go_sem, *, l1, u4]
            first | done | exact rfl)
     simp only [Act.put, lA, lZ, lS]
   obtain ⟨⟨x1, hx1⟩, hx2, z1, z2⟩ := FIN.out w5 B5.out;have Z1 := Lh z1;have Z2 := Lh z2;clear z1 z2;refine xQ rfl rfl (by kernel_rfl) rfl fun K hK => ?_
   go_wp2;refine hK _ _ ?_;clear hK K hx1 hx2;refine zN ?_;go_upto_region 12 with fail;go_name_world W6 hW6;rw [hW6] at Z1 Z2;clear hW6;have K6 : Hid (W6.ownsRow B 3 1 (.slice fa 0 fc) 0 (yE G.way.free)) := Lh (by have := Z1.out.way.f; rw [show (G.laid no 255 F).way.free.length = 0 from HFL.out.symm] at this; exact this);have zB6 : Hid (B <= W6.heap.size) := Lh (Nat.le_trans ZB.out Z2.out.size);have q1 := Z1.out.own;unfold rfC at q1;obtain ⟨q1, q2, q3⟩ := q1.at_;go_upto_region 13 with (at_builtin; refine wpList_append_own_at _ rfl _ _ 33 rfl B 3 i0 (.int .i64 0) 1 8 Tryz.underlying33 hi0 hz0 hz1 hz2 rfl (by decide) (.slice fa 0 fc) 0 (yE G.way.free) rfl (K6.out.alloc _) ⟨W6.heap.size, 0, none⟩ 1 1 [.int .i64 (no : Int)] rfl rfl (fun j u hu => Po.one_cell _ _ _ _ hu) (by intro u hu; simp at hu; subst hu; rfl) (by have := FLM.out; have := HFL.out; unfold maxLen; omega) (by have := FLM.out; have := HFL.out; omega) (by have := zB6.out; simp; omega) ?_; intro v1 y1 hown hgr _ hv1; have h9 : y1.ownsRow B 3 1 v1 ((G.laid no 255 F).way.free.length + 1) (yE (G.laid no 255 F).way.free ++ [.int .i64 (no : Int)]) := (by rw [show (G.laid no 255 F).way.free.length = 0 from HFL.out.symm]; exact hown); obtain ⟨a1, c1, rfl, -, -⟩ := zO hown; have X3 := Lh (Z1.out.pushFree (x := no) h9 hgr hv1); clear h9 hown hgr hv1 q1 q2 q3; have q1 := X3.out.1; unfold rfC at q1; obtain ⟨q1, q2, q3⟩ := q1.at_)
   have Y1 := X3.out.2.1;have Y2 := yF Z2.out X3.out.2.2;go_name_world W7 hW7;rw [hW7] at Y1 Y2;clear hW7 X3 q1 q2 q3 Z1 Z2 K6 zB6;have Z1 := Lh Y1;have Z2 := Lh Y2;clear Y1 Y2;go_wp2_with (go_at_call 95; refine (TC.out _ Z1.out).mono ?_; rintro e w9 ⟨rfl, h7, hc7⟩; have H7 := Lh h7; have C7 := Lh (yF (Z2.out.trans (Chg.of (S := fun _ => False) (zF W7 3 #[.int .i64 (no : Int), .int .i64 0])) fun b _ e => e.elim) hc7); clear h7 hc7)
   go_ret;exact ⟨rfl, ⟨_, _, _, _, _, _, _, by rw [EQ.out]; exact H7.out⟩, C7.out⟩
end
end Go.Proofs.YtndhmidgnpobjaaGreatDoor
