import Derived.Test.YtndhmidgnpobjaaGreatDoorPgtL
import Derived.BigQuiet
set_option linter.unusedVariables false
set_option linter.unusedSimpArgs false
namespace Go.Proofs.YtndhmidgnpobjaaGreatDoor
open Go.ChangeShapes Go.WideShapes Go.ChangeAt Go.RowKit
theorem zMm {w : World} {B n cap g : Nat} {T : TypeId} {l : List Value} (h : w.ownsRow B T 1 (.slice (some ⟨g, 0, none⟩) n cap) n l) : n <= cap := by
 rcases h.2 with ⟨h, -⟩ | ⟨g', cap', cur, e1, h1, h2, h3, h4, h5, h6⟩
 · cases h
 · injection e1 with e1 e2 e3;subst e3;omega
theorem vZ (a : Nat) : ∀ (k y : Nat), ([a, 0] : List Nat)[k]? = some y -> (#[.int .i64 (a : Int), .int .i64 0] : Array Value)[k]? = some (.int .i64 (y : Int)) := fun k y hy => by
 rcases k with _ | _ | k
 · simp at hy; subst hy; rfl
 · simp at hy; subst hy; rfl
 · simp at hy
section
variable {w w' : World} {B p : Nat} {sk sr sf wk wr wf vd : Value} {R : RS}
theorem zDa (h : Ref w B p sk sr sf wk wr wf vd R) (k : Int) (hk : k < 2 \/ 254 < k) : Calls Tryz.prog 29 #[.pointer (some ⟨p, 0, none⟩), .int .i64 k] w fun e w' => e = .returned (.tuple #[.int .i64 0, .int .i64 1]) /\ w = w' := by
 rcases hk with hk | hk
 · go_enter Tryz.func29, Tryz.ntmps29;go_wp2;go_ret2;exact ⟨rfl, rfl⟩
 · have h0 : ¬ k < 2 := by omega
   go_enter Tryz.func29, Tryz.ntmps29;go_wp2;go_ret2;exact ⟨rfl, rfl⟩
theorem zCj (h : Ref w B p sk sr sf wk wr wf vd R) (k : Int) (h2 : ¬ k < 2) (h3 : ¬ 254 < k) (hf : R.way.free = []) (hm : R.most <= R.way.kinds.length) : Calls Tryz.prog 29 #[.pointer (some ⟨p, 0, none⟩), .int .i64 k] w fun e w' => e = .returned (.tuple #[.int .i64 0, .int .i64 8]) /\ w = w' := by
 obtain ⟨ka, kc, rfl, -, -⟩ := zO h.way.k;obtain ⟨fa, fc, rfl, -, -⟩ := zO h.way.f;have ho := h.own;rw [hf] at ho;unfold rfC at ho;obtain ⟨n, hn⟩ : ∃ n, n = R.way.kinds.length := ⟨_, rfl⟩
 rw [<- hn] at ho hm;obtain ⟨q1, q2, q3⟩ := ho.at_;clear h ho hn hf;go_enter Tryz.func29, Tryz.ntmps29;go_wp2;go_ret2;exact ⟨rfl, rfl⟩
set_option maxRecDepth 10000 in
set_option maxHeartbeats 2000000 in
theorem zEg (h : Ref w B p sk sr sf wk wr wf vd R) (hok : R.Ok) (hB : B <= w.heap.size) (k : Nat) (h2 : 2 <= k) (h3 : k <= 254) (hf : R.way.free ≠ []) (hlt : R.way.first < R.way.kinds.length) : Calls Tryz.prog 29 #[.pointer (some ⟨p, 0, none⟩), .int .i64 (k : Int)] w fun e w' => e = .returned (.tuple #[.int .i64 ((if R.big [R.alNo, 0] then 0 else R.alNo : Nat) : Int), .int .i64 (if R.big [R.alNo, 0] then 10 else 0)]) /\ gI w' B p (if R.big [R.alNo, 0] then R else R.alK k) /\ Chg (RT w B) w w' := by
 have eno : R.alNo = R.way.first := if_neg hf;have hkl : 0 < (yE R.way.kinds).length := by simp [yE]; have := hok.way.ne; have := hok.way.kr; omega
 have hrl : 0 < (xL R.way.rooms).length := by simp [xL]; exact hok.way.ne
 have hdl : 0 < (vL R.dirty).length := by simp [vL]; have := hok.dirty; have := hok.kw; have := hok.way.ne; have := hok.way.kr; omega
 obtain ⟨gk, kc, rfl⟩ := yU h.way.k hkl;obtain ⟨gr, rc, rfl⟩ := yU h.way.r hrl;obtain ⟨gd, dc, rfl⟩ := yU h.dirty hdl;have hno : R.alNo < R.dirty.length := by rw [eno, hok.dirty]; have := hok.kw; omega
 have BG := Lh (fun W (hb : Below w.heap.size w W) => mV ((h.below hb).below (zF W 3 #[.int .i64 (R.alNo : Int), .int .i64 0])) [R.alNo, 0] (by simp) (fun x hx => by
   have hx : x = R.alNo \/ x = 0 := by simpa using hx
   rcases hx with rfl | rfl
   · exact hno
   · omega) (by have := hok.room; omega) (by rw [hok.dirty]; have := hok.most; omega) W.heap.size _ (Own.made W _ _) (vZ R.alNo))
 rw [show ([R.alNo, 0] : List Nat).length = 2 from rfl] at BG;have EG : R.alK k = (R.grow.laid R.alNo k (fl ⟨#[]⟩)).touch [R.alNo, 0] := rfl;have FL := Lh (fun W => show Calls Tryz.prog 94 #[.string ⟨#[]⟩, .int .i64 496] W fun e w' => e = .returned (.string (fl ⟨#[]⟩)) /\ Below W.heap.size W w' from jB ⟨#[]⟩ 496 W (by decide) (by decide));have hfl : 0 < R.way.free.length := List.length_pos_iff.2 hf;obtain ⟨gf, fc, rfl⟩ := yU h.way.f (by simp [yE]; exact hfl);obtain ⟨m, hm⟩ : ∃ m, m + 1 = R.way.free.length := ⟨R.way.free.length - 1, by omega⟩
 obtain ⟨c1, c2, c3⟩ := uG (k := m) h.way.f (by simp [yE]; omega);have cF : w.cell? ⟨gf, m, none⟩ = some (.int .i64 (R.alNo : Int)) := by
   rw [c1, eno];unfold RSt.first;rw [List.getLast?_eq_getElem?, List.getElem?_eq_getElem (by omega)];simp [yE, <- hm]
 have hgrow : R.grow = { R with way := { R.way with free := R.way.free.take m } } := by unfold RS.grow; rw [if_neg hf, show R.way.free.length - 1 = m by omega]
 have hfm := gV h.way.f;unfold maxLen at hfm;rw [hgrow] at EG;have hw := hok.way;have hkw := hok.kw;have hmo := hok.most;have hdd := hok.dirty;have TC := Lh (fun W {wk wr wf vd : Value} (hW : Ref W B p sk sr sf wk wr wf vd ((R.grow).laid R.alNo k (fl ⟨#[]⟩))) => gB (hW.below (zF W 3 #[.int .i64 (R.alNo : Int), .int .i64 0])) (show ((R.grow).laid R.alNo k (fl ⟨#[]⟩)).way.Ok from by
   rw [hgrow];have a1 := hw.k;have a2 := hw.kr;have a3 := hw.ne;have a4 := hw.fl;exact ⟨by simp [RS.laid]; omega, by simp [RS.laid]; omega, by simp [RS.laid]; omega, fun x hx => hw.f x (List.mem_of_mem_take hx), hw.r, by simp [RS.laid, List.length_take]; omega⟩) [R.alNo, 0] (by simp) (fun y hy => by
   have hy : y = R.alNo \/ y = 0 := by simpa using hy
   show y < (R.grow.laid R.alNo k (fl ⟨#[]⟩)).dirty.length
   rw [hgrow];show y < R.dirty.length
   rcases hy with rfl | rfl
   · exact hno
   · omega) W.heap.size _ (Own.made W _ _) (vZ R.alNo))
 rw [show ([R.alNo, 0] : List Nat).length = 2 from rfl] at TC;have LE := Lh (And.intro hgrow hno);have LT := Lh (show R.alNo < R.way.kinds.length by rw [eno]; exact hlt);have OK := Lh (And.intro hw.kr (And.intro hkw (And.intro hmo hdd)));obtain ⟨no, hno2⟩ : ∃ no, no = R.alNo := ⟨_, rfl⟩
 rw [<- hno2] at BG TC EG LE LT cF ⊢;obtain ⟨F, hF⟩ : ∃ F, F = fl ⟨#[]⟩ := ⟨_, rfl⟩
 rw [<- hF] at FL TC EG;have EQ := Lh EG;have H := Lh h;have ZB := Lh hB;have ho := h.own;have hcap := zMm h.way.f;obtain ⟨fl_, hfl_⟩ : ∃ fl_, fl_ = R.way.free.length := ⟨_, rfl⟩
 rw [<- hfl_] at ho hfm h hcap hm;have HM := Lh (And.intro hm hfl_);obtain ⟨n, hn⟩ : ∃ n, n = R.way.kinds.length := ⟨_, rfl⟩
 obtain ⟨rn, hrn⟩ : ∃ rn, rn = R.way.rooms.length := ⟨_, rfl⟩
 obtain ⟨dn, hdn⟩ : ∃ dn, dn = R.dirty.length := ⟨_, rfl⟩
 have HNN := Lh (And.intro hn (And.intro hrn hdn));rw [<- hn, <- hrn, <- hdn] at ho h;have H := Lh h;unfold rfC at ho;have HO := Lh ho;obtain ⟨q1, q2, q3⟩ := ho.at_;have k2 : ¬ (k : Int) < 2 := by omega
 have k3 : ¬ 254 < (k : Int) := by omega
 have s1 : RowKit.wrap64 ((fl_ : Int) - 1) = (m : Int) := by simp [RowKit.wrap64]; omega
 have s2 : IntKind.i64.wrap ((fl_ : Int) - 1) = (m : Int) := by rw [IntKind.wrap_i64]; omega
 have l2 : (m : Int) < (fl_ : Int) := by omega
 have l5 : 0 < fl_ := by omega
 have l3 : (m : Int) <= (fc : Int) := by omega
 have l4 : m <= fc := by omega
 have hgz := c3;have CF := Lh (fun W (hW : Below w.heap.size w W) => (show W.cell? ⟨gf, m, none⟩ = some (.int .i64 (no : Int)) from by rw [<- cF]; exact World.cell?_of_block (hW.block gf hgz)));clear hgz cF;have l3 : (m : Int) <= (fc : Int) := by omega
 have l4 : m <= fc := by omega
 clear h hok hB ho hF hno2 hgrow EG eno hlt hkl hrl hdl hno hw hkw hmo hdd hdn hrn hm hf hfl c1 c2 c3 hcap hn hfm hfl_;by_cases hbg : R.big [no, 0] = true
 · simp only [hbg, if_true] at BG ⊢;clear hbg EQ TC FL LE LT OK HNN;go_enter Tryz.func29, Tryz.ntmps29;go_upto_region 5 with fail;refine zA (fun W => Below w.heap.size w W) (0 :: 1 :: 2 :: 3 :: 4 :: 5 :: 6 :: 7 :: 8 :: 9 :: 10 :: 11 :: 12 :: 13 :: 14 :: []) (4 :: 9 :: 13 :: []) (0 :: 1 :: 2 :: 3 :: 4 :: 5 :: 6 :: 7 :: 8 :: 9 :: 10 :: 11 :: 12 :: 13 :: 14 :: []) (by kernel_rfl) (by kernel_rfl) rfl (by kernel_rfl) rfl ((Below.refl _ _).drew) (by simp only [zQ, List.filterMap_cons, List.filterMap_nil, List.getElem?_cons_zero, List.getElem?_cons_succ, Option.map_some]; exact rfl) ?_;iterate 15
     refine zC (v := ?_) rfl rfl (fun W hS => ?_) ?_;rotate_left
     · first
         | (conv => lhs; simp [go_sem, s1, s2, l2]
            first | done | exact rfl)
         | (have hS := hS rfl
            obtain ⟨q1, q2, q3⟩ := (HO.out.keep hS).at_;have kc := CF.out _ hS;conv => lhs; simp [go_sem, *, s1, s2, l2]
            first | done | exact rfl)
     simp only [Act.put, lA, lZ, lS]
   refine zN ?_;obtain ⟨q1, q2, q3⟩ := HO.out.drawn.at_;go_wp2_with (go_at_call 93; refine (BG.out _ (Below.refl _ _).drew).mono ?_; rintro e w2 ⟨rfl, hb2⟩; have B2 : Hid (Below w.heap.size w w2) := Lh (then_ (Below.alloc (Below.refl _ _).drew (Nat.le_refl _) _) hb2 (by simp)); clear hb2)
   go_ret2;exact ⟨rfl, ⟨_, _, _, _, _, _, _, H.out.below B2.out⟩, Chg.of B2.out⟩
 · have hbg : R.big [no, 0] = false := by simpa using hbg
   simp only [hbg, Bool.false_eq_true, if_false] at BG ⊢;clear hbg;go_enter Tryz.func29, Tryz.ntmps29;go_upto_region 5 with fail;refine zA (fun W => Below w.heap.size w W) (0 :: 1 :: 2 :: 3 :: 4 :: 5 :: 6 :: 7 :: 8 :: 9 :: 10 :: 11 :: 12 :: 13 :: 14 :: []) (4 :: 9 :: 13 :: []) (0 :: 1 :: 2 :: 3 :: 4 :: 5 :: 6 :: 7 :: 8 :: 9 :: 10 :: 11 :: 12 :: 13 :: 14 :: []) (by kernel_rfl) (by kernel_rfl) rfl (by kernel_rfl) rfl ((Below.refl _ _).drew) (by simp only [zQ, List.filterMap_cons, List.filterMap_nil, List.getElem?_cons_zero, List.getElem?_cons_succ, Option.map_some]; exact rfl) ?_;iterate 15
     refine zC (v := ?_) rfl rfl (fun W hS => ?_) ?_;rotate_left
     · first
         | (conv => lhs; simp [go_sem, s1, s2, l2]
            first | done | exact rfl)
         | (have hS := hS rfl
            obtain ⟨q1, q2, q3⟩ := (HO.out.keep hS).at_;have kc := CF.out _ hS;conv => lhs; simp [go_sem, *, s1, s2, l2]
            first | done | exact rfl)
     simp only [Act.put, lA, lZ, lS]
   refine zN ?_;obtain ⟨q1, q2, q3⟩ := HO.out.drawn.at_;go_upto_region 11 with (go_at_call 93; refine (BG.out _ (Below.refl _ _).drew).mono ?_; rintro e w2 ⟨rfl, hb2⟩; have B2 : Hid (Below w.heap.size w w2) := Lh (then_ (Below.alloc (Below.refl _ _).drew (Nat.le_refl _) _) hb2 (by simp)); clear hb2; obtain ⟨q1, q2, q3⟩ := (HO.out.keep B2.out).at_)
   obtain ⟨h3, c3⟩ := Ref.dropFree' HM.out.1 (HM.out.1.trans HM.out.2) (H.out.below B2.out.drew);have C3 := yF (Chg.of B2.out.drew) c3;clear c3 q1 q2 q3;replace h3 := Lh h3;replace C3 := Lh C3;refine zA (fun W => Own W p 61 #[.int .i64 (R.most : Int), .int .i64 (R.room : Int), sk, sr, sf, .int .u64 (R.sure.roots 0 : Int), .int .u64 (R.sure.roots 1 : Int), .int .u64 (R.sure.roots 2 : Int), .int .u64 (R.sure.roots 3 : Int), .int .u64 (R.sure.roots 4 : Int), .int .u64 (R.sure.roots 5 : Int), .int .u64 (R.sure.roots 6 : Int), .int .u64 (R.sure.roots 7 : Int), .slice (some ⟨gk, 0, none⟩) n kc, .slice (some ⟨gr, 0, none⟩) rn rc, .slice (some ⟨gf, 0, none⟩) fl_ fc, .int .u64 (R.way.roots 0 : Int), .int .u64 (R.way.roots 1 : Int), .int .u64 (R.way.roots 2 : Int), .int .u64 (R.way.roots 3 : Int), .int .u64 (R.way.roots 4 : Int), .int .u64 (R.way.roots 5 : Int), .int .u64 (R.way.roots 6 : Int), .int .u64 (R.way.roots 7 : Int), .slice (some ⟨gd, 0, none⟩) dn dc]) (0 :: 1 :: 2 :: 3 :: 4 :: 5 :: 6 :: 7 :: 8 :: 9 :: 10 :: 11 :: 12 :: 13 :: 14 :: 15 :: 16 :: []) (5 :: 10 :: []) (0 :: 1 :: 2 :: 3 :: 4 :: 5 :: 6 :: 7 :: 8 :: 9 :: 10 :: 11 :: 12 :: 13 :: 14 :: 15 :: 16 :: 17 :: []) (by kernel_rfl) (by kernel_rfl) rfl (by kernel_rfl) rfl ((HO.out.keep B2.out).drawn) (by simp only [zQ, List.filterMap_cons, List.filterMap_nil, List.getElem?_cons_zero, List.getElem?_cons_succ, Option.map_some]; exact rfl) ?_;iterate 17
     refine zC (v := ?_) rfl rfl (fun W hS => ?_) ?_;rotate_left
     · first
         | (conv => lhs; simp [go_sem, s1, s2, l3, l4]
            first | done | exact rfl)
         | (have hS := hS rfl
            obtain ⟨q1, q2, q3⟩ := Own.at_ hS;conv => lhs; simp [go_sem, *, s1, s2, l3, l4]
            first | done | exact rfl)
     simp only [Act.put, lA, lZ, lS]
   obtain ⟨q1, q2, q3⟩ := (HO.out.keep B2.out).drawn.at_;refine xQ rfl rfl (by kernel_rfl) rfl fun K hK => ?_
   go_wp2;refine hK _ _ ?_;clear hK K q1 q2 q3;refine zN ?_;go_upto_region 14 with fail;go_name_world W3 hW3;first
     | rw [hW3] at h3 C3
     | rw [show (w2.drew.setCell ⟨p, 15, none⟩ (.slice (some ⟨gf, 0, none⟩) m fc)) = W3 from hW3] at h3 C3
   clear hW3;have H3 := h3;clear h3;obtain ⟨G, hG⟩ : ∃ G, G = { R with way := { R.way with free := R.way.free.take m } } := ⟨_, rfl⟩
   rw [<- hG] at H3 EQ LE;have TC2 := TC.out;rw [LE.out.1] at TC2;replace TC := Lh TC2;clear TC2;have HN := Lh (show n = G.way.kinds.length /\ rn = G.way.rooms.length /\ dn = G.dirty.length by rw [hG]; exact HNN.out);have LN := Lh (show no < n /\ no < rn /\ no < dn by
     have a1 := LT.out;have a2 := OK.out;have a3 := HNN.out;have a4 := LE.out.2;omega)
   clear hG HNN LE LT OK;have O3 := H3.out.own;unfold rfC at O3;obtain ⟨r1, r2, r3⟩ := O3.at_;obtain ⟨k1, k2, k3⟩ := uG (k := no) (by have := H3.out.way.k; rw [<- HN.out.1] at this; exact this) (by simp [yE]; rw [<- HN.out.1]; exact LN.out.1);obtain ⟨x0, hx0⟩ : ∃ x0, W3.cell? ⟨gk, no, none⟩ = some x0 := ⟨_, k1⟩
   have l0 : (no : Int) < (n : Int) := by have := LN.out.1; omega
   have H4 := Lh (H3.out.setKind HN.out.1 no k);have C4 : Chg (RT w B) w (W3.setCell ⟨gk, no, none⟩ (.int .i64 ((k : Nat) : Int))) := yF C3.out (by obtain ⟨e1, c, e2⟩ := yC H3.out.way.k rfl; exact vT e1 e2 (.inr (.inl rfl)));replace C4 := Lh C4;clear k1;go_upto_region 15 with fail;go_name_world W4 hW4;first
     | rw [hW4] at H4 C4
     | (rw [show (W3.setCell ⟨gk, no, none⟩ (.int .i64 ((k : Nat) : Int))) = W4 from hW4] at H4 C4)
   clear hW4 r1 r2 r3 k2 k3 hx0 O3 H3 C3;have O4 := H4.out.own;unfold rfC at O4;replace O4 := Lh O4;have FIN : Hid (∀ W, Below W4.heap.size W4 W -> (∃ x, W.cell? ⟨gr, no, none⟩ = some x) /\ W.frozen? ⟨gr, no, none⟩ = false /\ Ref (W.setCell ⟨gr, no, none⟩ (.string F)) B p sk sr sf (.slice (some ⟨gk, 0, none⟩) n kc) (.slice (some ⟨gr, 0, none⟩) rn rc) (.slice (some ⟨gf, 0, none⟩) m fc) (.slice (some ⟨gd, 0, none⟩) dn dc) (G.laid no k F) /\ Chg (RT w B) w (W.setCell ⟨gr, no, none⟩ (.string F))) := Lh fun W hW => by
     have Hb := H4.out.below hW;obtain ⟨k1, k2, k3⟩ := uG (k := no) (by have := Hb.way.r; rw [show ({ G.way with kinds := G.way.kinds.set no k } : RSt).rooms.length = rn from HN.out.2.1.symm] at this; exact this) (by simp [xL]; rw [<- HN.out.2.1]; exact LN.out.2.1);refine ⟨⟨_, k1⟩, k2, Hb.setRoom HN.out.2.1 no F, ?_⟩;refine yF (C4.out.trans (Chg.of (S := fun _ => False) hW) fun b _ e => e.elim) ?_;obtain ⟨e1, c, e2⟩ := yC Hb.way.r rfl;exact vT e1 e2 (.inr (.inr (.inl rfl)))
   have l1 : (no : Int) < (rn : Int) := by have := LN.out.2.1; omega
   refine zA (fun W => Own W p 61 #[.int .i64 (G.most : Int), .int .i64 (G.room : Int), sk, sr, sf, .int .u64 (G.sure.roots 0 : Int), .int .u64 (G.sure.roots 1 : Int), .int .u64 (G.sure.roots 2 : Int), .int .u64 (G.sure.roots 3 : Int), .int .u64 (G.sure.roots 4 : Int), .int .u64 (G.sure.roots 5 : Int), .int .u64 (G.sure.roots 6 : Int), .int .u64 (G.sure.roots 7 : Int), .slice (some ⟨gk, 0, none⟩) n kc, .slice (some ⟨gr, 0, none⟩) rn rc, .slice (some ⟨gf, 0, none⟩) m fc, .int .u64 (G.way.roots 0 : Int), .int .u64 (G.way.roots 1 : Int), .int .u64 (G.way.roots 2 : Int), .int .u64 (G.way.roots 3 : Int), .int .u64 (G.way.roots 4 : Int), .int .u64 (G.way.roots 5 : Int), .int .u64 (G.way.roots 6 : Int), .int .u64 (G.way.roots 7 : Int), .slice (some ⟨gd, 0, none⟩) dn dc]) (0 :: 1 :: 2 :: 3 :: 4 :: 5 :: 7 :: []) (4 :: []) (0 :: 1 :: 2 :: 3 :: 4 :: 5 :: 6 :: 7 :: 8 :: []) (by kernel_rfl) (by kernel_rfl) rfl (by kernel_rfl) rfl (O4.out.drawn) (by simp only [zQ, List.filterMap_cons, List.filterMap_nil, List.getElem?_cons_zero, List.getElem?_cons_succ, Option.map_some]; exact rfl) ?_;iterate 6
     refine zC (v := ?_) rfl rfl (fun W hS => ?_) ?_;rotate_left
     · first
         | (conv => lhs; simp [go_sem, l1]
            first | done | exact rfl)
         | (have hS := hS rfl
            obtain ⟨q1, q2, q3⟩ := Own.at_ hS;conv => lhs; simp [go_sem, *, l1]
            first | done | exact rfl)
     simp only [Act.put, lA, lZ, lS]
   refine zK rfl rfl fun K hK => ?_
   go_wp2_with (go_at_call 94; refine (FL.out _).mono ?_; rintro e w5 ⟨rfl, hb5⟩)
   have B5 := Lh (then_ ((Below.refl W4.heap.size W4).drew) hb5 (Nat.le_refl _));refine hK _ _ (O4.out.keep B5.out) ?_;clear hK K hb5;iterate 1
     refine zC (v := ?_) rfl rfl (fun W hS => ?_) ?_;rotate_left
     · first
         | (conv => lhs; simp [go_sem, l1]
            first | done | exact rfl)
         | (have hS := hS rfl
            obtain ⟨q1, q2, q3⟩ := Own.at_ hS;conv => lhs; simp [go_sem, *, l1]
            first | done | exact rfl)
     simp only [Act.put, lA, lZ, lS]
   obtain ⟨⟨x1, hx1⟩, hx2, z1, z2⟩ := FIN.out w5 B5.out;have Z1 := Lh z1;have Z2 := Lh z2;clear z1 z2;refine xQ rfl rfl (by kernel_rfl) rfl fun K hK => ?_
   go_wp2;refine hK _ _ ?_;clear hK K hx1 hx2;refine zN ?_;go_upto_region 16 with fail;go_name_world W6 hW6;rw [hW6] at Z1 Z2;clear hW6;go_wp2_with (go_at_call 95; refine (TC.out _ Z1.out).mono ?_; rintro e w7 ⟨rfl, h7, hc7⟩; have H7 := Lh h7; have C7 := Lh (yF (Z2.out.trans (Chg.of (S := fun _ => False) (zF W6 3 #[.int .i64 (no : Int), .int .i64 0])) fun b _ e => e.elim) hc7); clear h7 hc7)
   go_ret2;exact ⟨rfl, ⟨_, _, _, _, _, _, _, by rw [EQ.out]; exact H7.out⟩, C7.out⟩
set_option maxRecDepth 10000 in
set_option maxHeartbeats 2000000 in
theorem zFn (h : Ref w B p sk sr sf wk wr wf vd R) (hok : R.Ok) (hB : B <= w.heap.size) (k : Nat) (h2 : 2 <= k) (h3 : k <= 254) (hf : R.way.free = []) (hlt : R.way.kinds.length < R.most) : Calls Tryz.prog 29 #[.pointer (some ⟨p, 0, none⟩), .int .i64 (k : Int)] w fun e w' => e = .returned (.tuple #[.int .i64 ((if R.big [R.alNo, 0] then 0 else R.alNo : Nat) : Int), .int .i64 (if R.big [R.alNo, 0] then 10 else 0)]) /\ gI w' B p (if R.big [R.alNo, 0] then R else R.alK k) /\ Chg (RT w B) w w' := by
 obtain ⟨i0, hi0, hz0, hz1, hz2⟩ := info_parts Po.info_in;obtain ⟨i1, hi1, hy0, hy1, hy2⟩ := info_parts Pg.info_str;have eno : R.alNo = R.way.kinds.length := if_pos hf;have hkl : 0 < (yE R.way.kinds).length := by simp [yE]; have := hok.way.ne; have := hok.way.kr; omega
 have hrl : 0 < (xL R.way.rooms).length := by simp [xL]; exact hok.way.ne
 have hdl : 0 < (vL R.dirty).length := by simp [vL]; have := hok.dirty; have := hok.kw; have := hok.way.ne; have := hok.way.kr; omega
 obtain ⟨gk, kc, rfl⟩ := yU h.way.k hkl;obtain ⟨gr, rc, rfl⟩ := yU h.way.r hrl;obtain ⟨gd, dc, rfl⟩ := yU h.dirty hdl;have hno : R.alNo < R.dirty.length := by rw [eno, hok.dirty]; have := hok.kw; omega
 have BG := Lh (fun W (hb : Below w.heap.size w W) => mV ((h.below hb).below (zF W 3 #[.int .i64 (R.alNo : Int), .int .i64 0])) [R.alNo, 0] (by simp) (fun x hx => by
   have hx : x = R.alNo \/ x = 0 := by simpa using hx
   rcases hx with rfl | rfl
   · exact hno
   · omega) (by have := hok.room; omega) (by rw [hok.dirty]; have := hok.most; omega) W.heap.size _ (Own.made W _ _) (vZ R.alNo))
 rw [show ([R.alNo, 0] : List Nat).length = 2 from rfl] at BG;have EG : R.alK k = (R.grow.laid R.alNo k (fl ⟨#[]⟩)).touch [R.alNo, 0] := rfl;have FL := Lh (fun W => show Calls Tryz.prog 94 #[.string ⟨#[]⟩, .int .i64 496] W fun e w' => e = .returned (.string (fl ⟨#[]⟩)) /\ Below W.heap.size W w' from jB ⟨#[]⟩ 496 W (by decide) (by decide));obtain ⟨fa, fc, rfl, -, -⟩ := zO h.way.f;have hgrow : R.grow = { R with way := { R.way with kinds := R.way.kinds ++ [0], rooms := R.way.rooms ++ [⟨#[]⟩] } } := if_pos hf;rw [hgrow] at EG;have hw := hok.way;have hkw := hok.kw;have hmo := hok.most;have hdd := hok.dirty;have TC := Lh (fun W {wk wr wf vd : Value} (hW : Ref W B p sk sr sf wk wr wf vd ((R.grow).laid R.alNo k (fl ⟨#[]⟩))) => gB (hW.below (zF W 3 #[.int .i64 (R.alNo : Int), .int .i64 0])) (show ((R.grow).laid R.alNo k (fl ⟨#[]⟩)).way.Ok from by
   rw [hgrow];have a1 := hw.k;have a2 := hw.kr;have a3 := hw.ne;have a4 := hw.fl;exact ⟨by simp [RS.laid]; omega, by simp [RS.laid]; omega, by simp [RS.laid], hw.f, hw.r, hw.fl⟩) [R.alNo, 0] (by simp) (fun y hy => by
   have hy : y = R.alNo \/ y = 0 := by simpa using hy
   show y < (R.grow.laid R.alNo k (fl ⟨#[]⟩)).dirty.length
   rw [hgrow];show y < R.dirty.length
   rcases hy with rfl | rfl
   · exact hno
   · omega) W.heap.size _ (Own.made W _ _) (vZ R.alNo))
 rw [show ([R.alNo, 0] : List Nat).length = 2 from rfl] at TC;have LE := Lh (And.intro hgrow hno);have LT := Lh eno;have OK := Lh (And.intro hw.kr (And.intro hkw (And.intro hmo hdd)));obtain ⟨no, hno2⟩ : ∃ no, no = R.alNo := ⟨_, rfl⟩
 rw [<- hno2] at BG TC EG LE LT  ⊢;obtain ⟨F, hF⟩ : ∃ F, F = fl ⟨#[]⟩ := ⟨_, rfl⟩
 rw [<- hF] at FL TC EG;have EQ := Lh EG;have H := Lh h;have ZB := Lh hB;have ho := h.own;rw [hf, List.length_nil] at ho h;obtain ⟨n, hn⟩ : ∃ n, n = R.way.kinds.length := ⟨_, rfl⟩
 obtain ⟨rn, hrn⟩ : ∃ rn, rn = R.way.rooms.length := ⟨_, rfl⟩
 obtain ⟨dn, hdn⟩ : ∃ dn, dn = R.dirty.length := ⟨_, rfl⟩
 have HNN := Lh (And.intro hn (And.intro hrn hdn));rw [<- hn, <- hrn, <- hdn] at ho h;have H := Lh h;unfold rfC at ho;have HO := Lh ho;obtain ⟨q1, q2, q3⟩ := ho.at_;have k2 : ¬ (k : Int) < 2 := by omega
 have k3 : ¬ 254 < (k : Int) := by omega
 have hfull : ¬ R.most <= n := by omega
 have hnn : no = n := by rw [hno2, eno, hn]
 have K6 := Lh (show n <= 100000 by have := hw.k; omega);have HF0 := Lh hf;clear h hok hB ho hF hno2 hgrow EG eno hlt hkl hrl hdl hno hw hkw hmo hdd hdn hrn hf hn;subst hnn;obtain ⟨n1, hn1⟩ : ∃ n1, n1 = no + 1 := ⟨_, rfl⟩
 obtain ⟨r1, hr1⟩ : ∃ r1, r1 = rn + 1 := ⟨_, rfl⟩
 have N1 := Lh hn1;have R1 := Lh hr1;clear hn1 hr1;by_cases hbg : R.big [no, 0] = true
 · simp only [hbg, if_true] at BG ⊢;clear hbg EQ TC FL LE LT OK HNN;go_enter Tryz.func29, Tryz.ntmps29;go_wp2_with (go_at_call 93; refine (BG.out _ (Below.refl _ _)).mono ?_; rintro e w2 ⟨rfl, hb2⟩; have B2 : Hid (Below w.heap.size w w2) := Lh (then_ (Below.alloc (Below.refl _ _) (Nat.le_refl _) _) hb2 (by simp)); clear hb2)
   go_ret2;exact ⟨rfl, ⟨_, _, _, _, _, _, _, H.out.below B2.out⟩, Chg.of B2.out⟩
 · have hbg : R.big [no, 0] = false := by simpa using hbg
   simp only [hbg, Bool.false_eq_true, if_false] at BG ⊢;clear hbg;go_enter Tryz.func29, Tryz.ntmps29;go_upto_region 12 with (go_at_call 93; refine (BG.out _ (Below.refl _ _)).mono ?_; rintro e w2 ⟨rfl, hb2⟩; have B2 : Hid (Below w.heap.size w w2) := Lh (then_ (Below.alloc (Below.refl _ _) (Nat.le_refl _) _) hb2 (by simp)); clear hb2; obtain ⟨q1, q2, q3⟩ := (HO.out.keep B2.out).at_)
   have H2 := Lh (H.out.below B2.out);have K2 : Hid (w2.ownsRow B 3 1 (.slice (some ⟨gk, 0, none⟩) no kc) no (yE R.way.kinds)) := Lh (by have := H2.out.way.k; rw [<- HNN.out.1] at this; exact this);have z2 := B2.out.size;have zB2 : Hid (B <= w2.heap.size) := Lh (Nat.le_trans ZB.out z2);go_upto_region 13 with (at_builtin; refine wpList_append_own_at _ rfl _ _ 33 rfl B 3 i0 (.int .i64 0) 1 8 Tryz.underlying33 hi0 hz0 hz1 hz2 rfl (by decide) (.slice (some ⟨gk, 0, none⟩) no kc) no (yE R.way.kinds) rfl (K2.out.alloc _) ⟨w2.heap.size, 0, none⟩ 1 1 [.int .i64 0] rfl rfl (fun j u hu => Po.one_cell _ _ _ _ hu) (by intro u hu; simp at hu; subst hu; rfl) (by have := K6.out; unfold maxLen; omega) (by have := K6.out; omega) (by have := zB2.out; simp; omega) ?_; intro v1 y1 hown hgr _ hv1; have hown1 : y1.ownsRow B 3 1 v1 n1 (yE R.way.kinds ++ [.int .i64 0]) := (by rw [N1.out]; exact hown); obtain ⟨gk1, kc1, rfl⟩ := yU hown1 (by simp [yE]); have X3 := Lh (H2.out.pushKind (x := 0) (by have h9 := hown; rw [HNN.out.1] at h9; exact h9) hgr hv1); clear hown hown1 hgr hv1 q1 q2 q3; have q1 := X3.out.1; unfold rfC at q1; obtain ⟨q1, q2, q3⟩ := q1.at_)
   have H3 := X3.out.2.1;have C3 := yF (Chg.of B2.out) X3.out.2.2;go_name_world W2 hW2;rw [hW2] at H3 C3;clear hW2 X3 q1 q2 q3 H2 K2 zB2 z2 B2;replace H3 := Lh H3;replace C3 := Lh C3;have K3 : Hid (W2.ownsRow B 9 1 (.slice (some ⟨gr, 0, none⟩) rn rc) rn (xL R.way.rooms)) := Lh (by have := H3.out.way.r; rw [show ({ R.way with kinds := R.way.kinds ++ [0] } : RSt).rooms.length = rn from HNN.out.2.1.symm] at this; exact this);have zB3 : Hid (B <= W2.heap.size) := Lh (Nat.le_trans ZB.out C3.out.size);have q1 := H3.out.own;unfold rfC at q1;obtain ⟨q1, q2, q3⟩ := q1.at_;go_upto_region 14 with (at_builtin; refine wpList_append_own_at _ rfl _ _ 34 rfl B 9 i1 (.string ⟨#[]⟩) 1 16 Tryz.underlying34 hi1 hy0 hy1 hy2 rfl (by decide) (.slice (some ⟨gr, 0, none⟩) rn rc) rn (xL R.way.rooms) rfl (K3.out.alloc _) ⟨W2.heap.size, 0, none⟩ 1 1 [.string ⟨#[]⟩] rfl rfl (fun j u hu => Po.one_cell _ _ _ _ hu) (by intro u hu; simp at hu; subst hu; rfl) (by have := K6.out; have := OK.out; have := HNN.out; unfold maxLen; omega) (by have := K6.out; have := OK.out; have := HNN.out; omega) (by have := zB3.out; simp; omega) ?_; intro v1 y2 hown hgr _ hv1; have hown1 : y2.ownsRow B 9 1 v1 r1 (xL R.way.rooms ++ [.string ⟨#[]⟩]) := (by rw [R1.out]; exact hown); obtain ⟨gr1, rc1, rfl⟩ := yU hown1 (by simp [xL]); have X4 := Lh (H3.out.pushRoom (x := ⟨#[]⟩) (by have h9 := hown; rw [HNN.out.2.1] at h9; exact h9) hgr hv1); clear hown hown1 hgr hv1 q1 q2 q3; have q1 := X4.out.1; unfold rfC at q1; obtain ⟨q1, q2, q3⟩ := q1.at_)
   have H4 := X4.out.2.1;have C4 := yF C3.out X4.out.2.2;go_name_world W3 hW3;rw [hW3] at H4 C4;clear hW3 X4 q1 q2 q3 H3 K3 zB3 C3;have H3 := Lh H4;have C3 := Lh C4;clear H4 C4;obtain ⟨G, hG⟩ : ∃ G : RS, G = { R with way := { R.way with kinds := R.way.kinds ++ [0], rooms := R.way.rooms ++ [⟨#[]⟩] } } := ⟨_, rfl⟩
   have H3' : Hid (Ref W3 B p sk sr sf (.slice (some ⟨gk1, 0, none⟩) n1 kc1) (.slice (some ⟨gr1, 0, none⟩) r1 rc1) (.slice fa 0 fc) (.slice (some ⟨gd, 0, none⟩) dn dc) G) := Lh (by rw [hG]; exact H3.out);clear H3;have H3 := H3';clear H3';rw [<- hG] at EQ LE;have TC2 := TC.out;rw [LE.out.1] at TC2;replace TC := Lh TC2;clear TC2;have HN := Lh (show n1 = G.way.kinds.length /\ r1 = G.way.rooms.length /\ dn = G.dirty.length by
     rw [hG];have a1 := HNN.out;exact ⟨by rw [N1.out, a1.1]; simp, by rw [R1.out, a1.2.1]; simp, a1.2.2⟩)
   have LN := Lh (show no < n1 /\ no < r1 /\ no < dn by
     have a2 := OK.out;have a3 := HNN.out;have a4 := LE.out.2;have a5 := N1.out;have a6 := R1.out;omega)
   clear hG HNN LE LT OK N1 R1;have O3 := H3.out.own;unfold rfC at O3;obtain ⟨r1, r2, r3⟩ := O3.at_;obtain ⟨k1, k2, k3⟩ := uG (k := no) (by have := H3.out.way.k; rw [<- HN.out.1] at this; exact this) (by simp [yE]; rw [<- HN.out.1]; exact LN.out.1);obtain ⟨x0, hx0⟩ : ∃ x0, W3.cell? ⟨gk1, no, none⟩ = some x0 := ⟨_, k1⟩
   have l0 : (no : Int) < (n1 : Int) := by have := LN.out.1; omega
   have H4 := Lh (H3.out.setKind HN.out.1 no k);have C4 : Chg (RT w B) w (W3.setCell ⟨gk1, no, none⟩ (.int .i64 ((k : Nat) : Int))) := yF C3.out (by obtain ⟨e1, c, e2⟩ := yC H3.out.way.k rfl; exact vT e1 e2 (.inr (.inl rfl)));replace C4 := Lh C4;clear k1;go_upto_region 15 with fail;go_name_world W4 hW4;first
     | rw [hW4] at H4 C4
     | (rw [show (W3.setCell ⟨gk1, no, none⟩ (.int .i64 ((k : Nat) : Int))) = W4 from hW4] at H4 C4)
   clear hW4 r1 r2 r3 k2 k3 hx0 O3 H3 C3;have O4 := H4.out.own;unfold rfC at O4;replace O4 := Lh O4;have FIN : Hid (∀ W, Below W4.heap.size W4 W -> (∃ x, W.cell? ⟨gr1, no, none⟩ = some x) /\ W.frozen? ⟨gr1, no, none⟩ = false /\ Ref (W.setCell ⟨gr1, no, none⟩ (.string F)) B p sk sr sf (.slice (some ⟨gk1, 0, none⟩) n1 kc1) (.slice (some ⟨gr1, 0, none⟩) r1 rc1) (.slice fa 0 fc) (.slice (some ⟨gd, 0, none⟩) dn dc) (G.laid no k F) /\ Chg (RT w B) w (W.setCell ⟨gr1, no, none⟩ (.string F))) := Lh fun W hW => by
     have Hb := H4.out.below hW;obtain ⟨k1, k2, k3⟩ := uG (k := no) (by have := Hb.way.r; rw [show ({ G.way with kinds := G.way.kinds.set no k } : RSt).rooms.length = r1 from HN.out.2.1.symm] at this; exact this) (by simp [xL]; rw [<- HN.out.2.1]; exact LN.out.2.1);refine ⟨⟨_, k1⟩, k2, Hb.setRoom HN.out.2.1 no F, ?_⟩;refine yF (C4.out.trans (Chg.of (S := fun _ => False) hW) fun b _ e => e.elim) ?_;obtain ⟨e1, c, e2⟩ := yC Hb.way.r rfl;exact vT e1 e2 (.inr (.inr (.inl rfl)))
   have l1 : (no : Int) < (r1 : Int) := by have := LN.out.2.1; omega
   refine zA (fun W => Own W p 61 #[.int .i64 (G.most : Int), .int .i64 (G.room : Int), sk, sr, sf, .int .u64 (G.sure.roots 0 : Int), .int .u64 (G.sure.roots 1 : Int), .int .u64 (G.sure.roots 2 : Int), .int .u64 (G.sure.roots 3 : Int), .int .u64 (G.sure.roots 4 : Int), .int .u64 (G.sure.roots 5 : Int), .int .u64 (G.sure.roots 6 : Int), .int .u64 (G.sure.roots 7 : Int), .slice (some ⟨gk1, 0, none⟩) n1 kc1, .slice (some ⟨gr1, 0, none⟩) r1 rc1, .slice fa 0 fc, .int .u64 (G.way.roots 0 : Int), .int .u64 (G.way.roots 1 : Int), .int .u64 (G.way.roots 2 : Int), .int .u64 (G.way.roots 3 : Int), .int .u64 (G.way.roots 4 : Int), .int .u64 (G.way.roots 5 : Int), .int .u64 (G.way.roots 6 : Int), .int .u64 (G.way.roots 7 : Int), .slice (some ⟨gd, 0, none⟩) dn dc]) (0 :: 1 :: 2 :: 3 :: 4 :: 5 :: 7 :: []) (4 :: []) (0 :: 1 :: 2 :: 3 :: 4 :: 5 :: 6 :: 7 :: 8 :: []) (by kernel_rfl) (by kernel_rfl) rfl (by kernel_rfl) rfl (O4.out.drawn) (by simp only [zQ, List.filterMap_cons, List.filterMap_nil, List.getElem?_cons_zero, List.getElem?_cons_succ, Option.map_some]; exact rfl) ?_;iterate 6
     refine zC (v := ?_) rfl rfl (fun W hS => ?_) ?_;rotate_left
     · first
         | (conv => lhs; simp [go_sem, l1]
            first | done | exact rfl)
         | (have hS := hS rfl
            obtain ⟨q1, q2, q3⟩ := Own.at_ hS;conv => lhs; simp [go_sem, *, l1]
            first | done | exact rfl)
     simp only [Act.put, lA, lZ, lS]
   refine zK rfl rfl fun K hK => ?_
   go_wp2_with (go_at_call 94; refine (FL.out _).mono ?_; rintro e w5 ⟨rfl, hb5⟩)
   have B5 := Lh (then_ ((Below.refl W4.heap.size W4).drew) hb5 (Nat.le_refl _));refine hK _ _ (O4.out.keep B5.out) ?_;clear hK K hb5;iterate 1
     refine zC (v := ?_) rfl rfl (fun W hS => ?_) ?_;rotate_left
     · first
         | (conv => lhs; simp [go_sem, l1]
            first | done | exact rfl)
         | (have hS := hS rfl
            obtain ⟨q1, q2, q3⟩ := Own.at_ hS;conv => lhs; simp [go_sem, *, l1]
            first | done | exact rfl)
     simp only [Act.put, lA, lZ, lS]
   obtain ⟨⟨x1, hx1⟩, hx2, z1, z2⟩ := FIN.out w5 B5.out;have Z1 := Lh z1;have Z2 := Lh z2;clear z1 z2;refine xQ rfl rfl (by kernel_rfl) rfl fun K hK => ?_
   go_wp2;refine hK _ _ ?_;clear hK K hx1 hx2;refine zN ?_;go_upto_region 16 with fail;go_name_world W6 hW6;rw [hW6] at Z1 Z2;clear hW6;go_wp2_with (go_at_call 95; refine (TC.out _ Z1.out).mono ?_; rintro e w7 ⟨rfl, h7, hc7⟩; have H7 := Lh h7; have C7 := Lh (yF (Z2.out.trans (Chg.of (S := fun _ => False) (zF W6 3 #[.int .i64 (no : Int), .int .i64 0])) fun b _ e => e.elim) hc7); clear h7 hc7)
   go_ret2;exact ⟨rfl, ⟨_, _, _, _, _, _, _, by rw [EQ.out]; exact H7.out⟩, C7.out⟩
end
end Go.Proofs.YtndhmidgnpobjaaGreatDoor
