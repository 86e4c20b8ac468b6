import Derived.Test.YtndhmidgnpobjaaGreatDoorPgrW
set_option linter.unusedVariables false
set_option linter.unusedSimpArgs false
namespace Go.Proofs.YtndhmidgnpobjaaGreatDoor
open Go.ChangeShapes Go.WideShapes Go.ChangeAt Go.RowKit Go.Sort
section
variable {w w' : World}
theorem zDq {base : Nat} {v : Value} {xs : List Int} (h : w.ownsRow base 3 1 v xs.length (Po.ints xs)) (hx : xs.length <= 1000000) :
   Calls Tryz.prog 147 #[v] w fun e w' => (∃ a cp, e = .returned (.slice a (Lib.compact xs).length cp)) /\ Chg (fun q => v.ownBlock = some q) w w' := by
 rcases h.2 with ⟨rfl, h0⟩ | ⟨g, cap, cur, rfl, hg, hb, h1, h2, h3, h4⟩
 · have hx0 : xs = [] := List.eq_nil_of_length_eq_zero h0;subst hx0;refine (Tryz.slices_Compact_int_empty _ _ _).mono ?_;rintro e w' ⟨rfl, rfl⟩;exact ⟨⟨_, _, rfl⟩, Chg.refl _ _⟩
 · have h4' : cur.toList.take xs.length = xs.map (Value.int .i64) := by rw [Nat.mul_one] at h4; exact h4
   refine (Tryz.slices_Compact_int g 0 cap xs w (holds_of_blockI hb h4') (by omega) h1).mono ?_;rintro e w' ⟨rfl, q, rfl⟩;refine ⟨⟨_, _, rfl⟩, ?_⟩;have := grownBy_sortedI (w := w) (g := g) (n := q) (os := #[]) (Lib.compact xs ++ List.replicate (xs.length - (Lib.compact xs).length) 0).toArray;rw [grow_empty] at this;exact (Chg.refl _ w).grown this fun k hk => .inl (by cases hk; rfl)
end
def PS.chg (P : PS) (L : List (Nat × Pag)) : PS := if (P.put L).T.length <= P.room then P.put L else P
def PS.chgE (P : PS) (L : List (Nat × Pag)) : Int := if (P.put L).T.length <= P.room then 0 else 10
def ShC (cs : Array Value) (L : List (Nat × Pag)) : Prop := ∀ k q, L[k]? = some q -> cs[k * 3]? = some (.int .i64 (q.1 : Int)) /\ cs[k * 3 + 1]? = some (.int .i64 (q.2.1 : Int)) /\ cs[k * 3 + 2]? = some (.string q.2.2)
def Sht (P : PS) (L : List (Nat × Pag)) : Prop := ∀ q ∈ L, q.1 < P.most /\ 1 <= q.2.1 /\ q.2.1 <= 255 /\ q.2.2.size <= 496
theorem zOd {P : PS} {L : List (Nat × Pag)} (h : Sht P L) {q : Nat × Pag} (hq : q ∈ L) : vE (q.2.1, fl q.2.2) := by
 obtain ⟨-, h1, h2, h3⟩ := h q hq;exact ⟨h1, h2, Qt _ h3⟩
theorem PS.Ok.put {P : PS} (h : P.Ok) {L : List (Nat × Pag)} (hL : Sht P L) (hl : (P.put L).T.length <= P.room) (h1 : Um P.most ((P.put L).view 0).1) (h2 : ((P.put L).view 0).2 = 0) : (P.put L).Ok :=
 { h with
   T := ⟨uO _ h.T.1, fun p hp => by
     rcases Jj hp with hp | hp
     · obtain ⟨q, hq, rfl⟩ := List.mem_map.1 hp;exact ⟨(hL q hq).1, zOd hL hq⟩
     · exact h.T.2 p hp⟩
   few := hl
   hd := h1
   hd0 := h2
   M := h.M, bd := h.bd, bd0 := h.bd0 }
theorem zDp {P : PS} (h : asc P.T) (L : List (Nat × Pag)) (k : Nat) : (P.put (L.take k)).T.length <= (P.put L).T.length := by
 unfold PS.put;show (yH P.T ((L.take k).map wh)).length <= (yH P.T (L.map wh)).length
 conv => rhs; rw [<- List.take_append_drop k L]
 unfold yH;rw [List.map_append, List.foldl_append];exact zAk _ (uO _ h)
section
variable {w w' : World} {B Bp d p c sb mb sc lg lm pl : Nat} {wv : Value} {R : List Po.RF} {P : PS}
theorem Pgr.pooled_put (h : Pgr w B Bp d p c sb mb sc wv lg lm pl R P) {L : List (Nat × Pag)} (hk : (P.put L).Ok) {c' : Nat} {R' : List Po.RF} (hc : Chg (Po.PT w Bp) w w') (hp : Po.PoolAt w' Bp pl P.room c' R') (hR : Coh (P.put L) R') : Pgr w' B Bp d p c' sb mb sc wv lg lm pl R' (P.put L) :=
 { h with
   disk := h.disk.keep hc fun q hq => h.not_pt (.inr (.inr (.inr hq)))
   log := hc.own h.log (h.not_pt (.inl rfl))
   own := hc.own h.own (h.not_pt (.inr (.inl rfl)))
   map := h.map.keep (hc.block lm h.map.in_ (h.not_pt (.inr (.inr (.inl rfl)))))
   pool := hp
   coh := hR
   ok := hk }
set_option maxRecDepth 10000 in
set_option maxHeartbeats 4000000 in
theorem fE (h : zG w B Bp d p c P) (L : List (Nat × Pag)) (hn : L.length <= 2) (hL : Sht P L) (hc : c + 2 < 1000000) (hhd : Um P.most ((P.put L).view 0).1 /\ ((P.put L).view 0).2 = 0) (b : Nat) (cs : Array Value) (hb : Own w b 112 cs) (hcs : ShC cs L) :
   Calls Tryz.prog 78 #[.pointer (some ⟨p, 0, none⟩), .slice (some ⟨b, 0, none⟩) L.length L.length] w fun e w' => e = .returned (.int .i64 (P.chgE L)) /\ Ask w w' B Bp d p (c + 2) (P.chg L) := by
 obtain ⟨sb, mb, sc, wv, lg, lm, pl, R, h⟩ := h;have HD := Po.dirty_any h.pool;rw [h.coh.dirty h.pool.ok h.ok.T.1, uY] at HD;have hT := h.ok.T.1;have hfew := h.ok.few;have hr6 := h.ok.r6;have ho : Own w p 131 #[.pointer (some ⟨d, 0, none⟩), .int .i64 (P.ll : Int), .int .u64 (P.seq : Int), .pointer (some ⟨lg, 0, none⟩), .map (some lm), .int .i64 (P.room : Int), .pointer (some ⟨pl, 0, none⟩), .bool P.failed] := h.own;obtain ⟨TL, hTL⟩ : ∃ TL, TL = P.T.length := ⟨_, rfl⟩
 rw [<- hTL] at HD hfew;have CL := Lh (zFu (L := L) hT);replace HD := Lh HD;have H := Lh h;have HB := Lh hb;have HCS := Lh hcs;have HO := Lh ho;have HL := Lh hL;have HT := Lh hT;have HTL := Lh hTL;obtain ⟨q1, q2, q3⟩ := ho.at_;obtain ⟨n, hn2⟩ : ∃ n, n = L.length := ⟨_, rfl⟩
 rw [<- hn2] at hn ⊢;have HN := Lh hn2;have HHD := Lh hhd;have zp := ho.in_;have zb := hb.in_;clear h hb hcs ho hL hT hTL hn2 hhd;go_enter Tryz.func78, Tryz.ntmps78;go_upto_region 3 with (go_at_call 97; refine HD.out.mono ?_; rintro e w1 ⟨v, rfl, hrow, hb1⟩)
 have W1 := Lh hrow;have B1 := Lh hb1;clear hrow hb1 q1 q2 q3;go_wp2;go_loopw [5, 17] (fun v i wr => ∃ (out : Value) (k : Nat), out = v /\ k <= n /\ i = .int .i64 (k : Int) /\ wr.ownsRow w.heap.size 3 1 out (TL + k) (Po.ints (yY P.T ++ yY (L.take k))) /\ Below w.heap.size w wr) (fun v i wr => n - (intOf i).toNat)
 case atStart => exact ⟨_, 0, rfl, by omega, rfl, by simpa [yY] using W1.out, B1.out⟩
 case round =>
   obtain ⟨out, k, hxo, hk, rfl, hrow, hbr⟩ := hrel;subst hxo;by_cases hlt : k < n
   · obtain ⟨q, hq⟩ : ∃ q, L[k]? = some q := ⟨_, List.getElem?_eq_getElem (by rw [<- HN.out]; exact hlt)⟩
     obtain ⟨c0, c1, c2⟩ := HCS.out k q hq;have ob := (HB.out.keep hbr).at_;have k0 : wr.cell? ⟨b, k * 3, none⟩ = some (.int .i64 (q.1 : Int)) := by rw [ob.1, c0]
     have k1 : wr.cell? ⟨b, k * 3 + 1, none⟩ = some (.int .i64 (q.2.1 : Int)) := by rw [ob.1, c1]
     have k2 : wr.cell? ⟨b, k * 3 + 2, none⟩ = some (.string q.2.2) := by rw [ob.1, c2]
     clear c0 c1 c2 ob;obtain ⟨i0, hi0, hz0, hz1, hz2⟩ := info_parts Po.info_in;have hbs := hbr.size;have hrl : (Po.ints (yY P.T ++ yY (L.take k))).length = TL + k := by
       unfold Po.ints;rw [List.length_map, List.length_append, uY, uY, List.length_take, <- HTL.out, <- HN.out];omega
     have ek : L.take (k + 1) = L.take k ++ [q] := by rw [List.take_add_one, hq]; rfl
     have HRW := Lh hrow;have HBR := Lh hbr;have HEK := Lh ek;clear hrow hbr ek;go_wp2_with (at_builtin; refine wpList_append_own_at _ rfl _ _ 33 rfl w.heap.size 3 i0 (.int .i64 0) 1 8 Tryz.underlying33 hi0 hz0 hz1 hz2 rfl (by decide) out (TL + k) (Po.ints (yY P.T ++ yY (L.take k))) rfl ((HRW.out.alloc (.cells #[.int .i64 (q.1 : Int), .int .i64 (q.2.1 : Int), .string q.2.2] 112)).alloc _) ⟨wr.heap.size + 1, 0, none⟩ 1 1 [.int .i64 (q.1 : Int)] rfl rfl ?c1 ?c2 (by unfold maxLen; omega) (by omega) (by simp; omega) ?_)
     case c1 => intro j u hu; rw [show wr.heap.size + 1 = (wr.alloc (.cells #[.int .i64 (q.1 : Int), .int .i64 (q.2.1 : Int), .string q.2.2] 112)).heap.size from by simp]; exact Po.one_cell _ _ _ _ hu
     case c2 => intro u hu; simp at hu; subst hu; rfl
     intro v' w5 hown hgrow hnil hloc;have hg5 : Chg (fun q => out.ownBlock = some q) wr w5 := (((Chg.refl _ wr).alloc _).alloc _).grown hgrow fun q e => .inl e
     have hb5 : Below w.heap.size w w5 := ((Chg.of (S := fun q => w.heap.size <= q) HBR.out).same (hg5.mono fun q _ e => (HRW.out.lt q e).1)).below (Nat.le_refl _) fun q e => e
     have ho5 : w5.ownsRow w.heap.size 3 1 v' (TL + (k + 1)) (Po.ints (yY P.T ++ yY (L.take (k + 1)))) := by
       have e : Po.ints (yY P.T ++ yY (L.take (k + 1))) = Po.ints (yY P.T ++ yY (L.take k)) ++ [.int .i64 (q.1 : Int)] := by
         rw [HEK.out];simp [Po.ints, yY]
       rw [e];exact hown
     have B5 := Lh hb5;have O5 := Lh ho5;have w1 : IntKind.i64.wrap ((k : Int) + 1) = ((k + 1 : Nat) : Int) := by rw [IntKind.wrap_i64]; omega
     clear hown hgrow hnil hloc hg5 hb5 ho5;go_wp2;go_roundw
     case rel => exact ⟨_, k + 1, rfl, by omega, by first | rfl | (congr 1; omega), O5.out, B5.out⟩
     case measure => simp [intOf] <;> omega
   · obtain rfl : k = n := by omega
     have e1 : L.take k = L := by rw [HN.out, List.take_length]
     rw [e1] at hrow;have XL : Hid ((yY P.T ++ yY L).length = TL + k) := Lh (by rw [List.length_append, uY, uY, <- HTL.out, <- HN.out]);rw [<- XL.out] at hrow;have hxl : (yY P.T ++ yY L).length <= 1000000 := by rw [XL.out]; omega
     have ST := Lh (Po.sort_any hrow hxl);have LTL : Hid ((Po.sortI (yY P.T ++ yY L)).length = (yY P.T ++ yY L).length) := Lh (List.mergeSort_perm _ _).length_eq;have HBR := Lh hbr;have HRW := Lh hrow;clear hrow hbr e1;obtain ⟨xs, hxs⟩ : ∃ xs, xs = yY P.T ++ yY L := ⟨_, rfl⟩
     rw [<- hxs] at ST LTL XL HRW CL;clear hxl hxs;obtain ⟨nc, hnc⟩ : ∃ nc, nc = (yH P.T (L.map wh)).length := ⟨_, rfl⟩
     rw [<- hnc] at CL;have HNC : Hid ((P.put L).T.length = nc) := Lh hnc.symm;clear hnc;go_upto_region 8 with (go_at_call 146; refine ST.out.mono ?_; rintro e w2 ⟨rfl, hw2, hc2⟩)
     rw [<- LTL.out] at hw2;have CP := Lh (zDq (w := w2.drew) (base := w.heap.size) (by exact hw2) (by rw [LTL.out, XL.out]; omega));rw [CL.out] at CP;have hb2 : Below w.heap.size w w2 := ((Chg.of (S := fun q => w.heap.size <= q) HBR.out).same (hc2.mono fun q _ e => (HRW.out.lt q e).1)).below (Nat.le_refl _) fun q e => e
     have B2 := Lh hb2;have O2 := Lh (HO.out.keep hb2);have HW2 := Lh hw2;clear hw2 hc2 hb2;by_cases hle : nc <= P.room
     · have tt : decide ((P.room : Int) < (nc : Int)) = false := by simpa using hle
       refine zA (fun W => Own W p 131 #[.pointer (some ⟨d, 0, none⟩), .int .i64 (P.ll : Int), .int .u64 (P.seq : Int), .pointer (some ⟨lg, 0, none⟩), .map (some lm), .int .i64 (P.room : Int), .pointer (some ⟨pl, 0, none⟩), .bool P.failed]) (0 :: 2 :: 3 :: 4 :: 5 :: 6 :: 7 :: []) (6 :: []) (0 :: 3 :: 4 :: 5 :: 6 :: 1 :: 2 :: 7 :: []) (by kernel_rfl) (by kernel_rfl) rfl (by kernel_rfl) rfl (O2.out.drawn) (by simp only [zQ, List.filterMap_cons, List.filterMap_nil, List.getElem?_cons_zero, List.getElem?_cons_succ, Option.map_some]; exact rfl) ?_;iterate 5
         refine zC (v := ?_) rfl rfl (fun W hS => ?_) ?_;rotate_left
         · first
             | (conv => lhs; simp [go_sem, tt]
                first | done | exact rfl)
             | (have hS := hS rfl
                obtain ⟨q1, q3, q4⟩ := Own.at_ hS;conv => lhs; simp [go_sem, *, tt]
                first | done | exact rfl)
         simp only [Act.put, lA, lZ, lS]
       refine zK rfl rfl fun K hK => ?_
       go_wp2_with (go_at_call 147; refine CP.out.mono ?_; rintro e w3 ⟨⟨a3, cp3, rfl⟩, hc3⟩)
       have hb3 : Below w.heap.size w w3 := ((Chg.of (S := fun q => w.heap.size <= q) (B2.out.drew)).same (hc3.mono fun q _ e => (HW2.out.lt q e).1)).below (Nat.le_refl _) fun q e => e
       have B3 := Lh hb3;have O3 := Lh (HO.out.keep hb3);refine hK _ _ O3.out ?_;clear hK K hb3 hc3;iterate 2
         refine zC (v := ?_) rfl rfl (fun W hS => ?_) ?_;rotate_left
         · first
             | (conv => lhs; simp [go_sem, tt]
                first | done | exact rfl)
             | (have hS := hS rfl
                obtain ⟨q1, q3, q4⟩ := Own.at_ hS;conv => lhs; simp [go_sem, *, tt]
                first | done | exact rfl)
         simp only [Act.put, lA, lZ, lS]
       refine zN ?_;have FIN : Hid (P.chgE L = 0 /\ P.chg L = P.put L) := Lh (by unfold PS.chgE PS.chg; rw [HNC.out, if_pos hle, if_pos hle]; exact ⟨rfl, rfl⟩);have t2 : decide (P.room < nc) = false := by simpa using hle
       rw [t2];clear tt t2;have HLE := Lh hle;have HK := Lh (H.out.ok.put HL.out (by rw [HNC.out]; exact hle) HHD.out.1 HHD.out.2);clear hle;go_wp2;go_loopw [39] (fun i wr => ∃ (j : Nat) (R' : List Po.RF), j <= k /\ i = .int .i64 (j : Int) /\ Po.PoolAt wr Bp pl P.room (c + j) R' /\ Coh (P.put (L.take j)) R' /\ Chg (Po.PT w Bp) w wr) (fun i wr => k - (intOf i).toNat)
       case atStart => exact ⟨0, R, by omega, rfl, H.out.pool.below B3.out, H.out.coh, Chg.of B3.out⟩
       case round =>
         obtain ⟨j, R', hj, rfl, hp, hcoh, hch⟩ := hrel;by_cases hlt : j < k
         · obtain ⟨q, hq⟩ : ∃ q, L[j]? = some q := ⟨_, List.getElem?_eq_getElem (by rw [<- HN.out]; exact hlt)⟩
           obtain ⟨c0, c1, c2⟩ := HCS.out j q hq;have hqL : q ∈ L := List.mem_of_getElem? hq;obtain ⟨y1, y2, y3, y4⟩ := HL.out q hqL;have ob := (yX hch HB.out (by decide) (by decide)).at_;have op := Lh (yX hch HO.out (by decide) (by decide));have k0 : wr.cell? ⟨b, j * 3, none⟩ = some (.int .i64 (q.1 : Int)) := by rw [ob.1, c0]
           have k1 : wr.cell? ⟨b, j * 3 + 1, none⟩ = some (.int .i64 (q.2.1 : Int)) := by rw [ob.1, c1]
           have k2 : wr.cell? ⟨b, j * 3 + 2, none⟩ = some (.string q.2.2) := by rw [ob.1, c2]
           have ek : L.take (j + 1) = L.take j ++ [q] := by rw [List.take_add_one, hq]; rfl
           have hins : (ins q.1 (q.2.1, fl q.2.2) (P.put (L.take j)).T).length <= P.room := by
             have h1 := zDp HT.out L (j + 1);rw [ek, PS.put_snoc, HNC.out] at h1;exact Nat.le_trans h1 HLE.out
           have hcs2 := Coh.set hcoh hp.ok (uO _ HT.out) (no := q.1) (x := (q.2.1, fl q.2.2)) y1 (zOd HL.out hqL) hins;have hco : Coh (P.put (L.take (j + 1))) (Po.setR R' P.room (q.1 : Int) (fr (q.2.1, fl q.2.2))).2 := by rw [ek, PS.put_snoc]; exact hcs2.2
           have hfz := gS (x := (q.2.1, fl q.2.2)) (Qt _ y4);have FRM := Lh (fun W => gR q.1 q.2.1 q.2.2 W y3 y4);obtain ⟨F, hF⟩ : ∃ F, F = fr (q.2.1, fl q.2.2) := ⟨_, rfl⟩
           rw [<- hF] at FRM hco hfz;have SETh : Hid (∀ W, Below wr.heap.size wr W -> Calls Tryz.prog 148 #[.pointer (some ⟨pl, 0, none⟩), .int .i64 (q.1 : Int), .string F] W fun e w' => (∃ z : Int, e = .returned (.int .i64 z)) /\ Po.PoolAt w' Bp pl P.room (c + (j + 1)) (Po.setR R' P.room (q.1 : Int) F).2 /\ Chg (Po.PT W Bp) W w') := Lh fun W hW => by
             refine (Po.set_any (hp.below hW) (q.1 : Int) F (by omega) (by omega)).mono ?_;rintro e w2 ⟨rfl, h1, h2⟩;exact ⟨⟨_, rfl⟩, h1, h2⟩
           have HCO := Lh hco;have HCH := Lh hch;have hw1 : IntKind.i64.wrap ((j : Int) + 1) = ((j + 1 : Nat) : Int) := by rw [IntKind.wrap_i64]; omega
           have zr : p < wr.heap.size := op.out.in_;clear hp hcoh hch c0 c1 c2 ob ek hins hcs2 hco hfz hF hqL hq y1 y2 y3 y4;go_upto_region 13 with fail;have O9 := Own.made wr 112 #[.int .i64 (q.1 : Int), .int .i64 (q.2.1 : Int), .string q.2.2];have B9 := zF wr 112 #[.int .i64 (q.1 : Int), .int .i64 (q.2.1 : Int), .string q.2.2];have P9 := op.out.keep B9;go_name_world W0 hW0;rw [hW0] at O9 B9 P9;clear hW0;have HB9 := Lh B9;clear B9;refine zA (fun W => Own W p 131 #[.pointer (some ⟨d, 0, none⟩), .int .i64 (P.ll : Int), .int .u64 (P.seq : Int), .pointer (some ⟨lg, 0, none⟩), .map (some lm), .int .i64 (P.room : Int), .pointer (some ⟨pl, 0, none⟩), .bool P.failed] /\ Own W wr.heap.size 112 #[.int .i64 (q.1 : Int), .int .i64 (q.2.1 : Int), .string q.2.2]) (0 :: 1 :: 2 :: 3 :: 4 :: 5 :: 6 :: []) (3 :: 5 :: 6 :: []) (0 :: 1 :: 2 :: 3 :: 4 :: 5 :: 6 :: 7 :: 8 :: []) (by kernel_rfl) (by kernel_rfl) rfl (by kernel_rfl) rfl (⟨P9.drawn, O9.drawn⟩) (by simp only [zQ, List.filterMap_cons, List.filterMap_nil, List.getElem?_cons_zero, List.getElem?_cons_succ, Option.map_some]; exact rfl) ?_;iterate 7
             refine zC (v := ?_) rfl rfl (fun W hS => ?_) ?_;rotate_left
             · first
                 | (conv => lhs; simp [go_sem, True]
                    first | done | exact rfl)
                 | (have hS := hS rfl
                    obtain ⟨q1, q2⟩ := hS;obtain ⟨q1, q3, q4⟩ := Own.at_ q1;obtain ⟨q2, q5, q6⟩ := Own.at_ q2;conv => lhs; simp [go_sem, *, True]
                    first | done | exact rfl)
             simp only [Act.put, lA, lZ, lS]
           refine zK rfl rfl fun K hK => ?_
           go_wp2_with (go_at_call 142; refine (FRM.out _).mono ?_; rintro e w5 ⟨rfl, hb5⟩)
           have B5 := Lh (then_ HB9.out.drew hb5 HB9.out.drew.size);have P5 := Lh (P9.drawn.keep hb5);have O5 := Lh (O9.drawn.keep hb5);refine hK _ _ ⟨P5.out, O5.out⟩ ?_;clear hK K hb5;refine zK rfl rfl fun K hK => ?_
           go_wp2_with (go_at_call 148; refine (SETh.out _ B5.out).mono ?_; rintro e w6 ⟨⟨z, rfl⟩, hp6, hc6⟩)
           have C6 := Lh (yV (xC HCH.out B5.out) hc6);have HP6 := Lh hp6;refine hK _ _ ⟨yX hc6 P5.out (by decide) (by decide), yX hc6 O5.out (by decide) (by decide)⟩ ?_;clear hK K hc6 hp6;refine zN ?_;go_wp2;go_roundw
           case rel => exact ⟨j + 1, _, by omega, by first | rfl | (congr 1; omega), HP6.out, HCO.out, C6.out⟩
           case measure => simp [intOf] <;> omega
         · obtain rfl : j = k := by omega
           have e1 : L.take j = L := by rw [HN.out, List.take_length]
           rw [e1] at hcoh;have C9 := Lh hch;have P9 := Lh (H.out.pooled_put HK.out hch hp hcoh);clear hp hcoh hch e1;go_wp2;go_ret;rw [FIN.out.1, FIN.out.2];exact ⟨rfl, ⟨sb, mb, sc, wv, lg, lm, pl, _, P9.out.more (by omega)⟩, C9.out⟩
     · have tt : decide ((P.room : Int) < (nc : Int)) = true := by simpa using (by omega : P.room < nc)
       refine zA (fun W => Own W p 131 #[.pointer (some ⟨d, 0, none⟩), .int .i64 (P.ll : Int), .int .u64 (P.seq : Int), .pointer (some ⟨lg, 0, none⟩), .map (some lm), .int .i64 (P.room : Int), .pointer (some ⟨pl, 0, none⟩), .bool P.failed]) (0 :: 2 :: 3 :: 4 :: 5 :: 6 :: 7 :: []) (6 :: []) (0 :: 3 :: 4 :: 5 :: 6 :: 1 :: 2 :: 7 :: []) (by kernel_rfl) (by kernel_rfl) rfl (by kernel_rfl) rfl (O2.out.drawn) (by simp only [zQ, List.filterMap_cons, List.filterMap_nil, List.getElem?_cons_zero, List.getElem?_cons_succ, Option.map_some]; exact rfl) ?_;iterate 5
         refine zC (v := ?_) rfl rfl (fun W hS => ?_) ?_;rotate_left
         · first
             | (conv => lhs; simp [go_sem, tt]
                first | done | exact rfl)
             | (have hS := hS rfl
                obtain ⟨q1, q3, q4⟩ := Own.at_ hS;conv => lhs; simp [go_sem, *, tt]
                first | done | exact rfl)
         simp only [Act.put, lA, lZ, lS]
       refine zK rfl rfl fun K hK => ?_
       go_wp2_with (go_at_call 147; refine CP.out.mono ?_; rintro e w3 ⟨⟨a3, cp3, rfl⟩, hc3⟩)
       have hb3 : Below w.heap.size w w3 := ((Chg.of (S := fun q => w.heap.size <= q) (B2.out.drew)).same (hc3.mono fun q _ e => (HW2.out.lt q e).1)).below (Nat.le_refl _) fun q e => e
       have B3 := Lh hb3;have O3 := Lh (HO.out.keep hb3);refine hK _ _ O3.out ?_;clear hK K hb3 hc3;iterate 2
         refine zC (v := ?_) rfl rfl (fun W hS => ?_) ?_;rotate_left
         · first
             | (conv => lhs; simp [go_sem, tt]
                first | done | exact rfl)
             | (have hS := hS rfl
                obtain ⟨q1, q3, q4⟩ := Own.at_ hS;conv => lhs; simp [go_sem, *, tt]
                first | done | exact rfl)
         simp only [Act.put, lA, lZ, lS]
       refine zN ?_;have FIN : Hid (P.chgE L = 10 /\ P.chg L = P) := Lh (by unfold PS.chgE PS.chg; rw [HNC.out, if_neg hle, if_neg hle]; exact ⟨rfl, rfl⟩);have t2 : decide (P.room < nc) = true := by simpa using (by omega : P.room < nc)
       rw [t2];clear tt t2;go_wp2;go_ret;rw [FIN.out.1, FIN.out.2];exact ⟨rfl, Ask.from_ B3.out ((Ask.same (zG.below ⟨sb, mb, sc, wv, lg, lm, pl, R, H.out⟩ B3.out)).more (by omega))⟩
end
end Go.Proofs.YtndhmidgnpobjaaGreatDoor
