import Derived.Test.YtndhmidgnpobjaaGreatDoorPguF
set_option linter.unusedVariables false
set_option linter.unusedSimpArgs false
namespace Go.Proofs.YtndhmidgnpobjaaGreatDoor
open Go.ChangeShapes Go.WideShapes Go.ChangeAt Go.RowKit
section
def RS.new (R : RS) (L : List Nat) : Nat := (L.filter fun x => !R.dirty.getD x false).length
def RS.big (R : RS) (L : List Nat) : Bool := decide (R.room < R.count + R.new L)
theorem zIz (D : List Bool) (L : List Nat) (k : Nat) {x : Nat} (h : L[k]? = some x) : ((L.take (k + 1)).filter fun x => !D.getD x false).length = ((L.take k).filter fun x => !D.getD x false).length + if D.getD x false then 0 else 1 := by
 rw [List.take_add_one, h];simp only [Option.toList_some, List.filter_append, List.length_append];cases hb : D.getD x false <;> simp only [List.filter_cons, List.filter_nil, hb] <;> rfl
section
variable {w w' : World} {B p : Nat} {sk sr sf wk wr wf vd : Value} {R : RS}
set_option maxRecDepth 10000 in
theorem mV (h : Ref w B p sk sr sf wk wr wf vd R) (L : List Nat) (hn : L.length <= 2) (hL : ∀ x ∈ L, x < R.dirty.length) (hrm : R.room <= 1000000) (hdm : R.dirty.length <= 1000000) (b : Nat) (cs : Array Value) (hb : Own w b 3 cs) (hcs : ∀ (k x : Nat), L[k]? = some x -> cs[k]? = some (.int .i64 (x : Int))) :
   Calls Tryz.prog 93 #[.pointer (some ⟨p, 0, none⟩), .slice (some ⟨b, 0, none⟩) L.length L.length] w fun e w' => e = .returned (.bool (R.big L)) /\ Below w.heap.size w w' := by
 have CN := Lh (Zd h);have hdi := h.dirty;obtain ⟨da, dc, rfl, -, hd⟩ := zO hdi;have hmx := gV hdi;unfold maxLen at hmx;have ho := h.own;have hcm : R.count <= R.dirty.length := List.count_le_length;have HNW := Lh (fun k (hk : k <= L.length) => show ((L.take k).filter fun x => !R.dirty.getD x false).length <= k from Nat.le_trans (List.length_filter_le _ _) (by rw [List.length_take]; omega));have E := Lh (show R.big L = decide (R.room < R.count + (L.filter fun x => !R.dirty.getD x false).length) from rfl);obtain ⟨D, hD⟩ : ∃ D, D = R.dirty := ⟨_, rfl⟩
 obtain ⟨cn, hcn⟩ : ∃ cn, cn = R.count := ⟨_, rfl⟩
 rw [<- hD] at hd hmx hdi hL hcm HNW E hdm;rw [<- hD] at ho;rw [<- hcn] at CN E hcm;unfold rfC at ho;obtain ⟨n, hn2⟩ : ∃ n, n = D.length := ⟨_, rfl⟩
 rw [<- hn2] at ho hmx hcm hdm;have HO := Lh ho;have HN := Lh hn2;obtain ⟨m, hm⟩ : ∃ m, m = L.length := ⟨_, rfl⟩
 have HM := Lh hm;have hdl : ∀ x ∈ L, ∃ g, da = some ⟨g, 0, none⟩ /\ x < n /\ ∀ W, Below w.heap.size w W -> W.cell? ⟨g, x, none⟩ = some (.bool (D.getD x false)) := fun x hx => by
   have hx2 := hL x hx;obtain ⟨g, h1, h2, h3, -⟩ := hd x (by simp [vL]; omega);refine ⟨g, h1, by omega, fun W hW => ?_⟩;rw [World.cell?_of_block (hW.block g (hdi.lt g h2).2), h3];simp [vL, List.getD_eq_getElem?_getD, List.getElem?_eq_getElem hx2]
 have HDL := Lh hdl;have hcl : ∀ (k x : Nat), L[k]? = some x -> ∀ W, Below w.heap.size w W -> W.cell? ⟨b, k, none⟩ = some (.int .i64 (x : Int)) := fun k x hx W hW => by
   rw [(hb.keep hW).at_.1, hcs k x hx]
 have HCL := Lh hcl;obtain ⟨q1, q2, q3⟩ := ho.at_;rw [<- hm] at hn ⊢;clear h hd ho hD hdl hdi hcl hL hb hcs hcn hm hn2;go_enter Tryz.func93, Tryz.ntmps93;go_wp2_with (go_at_call 34; refine CN.out.mono ?_; rintro e w2 ⟨rfl, hb2⟩; have B2 := Lh hb2; clear hb2)
 go_loopw [5, 6] (fun t i wx => ∃ k : Nat, k <= m /\ i = .int .i64 (k : Int) /\ t = .int .i64 ((cn + ((L.take k).filter fun x => !D.getD x false).length : Nat) : Int) /\ Below w.heap.size w wx) (fun t i wx => m - (intOf i).toNat)
 case atStart => exact ⟨0, by omega, rfl, by simp, B2.out⟩
 case round =>
   obtain ⟨k, hk, rfl, rfl, hb⟩ := hrel;have HBB := Lh hb;have hnk := HNW.out k (by rw [<- HM.out]; exact hk);clear hb;by_cases hlt : k < m
   · obtain ⟨x, hx⟩ : ∃ x, L[k]? = some x := ⟨_, List.getElem?_eq_getElem (by rw [<- HM.out]; exact hlt)⟩
     obtain ⟨g, rfl, hxn, hg⟩ := HDL.out x (List.mem_of_getElem? hx);have TC := Lh (zIz D L k hx);have HG := Lh hg;have HX := Lh (HCL.out k x hx);obtain ⟨z, hz⟩ : ∃ z, z = ((L.take k).filter fun x => !D.getD x false).length := ⟨_, rfl⟩
     rw [<- hz] at hnk TC ⊢;obtain ⟨y, hy⟩ : ∃ y, y = D.getD x false := ⟨_, rfl⟩
     rw [<- hy] at TC HG;have e1 : IntKind.i64.wrap ((k : Int) + 1) = ((k + 1 : Nat) : Int) := by rw [IntKind.wrap_i64]; omega
     have e2 : IntKind.i64.wrap (((cn + z : Nat) : Int) + 1) = ((cn + z + 1 : Nat) : Int) := by rw [IntKind.wrap_i64]; omega
     have l1 : (k : Int) < (m : Int) := by omega
     have l2 : (x : Int) < (n : Int) := by omega
     clear hx hg hy hz;go_upto_region 5 with fail;refine zA (fun W => Below w.heap.size w W) (0 :: 1 :: 2 :: 3 :: 4 :: 5 :: 6 :: 7 :: 8 :: 9 :: 10 :: []) (3 :: 7 :: 9 :: []) (0 :: 1 :: 2 :: 3 :: 4 :: 5 :: 6 :: 7 :: 8 :: 9 :: 10 :: []) (by kernel_rfl) (by kernel_rfl) rfl (by kernel_rfl) rfl (HBB.out.drew) (by simp only [zQ, List.filterMap_cons, List.filterMap_nil, List.getElem?_cons_zero, List.getElem?_cons_succ, Option.map_some]; exact rfl) ?_;iterate 11
       refine zC (v := ?_) rfl rfl (fun W hS => ?_) ?_;rotate_left
       · first
           | (conv => lhs; simp [go_sem, l1, l2]
              first | done | exact rfl)
           | (have hS := hS rfl
              obtain ⟨q1, q2, q3⟩ := (HO.out.keep hS).at_;have k1 := HX.out _ hS;have k2 := HG.out _ hS;conv => lhs; simp [go_sem, *, l1, l2]
              first | done | exact rfl)
       simp only [Act.put, lA, lZ, lS]
     refine zN ?_;cases y with
     | true =>
       go_wp2;go_roundw
       case rel => exact ⟨k + 1, by omega, by first | rfl | (congr 1; omega), by rw [TC.out]; rfl, HBB.out.drew⟩
       case measure => simp [intOf] <;> omega
     | false =>
       go_wp2;go_roundw
       case rel => exact ⟨k + 1, by omega, by first | rfl | (congr 1; omega), by rw [TC.out]; rfl, HBB.out.drew⟩
       case measure => simp [intOf] <;> omega
   · obtain rfl : k = m := by omega
     have e1 : L.take k = L := by rw [HM.out, List.take_length]
     rw [e1];obtain ⟨q1, q2, q3⟩ := (HO.out.keep HBB.out).at_;obtain ⟨z, hz⟩ : ∃ z, z = cn + (L.filter fun x => !D.getD x false).length := ⟨_, rfl⟩
     rw [<- hz] at E ⊢;clear hz e1 hnk;go_wp2;go_ret;rw [E.out];exact ⟨by simp, HBB.out⟩
end
end
section
theorem Yj {w : World} {B : Nat} {e : TypeId} {size g n cap : Nat} {xs : List Value} (h : w.ownsRow B e size (.slice (some ⟨g, 0, none⟩) n cap) n xs) (j : Nat) (u : Value) : (w.setCell ⟨g, j, none⟩ u).ownsRow B e size (.slice (some ⟨g, 0, none⟩) n cap) n (xs.set j u) := by
 obtain ⟨h0, h⟩ := h;refine ⟨by simpa using h0, ?_⟩;rcases h with ⟨h, _⟩ | ⟨g', cap', cur, e1, h1, h2, h3, h4, h5, h6⟩
 · cases h
 · injection e1 with e1 e2 e3;injection e1 with e1;injection e1 with e1 e4;subst e1 e3;have ho : Own w g e cur := h2;exact .inr ⟨g, cap, _, rfl, h1, ho.put j u, h3, h4, by simpa using h5, by rw [<- h6]; simp [List.take_set]⟩
section
variable {w w' : World} {B p : Nat} {sk sr sf wk wr wf vd : Value} {R : RS}
theorem zKq (l : List Nat) (k x : Nat) : yE (l.set k x) = (yE l).set k (.int .i64 (x : Int)) := by simp [yE, List.map_set]
theorem zJ5 (l : List ByteArray) (k : Nat) (x : ByteArray) : xL (l.set k x) = (xL l).set k (.string x) := by simp [xL, List.map_set]
theorem zI3 (l : List Bool) (k : Nat) (x : Bool) : vL (l.set k x) = (vL l).set k (.bool x) := by simp [vL, List.map_set]
theorem vU.other (h : vU w B sk sr sf R.sure) {a : Addr} (h1 : sk.ownBlock ≠ some a.block) (h2 : sr.ownBlock ≠ some a.block) (h3 : sf.ownBlock ≠ some a.block) (u : Value) : vU (w.setCell a u) B sk sr sf R.sure :=
 ⟨ownsRow_setCell_other h.k h1 u, ownsRow_setCell_other h.r h2 u, ownsRow_setCell_other h.f h3 u, h.ap⟩
theorem Ref.setDirty {g n cap : Nat} (h : Ref w B p sk sr sf wk wr wf (.slice (some ⟨g, 0, none⟩) n cap) R) (hn : n = R.dirty.length) (k : Nat) (b : Bool) : Ref (w.setCell ⟨g, k, none⟩ (.bool b)) B p sk sr sf wk wr wf (.slice (some ⟨g, 0, none⟩) n cap) { R with dirty := R.dirty.set k b } := by
 have hd := h.dirty;subst hn;have X : ∀ {T : TypeId} {v : Value} {m : Nat} {l : List Value}, w.ownsRow B T 1 v m l -> 4 ≠ T -> v.ownBlock ≠ some g := fun hv hT => xH hd hv hT g rfl
 exact { h with
   own := h.own.apart (fun e => zZ hd h.own (by decide) (by rw [<- e]; rfl)) k (.bool b)
   sure := ⟨ownsRow_setCell_other h.sure.k (X h.sure.k (by decide)) _, ownsRow_setCell_other h.sure.r (X h.sure.r (by decide)) _, ownsRow_setCell_other h.sure.f (X h.sure.f (by decide)) _, h.sure.ap⟩
   way := ⟨ownsRow_setCell_other h.way.k (X h.way.k (by decide)) _, ownsRow_setCell_other h.way.r (X h.way.r (by decide)) _, ownsRow_setCell_other h.way.f (X h.way.f (by decide)) _, h.way.ap⟩
   dirty := by
     rw [zI3, List.length_set];exact Yj hd k _ }
theorem Ref.setRoom {g n cap : Nat} (h : Ref w B p sk sr sf wk (.slice (some ⟨g, 0, none⟩) n cap) wf vd R) (hn : n = R.way.rooms.length) (k : Nat) (s : ByteArray) : Ref (w.setCell ⟨g, k, none⟩ (.string s)) B p sk sr sf wk (.slice (some ⟨g, 0, none⟩) n cap) wf vd { R with way := { R.way with rooms := R.way.rooms.set k s } } := by
 have hd := h.way.r;subst hn;have X : ∀ {T : TypeId} {v : Value} {m : Nat} {l : List Value}, w.ownsRow B T 1 v m l -> 9 ≠ T -> v.ownBlock ≠ some g := fun hv hT => xH hd hv hT g rfl
 exact { h with
   own := h.own.apart (fun e => zZ hd h.own (by decide) (by rw [<- e]; rfl)) k (.string s)
   sure := ⟨ownsRow_setCell_other h.sure.k (X h.sure.k (by decide)) _, ownsRow_setCell_other h.sure.r (h.a5 g rfl) _, ownsRow_setCell_other h.sure.f (X h.sure.f (by decide)) _, h.sure.ap⟩
   way := ⟨ownsRow_setCell_other h.way.k (X h.way.k (by decide)) _, by
     rw [zJ5, List.length_set];exact Yj hd k _, ownsRow_setCell_other h.way.f (X h.way.f (by decide)) _, h.way.ap⟩
   dirty := ownsRow_setCell_other h.dirty (X h.dirty (by decide)) _ }
theorem Ref.setKind {g n cap : Nat} (h : Ref w B p sk sr sf (.slice (some ⟨g, 0, none⟩) n cap) wr wf vd R) (hn : n = R.way.kinds.length) (k x : Nat) : Ref (w.setCell ⟨g, k, none⟩ (.int .i64 (x : Int))) B p sk sr sf (.slice (some ⟨g, 0, none⟩) n cap) wr wf vd { R with way := { R.way with kinds := R.way.kinds.set k x } } := by
 have hd := h.way.k;subst hn;have X : ∀ {T : TypeId} {v : Value} {m : Nat} {l : List Value}, w.ownsRow B T 1 v m l -> 3 ≠ T -> v.ownBlock ≠ some g := fun hv hT => xH hd hv hT g rfl
 exact { h with
   own := h.own.apart (fun e => zZ hd h.own (by decide) (by rw [<- e]; rfl)) k _
   sure := ⟨ownsRow_setCell_other h.sure.k (h.a1 g rfl) _, ownsRow_setCell_other h.sure.r (X h.sure.r (by decide)) _, ownsRow_setCell_other h.sure.f (h.a2 g rfl) _, h.sure.ap⟩
   way := ⟨by
     rw [zKq, List.length_set];exact Yj hd k _, ownsRow_setCell_other h.way.r (X h.way.r (by decide)) _, ownsRow_setCell_other h.way.f (h.way.ap g rfl) _, h.way.ap⟩
   dirty := ownsRow_setCell_other h.dirty (X h.dirty (by decide)) _ }
end
end
section
structure RSt.Ok (s : RSt) : Prop where
 k : s.kinds.length <= 100000
 kr : s.rooms.length = s.kinds.length
 ne : 1 <= s.rooms.length
 f : ∀ x ∈ s.free, x < 100000
 r : ∀ i, i < 8 -> s.roots i < 18446744073709551616
 fl : s.free.length <= 100000
def jK (D : List Bool) (L : List Nat) : List Bool := L.foldl (fun D x => D.set x true) D
theorem Jk (L : List Nat) : ∀ D : List Bool, (jK D L).length = D.length := by
 induction L with
 | nil => intro D; rfl
 | cons x L ih => intro D; show (jK (D.set x true) L).length = _; rw [ih, List.length_set]
theorem zD7 (D : List Bool) (L : List Nat) (x : Nat) : jK D (L ++ [x]) = (jK D L).set x true := by simp [jK]
def RS.setL (R : RS) (L : List Nat) : RS := { R with dirty := jK R.dirty L }
def RS.hd (R : RS) : RS := { R with way := { R.way with rooms := R.way.rooms.set 0 (zM R.way.kinds.length R.way.first R.way.roots) } }
def RS.touch (R : RS) (L : List Nat) : RS := (R.setL L).hd
section
variable {w w' : World} {B p : Nat} {sk sr sf wk wr wf vd : Value} {R : RS}
theorem vT {T : TypeId} {cur : Array Value} {g k : Nat} {v : Value} (hB : B <= g) (hg : w.heap[g]? = some (.cells cur T (0, 0))) (hT : T = 61 \/ T = 3 \/ T = 9 \/ T = 4) : Chg (RT w B) w (w.setCell ⟨g, k, none⟩ v) :=
 (Chg.refl _ w).set ⟨g, k, none⟩ (.inl ⟨hB, _, _, _, hg, hT⟩) v
set_option maxRecDepth 10000 in
set_option maxHeartbeats 1000000 in
theorem gB (h : Ref w B p sk sr sf wk wr wf vd R) (hok : R.way.Ok) (L : List Nat) (hn : L.length <= 2) (hL : ∀ x ∈ L, x < R.dirty.length) (b : Nat) (cs : Array Value) (hb : Own w b 3 cs) (hcs : ∀ (k x : Nat), L[k]? = some x -> cs[k]? = some (.int .i64 (x : Int))) :
   Calls Tryz.prog 95 #[.pointer (some ⟨p, 0, none⟩), .slice (some ⟨b, 0, none⟩) L.length L.length] w fun e w' => e = .returned (.tuple #[]) /\ Ref w' B p sk sr sf wk wr wf vd (R.touch L) /\ Chg (RT w B) w w' := by
 have hdi := h.dirty;have hri := h.way.r;obtain ⟨da, dc, rfl, -, hd⟩ := zO hdi;obtain ⟨ra, rc, rfl, -, hr⟩ := zO hri;obtain ⟨m, hm⟩ : ∃ m, m = L.length := ⟨_, rfl⟩
 have HM := Lh hm;have HCS := Lh hcs;have HLL := Lh hL;have hg0 : ∀ x ∈ L, ∃ g, da = some ⟨g, 0, none⟩ := fun x hx => by
   have := hL x hx;obtain ⟨g, h1, -⟩ := hd x (by simp [vL]; omega);exact ⟨g, h1⟩
 obtain ⟨gr, hgr, hgo, -⟩ := hr 0 (by simp [xL]; exact hok.ne);have HG := Lh hg0;have H := Lh h;have HB := Lh hb;have HOK := Lh hok;have R0 := Lh (show R.setL [] = R from rfl);obtain ⟨n, hn2⟩ : ∃ n, n = R.dirty.length := ⟨_, rfl⟩
 have HN := Lh hn2;rw [<- hn2] at H hL ⊢;rw [<- hm] at hn ⊢;subst hgr;obtain ⟨rn, hrn⟩ : ∃ rn, rn = R.way.rooms.length := ⟨_, rfl⟩
 have HRN := Lh hrn;have hne : 1 <= rn := by rw [hrn]; exact hok.ne
 rw [<- hrn] at H ⊢;clear h hb hok hd hr hdi hri hL hcs hg0 hgo hm hn2 hrn;go_enter Tryz.func95, Tryz.ntmps95;go_wp2;go_loopw [4] (fun i wx => ∃ k : Nat, k <= m /\ i = .int .i64 (k : Int) /\ Ref wx B p sk sr sf wk (.slice (some ⟨gr, 0, none⟩) rn rc) wf (.slice da n dc) (R.setL (L.take k)) /\ Own wx b 3 cs /\ Chg (RT w B) w wx) (fun i wx => m - (intOf i).toNat)
 case atStart => exact ⟨0, by omega, rfl, H.out, HB.out, Chg.refl _ _⟩
 case round =>
   obtain ⟨k, hk, rfl, hR, hb, hc⟩ := hrel;have ho := hR.own;unfold rfC at ho;have HO := Lh ho;have HRR := Lh hR;have HBB := Lh hb;have HC := Lh hc;clear ho hR hb hc;by_cases hlt : k < m
   · obtain ⟨x, hx⟩ : ∃ x, L[k]? = some x := ⟨_, List.getElem?_eq_getElem (by rw [<- HM.out]; exact hlt)⟩
     obtain ⟨g, rfl⟩ := HG.out x (List.mem_of_getElem? hx);have hxn := HLL.out x (List.mem_of_getElem? hx);rw [<- HN.out] at hxn;have ek : L.take (k + 1) = L.take k ++ [x] := by rw [List.take_add_one, hx]; rfl
     have hc0 := HCS.out k x hx;have hdl : (R.setL (L.take k)).dirty.length = n := by show (jK R.dirty _).length = n; rw [Jk, <- HN.out]
     have hD := HRR.out.dirty;rw [hdl] at hD;obtain ⟨a9, cp9, hv9, hl9, hcl⟩ := zO hD;obtain ⟨g2, hg2, hg3, hx1, hx2⟩ := hcl x (by simp [vL, hdl]; exact hxn);obtain ⟨hB9, cur, hcur⟩ := yC hD rfl;obtain ⟨e9, -, -⟩ := Value.slice.inj hv9;obtain rfl : g = g2 := by rw [hg2] at e9; simpa using e9
     obtain ⟨v0, hv0⟩ : ∃ v0, wr.cell? ⟨g, x, none⟩ = some v0 := ⟨_, hx1⟩
     have hsb : (R.setL (L.take (k + 1))) = { R.setL (L.take k) with dirty := (R.setL (L.take k)).dirty.set x true } := by
       unfold RS.setL;rw [ek, zD7]
     have hR2 : Ref (wr.drew.setCell ⟨g, x, none⟩ (.bool true)) B p sk sr sf wk (.slice (some ⟨gr, 0, none⟩) rn rc) wf (.slice (some ⟨g, 0, none⟩) n dc) (R.setL (L.take (k + 1))) := by
       rw [hsb];exact (HRR.out.below (Below.refl _ _).drew).setDirty hdl.symm x true
     have hc2 : Chg (RT w B) w (wr.drew.setCell ⟨g, x, none⟩ (.bool true)) := yF HC.out.drew (vT hB9 hcur (.inr (.inr (.inr rfl))));have hb2 : Own (wr.drew.setCell ⟨g, x, none⟩ (.bool true)) b 3 cs := HBB.out.drawn.apart (fun e => zZ hD HBB.out (by decide) (by rw [e]; rfl)) x _;have HR2 := Lh hR2;have HC2 := Lh hc2;have HB2 := Lh hb2;have w1 : IntKind.i64.wrap ((k : Int) + 1) = ((k + 1 : Nat) : Int) := by rw [IntKind.wrap_i64]; omega
     have l1 : (k : Int) < (m : Int) := by omega
     have l2 : (x : Int) < (n : Int) := by omega
     have hcb : wr.cell? ⟨b, k, none⟩ = some (.int .i64 (x : Int)) := by rw [HBB.out.at_.1, hc0]
     clear hx ek hc0 hdl hD hcl hg2 hg3 hx1 hB9 hcur e9 hv9 hl9 hsb hR2 hc2 hb2;go_upto_region 3 with fail;refine zA (fun W => W.cell? ⟨b, k, none⟩ = some (.int .i64 (x : Int)) /\ Own W p 61 #[.int .i64 (R.most : Int), .int .i64 (R.room : Int), sk, sr, sf, .int .u64 (R.sure.roots 0 : Int), .int .u64 (R.sure.roots 1 : Int), .int .u64 (R.sure.roots 2 : Int), .int .u64 (R.sure.roots 3 : Int), .int .u64 (R.sure.roots 4 : Int), .int .u64 (R.sure.roots 5 : Int), .int .u64 (R.sure.roots 6 : Int), .int .u64 (R.sure.roots 7 : Int), wk, .slice (some ⟨gr, 0, none⟩) rn rc, wf, .int .u64 (R.way.roots 0 : Int), .int .u64 (R.way.roots 1 : Int), .int .u64 (R.way.roots 2 : Int), .int .u64 (R.way.roots 3 : Int), .int .u64 (R.way.roots 4 : Int), .int .u64 (R.way.roots 5 : Int), .int .u64 (R.way.roots 6 : Int), .int .u64 (R.way.roots 7 : Int), .slice (some ⟨g, 0, none⟩) n dc]) (0 :: 1 :: 2 :: 3 :: 4 :: 5 :: 6 :: 7 :: 8 :: []) (3 :: 7 :: []) (0 :: 1 :: 2 :: 3 :: 4 :: 5 :: 6 :: 7 :: 8 :: 9 :: []) (by kernel_rfl) (by kernel_rfl) rfl (by kernel_rfl) rfl (⟨hcb, HO.out.drawn⟩) (by simp only [zQ, List.filterMap_cons, List.filterMap_nil, List.getElem?_cons_zero, List.getElem?_cons_succ, Option.map_some]; exact rfl) ?_;iterate 9
       refine zC (v := ?_) rfl rfl (fun W hS => ?_) ?_;rotate_left
       · first
           | (conv => lhs; simp [go_sem, l1, l2]
              first | done | exact rfl)
           | (have hS := hS rfl
              obtain ⟨k1, q1⟩ := hS;obtain ⟨q1, q2, q3⟩ := Own.at_ q1;conv => lhs; simp [go_sem, *, l1, l2]
              first | done | exact rfl)
       simp only [Act.put, lA, lZ, lS]
     refine xQ rfl rfl (by kernel_rfl) rfl fun K hK => ?_
     go_wp2;refine hK _ _ ?_;clear hK K;refine zN ?_;go_wp2;go_roundw
     case rel => exact ⟨k + 1, by omega, by first | rfl | (congr 1; omega), HR2.out, HB2.out, HC2.out⟩
     case measure => simp [intOf] <;> omega
   · obtain rfl : k = m := by omega
     have e1 : L.take k = L := by rw [HM.out, List.take_length]
     rw [e1] at HRR;have HHD : Hid (Calls Tryz.prog 91 #[.agg (stC wk (.slice (some ⟨gr, 0, none⟩) rn rc) wf R.way.roots)] wr.drew fun e w' => e = .returned (.string (zM R.way.kinds.length R.way.first R.way.roots)) /\ Below wr.drew.heap.size wr.drew w') := Lh (zAj (w := wr.drew) (HRR.out.way.below (Below.refl _ _).drew) (show R.way.kinds.length < 4294967296 by have := HOK.out.k; omega) (fun x hx => by have := HOK.out.f x hx; omega) HOK.out.r);have hrow := HRR.out.way.r;obtain ⟨hB9, cur, hcur⟩ := yC hrow rfl;have hx0 : ∃ v0, wr.cell? ⟨gr, 0, none⟩ = some v0 := by
       obtain ⟨a9, cp9, hv9, hl9, hcl⟩ := zO hrow;obtain ⟨g2, hg2, hg3, hx1, hx2⟩ := hcl 0 (by simp [xL]; exact HOK.out.ne);obtain ⟨e9, -, -⟩ := Value.slice.inj hv9;obtain rfl : gr = g2 := by rw [hg2] at e9; simpa using e9
       exact ⟨_, hx1⟩
     obtain ⟨v0, hv0⟩ := hx0;have hgs : gr < wr.heap.size := Array.getElem?_eq_some_iff.1 hcur |>.1;have FIN : Hid (∀ W, Below wr.heap.size wr W -> Ref (W.setCell ⟨gr, 0, none⟩ (.string (zM R.way.kinds.length R.way.first R.way.roots))) B p sk sr sf wk (.slice (some ⟨gr, 0, none⟩) rn rc) wf (.slice da n dc) (R.touch L) /\ Chg (RT w B) w (W.setCell ⟨gr, 0, none⟩ (.string (zM R.way.kinds.length R.way.first R.way.roots))) /\ W.cell? ⟨gr, 0, none⟩ = some v0 /\ W.frozen? ⟨gr, 0, none⟩ = false) := Lh fun W hW => by
       have hcur2 : W.heap[gr]? = some (.cells cur 9 (0, 0)) := (hW.block gr hgs).trans hcur;exact ⟨(HRR.out.below hW).setRoom HRN.out 0 _, yF (HC.out.trans (Chg.of (S := fun _ => False) hW) fun b _ e => e.elim) (vT hB9 hcur2 (.inr (.inr (.inl rfl)))), by rw [<- hv0]; exact World.cell?_of_block (hW.block gr hgs), by simp [World.frozen?, hcur2]⟩
     have l0 : (0 : Int) < (rn : Int) := by omega
     have l9 : 0 < rn := by omega
     obtain ⟨X, hX⟩ : ∃ X, X = zM R.way.kinds.length R.way.first R.way.roots := ⟨_, rfl⟩
     rw [<- hX] at HHD FIN;unfold stC at HHD;clear hrow hB9 hcur hv0 hX e1;go_upto_region 4 with fail;refine zA (fun W => Own W p 61 #[.int .i64 (R.most : Int), .int .i64 (R.room : Int), sk, sr, sf, .int .u64 (R.sure.roots 0 : Int), .int .u64 (R.sure.roots 1 : Int), .int .u64 (R.sure.roots 2 : Int), .int .u64 (R.sure.roots 3 : Int), .int .u64 (R.sure.roots 4 : Int), .int .u64 (R.sure.roots 5 : Int), .int .u64 (R.sure.roots 6 : Int), .int .u64 (R.sure.roots 7 : Int), wk, .slice (some ⟨gr, 0, none⟩) rn rc, wf, .int .u64 (R.way.roots 0 : Int), .int .u64 (R.way.roots 1 : Int), .int .u64 (R.way.roots 2 : Int), .int .u64 (R.way.roots 3 : Int), .int .u64 (R.way.roots 4 : Int), .int .u64 (R.way.roots 5 : Int), .int .u64 (R.way.roots 6 : Int), .int .u64 (R.way.roots 7 : Int), .slice da n dc]) (0 :: 1 :: 2 :: 3 :: 4 :: 5 :: 6 :: 7 :: 8 :: 10 :: []) (4 :: 8 :: []) (0 :: 1 :: 2 :: 3 :: 4 :: 5 :: 6 :: 7 :: 8 :: 9 :: 10 :: 11 :: []) (by kernel_rfl) (by kernel_rfl) rfl (by kernel_rfl) rfl (HO.out.drawn) (by simp only [zQ, List.filterMap_cons, List.filterMap_nil, List.getElem?_cons_zero, List.getElem?_cons_succ, Option.map_some]; exact rfl) ?_;iterate 9
       refine zC (v := ?_) rfl rfl (fun W hS => ?_) ?_;rotate_left
       · first
           | (conv => lhs; simp [go_sem, l0, l9]
              first | done | exact rfl)
           | (have hS := hS rfl
              obtain ⟨q1, q2, q3⟩ := Own.at_ hS;conv => lhs; simp [go_sem, *, l0, l9]
              first | done | exact rfl)
       simp only [Act.put, lA, lZ, lS]
     refine zK rfl rfl fun K hK => ?_
     go_wp2_with (go_at_call 91; refine HHD.out.mono ?_; rintro e w5 ⟨rfl, hb5⟩)
     have B5 := Lh (then_ (Below.refl wr.heap.size wr).drew hb5 (Nat.le_refl _));have P5 := Lh (HO.out.keep B5.out);refine hK _ _ P5.out ?_;clear hK K hb5;iterate 1
       refine zC (v := ?_) rfl rfl (fun W hS => ?_) ?_;rotate_left
       · first
           | (conv => lhs; simp [go_sem, l0, l9]
              first | done | exact rfl)
           | (have hS := hS rfl
              obtain ⟨q1, q2, q3⟩ := Own.at_ hS;conv => lhs; simp [go_sem, *, l0, l9]
              first | done | exact rfl)
       simp only [Act.put, lA, lZ, lS]
     obtain ⟨z1, z2, z3, z4⟩ := FIN.out w5 B5.out;have Z1 := Lh z1;have Z2 := Lh z2;clear z1 z2;refine xQ rfl rfl (by kernel_rfl) rfl fun K hK => ?_
     go_wp2;refine hK _ _ ?_;clear hK K;refine zN ?_;go_wp2;go_end0
     exact ⟨rfl, Z1.out, Z2.out⟩
end
end
end Go.Proofs.YtndhmidgnpobjaaGreatDoor
