import Derived.Test.YtndhmidgnpobjaaGreatDoorPgvG
import Derived.Test.YtndhmidgnpobjaaGreatDoorPgtH
set_option linter.unusedVariables false
set_option linter.unusedSimpArgs false
namespace Go.Proofs.YtndhmidgnpobjaaGreatDoor
open Go.ChangeShapes Go.WideShapes Go.ChangeAt Go.RowKit
section
def zHz (cs : Array Value) : Nat -> List Value -> Array Value
 | _, [] => cs
 | i, v :: vs => zHz (cs.setIfInBounds i v) (i + 1) vs
theorem Own.cells {q : Nat} {T : TypeId} : ∀ (vs : List Value) (i : Nat) (w : World) (cs : Array Value), Own w q T cs -> Own (w.setCells q i vs) q T (zHz cs i vs)
 | [], _, _, _, h => h
 | v :: vs, i, w, cs, h => Own.cells vs (i + 1) _ _ (h.put i v)
theorem zKv (m n : Nat) (sk sr sf : Value) (rs : Nat -> Nat) (wk wr wf : Value) (rw_ : Nat -> Nat) (vd a b c : Value) (q : Nat -> Nat) : zHz (rfC m n sk sr sf rs wk wr wf rw_ vd) 2 [a, b, c, .int .u64 (q 0 : Int), .int .u64 (q 1 : Int), .int .u64 (q 2 : Int), .int .u64 (q 3 : Int), .int .u64 (q 4 : Int), .int .u64 (q 5 : Int), .int .u64 (q 6 : Int), .int .u64 (q 7 : Int)] = rfC m n a b c q wk wr wf rw_ vd := by
 simp only [zHz, rfC, lA, lZ, lS, Nat.reduceAdd]
theorem zNz (m n : Nat) (sk sr sf : Value) (rs : Nat -> Nat) (wk wr wf : Value) (rw_ : Nat -> Nat) (vd a b c : Value) (q : Nat -> Nat) : zHz (rfC m n sk sr sf rs wk wr wf rw_ vd) 13 [a, b, c, .int .u64 (q 0 : Int), .int .u64 (q 1 : Int), .int .u64 (q 2 : Int), .int .u64 (q 3 : Int), .int .u64 (q 4 : Int), .int .u64 (q 5 : Int), .int .u64 (q 6 : Int), .int .u64 (q 7 : Int)] = rfC m n sk sr sf rs a b c q vd := by
 simp only [zHz, rfC, lA, lZ, lS, Nat.reduceAdd]
theorem zH9 (m n : Nat) (sk sr sf : Value) (rs : Nat -> Nat) (wk wr wf : Value) (rw_ : Nat -> Nat) (vd v : Value) : (rfC m n sk sr sf rs wk wr wf rw_ vd).setIfInBounds 24 v = rfC m n sk sr sf rs wk wr wf rw_ v := rfl
section
variable {w w' w2 : World} {B p : Nat} {sk sr sf wk wr wf vd a b c : Value} {R : RS}
theorem vP {T : TypeId} {v v' : Value} {l l' : List Value} {n n' : Nat} {T' : TypeId} (h : w.ownsRow B T 1 v n l) (h' : w2.ownsRow w.heap.size T' 1 v' n' l') : apart v v' := fun g hg hg' => by
 have h1 := (h.lt g hg).2;have h2 := (yC h' hg').1;omega
theorem vO {v v' : Value} (h : apart v v') : apart v' v := fun g hg hg' => h g hg' hg
theorem vU.low {C : Nat} {s : RSt} (h : vU w C a b c s) (hB : B <= C) : vU w B a b c s := ⟨mJ h.k hB, mJ h.r hB, mJ h.f hB, h.ap⟩
theorem vU.cells {s : RSt} {q : Nat} {T : TypeId} {cs : Array Value} (h : vU w B a b c s) (ho : Own w q T cs) (h1 : 3 ≠ T) (h2 : 9 ≠ T) (i : Nat) (vs : List Value) : vU (w.setCells q i vs) B a b c s :=
 ⟨xO (zZ h.k ho h1) vs i _ h.k, xO (zZ h.r ho h2) vs i _ h.r, xO (zZ h.f ho h1) vs i _ h.f, h.ap⟩
theorem Ref.laySure (h : Ref w B p sk sr sf wk wr wf vd R) (hb : Below w.heap.size w w2) (hS : vU w2 w.heap.size a b c R.way) (hB : B <= w.heap.size) : Ref (w2.setCells p 2 [a, b, c, .int .u64 (R.way.roots 0 : Int), .int .u64 (R.way.roots 1 : Int), .int .u64 (R.way.roots 2 : Int), .int .u64 (R.way.roots 3 : Int), .int .u64 (R.way.roots 4 : Int), .int .u64 (R.way.roots 5 : Int), .int .u64 (R.way.roots 6 : Int), .int .u64 (R.way.roots 7 : Int)]) B p a b c wk wr wf vd { R with sure := R.way } := by
 have h2 := h.below hb;have ho := Own.cells [a, b, c, .int .u64 (R.way.roots 0 : Int), .int .u64 (R.way.roots 1 : Int), .int .u64 (R.way.roots 2 : Int), .int .u64 (R.way.roots 3 : Int), .int .u64 (R.way.roots 4 : Int), .int .u64 (R.way.roots 5 : Int), .int .u64 (R.way.roots 6 : Int), .int .u64 (R.way.roots 7 : Int)] 2 w2 _ h2.own;rw [zKv] at ho;exact ⟨ho, (hS.low hB).cells h2.own (by decide) (by decide) _ _, h2.way.cells h2.own (by decide) (by decide) _ _, xO (zZ h2.dirty h2.own (by decide)) _ _ _ h2.dirty, h2.base,
   vP h.way.k hS.k, vP h.way.k hS.f, vP h.way.f hS.k, vP h.way.f hS.f, vP h.way.r hS.r⟩
theorem Ref.layWay (h : Ref w B p sk sr sf wk wr wf vd R) (hb : Below w.heap.size w w2) (hS : vU w2 w.heap.size a b c R.sure) (hB : B <= w.heap.size) : Ref (w2.setCells p 13 [a, b, c, .int .u64 (R.sure.roots 0 : Int), .int .u64 (R.sure.roots 1 : Int), .int .u64 (R.sure.roots 2 : Int), .int .u64 (R.sure.roots 3 : Int), .int .u64 (R.sure.roots 4 : Int), .int .u64 (R.sure.roots 5 : Int), .int .u64 (R.sure.roots 6 : Int), .int .u64 (R.sure.roots 7 : Int)]) B p sk sr sf a b c vd { R with way := R.sure } := by
 have h2 := h.below hb;have ho := Own.cells [a, b, c, .int .u64 (R.sure.roots 0 : Int), .int .u64 (R.sure.roots 1 : Int), .int .u64 (R.sure.roots 2 : Int), .int .u64 (R.sure.roots 3 : Int), .int .u64 (R.sure.roots 4 : Int), .int .u64 (R.sure.roots 5 : Int), .int .u64 (R.sure.roots 6 : Int), .int .u64 (R.sure.roots 7 : Int)] 13 w2 _ h2.own;rw [zNz] at ho;exact ⟨ho, h2.sure.cells h2.own (by decide) (by decide) _ _, (hS.low hB).cells h2.own (by decide) (by decide) _ _, xO (zZ h2.dirty h2.own (by decide)) _ _ _ h2.dirty, h2.base,
   vO (vP h.sure.k hS.k), vO (vP h.sure.f hS.k), vO (vP h.sure.k hS.f), vO (vP h.sure.f hS.f), vO (vP h.sure.r hS.r)⟩
theorem Ref.layDirty (h : Ref w B p sk sr sf wk wr wf vd R) {m : Nat} (hm : m = R.most) (hm6 : m <= 1000000) (hB : B <= w.heap.size) : Ref ((w.alloc (.cells (madeCells #[.bool false] m) 4)).setCell ⟨p, 24, none⟩ (.slice (some ⟨w.heap.size, 0, none⟩) m m)) B p sk sr sf wk wr wf (.slice (some ⟨w.heap.size, 0, none⟩) m m) { R with dirty := List.replicate R.most false } := by
 have hb : Below w.heap.size w (w.alloc (.cells (madeCells #[.bool false] m) 4)) := (Below.refl _ _).alloc (Nat.le_refl _) _;have h2 := h.below hb;have D := Jv w B m hB hm6;have X : ∀ {T : TypeId} {v : Value} {n : Nat} {l : List Value}, (w.alloc (.cells (madeCells #[.bool false] m) 4)).ownsRow B T 1 v n l -> T ≠ 61 -> v.ownBlock ≠ some p := fun hv hT => zZ hv h2.own hT
 have ho := h2.own.put 24 (.slice (some ⟨w.heap.size, 0, none⟩) m m);rw [zH9] at ho;subst hm;exact ⟨ho, h2.sure.other (a := ⟨p, 24, none⟩) (X h2.sure.k (by decide)) (X h2.sure.r (by decide)) (X h2.sure.f (by decide)) _,
   ⟨ownsRow_setCell_other h2.way.k (X h2.way.k (by decide)) _, ownsRow_setCell_other h2.way.r (X h2.way.r (by decide)) _, ownsRow_setCell_other h2.way.f (X h2.way.f (by decide)) _, h2.way.ap⟩,
   ownsRow_setCell_other D (X D (by decide)) _, h2.base, h2.a1, h2.a2, h2.a3, h2.a4, h2.a5⟩
theorem zDd (hB : B <= p) {cs : Array Value} (ho : Own w p 61 cs) (hb : Below w.heap.size w w2) (i : Nat) (vs : List Value) : Chg (RT w B) w (w2.setCells p i vs) :=
 xU (S := RT w B) (.inl ⟨hB, _, _, _, ho, .inl rfl⟩) vs w2 i (Chg.of hb)
set_option maxRecDepth 10000 in
set_option maxHeartbeats 1000000 in
theorem zEz (h : Ref w B p sk sr sf wk wr wf vd R) (hok : R.Ok) (hB : B <= w.heap.size) : Calls Tryz.prog 30 #[.pointer (some ⟨p, 0, none⟩)] w fun e w' => e = .returned (.tuple #[]) /\ gI w' B p R.abort /\ Chg (RT w B) w w' := by
 have ho := h.own;have CP := Lh (Jo h.sure ⟨by have := hok.sure.ne; have := hok.sure.kr; omega, by have := hok.sure.k; omega⟩ ⟨hok.sure.ne, by have := hok.sure.k; have := hok.sure.kr; omega⟩ (by have := hok.sure.fl; omega));have hm6 : R.most <= 1000000 := by have := hok.most; omega
 have HD := fun W => Ve W R.most hm6
 have H := Lh h;have ZB := Lh hB;have M6 := Lh hm6;unfold rfC at ho;have HO := Lh ho;obtain ⟨q1, q2, q3⟩ := ho.at_;unfold stC at CP;clear h hok ho hB hm6;go_enter Tryz.func30, Tryz.ntmps30;go_upto_region 1 with (go_at_call 92; refine CP.out.mono ?_; rintro e w2 ⟨vk, vr, vf, rfl, hS, hb2⟩; have B2 := Lh hb2; obtain ⟨ka, kc, rfl, -, -⟩ := zO hS.k; obtain ⟨ra, rc, rfl, -, -⟩ := zO hS.r; obtain ⟨fa, fc, rfl, -, -⟩ := zO hS.f; have S2 := Lh hS; clear hS; obtain ⟨r1, r2, r3⟩ := (HO.out.keep hb2).at_; clear hb2)
 have H2 := H.out.layWay B2.out S2.out ZB.out;have C2 := zDd H.out.base H.out.own B2.out 13 [.slice ka R.sure.kinds.length kc, .slice ra R.sure.rooms.length rc, .slice fa R.sure.free.length fc, .int .u64 (R.sure.roots 0 : Int), .int .u64 (R.sure.roots 1 : Int), .int .u64 (R.sure.roots 2 : Int), .int .u64 (R.sure.roots 3 : Int), .int .u64 (R.sure.roots 4 : Int), .int .u64 (R.sure.roots 5 : Int), .int .u64 (R.sure.roots 6 : Int), .int .u64 (R.sure.roots 7 : Int)];simp only [World.setCells, Nat.reduceAdd] at H2 C2;go_name_world W1 hW1;rw [hW1] at H2 C2;clear hW1 r1 r2 r3 q1 q2 q3;have O1 := H2.own;unfold rfC at O1;obtain ⟨q1, q2, q3⟩ := O1.at_;have zB : B <= W1.heap.size := Nat.le_trans ZB.out C2.size;have H3 := H2.layDirty (m := R.most) rfl M6.out zB;have C3 : Chg (RT W1 B) W1 ((W1.alloc (.cells (madeCells #[.bool false] R.most) 4)).setCell ⟨p, 24, none⟩ (.slice (some ⟨W1.heap.size, 0, none⟩) R.most R.most)) :=
   ((Chg.refl _ W1).alloc _).set ⟨p, 24, none⟩ (.inl ⟨H2.base, _, _, _, H2.own, .inl rfl⟩) _
 have hpz := H2.own.in_;rw [World.setCell_alloc_past _ _ _ _ hpz] at H3 C3;have FIN := Lh (And.intro H3 (yF C2 C3));clear O1 H2 H3 C2 C3;go_wp2;go_end0
 exact ⟨rfl, ⟨_, _, _, _, _, _, _, FIN.out.1⟩, FIN.out.2⟩
set_option maxRecDepth 10000 in
set_option maxHeartbeats 1000000 in
theorem zH4 (h : Ref w B p sk sr sf wk wr wf vd R) (hok : R.Ok) (hB : B <= w.heap.size) : Calls Tryz.prog 35 #[.pointer (some ⟨p, 0, none⟩)] w fun e w' => e = .returned (.tuple #[]) /\ gI w' B p R.keep /\ Chg (RT w B) w w' := by
 have ho := h.own;have CP := Lh (Jo h.way ⟨by have := hok.way.ne; have := hok.way.kr; omega, by have := hok.way.k; omega⟩ ⟨hok.way.ne, by have := hok.way.k; have := hok.way.kr; omega⟩ (by have := hok.way.fl; omega));have hm6 : R.most <= 1000000 := by have := hok.most; omega
 have HD := fun W => Ve W R.most hm6
 have H := Lh h;have ZB := Lh hB;have M6 := Lh hm6;unfold rfC at ho;have HO := Lh ho;obtain ⟨q1, q2, q3⟩ := ho.at_;unfold stC at CP;clear h hok ho hB hm6;go_enter Tryz.func35, Tryz.ntmps35;go_upto_region 1 with (go_at_call 92; refine CP.out.mono ?_; rintro e w2 ⟨vk, vr, vf, rfl, hS, hb2⟩; have B2 := Lh hb2; obtain ⟨ka, kc, rfl, -, -⟩ := zO hS.k; obtain ⟨ra, rc, rfl, -, -⟩ := zO hS.r; obtain ⟨fa, fc, rfl, -, -⟩ := zO hS.f; have S2 := Lh hS; clear hS; obtain ⟨r1, r2, r3⟩ := (HO.out.keep hb2).at_; clear hb2)
 have H2 := H.out.laySure B2.out S2.out ZB.out;have C2 := zDd H.out.base H.out.own B2.out 2 [.slice ka R.way.kinds.length kc, .slice ra R.way.rooms.length rc, .slice fa R.way.free.length fc, .int .u64 (R.way.roots 0 : Int), .int .u64 (R.way.roots 1 : Int), .int .u64 (R.way.roots 2 : Int), .int .u64 (R.way.roots 3 : Int), .int .u64 (R.way.roots 4 : Int), .int .u64 (R.way.roots 5 : Int), .int .u64 (R.way.roots 6 : Int), .int .u64 (R.way.roots 7 : Int)];simp only [World.setCells, Nat.reduceAdd] at H2 C2;go_name_world W1 hW1;rw [hW1] at H2 C2;clear hW1 r1 r2 r3 q1 q2 q3;have O1 := H2.own;unfold rfC at O1;obtain ⟨q1, q2, q3⟩ := O1.at_;have zB : B <= W1.heap.size := Nat.le_trans ZB.out C2.size;have H3 := H2.layDirty (m := R.most) rfl M6.out zB;have C3 : Chg (RT W1 B) W1 ((W1.alloc (.cells (madeCells #[.bool false] R.most) 4)).setCell ⟨p, 24, none⟩ (.slice (some ⟨W1.heap.size, 0, none⟩) R.most R.most)) :=
   ((Chg.refl _ W1).alloc _).set ⟨p, 24, none⟩ (.inl ⟨H2.base, _, _, _, H2.own, .inl rfl⟩) _
 have hpz := H2.own.in_;rw [World.setCell_alloc_past _ _ _ _ hpz] at H3 C3;have FIN := Lh (And.intro H3 (yF C2 C3));clear O1 H2 H3 C2 C3;go_wp2;go_end0
 exact ⟨rfl, ⟨_, _, _, _, _, _, _, FIN.out.1⟩, FIN.out.2⟩
end
end
section
theorem zOu (m n : Nat) (sk sr sf : Value) (rs : Nat -> Nat) (wk wr wf : Value) (rw_ : Nat -> Nat) (vd v : Value) : (rfC m n sk sr sf rs wk wr wf rw_ vd).setIfInBounds 13 v = rfC m n sk sr sf rs v wr wf rw_ vd := rfl
theorem zOq (m n : Nat) (sk sr sf : Value) (rs : Nat -> Nat) (wk wr wf : Value) (rw_ : Nat -> Nat) (vd v : Value) : (rfC m n sk sr sf rs wk wr wf rw_ vd).setIfInBounds 14 v = rfC m n sk sr sf rs wk v wf rw_ vd := rfl
theorem zKu (m n : Nat) (sk sr sf : Value) (rs : Nat -> Nat) (wk wr wf : Value) (rw_ : Nat -> Nat) (vd v : Value) : (rfC m n sk sr sf rs wk wr wf rw_ vd).setIfInBounds 15 v = rfC m n sk sr sf rs wk wr v rw_ vd := rfl
section
variable {w w' y : World} {B p : Nat} {sk sr sf wk wr wf vd v : Value} {R : RS} {o : Obj}
theorem vX {T : TypeId} {u x : Value} {l : List Value} {n m : Nat} (hx : w.ownsRow B T 1 x n l) (ha : apart u x) (hb : v.ownBlock = u.ownBlock \/ v.ownBlock = some m) (hm : w.heap.size <= m) : apart v x := fun g hg hg' => by
 rcases hb with e | e
 · exact ha g (e ▸ hg) hg'
 · have := (hx.lt g hg').2;rw [e] at hg;injection hg with hg;omega
theorem yQ {T : TypeId} {u x : Value} {l : List Value} {n : Nat} (hx : w.ownsRow B T 1 x n l) (hgr : (w.alloc o).grownBy y u.ownBlock) (ha : apart u x) : y.ownsRow B T 1 x n l := by
 have C1 : Chg (fun q => u.ownBlock = some q) w y := ((Chg.refl _ w).alloc _).grown hgr fun q e => .inl e
 exact Po.ownsRow_keepB hx fun g hg => C1.block g (hx.lt g hg).2 fun e => ha g e hg
theorem Ref.ofRows {R' : RS} (hp : Own y p 61 (rfC R'.most R'.room sk sr sf R'.sure.roots wk wr wf R'.way.roots vd)) (h1 : y.ownsRow B 3 1 sk R'.sure.kinds.length (yE R'.sure.kinds)) (h2 : y.ownsRow B 9 1 sr R'.sure.rooms.length (xL R'.sure.rooms)) (h3 : y.ownsRow B 3 1 sf R'.sure.free.length (yE R'.sure.free)) (h4 : apart sk sf)
   (k1 : y.ownsRow B 3 1 wk R'.way.kinds.length (yE R'.way.kinds)) (k2 : y.ownsRow B 9 1 wr R'.way.rooms.length (xL R'.way.rooms)) (k3 : y.ownsRow B 3 1 wf R'.way.free.length (yE R'.way.free)) (k4 : apart wk wf) (hd : y.ownsRow B 4 1 vd R'.dirty.length (vL R'.dirty)) (hb : B <= p)
   (a1 : apart wk sk) (a2 : apart wk sf) (a3 : apart wf sk) (a4 : apart wf sf) (a5 : apart wr sr) : Ref y B p sk sr sf wk wr wf vd R' :=
 ⟨hp, ⟨h1, h2, h3, h4⟩, ⟨k1, k2, k3, k4⟩, hd, hb, a1, a2, a3, a4, a5⟩
theorem Ref.pushKind (h : Ref w B p sk sr sf wk wr wf vd R) {x : Nat} (hown : y.ownsRow B 3 1 v (R.way.kinds.length + 1) (yE R.way.kinds ++ [.int .i64 (x : Int)])) (hgr : (w.alloc o).grownBy y wk.ownBlock) (hv : v.ownBlock = wk.ownBlock \/ v.ownBlock = some (w.alloc o).heap.size) :
   Own y p 61 (rfC R.most R.room sk sr sf R.sure.roots wk wr wf R.way.roots vd) /\ Ref (y.setCell ⟨p, 13, none⟩ v) B p sk sr sf v wr wf vd { R with way := { R.way with kinds := R.way.kinds ++ [x] } } /\ Chg (RT w B) w (y.setCell ⟨p, 13, none⟩ v) := by
 have hz : w.heap.size <= (w.alloc o).heap.size := by simp
 have C1 : Chg (fun q => wk.ownBlock = some q) w y := ((Chg.refl _ w).alloc _).grown hgr fun q e => .inl e
 have po := C1.own h.own (zZ h.way.k h.own (by decide));have X : ∀ {T : TypeId} {u : Value} {n : Nat} {l : List Value}, y.ownsRow B T 1 u n l -> T ≠ 61 -> (y.setCell ⟨p, 13, none⟩ v).ownsRow B T 1 u n l := fun hu hT => ownsRow_setCell_other (a := ⟨p, 13, none⟩) hu (zZ hu po hT) v
 have e1 : yE R.way.kinds ++ [.int .i64 (x : Int)] = yE (R.way.kinds ++ [x]) := by simp [yE]
 have e2 : R.way.kinds.length + 1 = (R.way.kinds ++ [x]).length := by simp
 rw [e1, e2] at hown;have ho := po.put 13 v;rw [zOu] at ho;have C2 : Chg (RT w B) w y := C1.mono fun q _ e => h.rt (.inr (.inr (.inr (.inr (.inl e)))))
 exact ⟨po, Ref.ofRows (R' := { R with way := { R.way with kinds := R.way.kinds ++ [x] } }) ho (X (yQ h.sure.k hgr h.a1) (by decide)) (X (yQ h.sure.r hgr (xH h.way.k h.sure.r (by decide))) (by decide)) (X (yQ h.sure.f hgr h.a2) (by decide)) h.sure.ap (X hown (by decide)) (X (yQ h.way.r hgr (xH h.way.k h.way.r (by decide))) (by decide)) (X (yQ h.way.f hgr h.way.ap) (by decide)) (vX h.way.f h.way.ap hv hz) (X (yQ h.dirty hgr (xH h.way.k h.dirty (by decide))) (by decide)) h.base (vX h.sure.k h.a1 hv hz) (vX h.sure.f h.a2 hv hz) h.a3 h.a4 h.a5, C2.set ⟨p, 13, none⟩ (.inl ⟨h.base, _, _, _, h.own, .inl rfl⟩) v⟩
theorem Ref.pushRoom (h : Ref w B p sk sr sf wk wr wf vd R) {x : ByteArray} (hown : y.ownsRow B 9 1 v (R.way.rooms.length + 1) (xL R.way.rooms ++ [.string x])) (hgr : (w.alloc o).grownBy y wr.ownBlock) (hv : v.ownBlock = wr.ownBlock \/ v.ownBlock = some (w.alloc o).heap.size) :
   Own y p 61 (rfC R.most R.room sk sr sf R.sure.roots wk wr wf R.way.roots vd) /\ Ref (y.setCell ⟨p, 14, none⟩ v) B p sk sr sf wk v wf vd { R with way := { R.way with rooms := R.way.rooms ++ [x] } } /\ Chg (RT w B) w (y.setCell ⟨p, 14, none⟩ v) := by
 have hz : w.heap.size <= (w.alloc o).heap.size := by simp
 have C1 : Chg (fun q => wr.ownBlock = some q) w y := ((Chg.refl _ w).alloc _).grown hgr fun q e => .inl e
 have po := C1.own h.own (zZ h.way.r h.own (by decide));have X : ∀ {T : TypeId} {u : Value} {n : Nat} {l : List Value}, y.ownsRow B T 1 u n l -> T ≠ 61 -> (y.setCell ⟨p, 14, none⟩ v).ownsRow B T 1 u n l := fun hu hT => ownsRow_setCell_other (a := ⟨p, 14, none⟩) hu (zZ hu po hT) v
 have e1 : xL R.way.rooms ++ [.string x] = xL (R.way.rooms ++ [x]) := by simp [xL]
 have e2 : R.way.rooms.length + 1 = (R.way.rooms ++ [x]).length := by simp
 rw [e1, e2] at hown;have ho := po.put 14 v;rw [zOq] at ho;have C2 : Chg (RT w B) w y := C1.mono fun q _ e => h.rt (.inr (.inr (.inr (.inr (.inr (.inl e))))))
 exact ⟨po, Ref.ofRows (R' := { R with way := { R.way with rooms := R.way.rooms ++ [x] } }) ho (X (yQ h.sure.k hgr (xH h.way.r h.sure.k (by decide))) (by decide)) (X (yQ h.sure.r hgr h.a5) (by decide)) (X (yQ h.sure.f hgr (xH h.way.r h.sure.f (by decide))) (by decide)) h.sure.ap (X (yQ h.way.k hgr (xH h.way.r h.way.k (by decide))) (by decide)) (X hown (by decide)) (X (yQ h.way.f hgr (xH h.way.r h.way.f (by decide))) (by decide)) h.way.ap (X (yQ h.dirty hgr (xH h.way.r h.dirty (by decide))) (by decide)) h.base h.a1 h.a2 h.a3 h.a4 (vX h.sure.r h.a5 hv hz), C2.set ⟨p, 14, none⟩ (.inl ⟨h.base, _, _, _, h.own, .inl rfl⟩) v⟩
theorem Ref.pushFree (h : Ref w B p sk sr sf wk wr wf vd R) {x : Nat} (hown : y.ownsRow B 3 1 v (R.way.free.length + 1) (yE R.way.free ++ [.int .i64 (x : Int)])) (hgr : (w.alloc o).grownBy y wf.ownBlock) (hv : v.ownBlock = wf.ownBlock \/ v.ownBlock = some (w.alloc o).heap.size) :
   Own y p 61 (rfC R.most R.room sk sr sf R.sure.roots wk wr wf R.way.roots vd) /\ Ref (y.setCell ⟨p, 15, none⟩ v) B p sk sr sf wk wr v vd { R with way := { R.way with free := R.way.free ++ [x] } } /\ Chg (RT w B) w (y.setCell ⟨p, 15, none⟩ v) := by
 have hz : w.heap.size <= (w.alloc o).heap.size := by simp
 have C1 : Chg (fun q => wf.ownBlock = some q) w y := ((Chg.refl _ w).alloc _).grown hgr fun q e => .inl e
 have po := C1.own h.own (zZ h.way.f h.own (by decide));have X : ∀ {T : TypeId} {u : Value} {n : Nat} {l : List Value}, y.ownsRow B T 1 u n l -> T ≠ 61 -> (y.setCell ⟨p, 15, none⟩ v).ownsRow B T 1 u n l := fun hu hT => ownsRow_setCell_other (a := ⟨p, 15, none⟩) hu (zZ hu po hT) v
 have e1 : yE R.way.free ++ [.int .i64 (x : Int)] = yE (R.way.free ++ [x]) := by simp [yE]
 have e2 : R.way.free.length + 1 = (R.way.free ++ [x]).length := by simp
 rw [e1, e2] at hown;have ho := po.put 15 v;rw [zKu] at ho;have C2 : Chg (RT w B) w y := C1.mono fun q _ e => h.rt (.inr (.inr (.inr (.inr (.inr (.inr (.inl e)))))))
 exact ⟨po, Ref.ofRows (R' := { R with way := { R.way with free := R.way.free ++ [x] } }) ho (X (yQ h.sure.k hgr h.a3) (by decide)) (X (yQ h.sure.r hgr (xH h.way.f h.sure.r (by decide))) (by decide)) (X (yQ h.sure.f hgr h.a4) (by decide)) h.sure.ap (X (yQ h.way.k hgr (vO h.way.ap)) (by decide)) (X (yQ h.way.r hgr (xH h.way.f h.way.r (by decide))) (by decide)) (X hown (by decide)) (vO (vX h.way.k (vO h.way.ap) hv hz)) (X (yQ h.dirty hgr (xH h.way.f h.dirty (by decide))) (by decide)) h.base h.a1 h.a2 (vX h.sure.k h.a3 hv hz) (vX h.sure.f h.a4 hv hz) h.a5, C2.set ⟨p, 15, none⟩ (.inl ⟨h.base, _, _, _, h.own, .inl rfl⟩) v⟩
theorem zKw {T : TypeId} {g n cap : Nat} {l : List Value} (h : w.ownsRow B T 1 (.slice (some ⟨g, 0, none⟩) (n + 1) cap) (n + 1) l) : w.ownsRow B T 1 (.slice (some ⟨g, 0, none⟩) n cap) n (l.take n) := by
 obtain ⟨h0, h⟩ := h;refine ⟨by rw [List.length_take]; omega, ?_⟩;rcases h with ⟨h, _⟩ | ⟨g', cap', cur, e1, h1, h2, h3, h4, h5, h6⟩
 · cases h
 · injection e1 with e1 e2 e3;injection e1 with e1;injection e1 with e1 e4;subst e1 e3;refine .inr ⟨g, cap, cur, rfl, h1, h2, by omega, h4, h5, ?_⟩;rw [<- h6, List.take_take];congr 1
   omega
theorem zIs (l : List Nat) (n : Nat) : (yE l).take n = yE (l.take n) := by unfold yE; rw [List.map_take]
theorem Ref.dropFree {g n cap : Nat} (h : Ref w B p sk sr sf wk wr (.slice (some ⟨g, 0, none⟩) (n + 1) cap) vd R) (hn : n + 1 = R.way.free.length) :
   Ref (w.setCell ⟨p, 15, none⟩ (.slice (some ⟨g, 0, none⟩) n cap)) B p sk sr sf wk wr (.slice (some ⟨g, 0, none⟩) n cap) vd { R with way := { R.way with free := R.way.free.take n } } /\ Chg (RT w B) w (w.setCell ⟨p, 15, none⟩ (.slice (some ⟨g, 0, none⟩) n cap)) := by
 have X : ∀ {T : TypeId} {u : Value} {n' : Nat} {l : List Value}, w.ownsRow B T 1 u n' l -> T ≠ 61 -> (w.setCell ⟨p, 15, none⟩ (.slice (some ⟨g, 0, none⟩) n cap)).ownsRow B T 1 u n' l := fun hu hT => ownsRow_setCell_other (a := ⟨p, 15, none⟩) hu (zZ hu h.own hT) _
 have hf := h.way.f;rw [<- hn] at hf;have hl := zKw hf;rw [zIs] at hl;have ho := h.own.put 15 (.slice (some ⟨g, 0, none⟩) n cap);rw [zKu] at ho;have e : n = (R.way.free.take n).length := by rw [List.length_take]; omega
 have hl2 : w.ownsRow B 3 1 (.slice (some ⟨g, 0, none⟩) n cap) (R.way.free.take n).length (yE (R.way.free.take n)) := by rw [<- e]; exact hl
 have A : ∀ {x : Value}, apart (.slice (some ⟨g, 0, none⟩) (n + 1) cap) x -> apart (.slice (some ⟨g, 0, none⟩) n cap) x := fun ha g' hg hg' => ha g' hg hg'
 exact ⟨Ref.ofRows (R' := { R with way := { R.way with free := R.way.free.take n } }) ho (X h.sure.k (by decide)) (X h.sure.r (by decide)) (X h.sure.f (by decide)) h.sure.ap (X h.way.k (by decide)) (X h.way.r (by decide)) (X hl2 (by decide)) (vO (A (vO h.way.ap))) (X h.dirty (by decide)) h.base h.a1 h.a2 (A h.a3) (A h.a4) h.a5,
   (Chg.refl _ w).set ⟨p, 15, none⟩ (.inl ⟨h.base, _, _, _, h.own, .inl rfl⟩) _⟩
theorem Ref.dropFree' {g f n cap : Nat} (hf : n + 1 = f) (hn : n + 1 = R.way.free.length) (h : Ref w B p sk sr sf wk wr (.slice (some ⟨g, 0, none⟩) f cap) vd R) :
   Ref (w.setCell ⟨p, 15, none⟩ (.slice (some ⟨g, 0, none⟩) n cap)) B p sk sr sf wk wr (.slice (some ⟨g, 0, none⟩) n cap) vd { R with way := { R.way with free := R.way.free.take n } } /\ Chg (RT w B) w (w.setCell ⟨p, 15, none⟩ (.slice (some ⟨g, 0, none⟩) n cap)) := by
 subst hf;exact h.dropFree hn
end
end
end Go.Proofs.YtndhmidgnpobjaaGreatDoor
