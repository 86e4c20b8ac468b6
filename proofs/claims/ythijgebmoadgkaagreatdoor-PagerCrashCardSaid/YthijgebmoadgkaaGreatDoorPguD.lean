import Derived.Test.YthijgebmoadgkaaGreatDoorPgsC
import Derived.Test.YthijgebmoadgkaaGreatDoorPagD
import Derived.Laws.AppendOwnNone
import Derived.Test.YthijgebmoadgkaaGreatDoorPguC
set_option linter.unusedVariables false
set_option linter.unusedSimpArgs false
namespace Go.Proofs.YthijgebmoadgkaaGreatDoor
open Go.ChangeShapes Go.WideShapes Go.ChangeAt Go.RowKit
section
structure RSt where
 kinds : List Nat
 rooms : List ByteArray
 free : List Nat
 roots : Nat -> Nat
def RSt.first (s : RSt) : Nat := s.free.getLast?.getD 0
def mU (l : List Nat) : List Value := l.map fun (x : Nat) => .int .i64 (x : Int)
def Jk (l : List ByteArray) : List Value := l.map .string
def stC (vk vr vf : Value) (r : Nat -> Nat) : Array Value := #[vk, vr, vf, .int .u64 (r 0 : Int), .int .u64 (r 1 : Int), .int .u64 (r 2 : Int), .int .u64 (r 3 : Int), .int .u64 (r 4 : Int), .int .u64 (r 5 : Int), .int .u64 (r 6 : Int), .int .u64 (r 7 : Int)]
structure jG (w : World) (B : Nat) (vk vr vf : Value) (s : RSt) : Prop where
 k : w.ownsRow B 3 1 vk s.kinds.length (mU s.kinds)
 r : w.ownsRow B 9 1 vr s.rooms.length (Jk s.rooms)
 f : w.ownsRow B 3 1 vf s.free.length (mU s.free)
 ap : ∀ g, vk.ownBlock = some g -> vf.ownBlock ≠ some g
theorem yD {w : World} {B : Nat} {T : TypeId} {v : Value} {l : List Value} {n : Nat} (h : w.ownsRow B T 1 v n l) : ∃ a cp, v = .slice a n cp /\ n = l.length /\ ∀ k (hk : k < l.length), ∃ g, a = some ⟨g, 0, none⟩ /\ v.ownBlock = some g /\ w.cell? ⟨g, k, none⟩ = some (l[k]'hk) /\ w.frozen? ⟨g, k, none⟩ = false := by
 have h0 := h.1;rcases h.2 with ⟨rfl, h2⟩ | ⟨g, cap, cur, rfl, h1, h2, h3, h4, h5, h6⟩
 · exact ⟨none, 0, by rw [h2], by omega, fun k hk => by omega⟩
 · refine ⟨_, cap, rfl, by omega, fun k hk => ⟨g, rfl, rfl, ?_, ?_⟩⟩
   · have := World.ownsRow.cellAt h k (by omega);rw [this, List.getElem?_eq_getElem hk]
   · simp [World.frozen?, h2]
theorem zNr (vk vr vf : Value) (r : Nat -> Nat) {k : Nat} (h : k < 8) : (stC vk vr vf r)[3 + k]? = some (.int .u64 (r k : Int)) := by
 rcases Xk h with rfl | rfl | rfl | rfl | rfl | rfl | rfl | rfl <;> rfl
theorem zMc {w : World} {B : Nat} {T : TypeId} {v : Value} {l : List Value} {n : Nat} (h : w.ownsRow B T 1 v n l) : n <= maxLen := by
 rcases h.2 with ⟨rfl, h2⟩ | ⟨g, cap, cur, rfl, h1, h2, h3, h4, h5, h6⟩
 · omega
 · omega
section
variable {w w' : World} {B : Nat} {vk vr vf : Value} {s : RSt}
theorem jG.keep (h : jG w B vk vr vf s) {Z : Nat -> Prop} (hc : Chg Z w w') (h1 : ∀ g, vk.ownBlock = some g \/ vr.ownBlock = some g \/ vf.ownBlock = some g -> ¬ Z g) : jG w' B vk vr vf s :=
 ⟨Po.ownsRow_keepB h.k fun g hg => hc.block g (h.k.lt g hg).2 (h1 g (.inl hg)), Po.ownsRow_keepB h.r fun g hg => hc.block g (h.r.lt g hg).2 (h1 g (.inr (.inl hg))), Po.ownsRow_keepB h.f fun g hg => hc.block g (h.f.lt g hg).2 (h1 g (.inr (.inr hg))), h.ap⟩
theorem jG.below (h : jG w B vk vr vf s) (hb : Below w.heap.size w w') : jG w' B vk vr vf s := h.keep (Chg.of (S := fun _ => False) hb) fun _ _ => id
end
end
section
structure RS where
 most : Nat
 room : Nat
 sure : RSt
 way : RSt
 dirty : List Bool
def RS.count (R : RS) : Nat := R.dirty.count true
def apart (a b : Value) : Prop := ∀ g, a.ownBlock = some g -> b.ownBlock ≠ some g
theorem jW {w : World} {B : Nat} {T : TypeId} {v : Value} {l : List Value} {n g : Nat} (h : w.ownsRow B T 1 v n l) (hg : v.ownBlock = some g) : B <= g /\ ∃ cur, w.heap[g]? = some (.cells cur T (0, 0)) := by
 rcases h.2 with ⟨rfl, h2⟩ | ⟨g', cap, cur, rfl, h1, h2, h3, h4, h5, h6⟩
 · cases hg
 · obtain rfl : g' = g := by simpa [Value.ownBlock] using hg
   exact ⟨h1, cur, h2⟩
theorem zDr {w : World} {B : Nat} {T T' : TypeId} {v v' : Value} {l l' : List Value} {n n' : Nat} (h : w.ownsRow B T 1 v n l) (h' : w.ownsRow B T' 1 v' n' l') (hT : T ≠ T') : apart v v' := fun g hg hg' => by
 obtain ⟨-, c, e⟩ := jW h hg;obtain ⟨-, c', e'⟩ := jW h' hg';rw [e] at e';injection e' with e';injection e' with e1 e2;exact hT e2
theorem vA {w : World} {B p : Nat} {T T' : TypeId} {v : Value} {l : List Value} {n : Nat} {cs : Array Value} (h : w.ownsRow B T 1 v n l) (ho : Own w p T' cs) (hT : T ≠ T') : v.ownBlock ≠ some p := fun hg => by
 obtain ⟨-, c, e⟩ := jW h hg;unfold Own at ho;rw [e] at ho;injection ho with ho;injection ho with e1 e2;exact hT e2
section
variable {w w' : World} {B p : Nat} {sk sr sf wk wr wf vd : Value} {R : RS}
end
end
section
def RS.new (R : RS) (L : List Nat) : Nat := (L.filter fun x => !R.dirty.getD x false).length
def RS.big (R : RS) (L : List Nat) : Bool := decide (R.room < R.count + R.new L)
section
variable {w w' : World} {B p : Nat} {sk sr sf wk wr wf vd : Value} {R : RS}
end
end
section
section
variable {w w' : World} {B p : Nat} {sk sr sf wk wr wf vd : Value} {R : RS}
theorem jG.other (h : jG w B sk sr sf R.sure) {a : Addr} (h1 : sk.ownBlock ≠ some a.block) (h2 : sr.ownBlock ≠ some a.block) (h3 : sf.ownBlock ≠ some a.block) (u : Value) : jG (w.setCell a u) B sk sr sf R.sure :=
 ⟨ownsRow_setCell_other h.k h1 u, ownsRow_setCell_other h.r h2 u, ownsRow_setCell_other h.f h3 u, h.ap⟩
end
end
section
structure RSt.Ok (s : RSt) : Prop where
 k : s.kinds.length <= 100000
 kr : s.rooms.length = s.kinds.length
 ne : 1 <= s.rooms.length
 f : ∀ x ∈ s.free, x < 100000
 r : ∀ i, i < 8 -> s.roots i < 18446744073709551616
 fl : s.free.length <= 100000
def fC (D : List Bool) (L : List Nat) : List Bool := L.foldl (fun D x => D.set x true) D
theorem Yn (L : List Nat) : ∀ D : List Bool, (fC D L).length = D.length := by
 induction L with
 | nil => intro D; rfl
 | cons x L ih => intro D; show (fC (D.set x true) L).length = _; rw [ih, List.length_set]
def RS.setL (R : RS) (L : List Nat) : RS := { R with dirty := fC R.dirty L }
def RS.hd (R : RS) : RS := { R with way := { R.way with rooms := R.way.rooms.set 0 (zJ R.way.kinds.length R.way.first R.way.roots) } }
def RS.touch (R : RS) (L : List Nat) : RS := (R.setL L).hd
section
variable {w w' : World} {B p : Nat} {sk sr sf wk wr wf vd : Value} {R : RS}
end
end
section
structure RS.Ok (R : RS) : Prop where
 most : R.most <= 100000
 room : R.room <= 100000
 dirty : R.dirty.length = R.most
 sure : R.sure.Ok
 way : R.way.Ok
 kw : R.way.kinds.length <= R.most
def RS.wrC (R : RS) (no k : Int) : Bool := (decide (1 <= no) && decide (no < (R.way.kinds.length : Int))) && (decide (2 <= k) && decide (k <= 254))
def RS.wrE (R : RS) (no k : Int) (s : ByteArray) : Int := if R.wrC no k then if s.size <= 496 then if R.big [no.toNat] then 10 else 0 else 3 else 1
def RS.wrS (R : RS) (n k : Nat) (s : ByteArray) : RS := { R with way := { R.way with kinds := R.way.kinds.set n k, rooms := R.way.rooms.set n (fl s) }, dirty := R.dirty.set n true }
def RS.wr (R : RS) (no k : Int) (s : ByteArray) : RS := if R.wrC no k then if s.size <= 496 then if R.big [no.toNat] then R else R.wrS no.toNat k.toNat s else R else R
section
variable {w w' : World} {B p : Nat} {sk sr sf wk wr wf vd : Value} {R : RS}
end
end
section
def RS.upRoot (R : RS) (i x : Nat) : RS := { R with way := { R.way with roots := upR R.way.roots i x } }
def RS.srE (R : RS) : Int := if R.big [0] then 10 else 0
def RS.sr (R : RS) (i x : Nat) : RS := if R.big [0] then R else (R.upRoot i x).touch [0]
section
variable {w w' : World} {B p : Nat} {sk sr sf wk wr wf vd : Value} {R : RS}
end
end
section
section
variable {w w' : World} {B : Nat} {vk vr vf : Value} {s : RSt}
theorem jX {q : Nat} {T : TypeId} {v : Value} {l : List Value} {n : Nat} (hq : v.ownBlock ≠ some q) : ∀ (vs : List Value) (i : Nat) (w : World), w.ownsRow B T 1 v n l -> (w.setCells q i vs).ownsRow B T 1 v n l
 | [], _, _, h => h
 | u :: vs, i, w, h => jX hq vs (i + 1) _ (ownsRow_setCell_other (a := ⟨q, i, none⟩) h hq u)
end
end
section
theorem Yx : (Tryz.prog.info? 131).map (fun i => (i.zero, i.size, i.bytes)) = some (some fR, 3, 32) := by kernel_rfl
theorem Vh (W : World) (T : TypeId) (x y z : Value) (j : Nat) {u : Value} (hu : [x, y, z][j]? = some u) : (W.alloc (.cells #[x, y, z] T)).cell? ((⟨W.heap.size, 0, none⟩ : Addr).add j) = some u := by
 have e : (⟨W.heap.size, 0, none⟩ : Addr).add j = ⟨W.heap.size, j, none⟩ := by unfold Addr.add; split <;> simp_all
 rw [e];have := (Own.made W T #[x, y, z]).at_.1 j;exact this.trans (by simpa using hu)
def shR (L : List (Nat × Pag)) : List Value := L.flatMap fun q => [.int .i64 (q.1 : Int), .int .i64 (q.2.1 : Int), .string q.2.2]
theorem Qy (L : List (Nat × Pag)) : (shR L).length = L.length * 3 := by
 induction L with
 | nil => rfl
 | cons q L ih => show (_ :: _ :: _ :: shR L).length = _; simp [ih]; omega
theorem zC1 (L : List (Nat × Pag)) (q : Nat × Pag) : shR (L ++ [q]) = shR L ++ [.int .i64 (q.1 : Int), .int .i64 (q.2.1 : Int), .string q.2.2] := by simp [shR]
theorem zBn (L : List (Nat × Pag)) {k : Nat} {q : Nat × Pag} (h : L[k]? = some q) : (shR L)[k * 3]? = some (.int .i64 (q.1 : Int)) /\ (shR L)[k * 3 + 1]? = some (.int .i64 (q.2.1 : Int)) /\ (shR L)[k * 3 + 2]? = some (.string q.2.2) := by
 induction L generalizing k with
 | nil => simp at h
 | cons x L ih =>
   cases k with
   | zero =>
     simp only [List.getElem?_cons_zero, Option.some.injEq] at h;subst h;exact ⟨rfl, rfl, rfl⟩
   | succ k =>
     simp only [List.getElem?_cons_succ] at h;obtain ⟨h1, h2, h3⟩ := ih h;rw [show (k + 1) * 3 = k * 3 + 3 by omega];exact ⟨h1, h2, h3⟩
theorem vM {w : World} {B m n g : Nat} {T : TypeId} {v : Value} {l : List Value} (h : w.ownsRow B T m v n l) (hg : v.ownBlock = some g) : B <= g /\ g < w.heap.size /\ ∃ cur, w.heap[g]? = some (.cells cur T (0, 0)) := by
 have hl := h.lt g hg;rcases h.2 with ⟨rfl, h2⟩ | ⟨g', cap, cur, rfl, h1, h2, h3, h4, h5, h6⟩
 · cases hg
 · obtain rfl : g' = g := by simpa [Value.ownBlock] using hg
   exact ⟨hl.1, hl.2, cur, h2⟩
theorem zLj {w : World} {B B' m m' n n' g : Nat} {T T' : TypeId} {v v' : Value} {l l' : List Value} (h : w.ownsRow B T m v n l) (k : w.ownsRow B' T' m' v' n' l') (hT : T ≠ T') (hg : v.ownBlock = some g) : v'.ownBlock ≠ some g := fun hg' => by
 obtain ⟨-, -, c, e⟩ := vM h hg;obtain ⟨-, -, c', e'⟩ := vM k hg';rw [e] at e';injection e' with e';injection e' with e1 e2;exact hT e2
theorem zOg {w : World} {B Bp m n g : Nat} {T : TypeId} {v : Value} {l : List Value} (h : w.ownsRow B T m v n l) (h1 : T ≠ 255) (h2 : T ≠ 269) (hg : v.ownBlock = some g) : ¬ Po.PT w Bp g := fun k => by
 obtain ⟨-, -, cur, hb⟩ := vM h hg;rcases k.2 with ⟨es, ck, k⟩ | ⟨cs, k⟩ | ⟨cs, k⟩
 · rw [hb] at k; cases k
 · unfold Own at k; rw [hb] at k; injection k with k; injection k with e1 e2; exact h1 e2
 · unfold Own at k; rw [hb] at k; injection k with k; injection k with e1 e2; exact h2 e2
theorem zBs {w w' : World} {Bp B0 m n : Nat} {T : TypeId} {v : Value} {xs : List Value} (hc : Chg (Po.PT w Bp) w w') (h : w.ownsRow B0 T m v n xs) (h1 : T ≠ 255) (h2 : T ≠ 269) : w'.ownsRow B0 T m v n xs :=
 Po.ownsRow_keepB h fun g hg => hc.block g (h.lt g hg).2 fun k => by
   have hb : ∃ cur, w.heap[g]? = some (.cells cur T (0, 0)) := by
     rcases h.2 with ⟨rfl, h2⟩ | ⟨g', cap, cur, rfl, h1, h2, h3, h4, h5, h6⟩
     · cases hg
     · obtain rfl : g' = g := by simpa [Value.ownBlock] using hg
       exact ⟨cur, h2⟩
   obtain ⟨cur, hb⟩ := hb;rcases k.2 with ⟨es, ck, k⟩ | ⟨cs, k⟩ | ⟨cs, k⟩
   · rw [hb] at k; cases k
   · unfold Own at k; rw [hb] at k; injection k with k; injection k with e1 e2; exact h1 e2
   · unfold Own at k; rw [hb] at k; injection k with k; injection k with e1 e2; exact h2 e2
section
variable {w w' : World} {B Bp d p c : Nat} {P : PS}
theorem Coh.at_ {R : List Po.RF} {n c : Nat} (h : Coh P R) (hk : Po.OkR R n c) (hT : asc P.T) {q : Nat × Pag} (hq : q ∈ P.T) : Po.getR R (q.1 : Int) = ((fr q.2, true), (Po.getR R (q.1 : Int)).2) := by
 obtain ⟨f, hf, e, hd⟩ := h.all q hq;obtain ⟨S, T, rfl⟩ := List.append_of_mem hf;have hl := Po.look_at hk.nos;rw [e] at hl;obtain ⟨no, x, e1, -, -, hs, -, ht, -⟩ := h.good f hf;have e2 : no = q.1 := by rw [e] at e1; omega
 subst e2;have := ht hd;rw [zBg hT (show (q.1, q.2) ∈ P.T from hq)] at this;injection this with this;unfold Po.getR;rw [hl];simp only;rw [hs, this]
set_option maxRecDepth 10000 in
set_option maxHeartbeats 2000000 in
theorem zDb (h : zF w B Bp d p c P) (hc : c + P.T.length < 1000000) : Calls Tryz.prog 91 #[.pointer (some ⟨p, 0, none⟩)] w fun e w' => ∃ v, e = .returned v /\ w'.ownsRow w.heap.size 131 3 v P.T.length (shR P.T) /\ Ask w w' B Bp d p (c + P.T.length) P := by
 obtain ⟨sb, mb, sc, wv, lg, lm, pl, R, h⟩ := h;have HD := Po.dirty_any h.pool;rw [h.coh.dirty h.pool.ok h.ok.T.1, uP] at HD;have hT := h.ok.T.1;have hfew := h.ok.few;have hr6 := h.ok.r6;have ho : Own w p 150 #[.pointer (some ⟨d, 0, none⟩), .int .i64 (P.ll : Int), .int .u64 (P.seq : Int), .pointer (some ⟨lg, 0, none⟩), .map (some lm), .int .i64 (P.room : Int), .pointer (some ⟨pl, 0, none⟩), .bool P.failed] := h.own;obtain ⟨n, hn⟩ : ∃ n, n = P.T.length := ⟨_, rfl⟩
 rw [<- hn] at HD hc hfew ⊢;replace HD := Lh HD;have H := Lh h;have HT := Lh hT;have HN := Lh hn;obtain ⟨q1, q2, q3⟩ := ho.at_;obtain ⟨i0, hi0, hz0, hz1, hz2⟩ := info_parts Yx;have zp := ho.in_;clear h ho hT hn;unfold fR at hz0;go_enter Tryz.func91, Tryz.ntmps91;go_upto_region 2 with fail;go_wp2_with (go_at_call 174; refine HD.out.mono ?_; rintro e w1 ⟨dv, rfl, hrow, hb1⟩; have W1 := Lh hrow; have B1 := Lh hb1; obtain ⟨da, dc, rfl, -, -⟩ := yD hrow; clear hrow hb1)
 go_loopw [3, 14] (fun v i wr => ∃ (out : Value) (k : Nat) (R' : List Po.RF), out = v /\ k <= n /\ i = .int .i64 (k : Int) /\ wr.ownsRow w.heap.size 131 3 out k (shR (P.T.take k)) /\ wr.ownsRow w.heap.size 3 1 (.slice da n dc) n (Po.ints (yW P.T)) /\ Pgr wr B Bp d p (c + k) sb mb sc wv lg lm pl R' P /\ Chg (Po.PT w Bp) w wr) (fun v i wr => n - (intOf i).toNat)
 case atStart => exact ⟨_, 0, R, rfl, by omega, rfl, by simpa [shR] using World.ownsRow_nil _ _ _ _, W1.out, H.out.below B1.out, Chg.of B1.out⟩
 case round =>
   obtain ⟨out, k, R', hxo, hk, rfl, hrow, hdr, hP, hch⟩ := hrel;subst hxo;by_cases hlt : k < n
   · obtain ⟨q, hq⟩ : ∃ q, P.T[k]? = some q := ⟨_, List.getElem?_eq_getElem (by rw [<- HN.out]; exact hlt)⟩
     have hqT : q ∈ P.T := List.mem_of_getElem? hq;obtain ⟨a1, c1, e1, e2, hcl⟩ := yD hdr;injection e1 with e1 _ e3;subst e1 e3;obtain ⟨g, e4, hg, hcell, hfz⟩ := hcl k (by rw [<- e2]; exact hlt);subst e4;have hval : (Po.ints (yW P.T))[k]'(by rw [<- e2]; exact hlt) = .int .i64 (q.1 : Int) := by
       have h1 : (Po.ints (yW P.T))[k]? = some (.int .i64 (q.1 : Int)) := by
         unfold Po.ints yW;rw [List.getElem?_map, List.getElem?_map, hq];rfl
       exact Option.some.inj ((List.getElem?_eq_getElem _).symm.trans h1)
     rw [hval] at hcell;have hGET := Po.get_any hP.pool (q.1 : Int) (by omega);rw [hP.coh.at_ hP.pool.ok HT.out hqT] at hGET;have hPM := hP.coh.perm (Uh hP.pool.ok (q.1 : Int));have hx : xW q.2 := (hP.ok.T.2 q hqT).2;have FR := Lh (fun w => uF q.1 q.2 w hx);obtain ⟨R2, hR2⟩ : ∃ R2, R2 = (Po.getR R' (q.1 : Int)).2 := ⟨_, rfl⟩
     rw [<- hR2] at hGET hPM;obtain ⟨F, hF⟩ : ∃ F, F = fr q.2 := ⟨_, rfl⟩
     rw [<- hF] at FR hGET;have op : Own wr p 150 #[.pointer (some ⟨d, 0, none⟩), .int .i64 (P.ll : Int), .int .u64 (P.seq : Int), .pointer (some ⟨lg, 0, none⟩), .map (some lm), .int .i64 (P.room : Int), .pointer (some ⟨pl, 0, none⟩), .bool P.failed] := hP.own;obtain ⟨q1, q2, q3⟩ := op.at_;have EK := Lh (show P.T.take (k + 1) = P.T.take k ++ [q] by rw [List.take_add_one, hq]; rfl);have HLN : Hid ((shR (P.T.take k)).length = k * 3) := Lh (by rw [Qy, List.length_take, <- HN.out]; omega);have HP := Lh hP;have HR := Lh hrow;have HDR := Lh hdr;have HCH := Lh hch;have HG := Lh hGET;have HPM := Lh hPM;have zw := hch.size;unfold shV at FR;clear hP hrow hdr hch hGET hPM op hR2 hF hx hval hqT hcl e2 hq;go_wp2_with (first
       | (go_at_call 167; refine HG.out.mono ?_; rintro e w2 ⟨rfl, hp2, hc2⟩; have P2 := Lh (HP.out.pooled hc2 hp2 HPM.out); have C2 := Lh (yU HCH.out hc2); have R2 := Lh (zBs hc2 HR.out (by decide) (by decide)); have D2 := Lh (zBs hc2 HDR.out (by decide) (by decide)); clear hp2 hc2)
       | (go_at_call 168; refine (FR.out _).mono ?_; rintro e w3 ⟨rfl, hb3⟩; have P3 := Lh (P2.out.below hb3); have C3 := Lh (xD C2.out hb3); have R3 := Lh (zBs (Bp := Bp) (Chg.of hb3) R2.out (by decide) (by decide)); have D3 := Lh (zBs (Bp := Bp) (Chg.of hb3) D2.out (by decide) (by decide)); clear hb3)
       | (at_builtin; refine wpList_append_own_at _ rfl _ _ 160 rfl w.heap.size 131 i0 (.agg #[.int .i64 0, .int .i64 0, .string ⟨#[]⟩]) 3 32 Tryz.underlying160 hi0 hz0 hz1 hz2 rfl (by decide) out k (shR (P.T.take k)) rfl ((R3.out).alloc (.cells #[.int .i64 (q.1 : Int), .int .i64 (q.2.1 : Int), .string q.2.2] 131)) ⟨w3.heap.size, 0, none⟩ 1 1 [.int .i64 (q.1 : Int), .int .i64 (q.2.1 : Int), .string q.2.2] rfl rfl ?c1 ?c2 (by unfold maxLen; omega) (by omega) (by have := C3.out.size; simp; omega) ?_))
     case c1 => intro j u hu; exact Vh _ _ _ _ _ _ hu
     case c2 => intro u hu; simp at hu; rcases hu with rfl | rfl | rfl <;> rfl
     intro v' w5 hown hgrow hnil hloc;have hg5 : Chg (fun q => out.ownBlock = some q) w3 w5 := ((Chg.refl _ w3).alloc _).grown hgrow fun q e => .inl e
     have hge : ∀ q, out.ownBlock = some q -> w.heap.size <= q := fun q e => (vM R3.out e).1
     have P5 := Lh (P3.out.keep hg5 fun q hq e => by
       have hz := hge q e;rcases hq with h | h | h | h | h
       · have := (show Own w lg _ _ from H.out.log).in_; omega
       · have := H.out.own.in_; omega
       · have := H.out.map.in_; omega
       · have := H.out.disk.in_ h; omega
       · exact zOg R3.out (by decide) (by decide) e h)
     have C5 := Lh (C3.out.trans hg5 fun q hq e => absurd (hge q e) (by omega));have D5 := Lh (Po.ownsRow_keepB D3.out fun g' e => hg5.block g' (vM D3.out e).2.1 (zLj D3.out R3.out (by decide) e));have R5 : Hid (w5.ownsRow w.heap.size 131 3 v' (k + 1) (shR (P.T.take (k + 1)))) := Lh (by rw [EK.out, zC1]; exact hown);clear hown hgrow hnil hloc hg5 hge;go_wp2;go_roundw
     case rel => exact ⟨_, k + 1, _, rfl, by omega, by go_num, R5.out, D5.out, P5.out, C5.out⟩
     case measure => simp [intOf]; omega
   · obtain rfl : k = n := by omega
     have e1 : P.T.take k = P.T := by rw [HN.out, List.take_length]
     rw [e1] at hrow;have HR := Lh hrow;have A9 : Hid (Ask w wr B Bp d p (c + k) P) := Lh ⟨⟨sb, mb, sc, wv, lg, lm, pl, R', hP⟩, hch⟩;clear hrow hdr hP hch e1;go_wp2;go_ret;exact ⟨_, rfl, HR.out, A9.out⟩
end
end
end Go.Proofs.YthijgebmoadgkaaGreatDoor
