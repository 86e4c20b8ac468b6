import Derived.Test.YtndhmidgnpobjaaGreatDoorPgtA
import Derived.Test.YtndhmidgnpobjaaGreatDoorPguC
import Derived.Test.YtndhmidgnpobjaaGreatDoorShelS
import Derived.Shelf.SlSortCmp.NoneTotal
set_option linter.unusedVariables false
set_option linter.unusedSimpArgs false
section
namespace Go.Proofs.YtndhmidgnpobjaaGreatDoor
open Go.ChangeShapes Go.WideShapes Go.ChangeAt Go.RowKit
structure RS where
 most : Nat
 room : Nat
 sure : RSt
 way : RSt
 dirty : List Bool
def RS.count (R : RS) : Nat := R.dirty.count true
def rfC (m n : Nat) (sk sr sf : Value) (rs : Nat -> Nat) (wk wr wf : Value) (rw : Nat -> Nat) (vd : Value) : Array Value :=
 #[.int .i64 (m : Int), .int .i64 (n : Int), sk, sr, sf, .int .u64 (rs 0 : Int), .int .u64 (rs 1 : Int), .int .u64 (rs 2 : Int), .int .u64 (rs 3 : Int), .int .u64 (rs 4 : Int), .int .u64 (rs 5 : Int), .int .u64 (rs 6 : Int), .int .u64 (rs 7 : Int),
   wk, wr, wf, .int .u64 (rw 0 : Int), .int .u64 (rw 1 : Int), .int .u64 (rw 2 : Int), .int .u64 (rw 3 : Int), .int .u64 (rw 4 : Int), .int .u64 (rw 5 : Int), .int .u64 (rw 6 : Int), .int .u64 (rw 7 : Int), vd]
def apart (a b : Value) : Prop := ∀ g, a.ownBlock = some g -> b.ownBlock ≠ some g
structure Ref (w : World) (B p : Nat) (sk sr sf wk wr wf vd : Value) (R : RS) : Prop where
 own : Own w p 61 (rfC R.most R.room sk sr sf R.sure.roots wk wr wf R.way.roots vd)
 sure : vU w B sk sr sf R.sure
 way : vU w B wk wr wf R.way
 dirty : w.ownsRow B 4 1 vd R.dirty.length (vL R.dirty)
 base : B <= p
 a1 : apart wk sk
 a2 : apart wk sf
 a3 : apart wf sk
 a4 : apart wf sf
 a5 : apart wr sr
def gI (w : World) (B p : Nat) (R : RS) : Prop := ∃ sk sr sf wk wr wf vd, Ref w B p sk sr sf wk wr wf vd R
def RT (w : World) (B q : Nat) : Prop := B <= q /\ ∃ cs T fz, w.heap[q]? = some (.cells cs T fz) /\ (T = 61 \/ T = 3 \/ T = 9 \/ T = 4)
theorem RT.congr {w w' : World} {B q : Nat} (e : w'.heap[q]? = w.heap[q]?) (h : RT w' B q) : RT w B q := by
 obtain ⟨hB, h⟩ := h;rw [e] at h;exact ⟨hB, h⟩
theorem yF {a b c : World} {B : Nat} (h : Chg (RT a B) a b) (k : Chg (RT b B) b c) : Chg (RT a B) a c := h.trans k fun q hq hf => by
 by_cases c : RT a B q
 · exact c
 · exact hf.congr (h.block q hq c)
theorem yC {w : World} {B : Nat} {T : TypeId} {v : Value} {l : List Value} {n g : Nat} (h : w.ownsRow B T 1 v n l) (hg : v.ownBlock = some g) : B <= g /\ ∃ cur, w.heap[g]? = some (.cells cur T (0, 0)) := by
 rcases h.2 with ⟨rfl, h2⟩ | ⟨g', cap, cur, rfl, h1, h2, h3, h4, h5, h6⟩
 · cases hg
 · obtain rfl : g' = g := by simpa [Value.ownBlock] using hg
   exact ⟨h1, cur, h2⟩
theorem xH {w : World} {B : Nat} {T T' : TypeId} {v v' : Value} {l l' : List Value} {n n' : Nat} (h : w.ownsRow B T 1 v n l) (h' : w.ownsRow B T' 1 v' n' l') (hT : T ≠ T') : apart v v' := fun g hg hg' => by
 obtain ⟨-, c, e⟩ := yC h hg;obtain ⟨-, c', e'⟩ := yC h' hg';rw [e] at e';injection e' with e';injection e' with e1 e2;exact hT e2
theorem zZ {w : World} {B p : Nat} {T T' : TypeId} {v : Value} {l : List Value} {n : Nat} {cs : Array Value} (h : w.ownsRow B T 1 v n l) (ho : Own w p T' cs) (hT : T ≠ T') : v.ownBlock ≠ some p := fun hg => by
 obtain ⟨-, c, e⟩ := yC h hg;unfold Own at ho;rw [e] at ho;injection ho with ho;injection ho with e1 e2;exact hT e2
section
variable {w w' : World} {B p : Nat} {sk sr sf wk wr wf vd : Value} {R : RS}
def rfp (p : Nat) (sk sr sf wk wr wf vd : Value) (q : Nat) : Prop := q = p \/ sk.ownBlock = some q \/ sr.ownBlock = some q \/ sf.ownBlock = some q \/ wk.ownBlock = some q \/ wr.ownBlock = some q \/ wf.ownBlock = some q \/ vd.ownBlock = some q
theorem Ref.rt (h : Ref w B p sk sr sf wk wr wf vd R) {q : Nat} (hq : rfp p sk sr sf wk wr wf vd q) : RT w B q := by
 rcases hq with rfl | e | e | e | e | e | e | e
 · exact ⟨h.base, _, _, _, h.own, .inl rfl⟩
 · obtain ⟨h1, c, h2⟩ := yC h.sure.k e; exact ⟨h1, _, _, _, h2, .inr (.inl rfl)⟩
 · obtain ⟨h1, c, h2⟩ := yC h.sure.r e; exact ⟨h1, _, _, _, h2, .inr (.inr (.inl rfl))⟩
 · obtain ⟨h1, c, h2⟩ := yC h.sure.f e; exact ⟨h1, _, _, _, h2, .inr (.inl rfl)⟩
 · obtain ⟨h1, c, h2⟩ := yC h.way.k e; exact ⟨h1, _, _, _, h2, .inr (.inl rfl)⟩
 · obtain ⟨h1, c, h2⟩ := yC h.way.r e; exact ⟨h1, _, _, _, h2, .inr (.inr (.inl rfl))⟩
 · obtain ⟨h1, c, h2⟩ := yC h.way.f e; exact ⟨h1, _, _, _, h2, .inr (.inl rfl)⟩
 · obtain ⟨h1, c, h2⟩ := yC h.dirty e; exact ⟨h1, _, _, _, h2, .inr (.inr (.inr rfl))⟩
theorem Ref.keep (h : Ref w B p sk sr sf wk wr wf vd R) {Z : Nat -> Prop} (hc : Chg Z w w') (hz : ∀ q, RT w B q -> ¬ Z q) : Ref w' B p sk sr sf wk wr wf vd R :=
 { h with
   own := hc.own h.own (hz p (h.rt (.inl rfl)))
   sure := h.sure.keep hc fun g hg => hz g (h.rt (by rcases hg with e | e | e; exact .inr (.inl e); exact .inr (.inr (.inl e)); exact .inr (.inr (.inr (.inl e)))))
   way := h.way.keep hc fun g hg => hz g (h.rt (by rcases hg with e | e | e; exact .inr (.inr (.inr (.inr (.inl e)))); exact .inr (.inr (.inr (.inr (.inr (.inl e))))); exact .inr (.inr (.inr (.inr (.inr (.inr (.inl e))))))))
   dirty := Po.ownsRow_keepB h.dirty fun g hg => hc.block g (h.dirty.lt g hg).2 (hz g (h.rt (.inr (.inr (.inr (.inr (.inr (.inr (.inr hg))))))))) }
theorem Ref.below (h : Ref w B p sk sr sf wk wr wf vd R) (hb : Below w.heap.size w w') : Ref w' B p sk sr sf wk wr wf vd R := h.keep (Chg.of (S := fun _ => False) hb) fun _ _ => id
theorem gI.below (h : gI w B p R) (hb : Below w.heap.size w w') : gI w' B p R := by
 obtain ⟨sk, sr, sf, wk, wr, wf, vd, h⟩ := h;exact ⟨sk, sr, sf, wk, wr, wf, vd, h.below hb⟩
theorem zEx (l : List Bool) (k : Nat) (h : k < l.length) : (l.take (k + 1)).count true = (l.take k).count true + if l[k] then 1 else 0 := by
 rw [List.take_add_one, List.getElem?_eq_getElem h];simp only [Option.toList_some, List.count_append, List.count_singleton];cases l[k] <;> simp
set_option maxRecDepth 10000 in
theorem Zd (h : Ref w B p sk sr sf wk wr wf vd R) : Calls Tryz.prog 34 #[.pointer (some ⟨p, 0, none⟩)] w fun e w' => e = .returned (.int .i64 (R.count : Int)) /\ Below w.heap.size w w' := by
 have hdi := h.dirty;obtain ⟨da, dc, rfl, -, hd⟩ := zO hdi;have hmx := gV hdi;unfold maxLen at hmx;have ho := h.own;obtain ⟨D, hD⟩ : ∃ D, D = R.dirty := ⟨_, rfl⟩
 rw [show R.count = D.count true by rw [hD]; rfl];rw [<- hD] at hd hmx hdi;rw [<- hD] at ho;unfold rfC at ho;obtain ⟨n, hn⟩ : ∃ n, n = D.length := ⟨_, rfl⟩
 rw [<- hn] at ho hmx;have HO := Lh ho;have HN := Lh hn;have hdl : ∀ k (hk : k < n), ∃ g, da = some ⟨g, 0, none⟩ /\ g < w.heap.size /\ w.cell? ⟨g, k, none⟩ = some (.bool (D[k]'(by omega))) := fun k hk => by
   obtain ⟨g, h1, h2, h3, -⟩ := hd k (by simp [vL]; omega);refine ⟨g, h1, (hdi.lt g h2).2, ?_⟩;rw [h3];simp [vL]
 have HDL := Lh hdl;obtain ⟨q1, q2, q3⟩ := ho.at_;clear h hd ho hD hdl hdi;go_enter Tryz.func34, Tryz.ntmps34;go_wp2;go_loopw [3, 4] (fun c i wx => ∃ k : Nat, k <= n /\ i = .int .i64 (k : Int) /\ c = .int .i64 ((D.take k).count true : Int) /\ Below w.heap.size w wx) (fun c i wx => n - (intOf i).toNat)
 case atStart => exact ⟨0, by omega, rfl, by simp, Below.refl _ _⟩
 case round =>
   obtain ⟨k, hk, rfl, rfl, hb⟩ := hrel;obtain ⟨r1, r2, r3⟩ := (HO.out.keep hb).at_;have HBB := Lh hb;have hcl : (D.take k).count true <= k := Nat.le_trans List.count_le_length (by rw [List.length_take]; omega);clear hb;by_cases hlt : k < n
   · obtain ⟨g, rfl, hg, hcell⟩ := HDL.out k hlt;have hc2 : wr.cell? ⟨g, k, none⟩ = some (.bool (D[k]'(by rw [<- HN.out]; exact hlt))) := by rw [<- hcell]; exact World.cell?_of_block (HBB.out.block g hg)
     have TC := Lh (zEx D k (by rw [<- HN.out]; exact hlt));obtain ⟨b, hb⟩ : ∃ b, b = (D[k]'(by rw [<- HN.out]; exact hlt)) := ⟨_, rfl⟩
     rw [<- hb] at hc2 TC;have e1 : IntKind.i64.wrap ((k : Int) + 1) = ((k + 1 : Nat) : Int) := by rw [IntKind.wrap_i64]; omega
     have e2 : IntKind.i64.wrap (((D.take k).count true : Int) + 1) = (((D.take k).count true + 1 : Nat) : Int) := by rw [IntKind.wrap_i64]; omega
     clear hb hcell;cases b with
     | true =>
       go_wp2;go_roundw
       case rel => exact ⟨k + 1, by omega, by first | rfl | (congr 1; omega), by rw [TC.out]; first | rfl | simp, HBB.out⟩
       case measure => simp [intOf] <;> omega
     | false =>
       go_wp2;go_roundw
       case rel => exact ⟨k + 1, by omega, by first | rfl | (congr 1; omega), by rw [TC.out]; first | rfl | simp, HBB.out⟩
       case measure => simp [intOf] <;> omega
   · obtain rfl : k = n := by omega
     have e1 : D.take k = D := by rw [HN.out, List.take_length]
     go_wp2;go_ret;rw [e1];exact ⟨rfl, HBB.out⟩
end
end Go.Proofs.YtndhmidgnpobjaaGreatDoor
end
section
namespace Go.Proofs.YtndhmidgnpobjaaGreatDoor
open Go.ChangeShapes Go.WideShapes Go.ChangeAt Go.RowKit
theorem Za : (Tryz.prog.info? 112).map (fun i => (i.zero, i.size, i.bytes)) = some (some fW, 3, 32) := by kernel_rfl
theorem Vv (W : World) (T : TypeId) (x y z : Value) (j : Nat) {u : Value} (hu : [x, y, z][j]? = some u) : (W.alloc (.cells #[x, y, z] T)).cell? ((⟨W.heap.size, 0, none⟩ : Addr).add j) = some u := by
 have e : (⟨W.heap.size, 0, none⟩ : Addr).add j = ⟨W.heap.size, j, none⟩ := by unfold Addr.add; split <;> simp_all
 rw [e];have := (Own.made W T #[x, y, z]).at_.1 j;exact this.trans (by simpa using hu)
def shR (L : List (Nat × Pag)) : List Value := L.flatMap fun q => [.int .i64 (q.1 : Int), .int .i64 (q.2.1 : Int), .string q.2.2]
theorem Qs (L : List (Nat × Pag)) : (shR L).length = L.length * 3 := by
 induction L with
 | nil => rfl
 | cons q L ih => show (_ :: _ :: _ :: shR L).length = _; simp [ih]; omega
theorem zCm (L : List (Nat × Pag)) (q : Nat × Pag) : shR (L ++ [q]) = shR L ++ [.int .i64 (q.1 : Int), .int .i64 (q.2.1 : Int), .string q.2.2] := by simp [shR]
theorem zBi (L : List (Nat × Pag)) {k : Nat} {q : Nat × Pag} (h : L[k]? = some q) : (shR L)[k * 3]? = some (.int .i64 (q.1 : Int)) /\ (shR L)[k * 3 + 1]? = some (.int .i64 (q.2.1 : Int)) /\ (shR L)[k * 3 + 2]? = some (.string q.2.2) := by
 induction L generalizing k with
 | nil => simp at h
 | cons x L ih =>
   cases k with
   | zero =>
     simp only [List.getElem?_cons_zero, Option.some.injEq] at h;subst h;exact ⟨rfl, rfl, rfl⟩
   | succ k =>
     simp only [List.getElem?_cons_succ] at h;obtain ⟨h1, h2, h3⟩ := ih h;rw [show (k + 1) * 3 = k * 3 + 3 by omega];exact ⟨h1, h2, h3⟩
theorem vR {w : World} {B m n g : Nat} {T : TypeId} {v : Value} {l : List Value} (h : w.ownsRow B T m v n l) (hg : v.ownBlock = some g) : B <= g /\ g < w.heap.size /\ ∃ cur, w.heap[g]? = some (.cells cur T (0, 0)) := by
 have hl := h.lt g hg;rcases h.2 with ⟨rfl, h2⟩ | ⟨g', cap, cur, rfl, h1, h2, h3, h4, h5, h6⟩
 · cases hg
 · obtain rfl : g' = g := by simpa [Value.ownBlock] using hg
   exact ⟨hl.1, hl.2, cur, h2⟩
theorem zM9 {w : World} {B B' m m' n n' g : Nat} {T T' : TypeId} {v v' : Value} {l l' : List Value} (h : w.ownsRow B T m v n l) (k : w.ownsRow B' T' m' v' n' l') (hT : T ≠ T') (hg : v.ownBlock = some g) : v'.ownBlock ≠ some g := fun hg' => by
 obtain ⟨-, -, c, e⟩ := vR h hg;obtain ⟨-, -, c', e'⟩ := vR k hg';rw [e] at e';injection e' with e';injection e' with e1 e2;exact hT e2
theorem zPd {w : World} {B Bp m n g : Nat} {T : TypeId} {v : Value} {l : List Value} (h : w.ownsRow B T m v n l) (h1 : T ≠ 216) (h2 : T ≠ 229) (hg : v.ownBlock = some g) : ¬ Po.PT w Bp g := fun k => by
 obtain ⟨-, -, cur, hb⟩ := vR h hg;rcases k.2 with ⟨es, ck, k⟩ | ⟨cs, k⟩ | ⟨cs, k⟩
 · rw [hb] at k; cases k
 · unfold Own at k; rw [hb] at k; injection k with k; injection k with e1 e2; exact h1 e2
 · unfold Own at k; rw [hb] at k; injection k with k; injection k with e1 e2; exact h2 e2
theorem zBc {w w' : World} {Bp B0 m n : Nat} {T : TypeId} {v : Value} {xs : List Value} (hc : Chg (Po.PT w Bp) w w') (h : w.ownsRow B0 T m v n xs) (h1 : T ≠ 216) (h2 : T ≠ 229) : w'.ownsRow B0 T m v n xs :=
 Po.ownsRow_keepB h fun g hg => hc.block g (h.lt g hg).2 fun k => by
   have hb : ∃ cur, w.heap[g]? = some (.cells cur T (0, 0)) := by
     rcases h.2 with ⟨rfl, h2⟩ | ⟨g', cap, cur, rfl, h1, h2, h3, h4, h5, h6⟩
     · cases hg
     · obtain rfl : g' = g := by simpa [Value.ownBlock] using hg
       exact ⟨cur, h2⟩
   obtain ⟨cur, hb⟩ := hb;rcases k.2 with ⟨es, ck, k⟩ | ⟨cs, k⟩ | ⟨cs, k⟩
   · rw [hb] at k; cases k
   · unfold Own at k; rw [hb] at k; injection k with k; injection k with e1 e2; exact h1 e2
   · unfold Own at k; rw [hb] at k; injection k with k; injection k with e1 e2; exact h2 e2
section
variable {w w' : World} {B Bp d p c : Nat} {P : PS}
theorem Coh.at_ {R : List Po.RF} {n c : Nat} (h : Coh P R) (hk : Po.OkR R n c) (hT : asc P.T) {q : Nat × Pag} (hq : q ∈ P.T) : Po.getR R (q.1 : Int) = ((fr q.2, true), (Po.getR R (q.1 : Int)).2) := by
 obtain ⟨f, hf, e, hd⟩ := h.all q hq;obtain ⟨S, T, rfl⟩ := List.append_of_mem hf;have hl := Po.look_at hk.nos;rw [e] at hl;obtain ⟨no, x, e1, -, -, hs, -, ht, -⟩ := h.good f hf;have e2 : no = q.1 := by rw [e] at e1; omega
 subst e2;have := ht hd;rw [zBn hT (show (q.1, q.2) ∈ P.T from hq)] at this;injection this with this;unfold Po.getR;rw [hl];simp only;rw [hs, this]
set_option maxRecDepth 10000 in
set_option maxHeartbeats 2000000 in
theorem zCx (h : zG w B Bp d p c P) (hc : c + P.T.length < 1000000) : Calls Tryz.prog 82 #[.pointer (some ⟨p, 0, none⟩)] w fun e w' => ∃ v, e = .returned v /\ w'.ownsRow w.heap.size 112 3 v P.T.length (shR P.T) /\ Ask w w' B Bp d p (c + P.T.length) P := by
 obtain ⟨sb, mb, sc, wv, lg, lm, pl, R, h⟩ := h;have HD := Po.dirty_any h.pool;rw [h.coh.dirty h.pool.ok h.ok.T.1, uY] at HD;have hT := h.ok.T.1;have hfew := h.ok.few;have hr6 := h.ok.r6;have ho : Own w p 131 #[.pointer (some ⟨d, 0, none⟩), .int .i64 (P.ll : Int), .int .u64 (P.seq : Int), .pointer (some ⟨lg, 0, none⟩), .map (some lm), .int .i64 (P.room : Int), .pointer (some ⟨pl, 0, none⟩), .bool P.failed] := h.own;obtain ⟨n, hn⟩ : ∃ n, n = P.T.length := ⟨_, rfl⟩
 rw [<- hn] at HD hc hfew ⊢;replace HD := Lh HD;have H := Lh h;have HT := Lh hT;have HN := Lh hn;obtain ⟨q1, q2, q3⟩ := ho.at_;obtain ⟨i0, hi0, hz0, hz1, hz2⟩ := info_parts Za;have zp := ho.in_;clear h ho hT hn;unfold fW at hz0;go_enter Tryz.func82, Tryz.ntmps82;go_upto_region 2 with fail;go_wp2_with (go_at_call 97; refine HD.out.mono ?_; rintro e w1 ⟨dv, rfl, hrow, hb1⟩; have W1 := Lh hrow; have B1 := Lh hb1; obtain ⟨da, dc, rfl, -, -⟩ := zO hrow; clear hrow hb1)
 go_loopw [3, 14] (fun v i wr => ∃ (out : Value) (k : Nat) (R' : List Po.RF), out = v /\ k <= n /\ i = .int .i64 (k : Int) /\ wr.ownsRow w.heap.size 112 3 out k (shR (P.T.take k)) /\ wr.ownsRow w.heap.size 3 1 (.slice da n dc) n (Po.ints (yY P.T)) /\ Pgr wr B Bp d p (c + k) sb mb sc wv lg lm pl R' P /\ Chg (Po.PT w Bp) w wr) (fun v i wr => n - (intOf i).toNat)
 case atStart => exact ⟨_, 0, R, rfl, by omega, rfl, by simpa [shR] using World.ownsRow_nil _ _ _ _, W1.out, H.out.below B1.out, Chg.of B1.out⟩
 case round =>
   obtain ⟨out, k, R', hxo, hk, rfl, hrow, hdr, hP, hch⟩ := hrel;subst hxo;by_cases hlt : k < n
   · obtain ⟨q, hq⟩ : ∃ q, P.T[k]? = some q := ⟨_, List.getElem?_eq_getElem (by rw [<- HN.out]; exact hlt)⟩
     have hqT : q ∈ P.T := List.mem_of_getElem? hq;obtain ⟨a1, c1, e1, e2, hcl⟩ := zO hdr;injection e1 with e1 _ e3;subst e1 e3;obtain ⟨g, e4, hg, hcell, hfz⟩ := hcl k (by rw [<- e2]; exact hlt);subst e4;have hval : (Po.ints (yY P.T))[k]'(by rw [<- e2]; exact hlt) = .int .i64 (q.1 : Int) := by
       have h1 : (Po.ints (yY P.T))[k]? = some (.int .i64 (q.1 : Int)) := by
         unfold Po.ints yY;rw [List.getElem?_map, List.getElem?_map, hq];rfl
       exact Option.some.inj ((List.getElem?_eq_getElem _).symm.trans h1)
     rw [hval] at hcell;have hGET := Po.get_any hP.pool (q.1 : Int) (by omega);rw [hP.coh.at_ hP.pool.ok HT.out hqT] at hGET;have hPM := hP.coh.perm (Up hP.pool.ok (q.1 : Int));have hx : vE q.2 := (hP.ok.T.2 q hqT).2;have FR := Lh (fun w => uM q.1 q.2 w hx);obtain ⟨R2, hR2⟩ : ∃ R2, R2 = (Po.getR R' (q.1 : Int)).2 := ⟨_, rfl⟩
     rw [<- hR2] at hGET hPM;obtain ⟨F, hF⟩ : ∃ F, F = fr q.2 := ⟨_, rfl⟩
     rw [<- hF] at FR hGET;have op : Own wr p 131 #[.pointer (some ⟨d, 0, none⟩), .int .i64 (P.ll : Int), .int .u64 (P.seq : Int), .pointer (some ⟨lg, 0, none⟩), .map (some lm), .int .i64 (P.room : Int), .pointer (some ⟨pl, 0, none⟩), .bool P.failed] := hP.own;obtain ⟨q1, q2, q3⟩ := op.at_;have EK := Lh (show P.T.take (k + 1) = P.T.take k ++ [q] by rw [List.take_add_one, hq]; rfl);have HLN : Hid ((shR (P.T.take k)).length = k * 3) := Lh (by rw [Qs, List.length_take, <- HN.out]; omega);have HP := Lh hP;have HR := Lh hrow;have HDR := Lh hdr;have HCH := Lh hch;have HG := Lh hGET;have HPM := Lh hPM;have zw := hch.size;unfold shV at FR;clear hP hrow hdr hch hGET hPM op hR2 hF hx hval hqT hcl e2 hq;go_wp2_with (first
       | (go_at_call 139; refine HG.out.mono ?_; rintro e w2 ⟨rfl, hp2, hc2⟩; have P2 := Lh (HP.out.pooled hc2 hp2 HPM.out); have C2 := Lh (yV HCH.out hc2); have R2 := Lh (zBc hc2 HR.out (by decide) (by decide)); have D2 := Lh (zBc hc2 HDR.out (by decide) (by decide)); clear hp2 hc2)
       | (go_at_call 140; refine (FR.out _).mono ?_; rintro e w3 ⟨rfl, hb3⟩; have P3 := Lh (P2.out.below hb3); have C3 := Lh (xC C2.out hb3); have R3 := Lh (zBc (Bp := Bp) (Chg.of hb3) R2.out (by decide) (by decide)); have D3 := Lh (zBc (Bp := Bp) (Chg.of hb3) D2.out (by decide) (by decide)); clear hb3)
       | (at_builtin; refine wpList_append_own_at _ rfl _ _ 141 rfl w.heap.size 112 i0 (.agg #[.int .i64 0, .int .i64 0, .string ⟨#[]⟩]) 3 32 Tryz.underlying141 hi0 hz0 hz1 hz2 rfl (by decide) out k (shR (P.T.take k)) rfl ((R3.out).alloc (.cells #[.int .i64 (q.1 : Int), .int .i64 (q.2.1 : Int), .string q.2.2] 112)) ⟨w3.heap.size, 0, none⟩ 1 1 [.int .i64 (q.1 : Int), .int .i64 (q.2.1 : Int), .string q.2.2] rfl rfl ?c1 ?c2 (by unfold maxLen; omega) (by omega) (by have := C3.out.size; simp; omega) ?_))
     case c1 => intro j u hu; exact Vv _ _ _ _ _ _ hu
     case c2 => intro u hu; simp at hu; rcases hu with rfl | rfl | rfl <;> rfl
     intro v' w5 hown hgrow hnil hloc;have hg5 : Chg (fun q => out.ownBlock = some q) w3 w5 := ((Chg.refl _ w3).alloc _).grown hgrow fun q e => .inl e
     have hge : ∀ q, out.ownBlock = some q -> w.heap.size <= q := fun q e => (vR R3.out e).1
     have P5 := Lh (P3.out.keep hg5 fun q hq e => by
       have hz := hge q e;rcases hq with h | h | h | h | h
       · have := (show Own w lg _ _ from H.out.log).in_; omega
       · have := H.out.own.in_; omega
       · have := H.out.map.in_; omega
       · have := H.out.disk.in_ h; omega
       · exact zPd R3.out (by decide) (by decide) e h)
     have C5 := Lh (C3.out.trans hg5 fun q hq e => absurd (hge q e) (by omega));have D5 := Lh (Po.ownsRow_keepB D3.out fun g' e => hg5.block g' (vR D3.out e).2.1 (zM9 D3.out R3.out (by decide) e));have R5 : Hid (w5.ownsRow w.heap.size 112 3 v' (k + 1) (shR (P.T.take (k + 1)))) := Lh (by rw [EK.out, zCm]; exact hown);clear hown hgrow hnil hloc hg5 hge;go_wp2;go_roundw
     case rel => exact ⟨_, k + 1, _, rfl, by omega, by go_num, R5.out, D5.out, P5.out, C5.out⟩
     case measure => simp [intOf]; omega
   · obtain rfl : k = n := by omega
     have e1 : P.T.take k = P.T := by rw [HN.out, List.take_length]
     rw [e1] at hrow;have HR := Lh hrow;have A9 : Hid (Ask w wr B Bp d p (c + k) P) := Lh ⟨⟨sb, mb, sc, wv, lg, lm, pl, R', hP⟩, hch⟩;clear hrow hdr hP hch e1;go_wp2;go_ret;exact ⟨_, rfl, HR.out, A9.out⟩
end
end Go.Proofs.YtndhmidgnpobjaaGreatDoor
end
section
namespace Go.Proofs.YtndhmidgnpobjaaGreatDoor
open Go.ChangeShapes Go.WideShapes Go.ChangeAt Go.RowKit Go.Sort Go.Lib
structure Sh where
 n : Nat
 h : n <= 99999
 p : Pag
instance : Inhabited Sh := ⟨⟨0, by omega, (0, ⟨#[]⟩)⟩⟩
def zFd (x : Sh) : List Value := [.int .i64 (x.n : Int), .int .i64 (x.p.1 : Int), .string x.p.2]
def zFh (q : Nat × Pag) : Sh := ⟨min q.1 99999, by omega, q.2⟩
def fB (x : Sh) : Nat × Pag := (x.n, x.p)
def cfS (x y : Sh) : Int := (x.n : Int) - (y.n : Int)
theorem zNy {q : Nat × Pag} (h : q.1 <= 99999) : fB (zFh q) = q := by
 unfold fB zFh;obtain ⟨a, b⟩ := q;simp only at h ⊢;rw [Nat.min_eq_left h]
theorem ltS (x y : Sh) : ltOf cfS x y = decide (x.n < y.n) := by
 unfold ltOf cfS;by_cases h : x.n < y.n
 · rw [decide_eq_true h, decide_eq_true (by omega)]
 · rw [decide_eq_false h, decide_eq_false (by omega)]
theorem swoS : SWO (ltOf cfS) where
 irrefl x := by rw [ltS]; simp
 trans x y z h1 h2 := by
   rw [ltS] at *;have := of_decide_eq_true h1;have := of_decide_eq_true h2;exact decide_eq_true (by omega)
 ntrans x y z h1 h2 := by
   rw [ltS] at *;have := of_decide_eq_false h1;have := of_decide_eq_false h2;exact decide_eq_false (by omega)
theorem zM3 (x y : Sh) (W : World) : Calls Tryz.prog 204 #[.agg #[.int .i64 (x.n : Int), .int .i64 (x.p.1 : Int), .string x.p.2], .agg #[.int .i64 (y.n : Int), .int .i64 (y.p.1 : Int), .string y.p.2]] W fun e w' => e = .returned (.int .i64 (cfS x y)) /\ ∃ q os', w' = grow (W.drewN q) os' := by
 have h1 := x.h;have h2 := y.h;unfold cfS;obtain ⟨a, ha⟩ : ∃ a, a = x.n := ⟨_, rfl⟩
 obtain ⟨b, hb⟩ : ∃ b, b = y.n := ⟨_, rfl⟩
 rw [<- ha] at h1 ⊢;rw [<- hb] at h2 ⊢;have w1 : IntKind.i64.wrap ((a : Int) - (b : Int)) = (a : Int) - (b : Int) := by rw [IntKind.wrap_i64]; omega
 clear ha hb;go_enter Tryz.func204, Tryz.ntmps204;go_wp2;go_ret;exact ⟨rfl, 0, _, by rw [alloc_eq_grow, alloc_eq_grow, grow_grow]; rfl⟩
theorem cmpS (blk off size : Nat) (w : World) : CmpLays Tryz.prog 204 #[] zFd 3 cfS blk off size w := fun _ _ _ _ x y => zM3 x y _
theorem zK9 {w : World} {g : Nat} {cur : Array Value} {e : TypeId} {ss : List Value} (hb : w.heap[g]? = some (.cells cur e (0, 0))) (ht : cur.toList.take ss.length = ss) : Holds id w g 0 ss.toArray := by
 intro j hj;have hj' : j < ss.length := by simpa using hj
 refine ⟨?_, by simp [World.frozen?, hb]⟩;have h1 : (cur.toList.take ss.length)[j]? = ss[j]? := by rw [ht]
 rw [List.getElem?_take_of_lt hj'] at h1;simp only [World.cell?, hb, Nat.zero_add];simp only [Option.isSome_none, Bool.false_eq_true, if_false];rw [<- Array.getElem?_toList, h1];simp [hj']
theorem zMv {w : World} {g n : Nat} {os : Array Obj} {cur : Array Value} {e : TypeId} {fr : Nat × Nat} (d : Array Value) (hb : w.heap[g]? = some (.cells cur e fr)) :
   (grow (putRow id (Sort.ahead w n) g 0 d) os).heap[g]? = some (.cells (Sort.putCells id 0 d cur) e fr) := by
 have hg : g < w.heap.size := (Array.getElem?_eq_some_iff.1 hb).1;rw [heap_grow_old _ _ (by simpa using hg)];simp [putRow, mapBlock, Sort.ahead, Array.getElem?_modify, hb, onCells]
theorem zKx {w : World} {g n : Nat} {os : Array Obj} (d : Array Value) : w.grownBy (grow (putRow id (Sort.ahead w n) g 0 d) os) (some g) := by
 refine ⟨rfl, rfl, rfl, by simp, fun k hk hne => ?_⟩;rw [heap_grow_old _ _ (by simpa using hk)];have : g ≠ k := fun e => hne (by rw [e])
 simp [putRow, mapBlock, Sort.ahead, Array.getElem?_modify, this]
theorem zMp (cur : Array Value) (ts : List Value) (h : ts.length <= cur.size) : (Sort.putCells id 0 ts.toArray cur).toList.take ts.length = ts := by
 apply List.ext_getElem?
 intro j;by_cases hj : j < ts.length
 · rw [List.getElem?_take_of_lt hj, Array.getElem?_toList];simp [Sort.putCells, hj, show j < cur.size by omega]
 · rw [List.getElem?_take_eq_none (by omega), List.getElem?_eq_none (by omega)]
theorem zGb (L : List Sh) : flatK zFd 3 L.toArray = (shR (L.map fB)).toArray := by
 apply Array.ext
 · rw [size_flatK, List.size_toArray, List.size_toArray, Qs, List.length_map]
 · intro t h1 h2;rw [size_flatK, List.size_toArray] at h1;have h3 := get_flatK zFd 3 L.toArray t (by rw [List.size_toArray]; exact h1);rw [getElem!_pos _ t (by rw [size_flatK, List.size_toArray]; exact h1)] at h3;rw [h3];have hk : t / 3 < L.length := by omega
   have e1 : L.toArray[t / 3]! = L[t / 3]'hk := by rw [getElem!_pos _ _ (by simpa using hk)]; simp
   rw [e1];have hq : (L.map fB)[t / 3]? = some (fB (L[t / 3]'hk)) := by rw [List.getElem?_map, List.getElem?_eq_getElem hk]; rfl
   obtain ⟨a0, a1, a2⟩ := zBi (L.map fB) hq;have hb : ∀ (v : Value), (shR (L.map fB))[t]? = some v -> (shR (L.map fB)).toArray[t] = v := fun v hv => by
     rw [List.getElem_toArray];rw [List.getElem?_eq_getElem (by simpa using h2)] at hv;exact Option.some.inj hv
   symm
   rcases (by omega : t = t / 3 * 3 \/ t = t / 3 * 3 + 1 \/ t = t / 3 * 3 + 2) with c | c | c
   · have cm : t % 3 = 0 := by omega
     rw [cm];refine hb _ ?_;conv => lhs; rw [c]
     rw [a0]; rfl
   · have cm : t % 3 = 1 := by omega
     rw [cm];refine hb _ ?_;conv => lhs; rw [c]
     rw [a1]; rfl
   · have cm : t % 3 = 2 := by omega
     rw [cm];refine hb _ ?_;conv => lhs; rw [c]
     rw [a2]; rfl
theorem zK1 {a b : List (Nat × Pag)} (ha : asc a) (hb : asc b) (hp : a.Perm b) : a = b := zG8 ha hb fun n => by
 cases h : lk a n with
 | some v => exact (zBn hb (hp.mem_iff.1 (uH h))).symm
 | none =>
   cases h2 : lk b n with
   | none => rfl
   | some v =>
     have := zBn ha (hp.mem_iff.2 (uH h2));rw [h] at this; cases this
theorem zHs {d d' : Array Sh} {M : List (Nat × Pag)} (hM : asc M) (hd : (d.toList.map fB).Perm M) (hp : PermIn 0 d.size d d') (hs : SortedIn (ltOf cfS) 0 d.size d') : d'.toList.map fB = M := by
 obtain ⟨h1, -, h3⟩ := hp;rw [<- h1, Array.extract_size] at h3;have e1 : (d.extract 0 d'.size) = d := by rw [h1, Array.extract_size]
 rw [e1] at h3;have hp2 : (d'.toList.map fB).Perm M := (h3.map fB).trans hd;refine zK1 ?_ hM hp2;have hnd : ((d'.toList.map fB).map (·.1)).Nodup := ((hp2.map (·.1)).nodup_iff).2 (zAs hM);unfold asc;rw [List.pairwise_iff_getElem];intro i j hi hj hij;have hi' : i < d'.size := by simpa using hi
 have hj' : j < d'.size := by simpa using hj
 have := hs i j (Nat.zero_le _) hij (by omega);rw [getElem!_pos _ i hi', getElem!_pos _ j hj'] at this;have hle : (d'[i]'hi').n <= (d'[j]'hj').n := by rw [ltS] at this; have := of_decide_eq_false this; omega
 have hne : (d'[i]'hi').n ≠ (d'[j]'hj').n := fun e => by
   have h5 := List.pairwise_iff_getElem.1 (List.nodup_iff_pairwise_ne.1 hnd) i j (by simpa using hi') (by simpa using hj') hij;apply h5
   simp [fB, e]
 have e2 : ((d'.toList.map fB)[i]'hi).1 = (d'[i]'hi').n := by simp [fB]
 have e3 : ((d'.toList.map fB)[j]'hj).1 = (d'[j]'hj').n := by simp [fB]
 rw [e2, e3];omega
theorem zI1 {w : World} {base : Nat} {v : Value} {xs M : List (Nat × Pag)} (h : w.ownsRow base 112 3 v xs.length (shR xs)) (hx : ∀ q ∈ xs, q.1 <= 99999) (hn : xs.length <= 1000000) (hM : asc M) (hp : xs.Perm M) :
   Calls Tryz.prog 203 #[v, .func (.func 204) #[] #[]] w fun e w' => e = .returned (.tuple #[]) /\ w'.ownsRow base 112 3 v xs.length (shR M) /\ Chg (fun q => v.ownBlock = some q) w w' := by
 by_cases hx0 : xs = []
 · subst hx0;have hM0 : M = [] := hp.nil_eq.symm;subst hM0;obtain ⟨a, cp, rfl⟩ : ∃ a cp, v = .slice a 0 cp := by
     rcases h.2 with ⟨e, _⟩ | ⟨g, cap, cur, e, _⟩
     · exact ⟨none, 0, e⟩
     · exact ⟨_, cap, e⟩
   refine (AnyF.slices_SortFunc_none Tryz.sortSh a cp _ w).mono ?_;rintro e w' ⟨rfl, rfl⟩;exact ⟨rfl, h, Chg.refl _ _⟩
 · rcases h.2 with ⟨rfl, h0⟩ | ⟨g, cap, cur, rfl, hg, hb, h1, h2, h3, h4⟩
   · exact absurd (List.eq_nil_of_length_eq_zero h0) hx0
   · have hlen := Qs xs;have hof : (xs.map zFh).map fB = xs := by
       rw [List.map_map];refine (List.map_congr_left fun q hq => ?_).trans (List.map_id xs);exact zNy (hx q hq)
     have hfl := zGb (xs.map zFh);rw [hof] at hfl;have hsz : (xs.map zFh).toArray.size = xs.length := by simp
     have hH : HoldsK zFd 3 w g 0 (xs.map zFh).toArray := by
       unfold HoldsK;rw [hfl];exact zK9 hb (by rw [hlen]; exact h4)
     have eg : ∀ args w, (callFunc 204 args).run Tryz.prog w = .ok (.enter 204 args) w := fun args w => vW Tryz.func204 rfl rfl args w
     have hcon := AnyQ.slices_SortFunc Tryz.sortSh 3 Tryz.isAgg112 Tryz.sizeOf112 zFd (fun _ => rfl) (fun x u hu => by simp [zFd] at hu; rcases hu with rfl | rfl | rfl <;> rfl) cfS swoS 204 #[] g 0 cap (xs.map zFh).toArray w eg (cmpS g 0 _ w) hH (Array.getElem?_eq_some_iff.1 hb).1 (by rw [hsz]; omega);rw [hsz] at hcon;refine hcon.mono ?_;rintro e w' ⟨rfl, d', n, os, hpi, hso, rfl⟩;rw [<- hsz] at hpi hso;have hd := zHs hM (by simpa [hof] using hp) hpi hso;have hd' : flatK zFd 3 d' = (shR M).toArray := by
       have := zGb d'.toList;rw [hd] at this;exact this
     have hml : (shR M).length = xs.length * 3 := by rw [Qs, hp.length_eq]
     refine ⟨rfl, ⟨by rw [hml], .inr ⟨g, cap, Sort.putCells id 0 (shR M).toArray cur, rfl, hg, ?_, h1, h2, ?_, ?_⟩⟩, ?_⟩
     · unfold sortWorldK putRowK;rw [hd'];exact zMv _ hb
     · simp [Sort.putCells, h3]
     · rw [<- hml];exact zMp cur (shR M) (by rw [hml, h3]; omega)
     · unfold sortWorldK putRowK;exact (Chg.refl _ w).grown (zKx _) fun k hk => .inl (by cases hk; rfl)
end Go.Proofs.YtndhmidgnpobjaaGreatDoor
end
section
namespace Go.Proofs.YtndhmidgnpobjaaGreatDoor
open Go.ChangeShapes Go.WideShapes Go.ChangeAt Go.RowKit
section
variable {w : World} {p lm : Nat} {x0 x1 x2 x3 x5 x6 x7 : Value} {M : List (Nat × Pag)}
set_option maxRecDepth 10000 in
set_option maxHeartbeats 1000000 in
theorem zIv (hO : Own w p 131 #[x0, x1, x2, x3, .map (some lm), x5, x6, x7]) (hM : yA w lm .i64 (M.map uP)) (ha : asc M) (hx : ∀ q ∈ M, q.1 <= 99999) (hn : M.length <= 65536) :
   Calls Tryz.prog 152 #[.pointer (some ⟨p, 0, none⟩)] w fun e w' => ∃ v, e = .returned v /\ w'.ownsRow w.heap.size 112 3 v M.length (shR M) /\ Below w.heap.size w w' := by
 obtain ⟨o1, o2, o3⟩ := hO.at_;have HM := Lh hM;have HA := Lh ha;have HX := Lh hx;obtain ⟨N, hN⟩ : ∃ N, N = M.length := ⟨_, rfl⟩
 have HN := Lh hN;have HML := Lh hM.in_;rw [<- hN] at hn ⊢;clear hO hM ha hx hN;go_enter Tryz.func152, Tryz.ntmps152;go_wp2_with (first
   | (at_range; refine qB _ rfl _ _ rfl _ _ Tryz.underlying124 .i64 lm _ rfl HM.out ?_; intro w0 hr0 hb0 hs0)
   | go_in)
 go_frame
 have R0 := Lh hr0;have B0 := Lh hb0;clear hr0 hb0 o1 o2;go_loopw [3] (fun x wr => ∃ (out : Value) (done rest : List (Nat × Pag)), out = x /\ (done ++ rest).Perm M /\ wr.ownsRow w.heap.size 112 3 out done.length (shR done) /\ Rng wr w.heap.size lm .i64 (M.map uP) (rest.map uP) /\ Below w.heap.size w wr)
   (fun _ wr => wr.rangeLeft lm w.heap.size)
 case atStart => exact ⟨_, [], M, rfl, List.Perm.refl _, World.ownsRow_nil _ _ _ _, R0.out, B0.out⟩
 case round =>
   obtain ⟨out, done, rest, hxo, hp, hrow, hr, hc⟩ := hrel;subst hxo;have hdl : done.length + rest.length = N := by
     have h2 := hp.length_eq;rw [List.length_append, <- HN.out] at h2;exact h2
   have HR := Lh hr;have HC := Lh hc;have HP := Lh hp;have HW := Lh hrow;clear hr hc hp hrow;go_wp2_with (first
     | (at_next; refine qT _ rfl _ rfl .i64 lm w.heap.size _ _ rfl HR.out ?_ ?_)
     | go_in)
   · intro he;obtain rfl : rest = [] := by cases rest with
       | nil => rfl
       | cons x r => cases he
     clear he;have hp := HP.out;rw [List.append_nil] at hp;have hdn : done.length = N := by simpa using hdl
     have HS := Lh (zI1 HW.out (fun q hq => HX.out q (hp.mem_iff.1 hq)) (by omega) HA.out hp);rw [hdn] at HS;clear hp hdn;go_wp2_with (go_at_call 203; refine HS.out.mono ?_; rintro e w2 ⟨rfl, hw2, hc2⟩)
     go_ret;refine ⟨_, rfl, hw2, ?_⟩;exact ((Chg.of HC.out).trans hc2 fun q hq e => absurd (HW.out.lt q e).1 (by omega)).below (S := fun _ => False) (Nat.le_refl _) fun q e => e.elim
   · intro s i v t w1 he hr1 hc1 hs1 hen;obtain ⟨S, f, T, rfl, rfl, hie, rfl⟩ := Po.split_map uP rest he;have h1 : i = (f.1 : Int) := congrArg Prod.fst hie;have h2 : v = .agg #[.int .i64 (f.1 : Int), .int .i64 (f.2.1 : Int), .string f.2.2] := congrArg Prod.snd hie;subst h1 h2;have hml := HML.out;have hb1 : Below w.heap.size w w1 := ((Chg.of (S := (· = w.heap.size)) HC.out).same hc1).below (Nat.le_refl _) (fun q e => by omega);have hw1 : w1.ownsRow w.heap.size 112 3 out done.length (shR done) := Po.ownsRow_keepB HW.out fun g hg => hc1.block g (HW.out.lt g hg).2 fun e => HR.out.ne_row HW.out hg e.symm
     have hp1 : ((done ++ [f]) ++ (S ++ T)).Perm M := by
       refine List.Perm.trans ?_ HP.out;rw [List.append_assoc];refine List.Perm.append_left done ?_;exact (List.perm_middle (a := f) (l₁ := S) (l₂ := T)).symm
     have hr2 : Rng w1 w.heap.size lm .i64 (M.map uP) ((S ++ T).map uP) := by rw [List.map_append]; exact hr1
     have hlen : (S ++ T).length < (S ++ f :: T).length := by simp
     have hms := hr2.left;have hms0 := HR.out.left;rw [List.length_map] at hms hms0;have HM0 := Lh hms0;have HLT := Lh hlen;have HMS := Lh hms;have R2 := Lh hr2;have P1 := Lh hp1;have W1 := Lh hw1;have B1 := Lh hb1;have hdl2 : done.length + 1 <= N := by simp at hdl; omega
     obtain ⟨i0, hi0, hz0, hz1, hz2⟩ := info_parts Za;unfold fW at hz0;have hbs := hb1.size;clear he hie hr1 hc1 hb1 hp1 hr2 hlen hms hms0 hw1 HW HC hdl hs1;go_wp2_with (at_builtin; refine wpList_append_own_at _ rfl _ _ 141 rfl w.heap.size 112 i0 (.agg #[.int .i64 0, .int .i64 0, .string ⟨#[]⟩]) 3 32 Tryz.underlying141 hi0 hz0 hz1 hz2 rfl (by decide) out done.length (shR done) rfl ((W1.out.alloc (.cells #[.int .i64 (f.1 : Int), .int .i64 (f.2.1 : Int), .string f.2.2] 112)).alloc (.cells #[.int .i64 (f.1 : Int), .int .i64 (f.2.1 : Int), .string f.2.2] 112)) ⟨w1.heap.size + 1, 0, none⟩ 1 1 [.int .i64 (f.1 : Int), .int .i64 (f.2.1 : Int), .string f.2.2] rfl rfl ?c1 ?c2 (by unfold maxLen; omega) (by omega) (by simp; omega) ?_)
     case c1 => intro j u hu; rw [show w1.heap.size + 1 = (w1.alloc (.cells #[.int .i64 (f.1 : Int), .int .i64 (f.2.1 : Int), .string f.2.2] 112)).heap.size from by simp]; exact Vv _ _ _ _ _ _ hu
     case c2 => intro u hu; simp at hu; rcases hu with rfl | rfl | rfl <;> rfl
     intro v' w5 hown hgrow hnil hloc;have hw1 := W1.out;have hg5 : Chg (fun q => out.ownBlock = some q) w1 w5 := (((Chg.refl _ w1).alloc _).alloc _).grown hgrow fun q e => .inl e
     have hb5 : Below w.heap.size w w5 := ((Chg.of (S := fun q => w.heap.size <= q) B1.out).same (hg5.mono fun q _ e => (hw1.lt q e).1)).below (Nat.le_refl _) fun q e => e
     have hr5 : Rng w5 w.heap.size lm .i64 (M.map uP) ((S ++ T).map uP) := R2.out.keep (hg5.block lm (by omega) fun e => by have := (hw1.lt lm e).1; omega) (hg5.block w.heap.size R2.out.in_ fun e => R2.out.ne_row hw1 e rfl);have ho5 : w5.ownsRow w.heap.size 112 3 v' (done ++ [f]).length (shR (done ++ [f])) := by
       rw [zCm, List.length_append];exact hown
     have hm5 := hr5.left;rw [List.length_map] at hm5;have M5 := Lh hm5;have B5 := Lh hb5;have R5 := Lh hr5;have O5 := Lh ho5;clear hown hgrow hnil hloc hg5 hb5 hr5 ho5 hm5 hw1;go_wp2;go_roundw
     case rel => exact ⟨_, done ++ [f], S ++ T, rfl, P1.out, O5.out, R5.out, B5.out⟩
     case measure => rw [M5.out, HM0.out]; exact HLT.out
end
end Go.Proofs.YtndhmidgnpobjaaGreatDoor
end
