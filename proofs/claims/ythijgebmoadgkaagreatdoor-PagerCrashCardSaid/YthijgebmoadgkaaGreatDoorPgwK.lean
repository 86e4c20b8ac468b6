import Derived.Test.YthijgebmoadgkaaGreatDoorPgwG
import Derived.Test.YthijgebmoadgkaaGreatDoorPgvE
import Derived.Test.YthijgebmoadgkaaGreatDoorActV
set_option linter.unusedVariables false
set_option linter.unusedSimpArgs false
namespace Go.Proofs.YthijgebmoadgkaaGreatDoor
open Go.ChangeShapes Go.WideShapes Go.ChangeAt Go.RowKit
section
def Rd (v : Nat -> Pag × Nat) : Prop := ∀ i, i < rdU (v 0).1.2 -> (v i).2 = 0
def tlS (v : Nat -> Pag × Nat) : RSt := ⟨(List.range (rdU (v 0).1.2)).map fun i => (v i).1.1, (List.range (rdU (v 0).1.2)).map fun i => (v i).1.2, [], rdR (v 0).1.2⟩
theorem zKp (P : PS) : tlS P.view = ⟨P.kindL P.used, P.roomL P.used, [], P.root⟩ := rfl
theorem Rd.read {P : PS} (h : Rd P.view) : ∀ i, i < P.used -> (P.view i).2 = 0 := h
theorem Uc {v v' : Nat -> Pag × Nat} {most : Nat} (hu : rdU (v 0).1.2 <= most) (h1 : 1 <= most) (h : ∀ no, no < most -> v no = v' no) : tlS v = tlS v' := by
 have h0 := h 0 (by omega);unfold tlS;rw [<- h0];congr 1
 · exact List.map_congr_left fun i hi => by rw [h i (by rw [List.mem_range] at hi; omega)]
 · exact List.map_congr_left fun i hi => by rw [h i (by rw [List.mem_range] at hi; omega)]
theorem Rd.congr {v v' : Nat -> Pag × Nat} {most : Nat} (hr : Rd v) (hu : rdU (v 0).1.2 <= most) (h1 : 1 <= most) (h : ∀ no, no < most -> v no = v' no) : Rd v' := by
 intro i hi;rw [<- h 0 (by omega)] at hi;rw [<- h i (by omega)];exact hr i hi
section
variable {P : PS}
theorem zOr (hk : P.Ok) {L : List (Nat × Pag)} (hL : asc L) (h : Rd P.view) (hu : ∀ i, i < rdU ((P.put L).view 0).1.2 -> lk L i ≠ none \/ i < P.used) : Rd (P.put L).view := by
 intro i hi;rw [jH hk.T.1 hL];cases hl : lk L i with
 | some x => rfl
 | none =>
   rcases hu i hi with h2 | h2
   · exact absurd hl h2
   · exact h i h2
theorem zIy (hk : P.Ok) {L : List (Nat × Pag)} (hL : asc L) (h : Rd P.view) (hu : ∀ i, i < rdU ((P.put L).view 0).1.2 -> lk L i ≠ none \/ i < P.used) : Rd (P.chg L).view := by
 unfold PS.chg;split
 · exact zOr hk hL h hu
 · exact h
theorem zKw (most u f : Nat) (o : Option Nat) (e : Nat) (h : (tkF most u f o e).2.1 = 0) : (tkF most u f o e).2.2.1 = u \/ ((tkF most u f o e).2.2.1 = u + 1 /\ (tkF most u f o e).1 = u) := by
 by_cases c1 : f = 0
 · have e1 : tkF most u f o e = if most <= u then (0, 8, u, f) else (u, 0, u + 1, f) := if_pos c1
   rw [e1] at h ⊢;by_cases c2 : most <= u
   · rw [if_pos c2]; exact .inl rfl
   · rw [if_neg c2]; exact .inr ⟨rfl, rfl⟩
 · have e1 : tkF most u f o e = if e = 0 then (match o with
     | none => (0, 19, u, f)
     | some n => (f, 0, u, n)) else (0, (e : Int), u, f) := if_neg c1
   rw [e1] at h ⊢;by_cases c2 : e = 0
   · rw [if_pos c2]; cases o <;> exact .inl rfl
   · rw [if_neg c2]; exact .inl rfl
theorem zK9 (hk : P.Ok) (h0 : P.tk.2.1 = 0) (k : Int) : ∃ n u f, P.alL k = [(0, (1, zJ u f P.root)), (n, (k.toNat, ⟨#[]⟩))] /\ 1 <= n /\ u <= P.most /\ (u = P.used \/ (u = P.used + 1 /\ n = P.used)) := by
 have ht := PS.tk_ok hk h0;have e0 := zJ0 P;have hu2 := zKw P.most P.used P.free (nxt P.used (P.view P.free).1) (P.view P.free).2 (by rw [<- e0]; exact h0);rw [<- e0] at hu2;have eL : P.alL k = [(0, (1, zJ P.tk.2.2.1 P.tk.2.2.2 P.root)), (P.tk.1, (k.toNat, ⟨#[]⟩))] := by unfold PS.alL; rfl
 obtain ⟨q, hq⟩ : ∃ q, q = P.tk := ⟨_, rfl⟩
 rw [<- hq] at ht hu2 eL;exact ⟨q.1, q.2.2.1, q.2.2.2, eL, ht.1, ht.2.2.2.1, hu2⟩
theorem zHd (hT : asc P.T) {n k u f : Nat} {r : Nat -> Nat} {t : ByteArray} (hn : 1 <= n) : (P.put [(0, (1, zJ u f r)), (n, (k, t))]).view 0 = ((1, fl (zJ u f r)), 0) := by
 rw [jH hT (by unfold asc; simp; omega), zBd, if_pos rfl]
theorem rd_al (hk : P.Ok) (h : Rd P.view) (k : Int) : Rd (P.al k).view := by
 have hu := hk.used;have hm := hk.most;unfold PS.al;split
 · split
   · exact h
   · split
     · next h0 =>
       obtain ⟨n, u, f, eL, h1, h2, h3⟩ := zK9 hk h0 k;rw [eL];clear eL h0;obtain ⟨r, hr⟩ : ∃ r, r = P.root := ⟨_, rfl⟩
       rw [<- hr];clear hr;refine zIy hk (by unfold asc; simp; omega) h fun i hi => ?_
       rw [zHd hk.T.1 h1, vL _ (yO _ _ _)] at hi;rw [qS _ _ _ (by omega)] at hi;rw [zBd];rcases h3 with e | ⟨e, e'⟩
       · exact .inr (by omega)
       · by_cases c : i < P.used
         · exact .inr c
         · left
           rw [if_neg (by omega), if_pos (by omega)];simp
     · exact h
 · exact h
theorem Xu (hk : P.Ok) {L : List (Nat × Pag)} (hL : asc L) (h0 : rdU ((P.put L).view 0).1.2 = P.used) (h : Rd P.view) : Rd (P.chg L).view := zIy hk hL h fun i hi => .inr (by rw [h0] at hi; exact hi)
theorem rd_wr (hk : P.Ok) (h : Rd P.view) (no k : Int) (t : ByteArray) : Rd (P.wr no k t).view := by
 unfold PS.wr;split
 · next hc =>
   split
   · have hL : asc [(no.toNat, ((k.toNat, t) : Pag))] := by simp [asc]
     have hn : 1 <= no := by unfold PS.wrC PS.others at hc; simp at hc; exact hc.1.1
     refine Xu hk hL ?_ h;rw [jH hk.T.1 hL, Ys, if_neg (by omega)];rfl
   · exact h
 · exact h
theorem zLm (hk : P.Ok) (h : Rd P.view) (no : Int) : Rd (P.freI no).view := by
 have hu := hk.used;have hm := hk.most;unfold PS.freI PS.fre;split
 · next hc =>
   have hn : 1 <= no := by unfold PS.others at hc; simp at hc; exact hc.1
   split
   · split
     · split
       · exact h
       · have hL : asc (P.frL no.toNat) := by unfold PS.frL asc; simp; omega
         refine Xu hk hL ?_ h;have ev : (P.put (P.frL no.toNat)).view 0 = ((1, fl (zJ P.used no.toNat P.root)), 0) := by
           rw [jH hk.T.1 hL];rfl
         rw [ev, vL _ (yO _ _ _)];exact qS _ _ _ (by omega)
     · exact h
   · exact h
 · exact h
theorem rd_rt (hk : P.Ok) (h : Rd P.view) (i : Int) (x : Nat) : Rd (P.rt i x).view := by
 have hu := hk.used;have hm := hk.most;unfold PS.rt;split
 · have hL : asc (P.srL i.toNat x) := by unfold PS.srL asc; simp
   refine Xu hk hL ?_ h;have ev : (P.put (P.srL i.toNat x)).view 0 = ((1, fl (zJ P.used P.free (upR P.root i.toNat x))), 0) := by
     rw [jH hk.T.1 hL];rfl
   rw [ev, vL _ (yO _ _ _)];exact qS _ _ _ (by omega)
 · exact h
structure yL (P : PS) (rm k : Nat) : Prop where
 hold : ∃ first ts, uY P first ts
 N : P.N = 300
 ll : P.ll = 60
 room : P.room = rm
 seq : P.seq <= 1 + k
 view : Rd P.view
 base : Rd P.base
theorem yL.most {rm k : Nat} (h : yL P rm k) : P.most = 29 := by
 unfold PS.most;rw [h.N, h.ll]
theorem yL.up {rm k : Nat} (h : yL P rm k) : P.s.down = false := by
 obtain ⟨f, t, hh⟩ := h.hold;exact hh.up
theorem yL.only {rm k : Nat} (h : yL P rm k) {Q : PS} (hQ : ∃ T, Q = { P with T := T }) (hv : Rd Q.view) : yL Q rm k := by
 obtain ⟨T, rfl⟩ := hQ;obtain ⟨f, t, hh⟩ := h.hold;exact ⟨⟨f, t, ⟨hh.dsk, hh.used, hh.next, hh.wr, hh.up, hh.lf, hh.ff⟩⟩, h.N, h.ll, h.room, h.seq, hv, h.base⟩
theorem yL.abort {rm k : Nat} (h : yL P rm k) : yL P.abort rm k := h.only ⟨[], rfl⟩ h.base
theorem zH2 {Q : PS} (hQ : ∃ T, Q = { P with T := T }) : Q.base = P.base := by
 obtain ⟨T, rfl⟩ := hQ;rfl
end
end
section
structure Ve (v : Nat -> Pag × Nat) : Prop where
 rd : Rd v
 h0 : (v 0).2 = 0
 hd : Jq 29 (v 0).1
theorem Ve.hi {v : Nat -> Pag × Nat} (h : Ve v) : rdU (v 0).1.2 <= 29 := h.hd.hi
theorem Ve.congr {v v' : Nat -> Pag × Nat} (h : Ve v) (e : ∀ no, no < 29 -> v no = v' no) : Ve v' := by
 have e0 := e 0 (by omega);exact ⟨h.rd.congr h.hi (by omega) e, by rw [<- e0]; exact h.h0, by rw [<- e0]; exact h.hd⟩
structure Any (s : St) (k : Nat) (b v : Nat -> Pag × Nat) : Prop where
 left : Ux 300 60 (1 + k) s b v
 b : Ve b
 v : Ve v
structure Vs (P : PS) (k : Nat) (b v : Nat -> Pag × Nat) : Prop where
 failed : P.failed = true
 down : P.s.down = true
 any : Any P.s k b v
theorem Any.up {s : St} {k k' : Nat} {b v : Nat -> Pag × Nat} (h : Any s k b v) (hk : k <= k') : Any s k' b v := ⟨h.left.up (by omega), h.b, h.v⟩
theorem Vs.up {P : PS} {k k' : Nat} {b v : Nat -> Pag × Nat} (h : Vs P k b v) (hk : k <= k') : Vs P k' b v := ⟨h.failed, h.down, h.any.up hk⟩
section
variable {P : PS} {rm k : Nat}
theorem yL.more (h : yL P rm k) {k' : Nat} (hk : k <= k') : yL P rm k' := { h with seq := Nat.le_trans h.seq (by omega) }
theorem yL.gv (h : yL P rm k) (hk : P.Ok) : Ve P.view := ⟨h.view, hk.hd0, by have := hk.hd; rw [h.most] at this; exact this⟩
theorem yL.gb (h : yL P rm k) (hk : P.Ok) : Ve P.base := ⟨h.base, hk.bd0, by have := hk.bd; rw [h.most] at this; exact this⟩
theorem yL.Tlen (h : yL P rm k) (hk : P.Ok) : P.T.length <= 29 := by
 have := Qa P.T 0 P.most hk.T.1 fun q hq => ⟨Nat.zero_le _, (hk.T.2 q hq).1⟩
 rw [h.most] at this;omega
theorem yL.any (h : yL P rm k) (hk : P.Ok) : Any P.s k P.base P.base := by
 obtain ⟨f, t, hh⟩ := h.hold;have := hh.rest;rw [h.N, h.ll] at this;exact ⟨this.up h.seq, h.gb hk, h.gb hk⟩
theorem zEr (he : P.comE = 11) (hT : P.T ≠ []) (hl : P.T.length <= 64) (hf : P.failed = false) : P.com.failed = true := by
 unfold PS.comE at he;rw [if_neg (by rw [hf]; simp), if_neg hT, if_neg (by omega)] at he;unfold PS.com;rw [if_neg (by rw [hf]; simp [hT]; omega), if_neg (by omega)];unfold PS.ent PS.told;rw [if_pos he]
theorem yL.com (h : yL P rm k) (hk : P.Ok) (hk2 : k <= 1000) :
   (P.comE = 0 /\ yL P.com rm (k + 1) /\ ∀ no, no < 29 -> P.com.base no = P.view no) \/ (P.comE = 9 /\ P.com = P) \/ (P.comE = 11 /\ Vs P.com (k + 1) P.base P.view) := by
 have hT := h.Tlen hk;have hq := h.seq;have hm := h.most;have gv := h.gv hk;have gb := h.gb hk;obtain ⟨f, t, hh⟩ := h.hold;obtain ⟨a, -⟩ := hh.comD hk (by omega) (by omega);rcases a with ⟨a1, a2, a3⟩ | ⟨a1, a2, a3⟩ | ⟨a1, a2, a3, a4, a5, a6, a7, a8, a9, a10⟩ | ⟨a1, a2, a3, a4, a5, a6, a7⟩
 · refine .inl ⟨a2, ?_, fun no _ => ?_⟩
   · rw [a3]; exact h.more (Nat.le_succ k)
   · rw [a3]; unfold PS.view; rw [a1]; rfl
 · exact .inr (.inl ⟨a2, a3⟩)
 · have hb : ∀ no, no < 29 -> P.com.base no = P.view no := fun no hn => a9 no (by omega)
   have gB : Ve P.com.base := gv.congr fun no hn => (hb no hn).symm
   have hv : P.com.view = P.com.base := by funext no; unfold PS.view; rw [a4]; rfl
   exact .inl ⟨a3, ⟨a10, a5.trans h.N, a6.trans h.ll, a7.trans h.room, by omega, by rw [hv]; exact gB.rd, gB.rd⟩, hb⟩
 · rw [h.N, h.ll] at a7;exact .inr (.inr ⟨a3, zEr a3 a1 (by omega) hh.ff, a4, a7.up (by omega), gb, gv⟩)
theorem yL.ck (h : yL P rm k) (hk : P.Ok) (hk2 : k <= 1000) :
   (P.ck = P) \/ (yL P.ck rm (k + 1) /\ ∀ no, no < 29 -> P.ck.base no = P.base no) \/ Vs P.ck (k + 1) P.base P.base := by
 have hq := h.seq;have hm := h.most;have gv := h.gv hk;have gb := h.gb hk;obtain ⟨f, t, hh⟩ := h.hold;by_cases c : P.T = []
 · have e2 : P.ck = PS.told P.empR.1 P.emp := by unfold PS.ck; rw [if_neg (by rw [hh.ff, c]; simp)]
   obtain ⟨a, n1, n2, n3, n4, n5, -⟩ := hh.ckD hk (by omega);rw [e2];rcases a with ⟨a1, a2, a3⟩ | ⟨a1, a2, a3⟩
   · have hb : ∀ no, no < 29 -> (PS.told P.empR.1 P.emp).base no = P.base no := fun no hn => n5 no (by omega)
     have gB : Ve (PS.told P.empR.1 P.emp).base := gb.congr fun no hn => (hb no hn).symm
     have hv : (PS.told P.empR.1 P.emp).view = (PS.told P.empR.1 P.emp).base := by funext no; unfold PS.view; rw [n4, c]; rfl
     exact .inr (.inl ⟨⟨a2, n1.trans h.N, n2.trans h.ll, n3.trans h.room, by omega, by rw [hv]; exact gB.rd, gB.rd⟩, hb⟩)
   · rw [h.N, h.ll] at a3;refine .inr (.inr ⟨?_, a2, a3.up (by omega), gb, gb⟩);unfold PS.told;rw [if_pos a1]
 · exact .inl (by unfold PS.ck; rw [if_pos (.inr c)])
theorem Any.fused {s : St} {b v : Nat -> Pag × Nat} (h : Any s k b v) (f : Int) : Any { s with fuse := f } k b v := ⟨fun kp hkp => h.left kp hkp, h.b, h.v⟩
theorem Vs.fused {b v : Nat -> Pag × Nat} (h : Vs P k b v) (f : Int) : Vs (P.fused f) k b v := ⟨h.failed, h.down, h.any.fused f⟩
theorem yL.fused (h : yL P rm k) (f : Int) : yL (P.fused f) rm k := by
 obtain ⟨x, t, hh⟩ := h.hold;have hd := hh.dsk;refine ⟨⟨x, t, ⟨hd.keep ⟨hd.sd.len, hd.sd.fits⟩ fun k _ => zFp rfl rfl _, hh.used, hh.next, hh.wr, hh.up, hh.lf, hh.ff⟩⟩, h.N, h.ll, h.room, h.seq, ?_, ?_⟩
 · have e : (P.fused f).view = P.view := funext fun no => Ju P f no
   rw [e]; exact h.view
 · have e : (P.fused f).base = P.base := funext fun no => jC P f no
   rw [e]; exact h.base
theorem Any.reopen {s : St} {b v : Nat -> Pag × Nat} (h : Any s k b v) (kp : Nat -> Nat) (hkp : ∀ j, kp j <= 64) (hk : k <= 1000) : ∃ Q, opn 300 (crs kp s) 30 = some Q /\ yL Q 30 k /\ Q.s = crs kp s /\ Q.T = [] /\ ((∀ no, no < 29 -> Q.base no = b no) \/ ∀ no, no < 29 -> Q.base no = v no) := by
 obtain ⟨seq, first, ts, M, h1, h2, h3⟩ := h.left kp hkp;have key : ∀ u : Nat -> Pag × Nat, Ve u -> (∀ no, no < 29 -> dbs (crs kp s) 60 M no = u no) -> ∃ Q, opn 300 (crs kp s) 30 = some Q /\ yL Q 30 k /\ Q.s = crs kp s /\ Q.T = [] /\ ∀ no, no < 29 -> Q.base no = u no := fun u gu hu => by
   have e0 := hu 0 (by omega);obtain ⟨o1, o2⟩ := h2.reopen rfl rfl (by rw [e0]; exact gu.h0) (by rw [e0]; exact gu.hd) 30;have hb : ∀ no, no < 29 -> (opP 300 (crs kp s) 30 60 seq first M).base no = u no := fun no hn => hu no hn
   have gB : Ve (opP 300 (crs kp s) 30 60 seq first M).base := gu.congr fun no hn => (hb no hn).symm
   exact ⟨_, o1, ⟨⟨first, ts, o2⟩, rfl, rfl, rfl, h1, gB.rd, gB.rd⟩, rfl, rfl, hb⟩
 rcases h3 with h3 | h3
 · obtain ⟨Q, q1, q2, q3, q4, q5⟩ := key b h.b h3;exact ⟨Q, q1, q2, q3, q4, .inl q5⟩
 · obtain ⟨Q, q1, q2, q3, q4, q5⟩ := key v h.v h3;exact ⟨Q, q1, q2, q3, q4, .inr q5⟩
theorem yL.twice (h : yL P rm k) (hk : P.Ok) (r : Nat) : opn 300 P.s r = some { P with room := r, T := [] } := by
 obtain ⟨f, t, hh⟩ := h.hold;have e : opn 300 P.s r = opn P.N P.s r := by rw [h.N]
 exact e.trans (hh.opened hk r)
end
end
section
def zN4 (T : TypeId) : Prop := T = 44 \/ T = 38 \/ T = 3 \/ T = 9
def yP (C : Nat) (W W' : World) : Prop := ∀ q cs T, C <= q -> zN4 T -> Own W q T cs -> Own W' q T cs
section
variable {C B S : Nat} {W W' : World}
theorem yP.refl (C : Nat) (W : World) : yP C W W := fun _ _ _ _ _ h => h
theorem yP.trans {a b c : World} (h : yP C a b) (k : yP C b c) : yP C a c := fun q cs T hq hT ho => k q cs T hq hT (h q cs T hq hT ho)
theorem yC (h : Below W.heap.size W W') : yP C W W' := fun q cs T _ _ ho => ho.keep h
theorem zJ5 (hc : Chg (Po.PT W B) W W') : yP C W W' := fun q cs T _ hT ho => by
 rcases hT with rfl | rfl | rfl | rfl <;> exact yZ hc ho (by decide) (by decide)
theorem zDy {Z : Nat -> Prop} (hc : Chg Z W W') (hz : ∀ q cs T, C <= q -> zN4 T -> Own W q T cs -> ¬ Z q) : yP C W W' := fun q cs T hq hT ho => (hc.block q ho.in_ (hz q cs T hq hT ho)).trans ho
theorem zFh {q : Nat} {T T' : TypeId} {cs cs' : Array Value} (h : Own W q T cs) (k : Own W q T' cs') : T = T' := by
 unfold Own at h k;rw [h] at k;injection k with k;injection k with e1 e2
theorem zIv (hS : S < C) (hc : Chg (FT W B S) W W') : yP C W W' := zDy hc fun q cs T hq hT ho k => by
 rcases k.2 with ⟨es, ck, e⟩ | e | ⟨cs', T', fz', e, hT'⟩
 · unfold Own at ho; rw [ho] at e; cases e
 · omega
 · unfold Own at ho;rw [ho] at e;injection e with e;injection e with e1 e2;subst e2;rcases hT with h | h | h | h <;> subst h <;> rcases hT' with h | h | h | h | h | h <;> exact absurd h (by decide)
theorem zD5 {d sb mb sc N : Nat} {wv : Value} {s : St} (hD : zI W d sb mb sc wv N s) (hS : sb < C) (hc : Chg (fp d sb mb wv) W W') : yP C W W' := zDy hc fun q cs T hq hT ho k => by
 rcases k with e | e | e | e
 · have e : q = d := e;subst e;have := zFh ho hD.own;subst this;rcases hT with h | h | h | h <;> exact absurd h (by decide)
 · have e : q = sb := e;omega
 · have e : q = mb := e;subst e;obtain ⟨es, ck, hb, _⟩ := hD.map;unfold Own at ho;rw [ho] at hb;cases hb
 · rcases hD.wrs.2 with ⟨h6, _⟩ | ⟨g6, c6, u6, h6, _, h7, _⟩
   · rw [h6] at e; cases e
   · rw [h6] at e;injection e with e;have e : g6 = q := e;subst e;have := zFh ho h7;subst this;rcases hT with h | h | h | h <;> exact absurd h (by decide)
theorem yP.row {T : TypeId} {v : Value} {l : List Value} {n B1 : Nat} (h : yP C W W') (hr : W.ownsRow B1 T 1 v n l) (hB : C <= B1) (hT : zN4 T) : W'.ownsRow B1 T 1 v n l := Po.ownsRow_keepB hr fun g hg => by
 obtain ⟨hg1, cur, hb⟩ := jW hr hg;have := h g cur T (by omega) hT hb;exact (show W'.heap[g]? = _ from this).trans hb.symm
theorem yP.st {vk vr vf : Value} {s : RSt} {B1 : Nat} (h : yP C W W') (hr : jG W B1 vk vr vf s) (hB : C <= B1) : jG W' B1 vk vr vf s :=
 ⟨h.row hr.k hB (.inr (.inr (.inl rfl))), h.row hr.r hB (.inr (.inr (.inr rfl))), h.row hr.f hB (.inr (.inr (.inl rfl))), hr.ap⟩
end
structure One (w0 W : World) (C d p c S : Nat) (P : PS) : Prop where
 pag : ∃ Bp, zF W w0.heap.size Bp d p c P /\ w0.heap.size <= Bp
 sure : uI W d S
 lt : S < C
 low : w0.heap.size <= C
 hi : C <= W.heap.size
 below : Below w0.heap.size w0 W
section
variable {w0 W W' : World} {C d p c c' S rm k : Nat} {P P' : PS}
theorem One.ok (h : One w0 W C d p c S P) : P.Ok := by obtain ⟨Bp, h1, -⟩ := h.pag; exact h1.ok
theorem One.more (h : One w0 W C d p c S P) (hc : c <= c') : One w0 W C d p c' S P := by
 obtain ⟨Bp, h1, h2⟩ := h.pag;exact { h with pag := ⟨Bp, h1.more hc, h2⟩ }
theorem One.mem (h : One w0 W C d p c S P) (hb : Below W.heap.size W W') : One w0 W' C d p c S P := by
 obtain ⟨Bp, h1, h2⟩ := h.pag;obtain ⟨n, cc, hs⟩ := h.sure;exact ⟨⟨Bp, h1.below hb, h2⟩, ⟨n, cc, (Chg.of (S := fun _ => False) hb).cell hs id⟩, h.lt, h.low, Nat.le_trans h.hi hb.size, then_ h.below hb h.below.size⟩
theorem One.ask (h : One w0 W C d p c S P) {Bp : Nat} (h1 : zF W w0.heap.size Bp d p c P) (h2 : w0.heap.size <= Bp) (hA : Ask W W' w0.heap.size Bp d p c' P') : One w0 W' C d p c' S P' /\ yP C W W' :=
 ⟨⟨⟨Bp, hA.1, h2⟩, h1.sure_ask hA.2 h.sure, h.lt, h.low, Nat.le_trans h.hi hA.2.size, h.below.trans (Xm h1 hA.2)⟩, zJ5 hA.2⟩
theorem One.live (h : One w0 W C d p c S P) {Bp : Nat} (h2 : w0.heap.size <= Bp) (h3 : zF W' w0.heap.size Bp d p c' P') (hc : ∀ S, uI W d S -> uI W' d S /\ Chg (FT W w0.heap.size S) W W') : One w0 W' C d p c' S P' /\ yP C W W' := by
 obtain ⟨k1, k2⟩ := hc S h.sure;exact ⟨⟨⟨Bp, h3, h2⟩, k1, h.lt, h.low, Nat.le_trans h.hi k2.size, h.below.trans (k2.below (by have := h.hi; have := h.low; omega) fun q hq => hq.1)⟩, zIv h.lt k2⟩
theorem One.alloc (h : One w0 W C d p c S P) (k : Int) (hc : c + 6 < 1000000) : Calls Tryz.prog 20 #[.pointer (some ⟨p, 0, none⟩), .int .i64 k] W fun e w' => (∃ n x, e = .returned (.tuple #[.int .i64 n, .int .i64 x])) /\ One w0 w' C d p (c + 6) S (P.al k) /\ yP C W w' := by
 obtain ⟨Bp, h1, h2⟩ := h.pag;exact (Ya h1 k hc).mono fun e w' ⟨a1, a2⟩ => ⟨⟨_, _, a1⟩, h.ask h1 h2 a2⟩
theorem One.write (h : One w0 W C d p c S P) (no k : Int) (t : ByteArray) (hc : c + 4 < 1000000) : Calls Tryz.prog 21 #[.pointer (some ⟨p, 0, none⟩), .int .i64 no, .int .i64 k, .string t] W fun e w' => (∃ x, e = .returned (.int .i64 x)) /\ One w0 w' C d p (c + 4) S (P.wr no k t) /\ yP C W w' := by
 obtain ⟨Bp, h1, h2⟩ := h.pag;exact (zD9 h1 no k t hc).mono fun e w' ⟨a1, a2⟩ => ⟨⟨_, a1⟩, h.ask h1 h2 a2⟩
theorem One.free (h : One w0 W C d p c S P) (no : Int) (hc : c + 8 < 1000000) : Calls Tryz.prog 23 #[.pointer (some ⟨p, 0, none⟩), .int .i64 no] W fun e w' => (∃ x, e = .returned (.int .i64 x)) /\ One w0 w' C d p (c + 8) S (P.freI no) /\ yP C W w' := by
 obtain ⟨Bp, h1, h2⟩ := h.pag;unfold PS.freI;cases ho : P.others no with
 | false => exact (zMb h1 no ho (by omega)).mono fun e w' ⟨a1, a2⟩ => ⟨⟨_, a1⟩, (h.ask h1 h2 a2).1.more (by omega), (h.ask h1 h2 a2).2⟩
 | true =>
   have hn : 1 <= no := by unfold PS.others at ho; simp at ho; exact ho.1
   have e : ((no.toNat : Nat) : Int) = no := Int.toNat_of_nonneg (by omega);have := zMx h1 no.toNat (by rw [e]; exact ho) hc;rw [e] at this;exact this.mono fun e w' ⟨a1, a2⟩ => ⟨⟨_, a1⟩, h.ask h1 h2 a2⟩
theorem One.root (h : One w0 W C d p c S P) (hd : P.s.down = false) (i : Int) (x : Nat) (hx : x < 18446744073709551616) (hc : c + 4 < 1000000) : Calls Tryz.prog 24 #[.pointer (some ⟨p, 0, none⟩), .int .i64 i, .int .u64 (x : Int)] W fun e w' => (∃ x, e = .returned (.int .i64 x)) /\ One w0 w' C d p (c + 4) S (P.rt i x) /\ yP C W w' := by
 obtain ⟨Bp, h1, h2⟩ := h.pag;unfold PS.rt;by_cases c : 0 <= i /\ i < 8
 · have e : ((i.toNat : Nat) : Int) = i := Int.toNat_of_nonneg (by omega);have := zFg h1 hd i.toNat (by omega) x hx hc;rw [e] at this;rw [if_pos c];exact this.mono fun e w' ⟨a1, a2⟩ => ⟨⟨_, a1⟩, h.ask h1 h2 a2⟩
 · rw [if_neg c];exact (Vk p i (x : Int) (by omega) W).mono fun e w' ⟨a1, a2⟩ => ⟨⟨_, a1⟩, (h.mem a2).more (by omega), yC a2⟩
theorem One.root_dead (h : One w0 W C d p c S P) (hd : P.s.down = true) (i : Int) (x : Int) : Calls Tryz.prog 24 #[.pointer (some ⟨p, 0, none⟩), .int .i64 i, .int .u64 x] W fun e w' => (∃ x, e = .returned (.int .i64 x)) /\ One w0 w' C d p c S P /\ yP C W w' := by
 obtain ⟨Bp, h1, h2⟩ := h.pag;by_cases c : 0 <= i /\ i < 8
 · have e : ((i.toNat : Nat) : Int) = i := Int.toNat_of_nonneg (by omega);have := zBr h1 hd i.toNat (by omega) x;rw [e] at this;exact this.mono fun e w' ⟨a1, a2⟩ => ⟨⟨_, a1⟩, h.mem a2, yC a2⟩
 · exact (Vk p i x (by omega) W).mono fun e w' ⟨a1, a2⟩ => ⟨⟨_, a1⟩, h.mem a2, yC a2⟩
theorem One.abort (h : One w0 W C d p c S P) : Calls Tryz.prog 26 #[.pointer (some ⟨p, 0, none⟩)] W fun e w' => e = .returned (.tuple #[]) /\ One w0 w' C d p c S P.abort /\ yP C W w' := by
 obtain ⟨Bp, h1, h2⟩ := h.pag;exact (zHk h1).mono fun e w' ⟨a1, a2⟩ => ⟨a1, h.ask h1 h2 a2⟩
theorem One.commit (h : One w0 W C d p c S P) (ha : yL P rm k) (hk2 : k <= 1000) (hc : c + 10000 < 1000000) : Calls Tryz.prog 25 #[.pointer (some ⟨p, 0, none⟩)] W fun e w' => e = .returned (.int .i64 P.comE) /\ One w0 w' C d p (c + 29) S P.com /\ yP C W w' := by
 have hq := ha.seq;have hT := ha.Tlen h.ok;obtain ⟨f, t, hh⟩ := ha.hold;obtain ⟨Bp, h1, h2⟩ := h.pag;exact (Vn h1 hh.ff hh.up hh.lf (by omega) (by rw [hh.wr]; exact Nat.zero_le _) (by omega)).mono fun e w' ⟨a1, a2, a3⟩ => ⟨a1, (h.live h2 a2 a3).1.more (by omega), (h.live h2 a2 a3).2⟩
theorem One.commit_dead (h : One w0 W C d p c S P) (hf : P.failed = true) : Calls Tryz.prog 25 #[.pointer (some ⟨p, 0, none⟩)] W fun e w' => e = .returned (.int .i64 17) /\ W = w' := by
 obtain ⟨Bp, h1, h2⟩ := h.pag;exact Zh h1 hf
theorem One.check (h : One w0 W C d p c S P) (ha : yL P rm k) (hk2 : k <= 1000) : Calls Tryz.prog 27 #[.pointer (some ⟨p, 0, none⟩)] W fun e w' => (∃ x, e = .returned (.int .i64 x)) /\ One w0 w' C d p c S P.ck /\ yP C W w' := by
 have hq := ha.seq;obtain ⟨f, t, hh⟩ := ha.hold;obtain ⟨Bp, h1, h2⟩ := h.pag;by_cases hT : P.T = []
 · unfold PS.ck;rw [if_neg (by rw [hh.ff, hT]; simp)];exact (Yg h1 hh.ff hT hh.up hh.lf (by omega) (by rw [hh.wr]; exact Nat.zero_le _)).mono fun e w' ⟨a1, a2, a3⟩ => ⟨⟨_, a1⟩, h.live h2 a2 a3⟩
 · unfold PS.ck;rw [if_pos (.inr hT)];exact (zD6 h1 hh.ff hT).mono fun e w' ⟨a1, a2⟩ => ⟨⟨_, a1⟩, h.mem a2, yC a2⟩
theorem One.check_dead (h : One w0 W C d p c S P) (hf : P.failed = true) : Calls Tryz.prog 27 #[.pointer (some ⟨p, 0, none⟩)] W fun e w' => (∃ x, e = .returned (.int .i64 x)) /\ W = w' := by
 obtain ⟨Bp, h1, h2⟩ := h.pag;exact (zA2 h1 hf).mono fun e w' ⟨a1, a2⟩ => ⟨⟨_, a1⟩, a2⟩
end
end
end Go.Proofs.YthijgebmoadgkaaGreatDoor
