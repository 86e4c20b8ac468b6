import Derived.Test.YtndhmidgnpobjaaGreatDoorPguR
import Derived.Test.YtndhmidgnpobjaaGreatDoorPgrA
import Derived.Test.YtndhmidgnpobjaaGreatDoorCraR
set_option linter.unusedVariables false
set_option linter.unusedSimpArgs false
namespace Go.Proofs.YtndhmidgnpobjaaGreatDoor
open Go.ChangeShapes Go.WideShapes Go.ChangeAt Go.RowKit
section
def hd0 : Pag := (1, zM 1 0 fun _ => 0)
theorem hd0_ok : vE hd0 := ⟨by show 1 <= 1; omega, by show 1 <= 255; omega, xB _ _ _⟩
theorem zJr (ll : Nat) : vY ll = yG 0 (fun _ => zB 64) 2 ++ ([none] ++ (yG 2 (fun _ => zB 64) ll ++ (uI ll 0 hd0 ++ ([none, some (1, mkB 1 (mkT 1 ll))] ++ [none])))) := by
 unfold vY;rw [yZ, yZ, yZ];show ((yW (jX ll) 0 ++ yG 0 (fun _ => zB 64) 2 ++ [none]) ++ (yG 2 (fun _ => zB 64) ll ++ uI ll 0 hd0) ++ [none]) ++ [some (1, mkB 1 (mkT 1 ll))] ++ [none] = _
 simp [yW]
theorem zFj {N at_ n : Nat} {g : Nat -> ByteArray} (h : at_ + n <= N) (hg : ∀ i, i < n -> (g i).size = 64) : ∀ o ∈ yG at_ g n, Jc N o := by
 intro o ho;obtain ⟨i, hi, rfl⟩ := List.mem_map.1 ho;have hi := List.mem_range.1 hi;exact ⟨by omega, hg i hi⟩
theorem zDy {at_ n k : Nat} {g : Nat -> ByteArray} (h : k < at_ \/ at_ + n <= k) : ∀ o ∈ yG at_ g n, noD k o := by
 intro o ho;obtain ⟨i, hi, rfl⟩ := List.mem_map.1 ho;have hi := List.mem_range.1 hi;show at_ + i ≠ k
 omega
section
variable {N ll : Nat}
theorem zOo (h10 : 10 <= ll) (hN : ll + 10 <= N) : ∀ o ∈ vY ll, Jc N o := by
 intro o ho;rw [zJr] at ho;rcases List.mem_append.1 ho with ho | ho
 · exact zFj (by omega) (fun _ _ => xG 64) o ho
 rcases List.mem_append.1 ho with ho | ho
 · obtain rfl : o = none := by simpa using ho
   trivial
 rcases List.mem_append.1 ho with ho | ho
 · exact zFj (by omega) (fun _ _ => xG 64) o ho
 rcases List.mem_append.1 ho with ho | ho
 · exact zFj (by omega) (fun i hi => Pg.secB_size _ _ (vM _ _ _ (by have := hd0_ok.size; omega)) hi) o ho
 · simp at ho;rcases ho with rfl | rfl | rfl
   · trivial
   · exact ⟨by omega, vI _ _ (by rw [xR]; omega)⟩
   · trivial
theorem zJm (k : Nat) (v : ByteArray) (l : List Dop) : ([none] ++ l).foldl (vwO k) v = l.foldl (vwO k) v := rfl
theorem zLk (k : Nat) (v m : ByteArray) : ([none, some (1, m)] ++ [none] : List Dop).foldl (vwO k) v = if 1 = k then m else v := rfl
theorem zJ8 (k : Nat) (v : ByteArray) : (vY ll).foldl (vwO k) v = if k = 1 then mkB 1 (mkT 1 ll) else if k < 2 + ll then zB 64 else if k < 2 + ll + 8 then Pg.secB (pgB 1 0 (zM 1 0 fun _ => 0)) (k - (2 + ll)) else v := by
 rw [zJr, List.foldl_append, zJm, List.foldl_append, List.foldl_append, zLk];by_cases c1 : k = 1
 · rw [if_pos c1.symm, if_pos c1]
 rw [if_neg (fun e => c1 e.symm), if_neg c1];by_cases c2 : k < 2
 · rw [if_pos (by omega), qA k (uI ll 0 hd0) _ (zDy (.inl (by omega))), qA k (yG 2 _ ll) _ (zDy (.inl (by omega)))];have := mG 0 (fun _ => zB 64) k v 2;rw [Nat.zero_add, if_pos c2] at this;exact this
 by_cases c3 : k < 2 + ll
 · rw [if_pos c3, qA k (uI ll 0 hd0) _ (zDy (.inl (by omega)))];have := mG 2 (fun _ => zB 64) (k - 2) ((yG 0 (fun _ => zB 64) 2).foldl (vwO k) v) ll;rw [show 2 + (k - 2) = k by omega, if_pos (by omega)] at this;exact this
 rw [if_neg c3];have := mG (2 + ll + 0 * 8) (Pg.secB (pgB hd0.1 0 hd0.2)) (k - (2 + ll)) ((yG 2 (fun _ => zB 64) ll).foldl (vwO k) ((yG 0 (fun _ => zB 64) 2).foldl (vwO k) v)) 8;rw [show 2 + ll + 0 * 8 + (k - (2 + ll)) = k by omega] at this;refine this.trans ?_;by_cases c4 : k < 2 + ll + 8
 · rw [if_pos (by omega), if_pos c4]; rfl
 · rw [if_neg (by omega), if_neg c4, qA k (yG 2 _ ll) _ (zDy (.inr (by omega))), qA k (yG 0 _ 2) _ (zDy (.inr (by omega)))]
theorem Xm {s : St} (hd : s.down = false) {i : Nat} (hi : i < N) : uU N s (i : Int) = (vw s i, 0) := by
 unfold uU;rw [if_neg (by rw [hd]; simp), if_neg (by omega)];rfl
theorem Zm : isM (zB 64) = true /\ mN (zB 64) = 0 := by decide
theorem Xt (ll : Nat) (k : Nat) : (mkT 1 ll ++ zB k).data.toList = zU 1 8 ++ (zU ll 4 ++ List.replicate k 0) := by
 unfold mkT zB;rw [xX, xX, List.append_assoc]
theorem zNs (h10 : 10 <= ll) (hN : ll + 10 <= N) (h6 : N <= 65536) : ctg N (zB 64) (mkB 1 (mkT 1 ll)) = some (ll, 1, 1) := by
 have hs : (mkT 1 ll).size <= 48 := by rw [xR]; omega
 have m1 := Yo 1 (mkT 1 ll) hs;have m2 := zBz 1 (mkT 1 ll) (by omega) hs;have m3 := zCb 1 (mkT 1 ll) hs;rw [xR] at m3;obtain ⟨z1, z2⟩ := Zm;have k1 : bK (zB 64) (mkB 1 (mkT 1 ll)) = 1 := by
   unfold bK;rw [z1, m1, z2, m2];rfl
 have k2 : bN_ (zB 64) (mkB 1 (mkT 1 ll)) = 1 := by
   unfold bN_;rw [k1, m2];rfl
 have k3 : bT (zB 64) (mkB 1 (mkT 1 ll)) = mkT 1 ll ++ zB 36 := by
   unfold bT;rw [k1, m3];rfl
 have z : (mkT 1 ll ++ zB 36).size = 48 := by rw [ByteArray.size_append, xR, xG]
 have g1 : zY (mkT 1 ll ++ zB 36) 0 8 = 1 := qD _ 0 8 1 (by omega) (by omega) (by decide) (by rw [Xt, List.drop_zero, jA (zR 1 8)]);have g2 : zY (mkT 1 ll ++ zB 36) 8 4 = ll := qD _ 8 4 ll (by omega) (by omega) (by show ll < 4294967296; omega) (by rw [Xt, xM (zR 1 8), jA (zR ll 4)]);have g3 : fX ((mkT 1 ll ++ zB 36).extract 12 (mkT 1 ll ++ zB 36).size) = true := by
   unfold fX;rw [xK, z, Xt, <- List.append_assoc, xM (by rw [List.length_append, zR, zR])];simp
 unfold ctg;rw [k1, k2, k3, g1, g2, if_pos ⟨by omega, by omega, g3, h10, hN⟩]
theorem zHv {s : St} (h : Sd N s) (hd : s.down = false) (hf : s.fuse < 0) (h10 : 10 <= ll) (hN : ll + 10 <= N) : (zV N (vY ll) (0, s)).1 = 0 /\ (zV N (vY ll) (0, s)).2.down = false /\ (zV N (vY ll) (0, s)).2.fuse = s.fuse /\ (zV N (vY ll) (0, s)).2.wr = [] /\ Sd N (zV N (vY ll) (0, s)).2 /\
   ∀ k, vw (zV N (vY ll) (0, s)).2 k = if k = 1 then mkB 1 (mkT 1 ll) else if k < 2 + ll then zB 64 else if k < 2 + ll + 8 then Pg.secB (pgB 1 0 (zM 1 0 fun _ => 0)) (k - (2 + ll)) else vw s k := by
 have hfit := zOo (N := N) h10 hN;have h1 := mM N (vY ll) s hd hfit;obtain ⟨e0, ef⟩ := h1.2 hf;have hdn : (zV N (vY ll) (0, s)).2.down = false := by
   rcases h1.1 with h | h
   · exact h.2
   · omega
 refine ⟨e0, hdn, ef, ?_, Ua N _ s h hfit, fun k => ?_⟩
 · have e : vY ll = (yW (jX ll) 2 ++ jX ll 2) ++ [none] := by unfold vY; rw [yZ]
   rw [e] at e0 ⊢;exact Xx N _ s e0
 · rw [Vm N k _ s h hfit e0, zJ8]
theorem zG3 {s s' : St} (hd : s'.down = false) (h10 : 10 <= ll) (hN : ll + 10 <= N) (h6 : N <= 65536) (room : Nat)
   (hv : ∀ k, vw s' k = if k = 1 then mkB 1 (mkT 1 ll) else if k < 2 + ll then zB 64 else if k < 2 + ll + 8 then Pg.secB (pgB 1 0 (zM 1 0 fun _ => 0)) (k - (2 + ll)) else vw s k) :
   opn N s' room = some (opP N s' room ll 1 1 []) /\ (opP N s' room ll 1 1 []).base 0 = (hd0, 0) /\ (opP N s' room ll 1 1 []).l = ⟨2, ll, 0, 1, false⟩ := by
 have v0 : vw s' 0 = zB 64 := by rw [hv, if_neg (by omega), if_pos (by omega)]
 have v1 : vw s' 1 = mkB 1 (mkT 1 ll) := by rw [hv, if_pos rfl]
 have v2 : vw s' 2 = zB 64 := by rw [hv, if_neg (by omega), if_pos (by omega)]
 have r0 : (uU N s' 0).1 = zB 64 := by rw [show (0 : Int) = ((0 : Nat) : Int) from rfl, Xm hd (by omega), v0]
 have r1 : (uU N s' 1).1 = mkB 1 (mkT 1 ll) := by rw [show (1 : Int) = ((1 : Nat) : Int) from rfl, Xm hd (by omega), v1]
 have t0 : yJ (st s' 2) ll 1 = [] := zCw _ _ _ (by show bN (vw s' (2 + 0)) 10 ≠ 1; rw [Nat.add_zero, v2]; decide);have b0 : (opP N s' room ll 1 1 []).base 0 = (hd0, 0) := by
   show dpg s' ll 0 = _
   exact Ym hd0_ok (by omega) fun i hi => by
     rw [hv, if_neg (by omega), if_neg (by omega), if_pos (by omega)];congr 1
     omega
 have hh : fV ((N - 2 - ll) / 8) hd0 = true := mQ.2 (Um.mk' (by omega) (by omega) (by omega) (by omega) fun i hi => by show 0 < _; omega);refine ⟨?_, b0, ?_⟩
 · unfold opn;rw [r0, r1, zNs h10 hN h6];simp only;rw [t0];show (if ((opP N s' room ll 1 1 []).base 0).2 = 0 /\ fV ((N - 2 - ll) / 8) ((opP N s' room ll 1 1 []).base 0).1 = true then some (opP N s' room ll 1 1 []) else none) = _
   rw [b0, if_pos ⟨rfl, hh⟩]
 · unfold opP;simp only;rw [t0];rfl
end
end
section
structure qM (P : PS) (n m r : Nat) : Prop where
 N : P.N = n
 ll : P.ll = m
 seq : P.seq = 1
 room : P.room = r
 l : P.l = ⟨2, m, 0, 1, false⟩
 M : P.M = []
 T : P.T = []
 failed : P.failed = false
 up : P.s.down = false
 wr : P.s.wr = []
 hd : P.base 0 = (hd0, 0)
 fuse : P.s.fuse < 0
section
variable {P : PS} {N ll room : Nat}
theorem qM.view (h : qM P N ll room) : P.view 0 = (hd0, 0) := by
 unfold PS.view;rw [h.T];exact h.hd
theorem qM.used (h : qM P N ll room) : P.used = 1 := by
 unfold PS.used;rw [h.view];exact Xd 1 0 _ (by omega)
theorem qM.free (h : qM P N ll room) : P.free = 0 := by
 unfold PS.free;rw [h.view];exact zBu 1 0 _ (by omega)
theorem qM.most (h : qM P N ll room) : P.most = (N - 2 - ll) / 8 := by
 unfold PS.most;rw [h.N, h.ll]
theorem qM.tk (h : qM P N ll room) (h2 : 2 <= (N - 2 - ll) / 8) : P.tk = (1, 0, 2, 0) := by
 unfold PS.tk;rw [if_pos h.free, h.most, h.used, if_neg (by omega), h.free]
theorem qM.al (h : qM P N ll room) (hk : P.Ok) (h2 : 2 <= (N - 2 - ll) / 8) : P.alE 2 = 0 /\ P.alN 2 = 1 /\ (P.al 2).T.length = 2 /\ (P.al 2).s = P.s /\ (P.al 2).l = P.l /\ (P.al 2).M = P.M /\ (P.al 2).seq = P.seq /\ (P.al 2).failed = P.failed /\ (P.al 2).N = P.N /\ (P.al 2).ll = P.ll /\ ((P.al 2).view 0).1.2 = zM 2 0 P.root := by
 have ht := h.tk h2;have hr2 := hk.r2;have hL : P.alL 2 = [(0, (1, zM 2 0 P.root)), (1, (2, ⟨#[]⟩))] := by unfold PS.alL; rw [ht]; rfl
 have hp : (P.put (P.alL 2)).T = [(0, (1, fl (zM 2 0 P.root))), (1, (2, fl ⟨#[]⟩))] := by
   unfold PS.put;rw [hL, h.T];rfl
 have hlen : (P.put (P.alL 2)).T.length <= P.room := by rw [hp]; exact hr2
 have e1 : P.alE 2 = 0 := by
   unfold PS.alE PS.chgE;rw [if_pos (by decide), if_neg (by rw [h.up]; simp), ht, if_pos rfl, if_pos hlen]
 have e2 : P.al 2 = P.put (P.alL 2) := by
   unfold PS.al PS.chg;rw [if_pos (by decide), if_neg (by rw [h.up]; simp), ht, if_pos rfl, if_pos hlen]
 have e3 : P.alN 2 = 1 := by
   unfold PS.alN;rw [if_pos e1, ht]
 refine ⟨e1, e3, ?_⟩;rw [e2];refine ⟨by rw [hp]; rfl, rfl, rfl, rfl, rfl, rfl, rfl, rfl, ?_⟩;unfold PS.view;rw [hp];exact jC _ (xB 2 0 P.root)
end
section
variable {N : Nat} {s : St}
theorem Uc (hd : s.down = false) (hf : s.fuse < 0) (ops : List Dop) (ho : ∀ o ∈ ops, Jc N o) : (zV N ops (0, s)).1 = 0 /\ (zV N ops (0, s)).2.fuse = s.fuse /\ (zV N ops (0, s)).2.down = false := by
 have h1 := mM N ops s hd ho;obtain ⟨e0, ef⟩ := h1.2 hf;refine ⟨e0, ef, ?_⟩;rcases h1.1 with h | h
 · exact h.2
 · omega
theorem zHg (h : Sd N s) (hd : s.down = false) (hf : s.fuse < 0) (at_ q k en : Nat) (hat : at_ < N) (hen : en <= N) : (vV N s at_ q k en).1 = 0 /\ (vV N s at_ q k en).2.fuse = s.fuse /\ (vV N s at_ q k en).2.down = false /\ Sd N (vV N s at_ q k en).2 := by
 have h1 := Uc hd hf (yN s at_ q) (Zo h hat);have hr := zCa h hd at_ q k en hat hen;have hsd := Ua N (yN s at_ q) s h (Zo h hat);refine ⟨?_, ?_, ?_, hr.sd⟩;all_goals rw [gG rfl]
 all_goals
   obtain ⟨x, hx⟩ : ∃ x, x = zV N (yN s at_ q) (0, s) := ⟨_, rfl⟩
   rw [<- hx] at h1 hsd ⊢;by_cases c : x.1 = 0 /\ at_ + k < en
   · have h2 := Uc (N := N) h1.2.2 (by rw [h1.2.1]; exact hf) (yN x.2 (at_ + k) ((q + 1) % 18446744073709551616)) (Zo hsd (by omega));rw [if_pos c];first | exact h2.1 | exact h2.2.1.trans h1.2.1 | exact h2.2.2
   · rw [if_neg c];first | exact h1.1 | exact h1.2.1 | exact h1.2.2
theorem zJ1 (h : Sd N s) (hd : s.down = false) (hf : s.fuse < 0) {l : yM} (hk : l.Ok) (hlf : l.failed = false) (hfr : l.from_ = 2) (hN : 2 + l.size <= N) {ps : List ByteArray} (hp : mH ps = true) (h64 : ps.length <= 64) (hle : 1 + 9 * ps.length <= l.left) :
   (jM N s l ps).1 = 0 /\ (jM N s l ps).2.1.fuse = s.fuse /\ (jM N s l ps).2.1.down = false /\ (jM N s l ps).2.1.wr = [] /\ (jM N s l ps).2.2 = l.plus ps.length := by
 have hl : l.left = l.size - l.used := by unfold yM.left; rw [hlf]; simp
 have hu := hk.used;obtain ⟨p1, p2, p3, p4⟩ := zHg h hd hf (2 + l.used) l.next (1 + 9 * ps.length) (2 + l.size) (by omega) hN;unfold jM;rw [if_pos hle];obtain ⟨x, hx⟩ : ∃ x, x = vV N s (2 + l.used) l.next (1 + 9 * ps.length) (2 + l.size) := ⟨_, rfl⟩
 rw [<- hx] at p1 p2 p3 p4 ⊢;rw [if_pos p1];have hsz : ∀ p ∈ ps, p.size = 512 := (of_decide_eq_true hp).2;have r := Uc (N := N) p3 (by rw [p2]; exact hf) (yP (l.from_ + l.used) ps l.next) (Xy N _ ps _ hsz (by omega));have ew : (zV N (yP (l.from_ + l.used) ps l.next) (0, x.2)).2.wr = [] := by
   have e : yP (l.from_ + l.used) ps l.next = (jE (l.from_ + l.used) ps ps.length ++ [none, some (l.from_ + l.used, yR l.next ps.length)]) ++ [none] := by
     unfold yP;rw [List.append_assoc];rfl
   have r0 := r.1;rw [e] at r0 ⊢;exact Xx N _ x.2 r0
 have ea : fG N x.2 l ps = (0, (zV N (yP (l.from_ + l.used) ps l.next) (0, x.2)).2, l.plus ps.length) := by
   unfold fG;rw [if_neg (by rw [hp]; simp), if_neg (by rw [hlf]; simp), if_neg (by omega), if_neg (by omega), if_pos r.1]
 rw [ea];exact ⟨rfl, r.2.1.trans p2, r.2.2, ew, rfl⟩
end
section
variable {P : PS}
theorem zLo (h : P.Ok) (hs : Sd P.N P.s) (hd : P.s.down = false) (hf : P.s.fuse < 0) (hlf : P.l.failed = false) (hpf : P.failed = false) (h1 : P.T ≠ []) (h64 : P.T.length <= 64) (hle : 1 + 9 * P.T.length <= P.l.left) (hq : P.seq + 1 <= 18446744073709551615) :
   P.comE = 0 /\ P.com.T = [] /\ P.com.s.fuse = P.s.fuse /\ P.com.s.down = false /\ P.com.s.wr = [] /\ P.com.l = P.l.plus P.T.length /\ P.com.failed = false /\ P.com.seq = P.seq /\ P.com.N = P.N /\ P.com.ll = P.ll /\ P.com.room = P.room /\ Sd P.N P.com.s /\ ∀ no, no < P.most -> P.com.base no = P.view no := by
 have hp := h.pgs h1;have hlen := fQ P;have hsz := h.size;have hfit := h.fit;have k := PS.ent_kin h hs hd hlf h1 h64 hq;obtain ⟨a1, a2, a3, a4, a5⟩ := zJ1 hs hd hf h.log hlf h.from_ (by omega) hp (by omega) (by omega);have eR : P.entR = ((P.addR P.pgs).1, P.addP P.pgs) := by unfold PS.entR; rw [if_pos hle]
 have e0 : P.entR.1 = 0 := by rw [eR]; exact a1
 have eE : P.ent = P.addP P.pgs := by
   unfold PS.ent PS.told;rw [if_neg (by omega), eR]
 have eC : P.com = P.done := by
   unfold PS.com;rw [if_neg (by
     rw [hpf];intro e;rcases e with e | e | e
     · cases e
     · exact h1 e
     · omega), if_pos e0]
 have eX : P.comE = 0 := by
   unfold PS.comE;rw [if_neg (by rw [hpf]; simp), if_neg h1, if_neg (by omega), e0]
 have hb : ∀ no, no < P.most -> P.com.base no = P.view no := fun no hno => by rw [eC]; exact mI h k.1 hno
 have hsd : Sd P.N P.com.s := by rw [eC]; exact k.2.1
 refine ⟨eX, by rw [eC]; rfl, ?_, ?_, ?_, ?_, ?_, ?_, ?_, ?_, ?_, hsd, hb⟩;all_goals rw [eC]
 · show P.ent.s.fuse = _; rw [eE]; exact a2
 · show P.ent.s.down = _; rw [eE]; exact a3
 · show P.ent.s.wr = _; rw [eE]; exact a4
 · show P.ent.l = _; rw [eE, <- hlen]; exact a5
 · show P.ent.failed = _; rw [eE]; exact hpf
 · show P.ent.seq = _; rw [eE]; rfl
 · show P.ent.N = _; rw [eE]; rfl
 · show P.ent.ll = _; rw [eE]; rfl
 · show P.ent.room = _; rw [eE]; rfl
theorem zM6 (h : P.Ok) (hs : Sd P.N P.s) (hd : P.s.down = false) (hf : P.s.fuse < 0) (hlf : P.l.failed = false) (hT : P.T = []) :
   P.empR.1 = 0 /\ PS.told P.empR.1 P.emp = P.emp /\ P.emp.s.down = false /\ P.emp.T = [] /\ P.emp.s.fuse = P.s.fuse /\ P.emp.failed = P.failed /\ P.emp.view 0 = P.view 0 := by
 have hm := h.most;have r := Uc hd hf (vF P.ll P.M P.seq P.l.next) (zEq h.M hm.2.2 (by have := h.fit; omega));obtain ⟨k, -, -, -⟩ := PS.emp_kin h hs hd hlf;have e0 : P.empR.1 = 0 := r.1;have eE : P.emp = { P with s := P.empR.2, seq := P.seq + 1, M := [], l := { P.l with used := 0 } } := if_pos e0;have hv : P.emp.view 0 = P.view 0 := by
   unfold PS.view;rw [k.T, k.base 0 (by omega)]
 refine ⟨e0, by unfold PS.told; rw [if_neg (by omega)], ?_, ?_, ?_, ?_, hv⟩;all_goals rw [eE]
 · exact r.2.2
 · exact hT
 · exact r.2.1
end
end
section
section
variable {w w' : World} {B Bp d p c N ll room : Nat} {s : St} {P : PS}
theorem gF.base (h : gF w B d N s) : B <= w.heap.size := by
 obtain ⟨sb, mb, sc, wv, hD, b1, -⟩ := h;have := hD.own.in_;omega
theorem gF.ok (h : gF w B d N s) : s.Ok N := by
 obtain ⟨sb, mb, sc, wv, hD, b1, -⟩ := h;exact hD.ok
theorem zCn (h0 : zG w B Bp d p c P) (hB : B <= w.heap.size) (h : ∀ S, uR w d S -> uR w' d S /\ Chg (FT w B S) w w') : Below B w w' := by
 obtain ⟨S, hS, -⟩ := h0.sureB;exact (h S hS).2.below hB fun q hq => hq.1
theorem Xr (h : zG w B Bp d p c P) (hc : Chg (Po.PT w Bp) w w') : Below B w w' := by
 obtain ⟨h1, h2, h3⟩ := h.base;exact hc.below (by omega) fun q hq => by have := hq.1; omega
def zFv (s' : St) (ll : Nat) : Prop := s'.down = false /\ s'.fuse < 0 /\ s'.wr = [] /\ ∃ s : St, ∀ k, vw s' k = if k = 1 then mkB 1 (mkT 1 ll) else if k < 2 + ll then zB 64 else if k < 2 + ll + 8 then Pg.secB (pgB 1 0 (zM 1 0 fun _ => 0)) (k - (2 + ll)) else vw s k
theorem zOe (h : gF w B d N s) (hd : s.down = false) (hf : s.fuse < 0) (hw : s.wr.length <= 300000) (h10 : 10 <= ll) (hN : ll + 10 <= N) : Calls Tryz.prog 14 #[.pointer (some ⟨d, 0, none⟩), .int .i64 (ll : Int)] w fun e w' => e = .returned (.int .i64 0) /\ Below B w w' /\ ∃ s', zFv s' ll /\ gF w' B d N s' := by
 have hB := h.base;obtain ⟨sb, mb, sc, wv, hD, b1, b2, b3, b4⟩ := h;obtain ⟨e0, k1, k2, k3, k4, k5⟩ := zHv (Sd.of hD.ok) hd hf h10 hN;refine (zMx hD ll h10 hN hw).mono ?_;rintro e w' ⟨rfl, wv', hD', hc, hv⟩;refine ⟨by rw [e0], ?_, _, ⟨k1, by rw [k2]; exact hf, k3, s, k5⟩, sb, mb, sc, wv', hD', b1, b2, b3, fun g hg => ?_⟩
 · exact hc.below hB fun q hq => by
     rcases hq with e | e | e | e
     · have e : q = d := e;omega
     · have e : q = sb := e;omega
     · have e : q = mb := e;omega
     · exact b4 q e
 · rcases hv with e | e | ⟨g', e, hg'⟩
   · exact b4 g (e ▸ hg)
   · rw [e] at hg; cases hg
   · rw [e] at hg;injection hg with hg;omega
theorem zPb (h : gF w B d N s) (hF : zFv s ll) (h10 : 10 <= ll) (hN : ll + 10 <= N) (r : Nat) (h2 : 2 <= r) (h6 : r <= 65536) : Calls Tryz.prog 15 #[.pointer (some ⟨d, 0, none⟩), .int .i64 (r : Int)] w fun e w' => ∃ P p Bp, e = .returned (.tuple #[.pointer (some ⟨p, 0, none⟩), .int .i64 0]) /\ qM P N ll r /\ zG w' B Bp d p 2 P /\ Below w.heap.size w w' := by
 have hok := h.ok;obtain ⟨sb, mb, sc, wv, hD, b1, b2, b3, b4⟩ := h;obtain ⟨f1, f2, f3, s0, hv⟩ := hF;obtain ⟨o1, o2, o3⟩ := zG3 (s := s0) f1 h10 hN hok.max r hv;refine (Vg hD f1 b1 b2 b3 b4 r h2 h6).mono ?_;rintro e w' ⟨⟨P, p, Bp, hP, rfl, hBp, hA⟩ | ⟨hn, -⟩, hb⟩
 · rw [o1] at hP;injection hP with hP;subst hP;exact ⟨_, p, Bp, rfl, ⟨rfl, rfl, rfl, rfl, o3, rfl, rfl, rfl, f1, f3, o2, f2⟩, hA, hb⟩
 · rw [o1] at hn; cases hn
theorem zG.sd (h : zG w B Bp d p c P) : Sd P.N P.s := Sd.of h.disk.ok
theorem zHu (h : zG w B Bp d p c P) (hn : qM P N ll room) (h2 : 2 <= (N - 2 - ll) / 8) (hc : c + 6 < 1000000) : Calls Tryz.prog 17 #[.pointer (some ⟨p, 0, none⟩), .int .i64 2] w fun e w' => e = .returned (.tuple #[.int .i64 1, .int .i64 0]) /\ zG w' B Bp d p (c + 6) (P.al 2) /\ Below B w w' := by
 obtain ⟨e1, e2, -⟩ := hn.al h.ok h2;have := Xv h 2 hc;rw [e1, e2] at this;exact this.mono fun e w' ⟨a1, a2, a3⟩ => ⟨a1, a2, Xr h a3⟩
theorem zE7 (h : zG w B Bp d p c (P.al 2)) (hk : P.Ok) (hn : qM P N ll room) (h2 : 2 <= (N - 2 - ll) / 8) (hl : 19 <= ll) (hc : c + 2 < 1000000) : Calls Tryz.prog 22 #[.pointer (some ⟨p, 0, none⟩)] w fun e w' => e = .returned (.int .i64 0) /\ (∃ Q, zG w' B Bp d p (c + 2) Q /\ Q.T = [] /\ Q.s.fuse < 0 /\ Q.s.down = false /\ Q.s.wr = [] /\ Q.l.failed = false /\ Q.failed = false /\ Q.seq = 1 /\ Q.used = 2) /\ Below B w w' := by
 obtain ⟨-, -, a1, a2, a3, a4, a5, a6, a7, a8, a9⟩ := hn.al hk h2;obtain ⟨h1, h3, h4⟩ := h.base;have hm := h.ok.most;have hlf : (P.al 2).l.failed = false := by rw [a3, hn.l]
 have hup : (P.al 2).s.down = false := by rw [a2]; exact hn.up
 have hpf : (P.al 2).failed = false := by rw [a6]; exact hn.failed
 have hleft : 1 + 9 * (P.al 2).T.length <= (P.al 2).l.left := by
   rw [a1, a3, hn.l];show 1 + 9 * 2 <= ll - 0
   omega
 have hT : (P.al 2).T ≠ [] := fun e => by rw [e] at a1; cases a1
 have hq : (P.al 2).seq + 1 <= 18446744073709551615 := by rw [a5, hn.seq]; omega
 obtain ⟨k1, k2, k3, k4, k5, k6, k7, k8, k9, -, -, -, kv⟩ := zLo h.ok h.sd hup (by rw [a2]; exact hn.fuse) hlf hpf hT (by omega) hleft hq;have CC := Vu h hpf hup hlf hq (by rw [a2, hn.wr]; exact Nat.zero_le _) (by omega);rw [k1, a1] at CC;refine CC.mono fun e w' ⟨b1, b2, b3⟩ => ⟨b1, ⟨_, b2, k2, ?_, k4, k5, ?_, k7, ?_, ?_⟩, zCn h (by omega) b3⟩
 · rw [k3, a2]; exact hn.fuse
 · rw [k6]; exact hlf
 · rw [k8, a5]; exact hn.seq
 · have hv : (P.al 2).com.view 0 = (P.al 2).view 0 := by
     have := kv 0 (by omega);unfold PS.view at this ⊢;rw [k2];exact this
   unfold PS.used;rw [hv, a9];exact Xd 2 0 _ (by omega)
theorem zId {Q : PS} (h : zG w B Bp d p c Q) (h1 : Q.T = []) (h2 : Q.s.fuse < 0) (h3 : Q.s.down = false) (h4 : Q.s.wr = []) (h5 : Q.l.failed = false) (h6 : Q.failed = false) (h7 : Q.seq = 1) : Calls Tryz.prog 24 #[.pointer (some ⟨p, 0, none⟩)] w fun e w' => e = .returned (.int .i64 0) /\ (∃ Q', zG w' B Bp d p c Q' /\ Q'.s.down = false /\ Q'.used = Q.used) /\ Below B w w' := by
 obtain ⟨g1, g3, g4⟩ := h.base;obtain ⟨k1, k2, k3, k4, k5, k6, k7⟩ := zM6 h.ok h.sd h3 h2 h5 h1;have CC := Xn h h6 h1 h3 h5 (by omega) (by rw [h4]; exact Nat.zero_le _);rw [k2, k1] at CC;exact CC.mono fun e w' ⟨b1, b2, b3⟩ => ⟨b1, ⟨_, b2, k3, by unfold PS.used; rw [k7]⟩, zCn h (by omega) b3⟩
theorem Zj (h : zG w B Bp d p c P) (hd : P.s.down = false) (u : Nat) (hu : P.used = u) (hc : c + 2 < 1000000) : Calls Tryz.prog 37 #[.pointer (some ⟨p, 0, none⟩)] w fun e w' => e = .returned (.int .i64 (u : Int)) /\ zG w' B Bp d p (c + 2) P /\ Below B w w' := by
 have := gO h hd hc;rw [hu] at this;exact this.mono fun e w' ⟨a1, a2, a3⟩ => ⟨a1, a2, Xr h a3⟩
theorem zOf (n : Nat) (h1 : 1 <= n) (h2 : n <= 65536) (w : World) : Calls Tryz.prog 13 #[.int .i64 (n : Int)] w fun e w' => ∃ d, e = .returned (.tuple #[.pointer (some ⟨d, 0, none⟩), .int .i64 0]) /\ gF w' w.heap.size d n (fresh n) /\ Below w.heap.size w w' := by
 refine (new_any w n h1 h2).mono ?_;rintro e w' ⟨d, sb, mb, rfl, hD, hb, b1, b2, b3⟩;exact ⟨d, rfl, ⟨sb, mb, _, _, hD, b1, b2, b3, fun g hg => by cases hg⟩, hb⟩
end
set_option maxRecDepth 10000 in
set_option maxHeartbeats 1000000 in
theorem zMi (w : World) : Calls Tryz.prog 11 #[] w fun e w' => e = .returned (.bool true) /\ Below w.heap.size w w' := by
 have HN := Lh (zOf 100 (by decide) (by decide) w);go_enter Tryz.func11, Tryz.ntmps11;go_upto_region 2 with (go_at_call 13; refine HN.out.mono ?_; rintro e w1 ⟨d, rfl, hd1, hb1⟩; have D1 := Lh hd1; have B1 := Lh hb1; clear hd1 hb1)
 go_upto_region 3 with (go_at_call 14; refine (zOe (ll := 20) D1.out rfl (by decide) (by decide) (by decide) (by decide)).mono ?_; rintro e w2 ⟨rfl, hb2, s2, hF2, hd2⟩; have D2 := Lh hd2; have F2 := Lh hF2; have B2 := Lh (B1.out.trans hb2); clear hd2 hF2 hb2)
 go_upto_region 4 with (go_at_call 15; refine (zPb D2.out F2.out (by decide) (by decide) 8 (by decide) (by decide)).mono ?_; rintro e w3 ⟨P, p, Bp, rfl, hn, hp3, hb3⟩; have P3 := Lh hp3; have N3 := Lh hn; have B3 := Lh (then_ B2.out hb3 B2.out.size); clear hp3 hn hb3)
 have HM := Lh (show Calls Tryz.prog 38 #[.pointer (some ⟨p, 0, none⟩)] w3 fun e w' => e = .returned (.int .i64 9) /\ Below w3.heap.size w3 w' from by
   have := Zy P3.out;rw [N3.out.most] at this;exact this)
 have OK3 := Lh P3.out.ok;go_upto_region 6 with (first
   | (go_at_call 38; refine HM.out.mono ?_; rintro e w4 ⟨rfl, hb4⟩; have P4 := Lh (P3.out.below hb4); have B4 := Lh (then_ B3.out hb4 B3.out.size); clear hb4)
   | (go_at_call 37; refine (Zj P4.out N3.out.up 1 N3.out.used (by decide)).mono ?_; rintro e w5 ⟨rfl, hp5, hb5⟩; have P5 := Lh hp5; have B5 := Lh (B4.out.trans hb5); clear hp5 hb5))
 go_upto_region 7 with (go_at_call 17; refine (zHu P5.out N3.out (by decide) (by decide)).mono ?_; rintro e w6 ⟨rfl, hp6, hb6⟩; have P6 := Lh hp6; have B6 := Lh (B5.out.trans hb6); clear hp6 hb6)
 go_wp2_with (first
   | (go_at_call 22; refine (zE7 P6.out OK3.out N3.out (by decide) (by decide) (by decide)).mono ?_; rintro e w7 ⟨rfl, ⟨Q, hp7, k1, k2, k3, k4, k5, k6, k7, k8⟩, hb7⟩; have K7 := Lh (And.intro hp7 (And.intro k1 (And.intro k2 (And.intro k3 (And.intro k4 (And.intro k5 (And.intro k6 (And.intro k7 k8)))))))); have B7 := Lh (B6.out.trans hb7); clear hp7 hb7 k1 k2 k3 k4 k5 k6 k7 k8)
   | (go_at_call 24; refine (zId K7.out.1 K7.out.2.1 K7.out.2.2.1 K7.out.2.2.2.1 K7.out.2.2.2.2.1 K7.out.2.2.2.2.2.1 K7.out.2.2.2.2.2.2.1 K7.out.2.2.2.2.2.2.2.1).mono ?_; rintro e w8 ⟨rfl, ⟨Q2, hp8, j1, j2⟩, hb8⟩; have K8 := Lh (And.intro hp8 (And.intro j1 (j2.trans K7.out.2.2.2.2.2.2.2.2))); have B8 := Lh (B7.out.trans hb8); clear hp8 hb8 j1 j2)
   | (go_at_call 37; refine (Zj K8.out.1 K8.out.2.1 2 K8.out.2.2 (by decide)).mono ?_; rintro e w9 ⟨rfl, hp9, hb9⟩; have B9 := Lh (B8.out.trans hb9); clear hp9 hb9))
 go_ret;exact ⟨rfl, B9.out⟩
end
section
end
section
section
variable {w w' : World} {B B0 Bp d p c : Nat} {P : PS}
end
end
section
def crs (kp : Nat -> Nat) (s : St) : St := ⟨yK kp s.wr 0 s.sure, [], -1, false⟩
theorem gX {s : St} (h : s.wr = []) (k : Nat) : vw s k = xN s.sure (k : Int) := by unfold vw; rw [h]; rfl
theorem Vc {N : Nat} {s : St} (h : Sd N s) (kp : Nat -> Nat) : Sd N (crs kp s) := ⟨jQ kp N _ _ _ h.len h.fits, fun x hx => by cases hx⟩
theorem Qo (kp : Nat -> Nat) (hkp : ∀ j, kp j <= 64) (n : Nat) : ∀ (l : List (Nat × ByteArray)) (j : Nat) (L : List UInt8), L.length = n * 64 -> Uj n l -> (l.map (·.1)).Nodup -> ∀ i : Nat, xN (yK kp l j L) (i : Int) = xN L (i : Int) \/ ∃ t b, (i, t) ∈ l /\ b <= 64 /\ xN (yK kp l j L) (i : Int) = gD t (xN L (i : Int)) b
 | [], _, _, _, _, _, _ => .inl rfl
 | x :: l, j, L, h, hf, hn, i => by
   have h1 := hf x (by simp);have hz := Xb (k := kp j) h h1.1 h1.2;rw [List.map_cons] at hn;have hn2 := List.nodup_cons.1 hn;have hdef : yK kp (x :: l) j L = yK kp l (j + 1) (Jf L (x.1 * 64) (x.2.extract 0 (kp j))) := rfl;rw [hdef];by_cases c : x.1 = i
   · right
     have hl : xN (yK kp l (j + 1) (Jf L (x.1 * 64) (x.2.extract 0 (kp j)))) (i : Int) = xN (Jf L (x.1 * 64) (x.2.extract 0 (kp j))) (i : Int) := qP kp n i l (j + 1) _ hz hf.tail (fun y hy e => hn2.1 (List.mem_map.2 ⟨y, hy, by rw [e, c]⟩));refine ⟨x.2, kp j, by rw [<- c]; simp, hkp j, ?_⟩;rw [hl, <- c];exact Qp L x.1 x.2 (kp j) h1.2 (hkp j) (by have := h1.1; omega)
   · have e := Jq L x.1 i (x.2.extract 0 (kp j)) c (by rw [ByteArray.size_extract]; have := hkp j; omega) (by have := h1.1; omega);rcases Qo kp hkp n l (j + 1) _ hz hf.tail hn2.2 i with h2 | ⟨t, b, h2, h3, h4⟩
     · exact .inl (h2.trans e)
     · exact .inr ⟨t, b, by simp [h2], h3, by rw [h4, e]⟩
def zG9 (s : St) (W : List (Nat × ByteArray)) (s' : St) : Prop := ∀ i : Nat, vw s' i = vw s i \/ ∃ t b, (i, t) ∈ W /\ b <= 64 /\ vw s' i = gD t (vw s i) b
theorem zG9.ne {s s' : St} {W : List (Nat × ByteArray)} (h : zG9 s W s') {i : Nat} (hi : ∀ x ∈ W, x.1 ≠ i) : vw s' i = vw s i := by
 rcases h i with h | ⟨t, b, h, -, -⟩
 · exact h
 · exact absurd rfl (hi _ h)
structure Seg (N : Nat) (s : St) (W : List (Nat × ByteArray)) (r : Int × St) : Prop where
 sd : Sd N r.2
 way : (r.1 = 0 /\ r.2.down = false /\ r.2.wr = [] /\ (∀ x ∈ W, vw r.2 x.1 = x.2) /\ ∀ i : Nat, (∀ x ∈ W, x.1 ≠ i) -> vw r.2 i = vw s i) \/ (r.1 = 11 /\ r.2.down = true /\ ∀ kp : Nat -> Nat, (∀ j, kp j <= 64) -> zG9 s W (crs kp r.2))
 live : s.fuse < 0 -> r.1 = 0 /\ r.2.fuse = s.fuse
theorem Ud (N : Nat) (W : List (Nat × ByteArray)) (s : St) (hs : Sd N s) (hw : s.wr = []) (hd : s.down = false) (hF : Uj N W) (hn : (W.map (·.1)).Nodup) : Seg N s W (zV N (W.map some ++ [none]) (0, s)) := by
 have hfit : ∀ o ∈ W.map some ++ [none], Jc N o := by
   intro o ho;rcases List.mem_append.1 ho with ho | ho
   · obtain ⟨⟨a, t⟩, hx, rfl⟩ := List.mem_map.1 ho;exact hF (a, t) hx
   · obtain rfl : o = none := by simpa using ho
     trivial
 have hsd := Ua N _ s hs hfit;have hup := mM N _ s hd hfit;refine ⟨hsd, ?_, hup.2⟩;replace hup := hup.1;obtain ⟨k, k1, k2, k3, k4⟩ := Yg N W s;have er : zV N (W.map some ++ [none]) (0, s) = xI N (zV N (W.map some) (0, s)) none := by rw [jS]; rfl
 rw [er] at hup hsd ⊢;obtain ⟨x, hx⟩ : ∃ x, x = zV N (W.map some) (0, s) := ⟨_, rfl⟩
 rw [<- hx] at k2 k3 k4 hup hsd ⊢;rw [hw, List.nil_append] at k2;have hFk : Uj N (W.take k) := fun y hy => hF y (List.mem_of_mem_take hy)
 have hnk : ((W.take k).map (·.1)).Nodup := hn.sublist ((List.take_sublist k W).map _);have bad : ∀ r : Int × St, r.2.wr = W.take k -> r.2.sure = s.sure -> ∀ kp : Nat -> Nat, (∀ j, kp j <= 64) -> zG9 s W (crs kp r.2) := by
   intro r h1 h2 kp hkp i;have e : vw (crs kp r.2) i = xN (yK kp (W.take k) 0 s.sure) (i : Int) := by rw [gX rfl]; show xN (yK kp r.2.wr 0 r.2.sure) _ = _; rw [h1, h2]
   rw [e, gX hw];rcases Qo kp hkp N (W.take k) 0 s.sure hs.len hFk hnk i with h | ⟨t, b, h3, h4, h5⟩
   · exact .inl h
   · exact .inr ⟨t, b, List.mem_of_mem_take h3, h4, h5⟩
 by_cases c : x.1 = 0
 · have e1 : xI N x none = vB x.2 := by unfold xI; rw [if_pos c]; rfl
   rw [e1] at hup ⊢;rcases zKj x.2 with ⟨h0, h1, h2⟩ | ⟨h0, h1, h2⟩
   · right
     rcases hup with h | h
     · exact absurd h.1 h0
     · exact ⟨h.1, h.2, bad _ (h1.trans k2) (h2.trans k3)⟩
   · left
     have hk := k4 c;have ew : W.take k = W := by rw [hk, List.take_length]
     rw [k2, k3, ew] at h2;rcases hup with h | h
     · refine ⟨h.1, h.2, h1, fun y hy => ?_, fun i hi => ?_⟩
       · rw [gX h1, h2];exact Vs N W 0 s.sure hs.len hF hn y hy
       · rw [gX h1, h2, gX hw];exact qP _ N i W 0 s.sure hs.len hF hi
     · omega
 · have e1 : xI N x none = x := by unfold xI; rw [if_neg c]
   rw [e1] at hup ⊢;right
   rcases hup with h | h
   · exact absurd h.1 c
   · exact ⟨h.1, h.2, bad x k2 k3⟩
theorem Qy (n : Nat) : bN (nB n) 0 = n % 256 := by
 rw [zHa n 0 (by omega)];unfold xJ;rw [UInt8.toNat_ofNat'];simp
theorem zKm {a b : Nat} (ha : a <= 18446744073709551615) (hb : b <= 18446744073709551615) (h : ∀ i, i < 8 -> bN (nB a) i = bN (nB b) i) : a = b := by
 rw [<- Vi a ha, <- Vi b hb, vG];intro i hi;rw [Nat.zero_add];exact h i hi
theorem Ut {X : ByteArray} (h : isM X = true) : ∀ i, i < 8 -> bN X i = bN X (56 + i) := by
 have := (vG _ _ 0 56 8).1 (of_decide_eq_true h).2;intro i hi;have := this i hi;rwa [Nat.zero_add] at this
theorem zMu {X : ByteArray} {q : Nat} (hq : q <= 18446744073709551615) (h : isM X = true) (h8 : ∀ i, i < 8 -> bN X i = bN (nB q) i) : mN X = q := by
 unfold mN;rw [if_pos h];refine Eq.trans ?_ (Vi q hq);rw [vG];intro i hi;rw [Nat.zero_add];exact h8 i hi
structure Vw (X : ByteArray) (q : Nat) : Prop where
 size : X.size = 64
 less : isM X = true -> mN X + 1 < q
 first : bN X 56 = bN (nB q) 0 -> ∀ i, i < 8 -> bN X i = bN (nB q) i
theorem Vw.torn {X t : ByteArray} {q b : Nat} (h : Vw X q) (hq : q <= 18446744073709551615) (ht : t.size <= 48) (hb : b <= 64) : Vw (gD (mkB q t) X b) q \/ gD (mkB q t) X b = mkB q t := by
 have hm := vI q t ht;have hz := qF (mkB q t) X b hm h.size hb;have hy := fA (mkB q t) X b hm h.size hb;have hX : isM X = true -> ¬ ∀ i, i < 8 -> bN X i = bN (nB q) i := fun hi h8 => by
   have := zMu hq hi h8;have := h.less hi;omega
 obtain ⟨Y, hY⟩ : ∃ Y, Y = gD (mkB q t) X b := ⟨_, rfl⟩
 rw [<- hY] at hz hy ⊢;by_cases c : b <= 56
 · left
   have y56 : ∀ i, i < 8 -> bN Y (56 + i) = bN X (56 + i) := fun i hi => by rw [hy _ (by omega), if_neg (by omega)]
   have y8 : (∀ i, i < 8 -> bN X i = bN (nB q) i) -> ∀ i, i < 8 -> bN Y i = bN (nB q) i := fun f8 i hi => by
     rw [hy i (by omega)];split
     · exact uF q t i hi
     · exact f8 i hi
   refine ⟨hz, fun hM => ?_, fun h5 => ?_⟩
   · by_cases c0 : b = 0
     · have e : Y = X := qE _ _ (by rw [hz, h.size]) fun i hi => by rw [hy i (by omega), if_neg (by omega)]
       rw [e] at hM ⊢;exact h.less hM
     · exfalso;have e := Ut hM 0 (by omega);rw [hy 0 (by omega), if_pos (by omega), uF q t 0 (by omega), y56 0 (by omega)] at e;have f8 := h.first e.symm;have l8 := y8 f8;have : isM X = true := decide_eq_true ⟨h.size, (vG _ _ 0 56 8).2 fun i hi => by rw [Nat.zero_add, f8 i hi, <- y56 i hi, <- Ut hM i hi, l8 i hi]⟩;exact hX this f8
   · have h6 : bN X 56 = bN (nB q) 0 := by rw [<- h5]; exact (y56 0 (by omega)).symm
     exact y8 (h.first h6)
 · have f8 : ∀ i, i < 8 -> bN Y i = bN (nB q) i := fun i hi => by rw [hy i (by omega), if_pos (by omega), uF q t i hi]
   by_cases hM : isM Y = true
   · right
     refine qE _ _ (by rw [hz, hm]) fun i hi => ?_
     by_cases ci : i < b
     · rw [hy i (by omega), if_pos ci]
     · have e := Ut hM (i - 56) (by omega);rw [show 56 + (i - 56) = i by omega, f8 _ (by omega)] at e;have m := gE q t ht (i - 56) (by omega);rw [show 56 + (i - 56) = i by omega] at m;rw [<- e, m]
   · exact .inl ⟨hz, fun h => absurd h hM, fun _ => f8⟩
theorem Vw.next {n : Nat} {t : ByteArray} (hn : n <= 18446744073709551615) (ht : t.size <= 48) : Vw (mkB n t) (n + 1 + 1) := by
 refine ⟨vI n t ht, fun _ => ?_, fun h => ?_⟩
 · rw [zBz n t hn ht]; omega
 · have := gE n t ht 0 (by omega);rw [show 56 + 0 = 56 from rfl] at this;rw [this, Qy, Qy] at h;omega
theorem Vw.zero : Vw (zB 64) (1 + 1) := by
 refine ⟨xG 64, fun _ => ?_, fun h => ?_⟩
 · rw [Zm.2]; decide
 · rw [zGn, Qy] at h;omega
theorem mY {x : ByteArray} {q : Nat} (hx : x.size = 64) : uA x q = true ↔ ∀ i, i < 8 -> bN x (56 + i) = bN (nB q) i := by
 have h8 := vS q;constructor
 · intro h i hi;obtain ⟨p, hp⟩ := List.isSuffixOf_iff_suffix.1 h;have hl : p.length = 56 := by
     have := congrArg List.length hp;rw [List.length_append] at this;have e1 : (nB q).data.toList.length = 8 := h8;have e2 : x.data.toList.length = 64 := hx;omega
   rw [Xe, Xe, <- hp, List.getD_eq_getElem?_getD, List.getD_eq_getElem?_getD, List.getElem?_append_right (by omega), show 56 + i - p.length = i by omega]
 · intro h;have e : x.extract 56 64 = nB q := qE _ _ (by rw [ByteArray.size_extract, h8]; omega) fun i hi => by
     rw [ByteArray.size_extract] at hi;rw [yT x 56 64 i (by omega) (by omega)];exact h i (by omega)
   have e2 := xK x 56 64;rw [e] at e2;have e3 : (x.data.toList.drop 56).take (64 - 56) = x.data.toList.drop 56 := List.take_of_length_le (by rw [List.length_drop, jD, hx]; omega);exact List.isSuffixOf_iff_suffix.2 ⟨x.data.toList.take 56, by rw [e2, e3, List.take_append_drop]⟩
theorem zA0 {x : ByteArray} {q : Nat} (hx : x.size = 64) (h : ¬ ∀ i, i < 8 -> bN x (56 + i) = bN (nB q) i) : uA x q = false := by
 cases c : uA x q with
 | false => rfl
 | true => exact absurd ((mY hx).1 c) h
theorem zFm (q n : Nat) : uA (yR q n) q = true := (mY (jL q n)).2 fun i hi => Qa q n i hi
theorem zE1 {p q n : Nat} (hp : p <= 18446744073709551615) (hq : q <= 18446744073709551615) (h : p ≠ q) : uA (yR p n) q = false :=
 zA0 (jL p n) fun e => h (zKm hp hq fun i hi => by rw [<- e i hi, Qa p n i hi])
theorem zMa {x : ByteArray} {q : Nat} (hx : x.size = 64) (hq : q <= 18446744073709551615) : uA (umB x q) q = false := by
 have hz := fU (x := x) (q := q) (by omega);refine zA0 (by omega) fun e => ?_
 have e2 : 18446744073709551615 - q = q := zKm (by omega) hq fun i hi => by
   rw [<- e i hi];unfold umB;have h8 := vS (18446744073709551615 - q);have z : (x.extract 0 (x.size - 8)).size = 56 := by rw [ByteArray.size_extract]; omega
   have := gA (x.extract 0 (x.size - 8)) (nB (18446744073709551615 - q)) i (by omega);rw [z] at this;exact this.symm
 omega
theorem zIt {x : ByteArray} {q n b : Nat} (hx : x.size = 64) (h : uA x q = false) (hb : b <= 64) : gD (yR q n) x b = yR q n \/ uA (gD (yR q n) x b) q = false := by
 have hm := jL q n;have hz := qF (yR q n) x b hm hx hb;have hy := fA (yR q n) x b hm hx hb;obtain ⟨Y, hY⟩ : ∃ Y, Y = gD (yR q n) x b := ⟨_, rfl⟩
 rw [<- hY] at hz hy ⊢;cases c : uA Y q with
 | false => exact .inr rfl
 | true =>
   left
   have e := (mY hz).1 c;by_cases c5 : b <= 56
   · exfalso;rw [(mY hx).2 fun i hi => by rw [<- e i hi, hy _ (by omega), if_neg (by omega)]] at h;cases h
   · refine qE _ _ (by omega) fun i hi => ?_
     by_cases ci : i < b
     · rw [hy i (by omega), if_pos ci]
     · have e1 := e (i - 56) (by omega);have e2 := Qa q n (i - 56) (by omega);rw [show 56 + (i - 56) = i by omega] at e1 e2;rw [e1, e2]
end
end Go.Proofs.YtndhmidgnpobjaaGreatDoor
