import Derived.Test.YthijgebmoadgkaaGreatDoorPguR
import Derived.Test.YthijgebmoadgkaaGreatDoorPgrB
set_option linter.unusedVariables false
set_option linter.unusedSimpArgs false
namespace Go.Proofs.YthijgebmoadgkaaGreatDoor
open Go.ChangeShapes Go.WideShapes Go.ChangeAt Go.RowKit
section
def hd0 : Pag := (1, zJ 1 0 fun _ => 0)
theorem hd0_ok : xW hd0 := ⟨by show 1 <= 1; omega, by show 1 <= 255; omega, yO _ _ _⟩
theorem zKo (ll : Nat) : vO ll = yE 0 (fun _ => zB 64) 2 ++ ([none] ++ (yE 2 (fun _ => zB 64) ll ++ (vV ll 0 hd0 ++ ([none, some (1, mkB 1 (mkT 1 ll))] ++ [none])))) := by
 unfold vO;rw [yX, yX, yX];show ((yV (jO ll) 0 ++ yE 0 (fun _ => zB 64) 2 ++ [none]) ++ (yE 2 (fun _ => zB 64) ll ++ vV ll 0 hd0) ++ [none]) ++ [some (1, mkB 1 (mkT 1 ll))] ++ [none] = _
 simp [yV]
theorem zEq {N at_ n : Nat} {g : Nat -> ByteArray} (h : at_ + n <= N) (hg : ∀ i, i < n -> (g i).size = 64) : ∀ o ∈ yE at_ g n, mZ N o := by
 intro o ho;obtain ⟨i, hi, rfl⟩ := List.mem_map.1 ho;have hi := List.mem_range.1 hi;exact ⟨by omega, hg i hi⟩
theorem zDh {at_ n k : Nat} {g : Nat -> ByteArray} (h : k < at_ \/ at_ + n <= k) : ∀ o ∈ yE at_ g n, noD k o := by
 intro o ho;obtain ⟨i, hi, rfl⟩ := List.mem_map.1 ho;have hi := List.mem_range.1 hi;show at_ + i ≠ k
 omega
section
variable {N ll : Nat}
theorem zNx (h10 : 10 <= ll) (hN : ll + 10 <= N) : ∀ o ∈ vO ll, mZ N o := by
 intro o ho;rw [zKo] at ho;rcases List.mem_append.1 ho with ho | ho
 · exact zEq (by omega) (fun _ _ => xG 64) o ho
 rcases List.mem_append.1 ho with ho | ho
 · obtain rfl : o = none := by simpa using ho
   trivial
 rcases List.mem_append.1 ho with ho | ho
 · exact zEq (by omega) (fun _ _ => xG 64) o ho
 rcases List.mem_append.1 ho with ho | ho
 · exact zEq (by omega) (fun i hi => Pg.secB_size _ _ (vF _ _ _ (by have := hd0_ok.size; omega)) hi) o ho
 · simp at ho;rcases ho with rfl | rfl | rfl
   · trivial
   · exact ⟨by omega, vD _ _ (by rw [xL]; omega)⟩
   · trivial
theorem zKx (k : Nat) (v : ByteArray) (l : List Dop) : ([none] ++ l).foldl (vwO k) v = l.foldl (vwO k) v := rfl
theorem zIr (k : Nat) (v m : ByteArray) : ([none, some (1, m)] ++ [none] : List Dop).foldl (vwO k) v = if 1 = k then m else v := rfl
theorem zJx (k : Nat) (v : ByteArray) : (vO ll).foldl (vwO k) v = if k = 1 then mkB 1 (mkT 1 ll) else if k < 2 + ll then zB 64 else if k < 2 + ll + 8 then Pg.secB (pgB 1 0 (zJ 1 0 fun _ => 0)) (k - (2 + ll)) else v := by
 rw [zKo, List.foldl_append, zKx, List.foldl_append, List.foldl_append, zIr];by_cases c1 : k = 1
 · rw [if_pos c1.symm, if_pos c1]
 rw [if_neg (fun e => c1 e.symm), if_neg c1];by_cases c2 : k < 2
 · rw [if_pos (by omega), jQ k (vV ll 0 hd0) _ (zDh (.inl (by omega))), jQ k (yE 2 _ ll) _ (zDh (.inl (by omega)))];have := fZ 0 (fun _ => zB 64) k v 2;rw [Nat.zero_add, if_pos c2] at this;exact this
 by_cases c3 : k < 2 + ll
 · rw [if_pos c3, jQ k (vV ll 0 hd0) _ (zDh (.inl (by omega)))];have := fZ 2 (fun _ => zB 64) (k - 2) ((yE 0 (fun _ => zB 64) 2).foldl (vwO k) v) ll;rw [show 2 + (k - 2) = k by omega, if_pos (by omega)] at this;exact this
 rw [if_neg c3];have := fZ (2 + ll + 0 * 8) (Pg.secB (pgB hd0.1 0 hd0.2)) (k - (2 + ll)) ((yE 2 (fun _ => zB 64) ll).foldl (vwO k) ((yE 0 (fun _ => zB 64) 2).foldl (vwO k) v)) 8;rw [show 2 + ll + 0 * 8 + (k - (2 + ll)) = k by omega] at this;refine this.trans ?_;by_cases c4 : k < 2 + ll + 8
 · rw [if_pos (by omega), if_pos c4]; rfl
 · rw [if_neg (by omega), if_neg c4, jQ k (yE 2 _ ll) _ (zDh (.inr (by omega))), jQ k (yE 0 _ 2) _ (zDh (.inr (by omega)))]
theorem Xb {s : St} (hd : s.down = false) {i : Nat} (hi : i < N) : uJ N s (i : Int) = (vw s i, 0) := by
 unfold uJ;rw [if_neg (by rw [hd]; simp), if_neg (by omega)];rfl
theorem zA0 : isM (zB 64) = true /\ mN (zB 64) = 0 := by decide
theorem Yy (ll : Nat) (k : Nat) : (mkT 1 ll ++ zB k).data.toList = zV 1 8 ++ (zV ll 4 ++ List.replicate k 0) := by
 unfold mkT zB;rw [xO, xO, List.append_assoc]
theorem zMm (h10 : 10 <= ll) (hN : ll + 10 <= N) (h6 : N <= 65536) : ctg N (zB 64) (mkB 1 (mkT 1 ll)) = some (ll, 1, 1) := by
 have hs : (mkT 1 ll).size <= 48 := by rw [xL]; omega
 have m1 := Zd 1 (mkT 1 ll) hs;have m2 := zBi 1 (mkT 1 ll) (by omega) hs;have m3 := zB8 1 (mkT 1 ll) hs;rw [xL] at m3;obtain ⟨z1, z2⟩ := zA0;have k1 : bK (zB 64) (mkB 1 (mkT 1 ll)) = 1 := by
   unfold bK;rw [z1, m1, z2, m2];rfl
 have k2 : bN_ (zB 64) (mkB 1 (mkT 1 ll)) = 1 := by
   unfold bN_;rw [k1, m2];rfl
 have k3 : bT (zB 64) (mkB 1 (mkT 1 ll)) = mkT 1 ll ++ zB 36 := by
   unfold bT;rw [k1, m3];rfl
 have z : (mkT 1 ll ++ zB 36).size = 48 := by rw [ByteArray.size_append, xL, xG]
 have g1 : zT (mkT 1 ll ++ zB 36) 0 8 = 1 := jV _ 0 8 1 (by omega) (by omega) (by decide) (by rw [Yy, List.drop_zero, uR (zN 1 8)]);have g2 : zT (mkT 1 ll ++ zB 36) 8 4 = ll := jV _ 8 4 ll (by omega) (by omega) (by show ll < 4294967296; omega) (by rw [Yy, xF (zN 1 8), uR (zN ll 4)]);have g3 : fF ((mkT 1 ll ++ zB 36).extract 12 (mkT 1 ll ++ zB 36).size) = true := by
   unfold fF;rw [xE, z, Yy, <- List.append_assoc, xF (by rw [List.length_append, zN, zN])];simp
 unfold ctg;rw [k1, k2, k3, g1, g2, if_pos ⟨by omega, by omega, g3, h10, hN⟩]
theorem zHo {s : St} (h : Sd N s) (hd : s.down = false) (hf : s.fuse < 0) (h10 : 10 <= ll) (hN : ll + 10 <= N) : (zP N (vO ll) (0, s)).1 = 0 /\ (zP N (vO ll) (0, s)).2.down = false /\ (zP N (vO ll) (0, s)).2.fuse = s.fuse /\ (zP N (vO ll) (0, s)).2.wr = [] /\ Sd N (zP N (vO ll) (0, s)).2 /\
   ∀ k, vw (zP N (vO ll) (0, s)).2 k = if k = 1 then mkB 1 (mkT 1 ll) else if k < 2 + ll then zB 64 else if k < 2 + ll + 8 then Pg.secB (pgB 1 0 (zJ 1 0 fun _ => 0)) (k - (2 + ll)) else vw s k := by
 have hfit := zNx (N := N) h10 hN;have h1 := gZ N (vO ll) s hd hfit;obtain ⟨e0, ef⟩ := h1.2 hf;have hdn : (zP N (vO ll) (0, s)).2.down = false := by
   rcases h1.1 with h | h
   · exact h.2
   · omega
 refine ⟨e0, hdn, ef, ?_, Qo N _ s h hfit, fun k => ?_⟩
 · have e : vO ll = (yV (jO ll) 2 ++ jO ll 2) ++ [none] := by unfold vO; rw [yX]
   rw [e] at e0 ⊢;exact Jj N _ s e0
 · rw [Uw N k _ s h hfit e0, zJx]
theorem zFt {s s' : St} (hd : s'.down = false) (h10 : 10 <= ll) (hN : ll + 10 <= N) (h6 : N <= 65536) (room : Nat)
   (hv : ∀ k, vw s' k = if k = 1 then mkB 1 (mkT 1 ll) else if k < 2 + ll then zB 64 else if k < 2 + ll + 8 then Pg.secB (pgB 1 0 (zJ 1 0 fun _ => 0)) (k - (2 + ll)) else vw s k) :
   opn N s' room = some (opP N s' room ll 1 1 []) /\ (opP N s' room ll 1 1 []).base 0 = (hd0, 0) /\ (opP N s' room ll 1 1 []).l = ⟨2, ll, 0, 1, false⟩ := by
 have v0 : vw s' 0 = zB 64 := by rw [hv, if_neg (by omega), if_pos (by omega)]
 have v1 : vw s' 1 = mkB 1 (mkT 1 ll) := by rw [hv, if_pos rfl]
 have v2 : vw s' 2 = zB 64 := by rw [hv, if_neg (by omega), if_pos (by omega)]
 have r0 : (uJ N s' 0).1 = zB 64 := by rw [show (0 : Int) = ((0 : Nat) : Int) from rfl, Xb hd (by omega), v0]
 have r1 : (uJ N s' 1).1 = mkB 1 (mkT 1 ll) := by rw [show (1 : Int) = ((1 : Nat) : Int) from rfl, Xb hd (by omega), v1]
 have t0 : yG (st s' 2) ll 1 = [] := zCf _ _ _ (by show bN (vw s' (2 + 0)) 10 ≠ 1; rw [Nat.add_zero, v2]; decide);have b0 : (opP N s' room ll 1 1 []).base 0 = (hd0, 0) := by
   show dpg s' ll 0 = _
   exact Xs hd0_ok (by omega) fun i hi => by
     rw [hv, if_neg (by omega), if_neg (by omega), if_pos (by omega)];congr 1
     omega
 have hh : fM ((N - 2 - ll) / 8) hd0 = true := mH.2 (Jq.mk' (by omega) (by omega) (by omega) (by omega) fun i hi => by show 0 < _; omega);refine ⟨?_, b0, ?_⟩
 · unfold opn;rw [r0, r1, zMm h10 hN h6];simp only;rw [t0];show (if ((opP N s' room ll 1 1 []).base 0).2 = 0 /\ fM ((N - 2 - ll) / 8) ((opP N s' room ll 1 1 []).base 0).1 = true then some (opP N s' room ll 1 1 []) else none) = _
   rw [b0, if_pos ⟨rfl, hh⟩]
 · unfold opP;simp only;rw [t0];rfl
end
end
section
structure qC (P : PS) (n m r : Nat) : Prop where
 N : P.N = n
 ll : P.ll = m
 seq : P.seq = 1
 room : P.room = r
 l : P.l = ⟨2, m, 0, 1, false⟩
 M : P.M = []
 T : P.T = []
 failed : P.failed = false
 up : P.s.down = false
 wr : P.s.wr = []
 hd : P.base 0 = (hd0, 0)
 fuse : P.s.fuse < 0
section
variable {P : PS} {N ll room : Nat}
theorem qC.view (h : qC P N ll room) : P.view 0 = (hd0, 0) := by
 unfold PS.view;rw [h.T];exact h.hd
theorem qC.used (h : qC P N ll room) : P.used = 1 := by
 unfold PS.used;rw [h.view];exact qS 1 0 _ (by omega)
theorem qC.free (h : qC P N ll room) : P.free = 0 := by
 unfold PS.free;rw [h.view];exact zBt 1 0 _ (by omega)
theorem qC.most (h : qC P N ll room) : P.most = (N - 2 - ll) / 8 := by
 unfold PS.most;rw [h.N, h.ll]
theorem qC.tk (h : qC P N ll room) (h2 : 2 <= (N - 2 - ll) / 8) : P.tk = (1, 0, 2, 0) := by
 unfold PS.tk;rw [if_pos h.free, h.most, h.used, if_neg (by omega), h.free]
theorem qC.al (h : qC P N ll room) (hk : P.Ok) (h2 : 2 <= (N - 2 - ll) / 8) : P.alE 2 = 0 /\ P.alN 2 = 1 /\ (P.al 2).T.length = 2 /\ (P.al 2).s = P.s /\ (P.al 2).l = P.l /\ (P.al 2).M = P.M /\ (P.al 2).seq = P.seq /\ (P.al 2).failed = P.failed /\ (P.al 2).N = P.N /\ (P.al 2).ll = P.ll /\ ((P.al 2).view 0).1.2 = zJ 2 0 P.root := by
 have ht := h.tk h2;have hr2 := hk.r2;have hL : P.alL 2 = [(0, (1, zJ 2 0 P.root)), (1, (2, ⟨#[]⟩))] := by unfold PS.alL; rw [ht]; rfl
 have hp : (P.put (P.alL 2)).T = [(0, (1, fl (zJ 2 0 P.root))), (1, (2, fl ⟨#[]⟩))] := by
   unfold PS.put;rw [hL, h.T];rfl
 have hlen : (P.put (P.alL 2)).T.length <= P.room := by rw [hp]; exact hr2
 have e1 : P.alE 2 = 0 := by
   unfold PS.alE PS.chgE;rw [if_pos (by decide), if_neg (by rw [h.up]; simp), ht, if_pos rfl, if_pos hlen]
 have e2 : P.al 2 = P.put (P.alL 2) := by
   unfold PS.al PS.chg;rw [if_pos (by decide), if_neg (by rw [h.up]; simp), ht, if_pos rfl, if_pos hlen]
 have e3 : P.alN 2 = 1 := by
   unfold PS.alN;rw [if_pos e1, ht]
 refine ⟨e1, e3, ?_⟩;rw [e2];refine ⟨by rw [hp]; rfl, rfl, rfl, rfl, rfl, rfl, rfl, rfl, ?_⟩;unfold PS.view;rw [hp];exact vL _ (yO 2 0 P.root)
end
section
variable {N : Nat} {s : St}
theorem Qs (hd : s.down = false) (hf : s.fuse < 0) (ops : List Dop) (ho : ∀ o ∈ ops, mZ N o) : (zP N ops (0, s)).1 = 0 /\ (zP N ops (0, s)).2.fuse = s.fuse /\ (zP N ops (0, s)).2.down = false := by
 have h1 := gZ N ops s hd ho;obtain ⟨e0, ef⟩ := h1.2 hf;refine ⟨e0, ef, ?_⟩;rcases h1.1 with h | h
 · exact h.2
 · omega
theorem zHm (h : Sd N s) (hd : s.down = false) (hf : s.fuse < 0) (at_ q k en : Nat) (hat : at_ < N) (hen : en <= N) : (vN N s at_ q k en).1 = 0 /\ (vN N s at_ q k en).2.fuse = s.fuse /\ (vN N s at_ q k en).2.down = false /\ Sd N (vN N s at_ q k en).2 := by
 have h1 := Qs hd hf (yM s at_ q) (zAc h hat);have hr := zDw h hd at_ q k en hat hen;have hsd := Qo N (yM s at_ q) s h (zAc h hat);refine ⟨?_, ?_, ?_, hr.sd⟩;all_goals rw [gD rfl]
 all_goals
   obtain ⟨x, hx⟩ : ∃ x, x = zP N (yM s at_ q) (0, s) := ⟨_, rfl⟩
   rw [<- hx] at h1 hsd ⊢;by_cases c : x.1 = 0 /\ at_ + k < en
   · have h2 := Qs (N := N) h1.2.2 (by rw [h1.2.1]; exact hf) (yM x.2 (at_ + k) ((q + 1) % 18446744073709551616)) (zAc hsd (by omega));rw [if_pos c];first | exact h2.1 | exact h2.2.1.trans h1.2.1 | exact h2.2.2
   · rw [if_neg c];first | exact h1.1 | exact h1.2.1 | exact h1.2.2
theorem zJb (h : Sd N s) (hd : s.down = false) (hf : s.fuse < 0) {l : yH} (hk : l.Ok) (hlf : l.failed = false) (hfr : l.from_ = 2) (hN : 2 + l.size <= N) {ps : List ByteArray} (hp : uQ ps = true) (h64 : ps.length <= 64) (hle : 1 + 9 * ps.length <= l.left) :
   (uX N s l ps).1 = 0 /\ (uX N s l ps).2.1.fuse = s.fuse /\ (uX N s l ps).2.1.down = false /\ (uX N s l ps).2.1.wr = [] /\ (uX N s l ps).2.2 = l.plus ps.length := by
 have hl : l.left = l.size - l.used := by unfold yH.left; rw [hlf]; simp
 have hu := hk.used;obtain ⟨p1, p2, p3, p4⟩ := zHm h hd hf (2 + l.used) l.next (1 + 9 * ps.length) (2 + l.size) (by omega) hN;unfold uX;rw [if_pos hle];obtain ⟨x, hx⟩ : ∃ x, x = vN N s (2 + l.used) l.next (1 + 9 * ps.length) (2 + l.size) := ⟨_, rfl⟩
 rw [<- hx] at p1 p2 p3 p4 ⊢;rw [if_pos p1];have hsz : ∀ p ∈ ps, p.size = 512 := (of_decide_eq_true hp).2;have r := Qs (N := N) p3 (by rw [p2]; exact hf) (yB (l.from_ + l.used) ps l.next) (Je N _ ps _ hsz (by omega));have ew : (zP N (yB (l.from_ + l.used) ps l.next) (0, x.2)).2.wr = [] := by
   have e : yB (l.from_ + l.used) ps l.next = (uH (l.from_ + l.used) ps ps.length ++ [none, some (l.from_ + l.used, yN l.next ps.length)]) ++ [none] := by
     unfold yB;rw [List.append_assoc];rfl
   have r0 := r.1;rw [e] at r0 ⊢;exact Jj N _ x.2 r0
 have ea : uN N x.2 l ps = (0, (zP N (yB (l.from_ + l.used) ps l.next) (0, x.2)).2, l.plus ps.length) := by
   unfold uN;rw [if_neg (by rw [hp]; simp), if_neg (by rw [hlf]; simp), if_neg (by omega), if_neg (by omega), if_pos r.1]
 rw [ea];exact ⟨rfl, r.2.1.trans p2, r.2.2, ew, rfl⟩
end
section
variable {P : PS}
theorem zIw (h : P.Ok) (hs : Sd P.N P.s) (hd : P.s.down = false) (hf : P.s.fuse < 0) (hlf : P.l.failed = false) (hpf : P.failed = false) (h1 : P.T ≠ []) (h64 : P.T.length <= 64) (hle : 1 + 9 * P.T.length <= P.l.left) (hq : P.seq + 1 <= 18446744073709551615) :
   P.comE = 0 /\ P.com.T = [] /\ P.com.s.fuse = P.s.fuse /\ P.com.s.down = false /\ P.com.s.wr = [] /\ P.com.l = P.l.plus P.T.length /\ P.com.failed = false /\ P.com.seq = P.seq /\ P.com.N = P.N /\ P.com.ll = P.ll /\ P.com.room = P.room /\ Sd P.N P.com.s /\ ∀ no, no < P.most -> P.com.base no = P.view no := by
 have hp := h.pgs h1;have hlen := fK P;have hsz := h.size;have hfit := h.fit;have k := PS.ent_kin h hs hd hlf h1 h64 hq;obtain ⟨a1, a2, a3, a4, a5⟩ := zJb hs hd hf h.log hlf h.from_ (by omega) hp (by omega) (by omega);have eR : P.entR = ((P.addR P.pgs).1, P.addP P.pgs) := by unfold PS.entR; rw [if_pos hle]
 have e0 : P.entR.1 = 0 := by rw [eR]; exact a1
 have eE : P.ent = P.addP P.pgs := by
   unfold PS.ent PS.told;rw [if_neg (by omega), eR]
 have eC : P.com = P.done := by
   unfold PS.com;rw [if_neg (by
     rw [hpf];intro e;rcases e with e | e | e
     · cases e
     · exact h1 e
     · omega), if_pos e0]
 have eX : P.comE = 0 := by
   unfold PS.comE;rw [if_neg (by rw [hpf]; simp), if_neg h1, if_neg (by omega), e0]
 have hb : ∀ no, no < P.most -> P.com.base no = P.view no := fun no hno => by rw [eC]; exact mJ h k.1 hno
 have hsd : Sd P.N P.com.s := by rw [eC]; exact k.2.1
 refine ⟨eX, by rw [eC]; rfl, ?_, ?_, ?_, ?_, ?_, ?_, ?_, ?_, ?_, hsd, hb⟩;all_goals rw [eC]
 · show P.ent.s.fuse = _; rw [eE]; exact a2
 · show P.ent.s.down = _; rw [eE]; exact a3
 · show P.ent.s.wr = _; rw [eE]; exact a4
 · show P.ent.l = _; rw [eE, <- hlen]; exact a5
 · show P.ent.failed = _; rw [eE]; exact hpf
 · show P.ent.seq = _; rw [eE]; rfl
 · show P.ent.N = _; rw [eE]; rfl
 · show P.ent.ll = _; rw [eE]; rfl
 · show P.ent.room = _; rw [eE]; rfl
theorem zMo (h : P.Ok) (hs : Sd P.N P.s) (hd : P.s.down = false) (hf : P.s.fuse < 0) (hlf : P.l.failed = false) (hT : P.T = []) :
   P.empR.1 = 0 /\ PS.told P.empR.1 P.emp = P.emp /\ P.emp.s.down = false /\ P.emp.T = [] /\ P.emp.s.fuse = P.s.fuse /\ P.emp.failed = P.failed /\ P.emp.view 0 = P.view 0 := by
 have hm := h.most;have r := Qs hd hf (xZ P.ll P.M P.seq P.l.next) (zEt h.M hm.2.2 (by have := h.fit; omega));obtain ⟨k, -, -, -⟩ := PS.emp_kin h hs hd hlf;have e0 : P.empR.1 = 0 := r.1;have eE : P.emp = { P with s := P.empR.2, seq := P.seq + 1, M := [], l := { P.l with used := 0 } } := if_pos e0;have hv : P.emp.view 0 = P.view 0 := by
   unfold PS.view;rw [k.T, k.base 0 (by omega)]
 refine ⟨e0, by unfold PS.told; rw [if_neg (by omega)], ?_, ?_, ?_, ?_, hv⟩;all_goals rw [eE]
 · exact r.2.2
 · exact hT
 · exact r.2.1
def PS.fused (P : PS) (f : Int) : PS := { P with s := { P.s with fuse := f } }
theorem jC (P : PS) (f : Int) (no : Nat) : (P.fused f).base no = P.base no := Xp (P := P) (P' := P.fused f) rfl rfl fun i _ => zFp rfl rfl _
theorem Ju (P : PS) (f : Int) (no : Nat) : (P.fused f).view no = P.view no := by
 have := jC P f no;unfold PS.view;rw [this];rfl
theorem PS.Ok.fused (h : P.Ok) (f : Int) : (P.fused f).Ok :=
 { h with
   hd := by rw [Ju]; exact h.hd
   hd0 := by rw [Ju]; exact h.hd0
   bd := by rw [jC]; exact h.bd
   bd0 := by rw [jC]; exact h.bd0 }
theorem Coh.fused {R : List Po.RF} (h : Coh P R) (f : Int) : Coh (P.fused f) R := by
 refine ⟨fun g hg => ?_, h.all⟩;obtain ⟨no, x, e, hn, hx, hs, hp, ht, hc⟩ := h.good g hg;refine ⟨no, x, e, hn, hx, hs, hp, ht, fun hd => ?_⟩;rw [jC];exact hc hd
end
end
section
section
variable {w w' : World} {B Bp d p c N ll room : Nat} {s : St} {P : PS}
theorem qY.base (h : qY w B d N s) : B <= w.heap.size := by
 obtain ⟨sb, mb, sc, wv, hD, b1, -⟩ := h;have := hD.own.in_;omega
theorem qY.ok (h : qY w B d N s) : s.Ok N := by
 obtain ⟨sb, mb, sc, wv, hD, b1, -⟩ := h;exact hD.ok
theorem zDq (h0 : zF w B Bp d p c P) (hB : B <= w.heap.size) (h : ∀ S, uI w d S -> uI w' d S /\ Chg (FT w B S) w w') : Below B w w' := by
 obtain ⟨S, hS, -⟩ := h0.sureB;exact (h S hS).2.below hB fun q hq => hq.1
theorem Xm (h : zF w B Bp d p c P) (hc : Chg (Po.PT w Bp) w w') : Below B w w' := by
 obtain ⟨h1, h2, h3⟩ := h.base;exact hc.below (by omega) fun q hq => by have := hq.1; omega
def zEj (s' : St) (ll : Nat) : Prop := s'.down = false /\ s'.fuse < 0 /\ s'.wr = [] /\ ∃ s : St, ∀ k, vw s' k = if k = 1 then mkB 1 (mkT 1 ll) else if k < 2 + ll then zB 64 else if k < 2 + ll + 8 then Pg.secB (pgB 1 0 (zJ 1 0 fun _ => 0)) (k - (2 + ll)) else vw s k
theorem zNc (h : qY w B d N s) (hd : s.down = false) (hf : s.fuse < 0) (hw : s.wr.length <= 300000) (h10 : 10 <= ll) (hN : ll + 10 <= N) : Calls Tryz.prog 17 #[.pointer (some ⟨d, 0, none⟩), .int .i64 (ll : Int)] w fun e w' => e = .returned (.int .i64 0) /\ Below B w w' /\ ∃ s', zEj s' ll /\ qY w' B d N s' := by
 have hB := h.base;obtain ⟨sb, mb, sc, wv, hD, b1, b2, b3, b4⟩ := h;obtain ⟨e0, k1, k2, k3, k4, k5⟩ := zHo (Sd.of hD.ok) hd hf h10 hN;refine (zM9 hD ll h10 hN hw).mono ?_;rintro e w' ⟨rfl, wv', hD', hc, hv⟩;refine ⟨by rw [e0], ?_, _, ⟨k1, by rw [k2]; exact hf, k3, s, k5⟩, sb, mb, sc, wv', hD', b1, b2, b3, fun g hg => ?_⟩
 · exact hc.below hB fun q hq => by
     rcases hq with e | e | e | e
     · have e : q = d := e;omega
     · have e : q = sb := e;omega
     · have e : q = mb := e;omega
     · exact b4 q e
 · rcases hv with e | e | ⟨g', e, hg'⟩
   · exact b4 g (e ▸ hg)
   · rw [e] at hg; cases hg
   · rw [e] at hg;injection hg with hg;omega
theorem zNt (h : qY w B d N s) (hF : zEj s ll) (h10 : 10 <= ll) (hN : ll + 10 <= N) (r : Nat) (h2 : 2 <= r) (h6 : r <= 65536) : Calls Tryz.prog 18 #[.pointer (some ⟨d, 0, none⟩), .int .i64 (r : Int)] w fun e w' => ∃ P p Bp, e = .returned (.tuple #[.pointer (some ⟨p, 0, none⟩), .int .i64 0]) /\ qC P N ll r /\ zF w' B Bp d p 2 P /\ Below w.heap.size w w' := by
 have hok := h.ok;obtain ⟨sb, mb, sc, wv, hD, b1, b2, b3, b4⟩ := h;obtain ⟨f1, f2, f3, s0, hv⟩ := hF;obtain ⟨o1, o2, o3⟩ := zFt (s := s0) f1 h10 hN hok.max r hv;refine (mL hD f1 b1 b2 b3 b4 r h2 h6).mono ?_;rintro e w' ⟨⟨P, p, Bp, hP, rfl, hBp, hA⟩ | ⟨hn, -⟩, hb⟩
 · rw [o1] at hP;injection hP with hP;subst hP;exact ⟨_, p, Bp, rfl, ⟨rfl, rfl, rfl, rfl, o3, rfl, rfl, rfl, f1, f3, o2, f2⟩, hA, hb⟩
 · rw [o1] at hn; cases hn
theorem zF.sd (h : zF w B Bp d p c P) : Sd P.N P.s := Sd.of h.disk.ok
theorem zG9 (h : zF w B Bp d p c P) (hn : qC P N ll room) (h2 : 2 <= (N - 2 - ll) / 8) (hc : c + 6 < 1000000) : Calls Tryz.prog 20 #[.pointer (some ⟨p, 0, none⟩), .int .i64 2] w fun e w' => e = .returned (.tuple #[.int .i64 1, .int .i64 0]) /\ zF w' B Bp d p (c + 6) (P.al 2) /\ Below B w w' := by
 obtain ⟨e1, e2, -⟩ := hn.al h.ok h2;have := Ya h 2 hc;rw [e1, e2] at this;exact this.mono fun e w' ⟨a1, a2, a3⟩ => ⟨a1, a2, Xm h a3⟩
theorem zFf (h : zF w B Bp d p c (P.al 2)) (hk : P.Ok) (hn : qC P N ll room) (h2 : 2 <= (N - 2 - ll) / 8) (hl : 19 <= ll) (hc : c + 2 < 1000000) : Calls Tryz.prog 25 #[.pointer (some ⟨p, 0, none⟩)] w fun e w' => e = .returned (.int .i64 0) /\ (∃ Q, zF w' B Bp d p (c + 2) Q /\ Q.T = [] /\ Q.s.fuse < 0 /\ Q.s.down = false /\ Q.s.wr = [] /\ Q.l.failed = false /\ Q.failed = false /\ Q.seq = 1 /\ Q.used = 2) /\ Below B w w' := by
 obtain ⟨-, -, a1, a2, a3, a4, a5, a6, a7, a8, a9⟩ := hn.al hk h2;obtain ⟨h1, h3, h4⟩ := h.base;have hm := h.ok.most;have hlf : (P.al 2).l.failed = false := by rw [a3, hn.l]
 have hup : (P.al 2).s.down = false := by rw [a2]; exact hn.up
 have hpf : (P.al 2).failed = false := by rw [a6]; exact hn.failed
 have hleft : 1 + 9 * (P.al 2).T.length <= (P.al 2).l.left := by
   rw [a1, a3, hn.l];show 1 + 9 * 2 <= ll - 0
   omega
 have hT : (P.al 2).T ≠ [] := fun e => by rw [e] at a1; cases a1
 have hq : (P.al 2).seq + 1 <= 18446744073709551615 := by rw [a5, hn.seq]; omega
 obtain ⟨k1, k2, k3, k4, k5, k6, k7, k8, k9, -, -, -, kv⟩ := zIw h.ok h.sd hup (by rw [a2]; exact hn.fuse) hlf hpf hT (by omega) hleft hq;have CC := Vn h hpf hup hlf hq (by rw [a2, hn.wr]; exact Nat.zero_le _) (by omega);rw [k1, a1] at CC;refine CC.mono fun e w' ⟨b1, b2, b3⟩ => ⟨b1, ⟨_, b2, k2, ?_, k4, k5, ?_, k7, ?_, ?_⟩, zDq h (by omega) b3⟩
 · rw [k3, a2]; exact hn.fuse
 · rw [k6]; exact hlf
 · rw [k8, a5]; exact hn.seq
 · have hv : (P.al 2).com.view 0 = (P.al 2).view 0 := by
     have := kv 0 (by omega);unfold PS.view at this ⊢;rw [k2];exact this
   unfold PS.used;rw [hv, a9];exact qS 2 0 _ (by omega)
theorem zH5 {Q : PS} (h : zF w B Bp d p c Q) (h1 : Q.T = []) (h2 : Q.s.fuse < 0) (h3 : Q.s.down = false) (h4 : Q.s.wr = []) (h5 : Q.l.failed = false) (h6 : Q.failed = false) (h7 : Q.seq = 1) : Calls Tryz.prog 27 #[.pointer (some ⟨p, 0, none⟩)] w fun e w' => e = .returned (.int .i64 0) /\ (∃ Q', zF w' B Bp d p c Q' /\ Q'.s.down = false /\ Q'.used = Q.used) /\ Below B w w' := by
 obtain ⟨g1, g3, g4⟩ := h.base;obtain ⟨k1, k2, k3, k4, k5, k6, k7⟩ := zMo h.ok h.sd h3 h2 h5 h1;have CC := Yg h h6 h1 h3 h5 (by omega) (by rw [h4]; exact Nat.zero_le _);rw [k2, k1] at CC;exact CC.mono fun e w' ⟨b1, b2, b3⟩ => ⟨b1, ⟨_, b2, k3, by unfold PS.used; rw [k7]⟩, zDq h (by omega) b3⟩
theorem Zt (h : zF w B Bp d p c P) (hd : P.s.down = false) (u : Nat) (hu : P.used = u) (hc : c + 2 < 1000000) : Calls Tryz.prog 43 #[.pointer (some ⟨p, 0, none⟩)] w fun e w' => e = .returned (.int .i64 (u : Int)) /\ zF w' B Bp d p (c + 2) P /\ Below B w w' := by
 have := Jy h hd hc;rw [hu] at this;exact this.mono fun e w' ⟨a1, a2, a3⟩ => ⟨a1, a2, Xm h a3⟩
theorem zNm (n : Nat) (h1 : 1 <= n) (h2 : n <= 65536) (w : World) : Calls Tryz.prog 16 #[.int .i64 (n : Int)] w fun e w' => ∃ d, e = .returned (.tuple #[.pointer (some ⟨d, 0, none⟩), .int .i64 0]) /\ qY w' w.heap.size d n (fresh n) /\ Below w.heap.size w w' := by
 refine (new_any w n h1 h2).mono ?_;rintro e w' ⟨d, sb, mb, rfl, hD, hb, b1, b2, b3⟩;exact ⟨d, rfl, ⟨sb, mb, _, _, hD, b1, b2, b3, fun g hg => by cases hg⟩, hb⟩
end
set_option maxRecDepth 10000 in
set_option maxHeartbeats 1000000 in
theorem zMf (w : World) : Calls Tryz.prog 14 #[] w fun e w' => e = .returned (.bool true) /\ Below w.heap.size w w' := by
 have HN := Lh (zNm 100 (by decide) (by decide) w);go_enter Tryz.func14, Tryz.ntmps14;go_upto_region 2 with (go_at_call 16; refine HN.out.mono ?_; rintro e w1 ⟨d, rfl, hd1, hb1⟩; have D1 := Lh hd1; have B1 := Lh hb1; clear hd1 hb1)
 go_upto_region 3 with (go_at_call 17; refine (zNc (ll := 20) D1.out rfl (by decide) (by decide) (by decide) (by decide)).mono ?_; rintro e w2 ⟨rfl, hb2, s2, hF2, hd2⟩; have D2 := Lh hd2; have F2 := Lh hF2; have B2 := Lh (B1.out.trans hb2); clear hd2 hF2 hb2)
 go_upto_region 4 with (go_at_call 18; refine (zNt D2.out F2.out (by decide) (by decide) 8 (by decide) (by decide)).mono ?_; rintro e w3 ⟨P, p, Bp, rfl, hn, hp3, hb3⟩; have P3 := Lh hp3; have N3 := Lh hn; have B3 := Lh (then_ B2.out hb3 B2.out.size); clear hp3 hn hb3)
 have HM := Lh (show Calls Tryz.prog 65 #[.pointer (some ⟨p, 0, none⟩)] w3 fun e w' => e = .returned (.int .i64 9) /\ Below w3.heap.size w3 w' from by
   have := zG1 P3.out;rw [N3.out.most] at this;exact this)
 have OK3 := Lh P3.out.ok;go_upto_region 6 with (first
   | (go_at_call 65; refine HM.out.mono ?_; rintro e w4 ⟨rfl, hb4⟩; have P4 := Lh (P3.out.below hb4); have B4 := Lh (then_ B3.out hb4 B3.out.size); clear hb4)
   | (go_at_call 43; refine (Zt P4.out N3.out.up 1 N3.out.used (by decide)).mono ?_; rintro e w5 ⟨rfl, hp5, hb5⟩; have P5 := Lh hp5; have B5 := Lh (B4.out.trans hb5); clear hp5 hb5))
 go_upto_region 7 with (go_at_call 20; refine (zG9 P5.out N3.out (by decide) (by decide)).mono ?_; rintro e w6 ⟨rfl, hp6, hb6⟩; have P6 := Lh hp6; have B6 := Lh (B5.out.trans hb6); clear hp6 hb6)
 go_wp2_with (first
   | (go_at_call 25; refine (zFf P6.out OK3.out N3.out (by decide) (by decide) (by decide)).mono ?_; rintro e w7 ⟨rfl, ⟨Q, hp7, k1, k2, k3, k4, k5, k6, k7, k8⟩, hb7⟩; have K7 := Lh (And.intro hp7 (And.intro k1 (And.intro k2 (And.intro k3 (And.intro k4 (And.intro k5 (And.intro k6 (And.intro k7 k8)))))))); have B7 := Lh (B6.out.trans hb7); clear hp7 hb7 k1 k2 k3 k4 k5 k6 k7 k8)
   | (go_at_call 27; refine (zH5 K7.out.1 K7.out.2.1 K7.out.2.2.1 K7.out.2.2.2.1 K7.out.2.2.2.2.1 K7.out.2.2.2.2.2.1 K7.out.2.2.2.2.2.2.1 K7.out.2.2.2.2.2.2.2.1).mono ?_; rintro e w8 ⟨rfl, ⟨Q2, hp8, j1, j2⟩, hb8⟩; have K8 := Lh (And.intro hp8 (And.intro j1 (j2.trans K7.out.2.2.2.2.2.2.2.2))); have B8 := Lh (B7.out.trans hb8); clear hp8 hb8 j1 j2)
   | (go_at_call 43; refine (Zt K8.out.1 K8.out.2.1 2 K8.out.2.2 (by decide)).mono ?_; rintro e w9 ⟨rfl, hp9, hb9⟩; have B9 := Lh (B8.out.trans hb9); clear hp9 hb9))
 go_ret;exact ⟨rfl, B9.out⟩
end
section
section
variable {w w' : World} {B Bp d p c N ll room : Nat} {s : St} {P : PS}
end
end
section
end
section
section
variable {w w' : World} {B B0 Bp d p c : Nat} {P : PS}
end
end
end Go.Proofs.YthijgebmoadgkaaGreatDoor
