import Derived.Test.YthijgebmoadgkaaGreatDoorPgwD
import Derived.Test.YthijgebmoadgkaaGreatDoorPgtN
import Derived.Test.YthijgebmoadgkaaGreatDoorPgvF
set_option linter.unusedVariables false
set_option linter.unusedSimpArgs false
namespace Go.Proofs.YthijgebmoadgkaaGreatDoor
open Go.ChangeShapes Go.WideShapes Go.ChangeAt Go.RowKit
theorem mI (l : List Nat) : l.getLast?.getD 0 = l.getD (l.length - 1) 0 := by
 rw [List.getLast?_eq_getElem?, List.getD_eq_getElem?_getD]
section
variable {P : PS} {R : RS} {s : RSt} {v v' : Nat -> Pag × Nat} {most : Nat}
theorem xI.len (h : xI P.most P.view s) : P.used = s.kinds.length := h.used
theorem xI.same (h : xI P.most P.view s) : zGb ⟨P.kindL P.used, P.roomL P.used, [], P.root⟩ s := by
 have hu := h.used;refine ⟨?_, ?_, fun i hi => h.root hi⟩
 · show P.kindL P.used = s.kinds
   rw [hu];unfold PS.kindL;refine List.ext_getElem (by simp) fun i h1 h2 => ?_
   rw [List.getElem_map, List.getElem_range, h.at_ i h2];simp [List.getD_eq_getElem?_getD, List.getElem?_eq_getElem h2]
 · show P.roomL P.used = s.rooms
   rw [hu];unfold PS.roomL;have hkr := h.kr;refine List.ext_getElem (by simp [hkr]) fun i h1 h2 => ?_
   rw [List.getElem_map, List.getElem_range, h.at_ i (by omega)];simp [List.getD_eq_getElem?_getD, List.getElem?_eq_getElem h2]
theorem xI.read (h : xI P.most P.view s) : ∀ i, i < P.used -> (P.view i).2 = 0 := fun i hi => by rw [h.used] at hi; rw [h.at_ i hi]
theorem Sim.abort (h : Sim P R) : Sim P.abort R.abort :=
 { most := h.most, room := h.room, len := by show (List.replicate R.most false).length = P.most; rw [List.length_replicate, h.most]
   dirty := fun i => by
     show (List.replicate R.most false).getD i false = true ↔ lk [] i ≠ none
     rw [fH, List.getD_eq_getElem?_getD];by_cases c : i < R.most
     · simp [c]
     · rw [List.getElem?_eq_none (by simp; omega)]; simp
   way := h.sure
   sure := h.sure }
theorem Sim.keep (h : Sim P R) {Q : PS} (hT : Q.T = []) (hN : Q.most = P.most) (hr : Q.room = P.room) (hb : ∀ no, no < P.most -> Q.base no = P.view no) : Sim Q R.keep := by
 have hv : ∀ no, Q.view no = Q.base no := fun no => by unfold PS.view; rw [hT]; rfl
 have hw : xI Q.most Q.base R.way := by
   rw [hN];exact h.way.congr fun i hi => hb i (by have := h.way.hi; omega)
 exact { most := by rw [hN]; exact h.most, room := by rw [hr]; exact h.room, len := by show (List.replicate R.most false).length = Q.most; rw [List.length_replicate, hN, h.most]
         dirty := fun i => by
           show (List.replicate R.most false).getD i false = true ↔ lk Q.T i ≠ none
           rw [hT, fH, List.getD_eq_getElem?_getD];by_cases c : i < R.most
           · simp [c]
           · rw [List.getElem?_eq_none (by simp; omega)]; simp
         way := hw.congr fun i _ => hv i
         sure := hw }
theorem Sim.turn (h : Sim P R) {Q : PS} (hT : Q.T = P.T) (hN : Q.most = P.most) (hr : Q.room = P.room) (hb : ∀ no, no < P.most -> Q.base no = P.base no) : Sim Q R := by
 have hv : ∀ no, no < P.most -> Q.view no = P.view no := fun no hn => by unfold PS.view; rw [hT, hb no hn]
 exact { most := by rw [hN]; exact h.most, room := by rw [hr]; exact h.room, len := by rw [hN]; exact h.len
         dirty := fun i => by rw [hT]; exact h.dirty i
         way := by rw [hN]; exact h.way.congr fun i hi => hv i (by have := h.way.hi; omega)
         sure := by rw [hN]; exact h.sure.congr fun i hi => hb i (by have := h.sure.hi; omega) }
theorem xI.last (h : xI P.most P.view s) (hf : s.free ≠ []) : s.first ∈ s.free /\ s.kinds.getD s.first 0 = 255 /\ s.rooms.getD s.first ⟨#[]⟩ = yY (if s.free.length - 1 = 0 then 0 else s.free.getD (s.free.length - 1 - 1) 0) := by
 have hl : 0 < s.free.length := List.length_pos_iff.2 hf;have e : s.free[s.free.length - 1]? = some s.first := by
   unfold RSt.first;rw [mI, List.getD_eq_getElem?_getD, List.getElem?_eq_getElem (by omega)];rfl
 exact ⟨List.mem_iff_getElem?.2 ⟨_, e⟩, h.ch _ _ e⟩
theorem zEp (l : List Nat) : (l.take (l.length - 1)).getLast?.getD 0 = if l.length - 1 = 0 then 0 else l.getD (l.length - 1 - 1) 0 := by
 rw [mI, List.length_take];by_cases c : l.length - 1 = 0
 · rw [if_pos c, c, List.take_zero]; rfl
 · rw [if_neg c, show min (l.length - 1) l.length - 1 = l.length - 1 - 1 by omega, List.getD_eq_getElem?_getD, List.getD_eq_getElem?_getD, List.getElem?_take, if_pos (by omega)]
def tkF (most u f : Nat) (o : Option Nat) (e : Nat) : Nat × Int × Nat × Nat := if f = 0 then (if most <= u then (0, 8, u, f) else (u, 0, u + 1, f)) else if e = 0 then (match o with
 | none => (0, 19, u, f)
 | some n => (f, 0, u, n)) else (0, (e : Int), u, f)
theorem zJ0 (P : PS) : P.tk = tkF P.most P.used P.free (nxt P.used (P.view P.free).1) (P.view P.free).2 := by unfold PS.tk tkF; rfl
theorem zMa (most u : Nat) (o : Option Nat) (e : Nat) : tkF most u 0 o e = if most <= u then (0, 8, u, 0) else (u, 0, u + 1, 0) := if_pos rfl
theorem zMy (most u f pv : Nat) (h0 : f ≠ 0) : tkF most u f (some pv) 0 = (f, 0, u, pv) := by
 unfold tkF;rw [if_neg h0, if_pos rfl]
theorem zJ3 (u pv : Nat) (y : ByteArray) (h0 : zT y 0 4 = pv) (h1 : pv < u) (h2 : y = yY pv) : nxt u (255, y) = some pv := by
 subst h0;exact if_pos ⟨h1, congrArg (Prod.mk 255) h2⟩
theorem Sim.tk (h : Sim P R) : P.tk = if R.way.free = [] then (if R.most <= R.way.kinds.length then (0, 8, R.way.kinds.length, 0) else (R.way.kinds.length, 0, R.way.kinds.length + 1, 0)) else (R.way.first, 0, R.way.kinds.length, if R.way.free.length - 1 = 0 then 0 else R.way.free.getD (R.way.free.length - 1 - 1) 0) := by
 have hw := h.way;have hm := hw.m8;have hhi := hw.hi;have e0 := zJ0 P;obtain ⟨T, hT⟩ : ∃ T, T = P.tk := ⟨_, rfl⟩
 rw [<- hT] at e0 ⊢;clear hT;rw [hw.first, hw.used, <- h.most] at e0;by_cases c : R.way.free = []
 · have f0 : R.way.first = 0 := by unfold RSt.first; rw [c]; rfl
   rw [f0, zMa] at e0;rw [if_pos c];exact e0
 · obtain ⟨l1, l2, l3⟩ := hw.last c;obtain ⟨m1, m2⟩ := hw.free _ l1;rw [hw.at_ _ m2] at e0;simp only at e0;rw [l2, l3] at e0;obtain ⟨pv, hpv⟩ : ∃ pv, pv = (if R.way.free.length - 1 = 0 then 0 else R.way.free.getD (R.way.free.length - 1 - 1) 0) := ⟨_, rfl⟩
   rw [<- hpv] at e0;have hlt : pv < R.way.kinds.length := by
     rw [hpv];split
     · omega
     · rename_i c2
       rw [List.getD_eq_getElem?_getD, List.getElem?_eq_getElem (by omega)];exact (hw.free _ (List.getElem_mem _)).2
   rw [zJ3 _ _ _ (zGx pv (by omega)) hlt rfl, zMy _ _ _ pv (by omega)] at e0;rw [if_neg c, <- hpv];exact e0
theorem Sim.alNo_lt (h : Sim P R) (hf : R.way.free ≠ [] \/ R.way.kinds.length < R.most) : 1 <= R.alNo /\ R.alNo < P.most := by
 have hw := h.way;have hhi := hw.hi;have hlo := hw.lo;unfold RS.alNo;by_cases c : R.way.free = []
 · rw [if_pos c];rcases hf with hf | hf
   · exact absurd c hf
   · rw [h.most] at hf; omega
 · rw [if_neg c];have := hw.free _ (hw.last c).1;omega
theorem Sim.alloc (h : Sim P R) (hk : P.Ok) (hd : P.s.down = false) (k : Nat) (h2 : 2 <= k) (h3 : k <= 254) (hf : R.way.free ≠ [] \/ R.way.kinds.length < R.most) :
   P.alE (k : Int) = (if R.big [R.alNo, 0] then 10 else 0) /\ P.alN (k : Int) = (if R.big [R.alNo, 0] then 0 else R.alNo) /\ Sim (P.al (k : Int)) (if R.big [R.alNo, 0] then R else R.alK k) := by
 have hw := h.way;have hm := hw.m8;have hhi := hw.hi;have hlo := hw.lo;have hkr := hw.kr;have hT := hk.T.1;obtain ⟨n1, n2⟩ := h.alNo_lt hf;have htk := h.tk;have hkd : PS.kd (k : Int) = true := by unfold PS.kd; simp; omega
 have hmo := h.most;obtain ⟨u, f, ht, hu⟩ : ∃ u f, P.tk = (R.alNo, 0, u, f) /\ (u = (R.grow.laid R.alNo k (fl ⟨#[]⟩)).way.kinds.length /\ f = (R.grow.laid R.alNo k (fl ⟨#[]⟩)).way.first) := by
   unfold RS.alNo RS.grow;by_cases c : R.way.free = []
   · have hlt : ¬ R.most <= R.way.kinds.length := by
       rcases hf with hf | hf
       · exact absurd c hf
       · omega
     rw [if_pos c, if_neg hlt] at htk;rw [if_pos c, if_pos c];refine ⟨_, _, htk, by simp [RS.laid], ?_⟩;show 0 = (R.way.free.getLast?).getD 0
     rw [c]; rfl
   · rw [if_neg c] at htk;rw [if_neg c, if_neg c];refine ⟨_, _, htk, by simp [RS.laid], ?_⟩;exact (zEp R.way.free).symm
 have hL : P.alL (k : Int) = [(0, (1, zJ u f P.root)), (R.alNo, (k, ⟨#[]⟩))] := by
   unfold PS.alL;rw [ht];rfl
 have hb := h.big2 hT (show R.alNo ≠ 0 by omega) (k, ⟨#[]⟩) (1, zJ u f P.root);have eE : P.alE (k : Int) = P.chgE (P.alL (k : Int)) := by unfold PS.alE; rw [hkd, hd, ht]; rfl
 have eA : P.al (k : Int) = P.chg (P.alL (k : Int)) := by unfold PS.al; rw [hkd, hd, ht]; rfl
 rw [hL] at eE eA;by_cases c : (P.put [(0, (1, zJ u f P.root)), (R.alNo, (k, ⟨#[]⟩))]).T.length <= P.room
 · have hbg : R.big [R.alNo, 0] = false := by rw [hb]; simp [c]
   unfold PS.chgE at eE;unfold PS.chg at eA;rw [if_pos c] at eE eA;have eN : P.alN (k : Int) = R.alNo := by unfold PS.alN; rw [if_pos eE, ht]
   rw [eE, eN, eA, hbg];refine ⟨rfl, rfl, ?_⟩;show Sim _ (R.alK k)
   unfold RS.alK;by_cases cf : R.way.free = []
   · have en : R.alNo = R.way.kinds.length := if_pos cf;have eg : R.grow = { R with way := { R.way with kinds := R.way.kinds ++ [0], rooms := R.way.rooms ++ [⟨#[]⟩] } } := if_pos cf;rw [eg] at hu ⊢;obtain ⟨hu1, hu2⟩ := hu;have hu3 : u = R.way.kinds.length + 1 := by rw [hu1]; simp [RS.laid]
     refine h.two hT n1 n2 ⟨rfl, rfl, rfl, rfl⟩ hu1 hu2 (fun i hi => hw.root hi) (by omega) (by omega) (by simp [RS.laid]; omega) ?_ ?_ ?_ ?_ hw.roots (fun x hx => ?_) hw.nd ?_
     · show ((R.way.kinds ++ [0]).set R.alNo k).getD 0 0 = 1
       rw [zY, if_neg (by omega), fV, if_neg (by omega)];exact hw.hk
     · show ((R.way.kinds ++ [0]).set R.alNo k).getD R.alNo 0 = k
       rw [zY];rw [if_pos];exact ⟨rfl, by simp; omega⟩
     · show ((R.way.rooms ++ [(⟨#[]⟩ : ByteArray)]).set R.alNo (fl ⟨#[]⟩)).getD R.alNo ⟨#[]⟩ = fl ⟨#[]⟩
       rw [zY];rw [if_pos];exact ⟨rfl, by simp; omega⟩
     · intro i hi h0 hne;show P.view i = ((((R.way.kinds ++ [0]).set R.alNo k).getD i 0, ((R.way.rooms ++ [(⟨#[]⟩ : ByteArray)]).set R.alNo (fl ⟨#[]⟩)).getD i ⟨#[]⟩), 0)
       rw [zY, if_neg (fun e => hne e.1.symm), zY, if_neg (fun e => hne e.1.symm), fV, if_neg (by omega), fV, if_neg (by omega)];exact hw.at_ i (by omega)
     · have hx : x ∈ R.way.free := hx;rw [cf] at hx; cases hx
     · intro j x hx;have hx : R.way.free[j]? = some x := hx;rw [cf] at hx; simp at hx
   · have en : R.alNo = R.way.first := if_neg cf;have eg : R.grow = { R with way := { R.way with free := R.way.free.take (R.way.free.length - 1) } } := if_neg cf;rw [eg] at hu ⊢;obtain ⟨hu1, hu2⟩ := hu;have hu3 : u = R.way.kinds.length := by rw [hu1]; simp [RS.laid]
     obtain ⟨l1, -, -⟩ := hw.last cf;have hlt := (hw.free _ l1).2;have hne9 : ∀ (j x : Nat), (R.way.free.take (R.way.free.length - 1))[j]? = some x -> R.way.free[j]? = some x /\ x ≠ R.alNo := fun j x hx => by
       rw [List.getElem?_take] at hx;split at hx
       · rename_i hj
         refine ⟨hx, fun e => ?_⟩;have e2 : R.way.free[R.way.free.length - 1]? = some R.way.first := by
           unfold RSt.first;rw [mI, List.getD_eq_getElem?_getD, List.getElem?_eq_getElem (by omega)];rfl
         rw [e, en] at hx;have hp := List.pairwise_iff_getElem.1 hw.nd j (R.way.free.length - 1) (by omega) (by omega) hj;rw [List.getElem?_eq_getElem (by omega)] at hx e2;injection hx with hx;injection e2 with e2;exact hp (hx.trans e2.symm)
       · cases hx
     refine h.two hT n1 n2 ⟨rfl, rfl, rfl, rfl⟩ hu1 hu2 (fun i hi => hw.root hi) (by omega) (by omega) (by simp [RS.laid]; omega) ?_ ?_ ?_ ?_ hw.roots (fun x hx => ?_) ((List.take_sublist _ _).nodup hw.nd) ?_
     · show (R.way.kinds.set R.alNo k).getD 0 0 = 1
       rw [zY, if_neg (by omega)];exact hw.hk
     · show (R.way.kinds.set R.alNo k).getD R.alNo 0 = k
       rw [zY, if_pos ⟨rfl, by omega⟩]
     · show (R.way.rooms.set R.alNo (fl ⟨#[]⟩)).getD R.alNo ⟨#[]⟩ = fl ⟨#[]⟩
       rw [zY, if_pos ⟨rfl, by omega⟩]
     · intro i hi h0 hne;show P.view i = (((R.way.kinds.set R.alNo k).getD i 0, (R.way.rooms.set R.alNo (fl ⟨#[]⟩)).getD i ⟨#[]⟩), 0)
       rw [zY, if_neg (fun e => hne e.1.symm), zY, if_neg (fun e => hne e.1.symm)];exact hw.at_ i (by omega)
     · have := hw.free x (List.mem_of_mem_take hx);omega
     · intro j x hx;obtain ⟨q1, q2⟩ := hne9 j x hx;show (R.way.kinds.set R.alNo k).getD x 0 = 255 /\ (R.way.rooms.set R.alNo (fl ⟨#[]⟩)).getD x ⟨#[]⟩ = yY (if j = 0 then 0 else (R.way.free.take (R.way.free.length - 1)).getD (j - 1) 0)
       rw [zY, if_neg (fun e => q2 e.1.symm), zY, if_neg (fun e => q2 e.1.symm)];obtain ⟨r1, r2⟩ := hw.ch j x q1;refine ⟨r1, ?_⟩;rw [r2];by_cases cj : j = 0
       · rw [if_pos cj, if_pos cj]
       · rw [if_neg cj, if_neg cj, List.getD_eq_getElem?_getD, List.getD_eq_getElem?_getD, List.getElem?_take];have hj : j < R.way.free.length - 1 := by
           have hx : (R.way.free.take (R.way.free.length - 1))[j]? = some x := hx;rw [List.getElem?_take] at hx;split at hx
           · assumption
           · cases hx
         rw [if_pos (by omega)]
 · have hbg : R.big [R.alNo, 0] = true := by rw [hb]; simp [c]
   unfold PS.chgE at eE;unfold PS.chg at eA;rw [if_neg c] at eE eA;have eN : P.alN (k : Int) = 0 := by unfold PS.alN; rw [if_neg (by omega)]
   rw [eE, eN, eA, hbg];exact ⟨rfl, rfl, h⟩
theorem Sim.alloc_full (h : Sim P R) (hd : P.s.down = false) (k : Nat) (h2 : 2 <= k) (h3 : k <= 254) (hf : R.way.free = []) (hm : R.most <= R.way.kinds.length) : P.alE (k : Int) = 8 /\ P.alN (k : Int) = 0 /\ P.al (k : Int) = P := by
 have htk := h.tk;rw [if_pos hf, if_pos hm] at htk;have hkd : PS.kd (k : Int) = true := by unfold PS.kd; simp; omega
 have eE : P.alE (k : Int) = 8 := by unfold PS.alE; rw [hkd, hd, htk]; rfl
 refine ⟨eE, by unfold PS.alN; rw [if_neg (by omega)], by unfold PS.al; rw [hkd, hd, htk]; rfl⟩
theorem Zk (k : Nat) (h : k < 2 \/ 254 < k) : P.alE (k : Int) = 1 /\ P.alN (k : Int) = 0 /\ P.al (k : Int) = P := by
 have hkd : PS.kd (k : Int) = false := by unfold PS.kd; simp; omega
 have eE : P.alE (k : Int) = 1 := by unfold PS.alE; rw [hkd]; rfl
 exact ⟨eE, by unfold PS.alN; rw [if_neg (by omega)], by unfold PS.al; rw [hkd]; rfl⟩
theorem Sim.free (h : Sim P R) (hk : P.Ok) (hd : P.s.down = false) (no : Nat) (h1 : 1 <= no) (h2 : no < R.way.kinds.length) (hn : R.way.kinds.getD no 0 ≠ 255) :
   P.frE no = (if R.big [no, 0] then 10 else 0) /\ Sim (P.fre no) (if R.big [no, 0] then R else R.relK no) := by
 have hw := h.way;have hm := hw.m8;have hhi := hw.hi;have hlo := hw.lo;have hkr := hw.kr;have hT := hk.T.1;have hmo := h.most;have hoth : P.others (no : Int) = true := by
   unfold PS.others PS.pages;rw [hd, hw.used];simp;omega
 have hvw := hw.at_ no h2;have hL : P.frL no = [(0, (1, zJ R.way.kinds.length no P.root)), (no, (255, yY R.way.first))] := by unfold PS.frL; rw [hw.used, hw.first]
 have hb := h.big2 hT (show no ≠ 0 by omega) (255, yY R.way.first) (1, zJ R.way.kinds.length no P.root);have eE : P.frE no = P.chgE (P.frL no) := by
   unfold PS.frE;rw [if_pos hoth, hvw, if_pos rfl, if_neg hn]
 have eA : P.fre no = P.chg (P.frL no) := by
   unfold PS.fre;rw [if_pos hoth, hvw, if_pos rfl, if_neg hn]
 rw [hL] at eE eA;have nf : no ∉ R.way.free := fun hmem => by
   obtain ⟨j, hj⟩ := List.mem_iff_getElem?.1 hmem;exact hn (hw.ch j no hj).1
 by_cases c : (P.put [(0, (1, zJ R.way.kinds.length no P.root)), (no, (255, yY R.way.first))]).T.length <= P.room
 · have hbg : R.big [no, 0] = false := by rw [hb]; simp [c]
   unfold PS.chgE at eE;unfold PS.chg at eA;rw [if_pos c] at eE eA;rw [eE, eA, hbg];refine ⟨rfl, ?_⟩;show Sim _ (R.relK no)
   unfold RS.relK;refine h.two hT h1 (by omega) ⟨rfl, rfl, rfl, rfl⟩ (by simp [RS.laid, RS.more]) ?_ (fun i hi => hw.root hi) h2 (by omega) (by simp [RS.laid, RS.more]; omega) ?_ ?_ ?_ ?_ hw.roots (fun x hx => ?_) ?_ ?_
   · show no = ((R.way.free ++ [no]).getLast?).getD 0
     simp
   · show (R.way.kinds.set no 255).getD 0 0 = 1
     rw [zY, if_neg (by omega)];exact hw.hk
   · show (R.way.kinds.set no 255).getD no 0 = 255
     rw [zY, if_pos ⟨rfl, h2⟩]
   · show (R.way.rooms.set no (yY R.way.first)).getD no ⟨#[]⟩ = fl (yY R.way.first)
     rw [zY, if_pos ⟨rfl, by omega⟩, vL _ (Jt _)]
   · intro i hi h0 hne;show P.view i = (((R.way.kinds.set no 255).getD i 0, (R.way.rooms.set no (yY R.way.first)).getD i ⟨#[]⟩), 0)
     rw [zY, if_neg (fun e => hne e.1.symm), zY, if_neg (fun e => hne e.1.symm)];exact hw.at_ i hi
   · have hx : x ∈ R.way.free \/ x = no := by simpa [RS.laid, RS.more] using hx
     rcases hx with hx | rfl
     · exact hw.free x hx
     · exact ⟨h1, h2⟩
   · show (R.way.free ++ [no]).Nodup
     refine List.pairwise_append.2 ⟨hw.nd, List.pairwise_singleton _ _, fun a ha b hb => ?_⟩;obtain rfl : b = no := by simpa using hb
     exact fun e => nf (e ▸ ha)
   · intro j x hx;have hx : (R.way.free ++ [no])[j]? = some x := hx;show (R.way.kinds.set no 255).getD x 0 = 255 /\ (R.way.rooms.set no (yY R.way.first)).getD x ⟨#[]⟩ = yY (if j = 0 then 0 else (R.way.free ++ [no]).getD (j - 1) 0)
     rw [zY, zY];by_cases cj : j < R.way.free.length
     · rw [List.getElem?_append_left cj] at hx;have hne : no ≠ x := fun e => nf (e ▸ List.mem_iff_getElem?.2 ⟨j, hx⟩)
       rw [if_neg (fun e => hne e.1), if_neg (fun e => hne e.1), fV, if_neg (show ¬ (j - 1 = R.way.free.length) by omega)];exact hw.ch j x hx
     · have cj2 : j = R.way.free.length := by
         have := (List.getElem?_eq_some_iff.1 hx).1;simp at this;omega
       subst cj2;rw [List.getElem?_append_right (by omega)] at hx;obtain rfl : no = x := by simpa using hx
       rw [if_pos ⟨rfl, h2⟩, if_pos ⟨rfl, by omega⟩];refine ⟨rfl, ?_⟩;congr 1
       unfold RSt.first;rw [mI, fV];by_cases c0 : R.way.free.length = 0
       · rw [if_pos c0, List.eq_nil_of_length_eq_zero c0]; rfl
       · rw [if_neg c0, if_neg (by omega)]
 · have hbg : R.big [no, 0] = true := by rw [hb]; simp [c]
   unfold PS.chgE at eE;unfold PS.chg at eA;rw [if_neg c] at eE eA;rw [eE, eA, hbg];exact ⟨rfl, h⟩
theorem Sim.free_none (h : Sim P R) (hd : P.s.down = false) (no : Nat) (h1 : 1 <= no) (h2 : no < R.way.kinds.length) (hn : R.way.kinds.getD no 0 = 255) : P.frE no = 6 /\ P.fre no = P := by
 have hw := h.way;have hoth : P.others (no : Int) = true := by
   unfold PS.others PS.pages;rw [hd, hw.used];simp;omega
 unfold PS.frE PS.fre;rw [if_pos hoth, if_pos hoth, hw.at_ no h2, if_pos rfl, if_pos rfl, if_pos hn, if_pos hn];exact ⟨rfl, rfl⟩
theorem Sim.others (h : Sim P R) (hd : P.s.down = false) (no : Int) : P.others no = (decide (1 <= no) && decide (no < (R.way.kinds.length : Int))) := by
 unfold PS.others PS.pages;rw [hd, h.way.used];rfl
theorem Sim.wr (h : Sim P R) (hk : P.Ok) (hd : P.s.down = false) (no : Int) (k : Nat) (t : ByteArray) (hn : 0 <= no -> no < (R.way.kinds.length : Int) -> R.way.kinds.getD no.toNat 0 ≠ 255) :
   P.wrE no (k : Int) t = R.wrE no (k : Int) t /\ Sim (P.wr no (k : Int) t) (R.wr no (k : Int) t) := by
 have hT := hk.T.1;have hc : P.wrC no (k : Int) = R.wrC no (k : Int) := by
   unfold PS.wrC RS.wrC;rw [h.others hd]
 unfold PS.wrE PS.wr RS.wrE RS.wr;rw [hc];cases c : R.wrC no (k : Int) with
 | false => exact ⟨rfl, h⟩
 | true =>
   by_cases cs : t.size <= 496
   · rw [if_pos rfl, if_pos rfl, if_pos rfl, if_pos rfl, if_pos cs, if_pos cs, if_pos cs, if_pos cs];have h9 : (1 <= no /\ no < (R.way.kinds.length : Int)) /\ 2 <= (k : Int) /\ (k : Int) <= 254 := by unfold RS.wrC at c; simpa using c
     have hb := h.big1 hT no.toNat (k, t);have ek : (k : Int).toNat = k := Int.toNat_natCast k;rw [ek];unfold PS.chgE PS.chg;by_cases cl : (P.put [(no.toNat, (k, t))]).T.length <= P.room
     · have hbg : R.big [no.toNat] = false := by rw [hb]; simp [cl]
       rw [if_pos cl, if_pos cl, hbg];exact ⟨rfl, h.write hT (by omega) (by omega) (hn (by omega) h9.1.2)⟩
     · have hbg : R.big [no.toNat] = true := by rw [hb]; simp [cl]
       rw [if_neg cl, if_neg cl, hbg];exact ⟨rfl, h⟩
   · rw [if_pos rfl, if_pos rfl, if_pos rfl, if_pos rfl, if_neg cs, if_neg cs, if_neg cs, if_neg cs];exact ⟨rfl, h⟩
theorem Sim.root (h : Sim P R) (hk : P.Ok) (i x : Nat) (hi : i < 8) (hx : x < 18446744073709551616) : P.chgE (P.srL i x) = R.srE /\ Sim (P.chg (P.srL i x)) (R.sr i x) := by
 have hw := h.way;have hT := hk.T.1;have hm := hw.m8;have hhi := hw.hi;have hlo := hw.lo;have hkr := hw.kr;have hL : P.srL i x = [(0, (1, zJ R.way.kinds.length R.way.first (upR P.root i x)))] := by unfold PS.srL; rw [hw.used, hw.first]
 have hb := h.big1 hT 0 (1, zJ R.way.kinds.length R.way.first (upR P.root i x));rw [hL];unfold PS.chgE PS.chg RS.srE RS.sr;by_cases cl : (P.put [(0, (1, zJ R.way.kinds.length R.way.first (upR P.root i x)))]).T.length <= P.room
 · have hbg : R.big [0] = false := by rw [hb]; simp [cl]
   rw [if_pos cl, if_pos cl, hbg];refine ⟨rfl, ?_⟩;show Sim _ ((R.upRoot i x).touch [0])
   have hasc : asc [(0, ((1, zJ R.way.kinds.length R.way.first (upR P.root i x)) : Pag))] := by unfold asc; simp
   have hrr : ∀ j, j < 8 -> upR P.root i x j = upR R.way.roots i x j := fun j hj => by
     unfold upR;split
     · rfl
     · exact hw.root hj
   have e9 : zJ R.way.kinds.length R.way.first (upR P.root i x) = zJ R.way.kinds.length R.way.first (upR R.way.roots i x) := qP _ _ _ _ hrr;refine h.change (way' := ((R.upRoot i x).touch [0]).way) (D := fC R.dirty [0]) hT hasc ?_ (by rw [Yn]; exact h.len) fun j => ?_
   · have hl : ((R.upRoot i x).touch [0]).way.rooms = R.way.rooms.set 0 (zJ R.way.kinds.length R.way.first (upR R.way.roots i x)) := rfl;exact {
       m8 := hm
       kr := by rw [hl, List.length_set]; exact hkr
       lo := hlo
       hi := hhi
       at_ := fun j hj => by
         have hj : j < R.way.kinds.length := hj;rw [jH hT hasc, Ys, hl, zY];show _ = ((R.way.kinds.getD j 0, _), 0)
         by_cases c0 : (0 : Nat) = j
         · subst c0;rw [if_pos rfl, if_pos ⟨rfl, by omega⟩];simp only;rw [vL _ (yO _ _ _), e9, hw.hk]
         · rw [if_neg c0, if_neg (show ¬ (0 = j /\ 0 < R.way.rooms.length) from fun e => c0 e.1)];exact hw.at_ j hj
       hk := hw.hk
       hr := by
         rw [hl, zY, if_pos ⟨rfl, by omega⟩];rfl
       roots := fun j hj => by
         show upR R.way.roots i x j < _
         unfold upR;split
         · exact hx
         · exact hw.roots j hj
       free := hw.free
       nd := hw.nd
       ch := fun j y hy => by
         have hy : R.way.free[j]? = some y := hy;have h1 := hw.free y (List.mem_iff_getElem?.2 ⟨j, hy⟩);rw [hl, zY, if_neg (fun e => by omega)];exact hw.ch j y hy }
   · rw [Yh _ _ _ (fun y hy => by
       obtain rfl : y = 0 := by simpa using hy
       rw [h.len]; omega), Ys]
     have hm : j ∈ [0] ↔ j = 0 := by simp
     rw [hm];by_cases c0 : (0 : Nat) = j
     · rw [if_pos c0];exact ⟨fun _ => .inl (by simp), fun _ => .inl c0.symm⟩
     · rw [if_neg c0];exact ⟨fun h => h.elim (fun e => absurd e.symm c0) .inr, fun h => h.elim (fun h => absurd rfl h) .inr⟩
 · have hbg : R.big [0] = true := by rw [hb]; simp [cl]
   rw [if_neg cl, if_neg cl, hbg];exact ⟨rfl, h⟩
theorem qC.sim {N ll room : Nat} (h : qC P N ll room) (hk : P.Ok) (hm : 1 <= (N - 2 - ll) / 8) (h8 : (N - 2 - ll) / 8 <= 8191) : Sim P (rs0 ((N - 2 - ll) / 8) room) := by
 have hmo := h.most;have hb : xI P.most P.base st0 := by
   rw [hmo];exact {
     m8 := h8, kr := rfl, lo := by decide, hi := hm
     at_ := fun i hi => by
       obtain rfl : i = 0 := by have : i < 1 := hi; omega
       rw [h.hd];rfl
     hk := rfl, hr := rfl
     roots := fun i _ => by show 0 < _; omega
     free := fun x hx => by cases hx
     nd := List.nodup_nil
     ch := fun j x hx => by
       have hx : ([] : List Nat)[j]? = some x := hx;simp at hx }
 have hv : ∀ i, P.view i = P.base i := fun i => by unfold PS.view; rw [h.T]; rfl
 exact {
   most := hmo.symm, room := h.room.symm, len := by show (List.replicate _ false).length = _; rw [List.length_replicate, hmo]
   dirty := fun i => by
     show (List.replicate ((N - 2 - ll) / 8) false).getD i false = true ↔ lk P.T i ≠ none
     rw [h.T, fH, List.getD_eq_getElem?_getD];by_cases c : i < (N - 2 - ll) / 8
     · simp [c]
     · rw [List.getElem?_eq_none (by simp; omega)]; simp
   way := hb.congr fun i _ => hv i
   sure := hb }
end
end Go.Proofs.YthijgebmoadgkaaGreatDoor
