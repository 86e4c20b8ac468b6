import Derived.Test.YtibnackmddigaaaSpnU
import Derived.Test.YtibnackmddigaaaSpnX
set_option linter.unusedVariables false
set_option linter.unusedSimpArgs false
set_option linter.unusedSectionVars false
namespace Go.Proofs.Ytibnackmddigaaa.Pl
open Go.ChangeShapes Go.WideShapes Go.ChangeAt Go.RowKit Go.Proofs.Ytibnackmddigaaa.Mp
def Gd (f:Hf->Hf) (H met:List Hf):Prop:=met.Nodup/\(∀ x∈met,x∈H)/\∀ x∈met,f x∈met
theorem Gd.next {f:Hf->Hf} {H met:List Hf} (hi:∀ x∈H,∀ y∈H,f x=f y->x=y) (hD:∀ x∈H,f x∈H) (h:Gd f H met) {x:Hf} (hx:x∈H) (hn:x∉met):Gd f H (met++rwk f H.length [] x):=by
 have e1:rwk f H.length [] x=yI f H.length met x:=by
  have:=Vf hi hD h.1 h.2.1 h.2.2 H.length [] x hx hn;simpa using this
 have e3:=vQ hD H.length met x h.1 h.2.1 hx (by omega) (λx hx=>.inl (h.2.2 x hx));rw[e1];exact ⟨e3.1,e3.2.1,e3.2.2⟩
theorem Ym (L:List Hf):∀ u∈hC L,u.oneCell'=true:=λu hu=>by
 unfold hC at hu;obtain ⟨x,_,hx⟩:=List.mem_flatMap.1 hu;simp at hx;rcases hx with rfl|rfl<;>rfl
theorem HIn.src {w:World} {b o n c:Nat} {L:List Hf} (h:HIn w (.slice (some ⟨b,o,none⟩) n c) L):∀ j u,(hC L)[j]?=some u->w.cell? ((⟨b,o,none⟩:Addr).add j)=some u:=λj u hu=>by
 have hj:j<L.length*2:=by rw[<- qP];exact (List.getElem?_eq_some_iff.1 hu).1
 obtain ⟨a,cap,e,_,_,h5⟩:=h;rcases h5 with rfl|⟨b',o',e2,_,hcl⟩
 ·simp at hj
 subst e2;obtain ⟨e3,-,-⟩:=Value.slice.inj e;cases e3
 have e:(⟨b,o,none⟩:Addr).add j=⟨b,o+j,none⟩:=by unfold Addr.add;split<;>simp_all
 rw[e];obtain ⟨q,k⟩:∃ q,j=q*2\/j=q*2+1:=⟨j / 2,by omega⟩
 have hq:q<L.length:=by omega
 obtain ⟨a0,a1⟩:=Uf L q hq;obtain ⟨c0,c1⟩:=hcl q hq;rcases k with rfl|rfl
 ·rw[a0]at hu;rw[<- Option.some.inj hu];exact c0
 rw[a1]at hu;rw[<- Option.some.inj hu,<- Nat.add_assoc];exact c1
structure RrS (w:World) (p B3:Nat) (pv pe hv:Value) (H:List Hf) (mv:Value) (met:List Hf) (rv:Value) (PL:List (Value × List Hf)):Prop where
 plan:Own w p 25 #[pv,pe]
 hal:zY w B3 hv H
 met_:zY w B3 mv met
 rin:jA w B3 rv PL
 apH:∀ g,mv.ownBlock=some g->hv.ownBlock≠some g
 apR:∀ g,mv.ownBlock=some g->∀ x∈PL,x.1.ownBlock≠some g
def RrZ (p:Nat) (hv mv rv:Value) (PL:List (Value × List Hf)) (q:Nat):Prop:=q=p\/hv.ownBlock=some q\/mv.ownBlock=some q\/rv.ownBlock=some q\/∃ x∈PL,x.1.ownBlock=some q
section
variable {w w' : World} {p B3 : Nat} {pv pe hv mv rv : Value} {H met : List Hf} {PL : List (Value × List Hf)}
theorem RrS.keep {S:Nat->Prop} (h:RrS w p B3 pv pe hv H mv met rv PL) (hc:Chg S w w') (hS:∀ q,S q->¬ RrZ p hv mv rv PL q):RrS w' p B3 pv pe hv H mv met rv PL :=
 ⟨hc.own h.plan λk=>hS _ k (.inl rfl),h.hal.keep hc λg hg k=>hS _ k (.inr (.inl hg)),h.met_.keep hc λg hg k=>hS _ k (.inr (.inr (.inl hg))),
  h.rin.keep hc (λg hg k=>hS _ k (.inr (.inr (.inr (.inl hg))))) λx hx g hg k=>hS _ k (.inr (.inr (.inr (.inr ⟨x,hx,hg⟩)))),h.apH,h.apR⟩
theorem RrS.below (h:RrS w p B3 pv pe hv H mv met rv PL) (hb:Below w.heap.size w w'):RrS w' p B3 pv pe hv H mv met rv PL:=h.keep (Chg.of (S:=λ_=>False) hb) λ_ k=>k.elim
theorem RrS.foot (h:RrS w p B3 pv pe hv H mv met rv PL) {q:Nat} (k:RrZ p hv mv rv PL q):q<w.heap.size:=by
 rcases k with rfl|k|k|k|⟨x,hx,k⟩
 ·exact h.plan.in_
 ·exact h.hal.lt k
 ·exact h.met_.lt k
 ·exact (h.rin.foot.1 q k).2
 exact (h.rin.foot.2 x hx q k).2
theorem Jz {T:TypeId} {k n:Nat} {v:Value} {xs:List Value} {B:Nat} (h:w.ownsRow B T k v n xs) {g:Nat} (hg:v.ownBlock=some g):∃ cur,Own w g T cur:=(yL h hg).2
theorem RrS.metrow (h:RrS w p B3 pv pe hv H mv met rv PL) {v9:Value} {met':List Hf} (hg:w.grownBy w' mv.ownBlock) (hr:zY w' B3 v9 met') (hl:v9.ownBlock=mv.ownBlock\/v9.ownBlock=some w.heap.size):RrS w' p B3 pv pe hv H v9 met' rv PL:=by
 have hc:Chg (λq=>mv.ownBlock=some q) w w':=(Chg.refl _ _).grown hg λk hk=>.inl hk
 refine ⟨hc.own h.plan λk => ?_,h.hal.keep hc λg hg k=>h.apH g k hg,hr,h.rin.keep hc (λg hg k => ?_) λx hx g hg k=>h.apR g k x hx hg,λg hg e => ?_,λg hg x hx e => ?_⟩
 ·obtain ⟨cur,ho⟩:=Jz h.met_ k;exact xO h.plan ho (by decide) rfl
 ·obtain ⟨cur,ho⟩:=Jz h.met_ k;obtain ⟨cur2,ho2⟩:=Jz h.rin.1 hg;exact xO ho2 ho (by decide) rfl
 ·rcases hl with hl|hl
  ·exact h.apH g (hl▸hg) e
  have e2:g=w.heap.size:=by rw[hl]at hg;exact (Option.some.inj hg).symm
  have:=h.hal.lt e;omega
 rcases hl with hl|hl
 ·exact h.apR g (hl▸hg) x hx e
 have e2:g=w.heap.size:=by rw[hl]at hg;exact (Option.some.inj hg).symm
 have:=(h.rin.foot.2 x hx g e).2;omega
theorem RrS.ringrow (h:RrS w p B3 pv pe hv H mv met rv PL) {v9:Value} {PL':List (Value × List Hf)} (hg:w.grownBy w' rv.ownBlock) (hr:w'.ownsRow B3 40 1 v9 PL'.length (PL'.map (·.1))) (hx:∀ x∈PL',zY w B3 x.1 x.2) (ha:∀ g,mv.ownBlock=some g->∀ x∈PL',x.1.ownBlock≠some g):RrS w' p B3 pv pe hv H mv met v9 PL':=by
 have hc:Chg (λq=>rv.ownBlock=some q) w w':=(Chg.refl _ _).grown hg λk hk=>.inl hk
 have keyr:∀ {v:Value} {l:List Hf} {B:Nat},zY w B v l->zY w' B v l:=λho=>ho.keep hc λg hg k=>by
  obtain ⟨_,cur,ho2⟩:=ho.own hg;obtain ⟨cur3,ho3⟩:=Jz h.rin.1 k;exact xO ho2 ho3 (by decide) rfl
 refine ⟨hc.own h.plan λk => ?_,keyr h.hal,keyr h.met_,⟨hr,λx k=>keyr (hx x k)⟩,h.apH,ha⟩;obtain ⟨cur3,ho3⟩:=Jz h.rin.1 k;exact xO h.plan ho3 (by decide) rfl
end
section
variable {v e : Value} {vs : List Vx} {es : List Eg} {w : World}
set_option maxRecDepth 10000 in
set_option maxHeartbeats 2000000 in
theorem Ut (hv:VIn w v vs) (he:EIn w e es) (fV':FlV vs) (hE:FlE vs es) (hn:vs.length<=30000) (hm:es.length<=30000):Calls Try.prog 25 #[.agg #[v,e]] w λr w' =>
 ∃ u PL,r=.returned u/\jA w' w.heap.size u PL/\PL.map (·.2)=rgs (nx vs es) (2*es.length) (hfs es) []/\Below w.heap.size w w':=by
 have HA:=Lh (λ(W:World) (hW:Below w.heap.size w W)=>gP (v:=v) (by obtain ⟨a,c,h⟩:=hv.sl;exact ⟨_,_,_,h⟩) (TIn.below he hW) hm);have NX:=Lh (λ(W:World) (hW:Below w.heap.size w W) (h:Hf) (hh:h∈hfs es)=>Jd (TIn.below hv hW) (TIn.below he hW) fV' hE hn hm h hh);have LN:Hid ((hfs es).length<=60000):=Lh (by rw[vV];omega);have RG:Hid (rgs (nx vs es) (2*es.length) (hfs es) []=rgs (nx vs es) (hfs es).length (hfs es) []):=Lh (by rw[vV]);have NM:Hid (∀ h∈hfs es,nx vs es h∈hfs es):=Lh λh hh=>(qI hh).1
 have GN:=Lh (λ(met:List Hf) (h:Gd (nx vs es) (hfs es) met) (x:Hf) (hx:x∈hfs es) (hn:x∉met)=>Gd.next (λx hx y hy=>Ve hE hx hy) (λx hx=>(qI hx).1) h hx hn);obtain ⟨RR,hRR⟩:∃ RR,RR=rgs (nx vs es) (2*es.length) (hfs es) []:=⟨_,rfl⟩
 rw[<- hRR]at RG ⊢;clear hRR;obtain ⟨a,c,rfl⟩:=hv.sl;obtain ⟨a',c',rfl⟩:=he.sl;have PO:=Lh (Own.made w 25 #[.slice a vs.length c,.slice a' es.length c']);have BB:=Lh (bx1 w 25 #[.slice a vs.length c,.slice a' es.length c']);clear hv he;generalize nx vs es=f at *
 generalize hfs es=H at *
 generalize vs.length=n0 at *
 generalize es.length=m0 at *
 obtain ⟨n,hnn⟩:∃ n,n=H.length:=⟨_,rfl⟩
 rw[<- hnn]at RG LN;have HN:=Lh hnn;clear hnn;have hnb:n<=60000:=LN.out;go_enter Try.func25,Try.ntmps25;obtain ⟨p1,p2⟩:=zM PO.out;go_upto_region 4 with (go_at_call 45;refine (HA.out _ BB.out).mono ?_;rintro e w2 ⟨hv,rfl,ho,b2⟩;have HO:=Lh ho;have B2:=Lh b2;clear ho b2)
 clear p1 p2;obtain ⟨W1,hW1⟩:∃ W1,W1=w.alloc (.cells #[.slice a n0 c,.slice a' m0 c'] 25):=⟨_,rfl⟩
 rw[<- hW1]at PO BB HO B2;have HB2:=Lh (zF BB.out B2.out BB.out.size);have SZ1:Hid (w.heap.size<=W1.heap.size):=Lh BB.out.size;have RS:Hid (RrS w2 w.heap.size W1.heap.size (.slice a n0 c) (.slice a' m0 c') hv H (.slice none 0 0) [] (.slice none 0 0) []):=Lh ⟨PO.out.keep B2.out,HO.out,zY.nil _ _,jA.nil _ _,λg hg=>(by cases hg),λg hg=>(by cases hg)⟩;obtain ⟨ah,ch,hsh⟩:=HO.out.shape;subst hsh;rw[<- HN.out]at RS HO ⊢;clear HO PO BB B2 HA hW1;generalize W1.heap.size=B3 at *
 go_wp2;go_loopw [3,4,6] (λrv mv j wr=>∃ (k:Nat) (met:List Hf) (PL:List (Value × List Hf)),k<=n/\j=.int .i64 (k:Int)/\Hid (∃ ar cr,rv=.slice ar PL.length cr)/\Hid (∃ am cm,mv=.slice am met.length cm)/\Hid (RrS wr w.heap.size B3 (.slice a n0 c) (.slice a' m0 c') (.slice ah n ch) H mv met rv PL)/\Hid (RR=PL.map (·.2)++rgs f n (H.drop k) met)/\Hid (Gd f H met)/\Hid (PL.length<=k)/\Hid (Below w.heap.size w wr)) (λrv mv j wr=>n - (intOf j).toNat)
 case atStart=>exact ⟨0,[],[],by omega,rfl,Lh ⟨none,0,rfl⟩,Lh ⟨none,0,rfl⟩,RS,Lh (by rw[List.drop_zero];exact RG.out),Lh ⟨List.nodup_nil,λx hx=>(by cases hx),λx hx=>(by cases hx)⟩,Lh (Nat.zero_le _),HB2⟩
 case round =>
  clear RS HB2;obtain ⟨k,met,PL,hk,rfl,HSR,HSM,HS,HR,HG,HPL,HB⟩:=hrel;by_cases hlt:k<n
  ·have hkl:k<H.length:=by rw[<- HN.out];exact hlt
   have hki:(k:Int)<(n:Int):=by omega
   obtain ⟨ar,cr,hsh⟩:=HSR.out;subst hsh;obtain ⟨am,cm,hsh⟩:=HSM.out;subst hsh;clear HSR HSM;obtain ⟨gh,ch2,hsl,-,-,-,-⟩:=vF HS.out.hal (by omega);obtain rfl:ah=some ⟨gh,0,none⟩:=by injection hsl
   clear hsl;obtain ⟨y1,y2⟩:=yH HS.out.hal hkl;have DR:=Lh (List.drop_eq_getElem_cons hkl);have XH:Hid (H[k]'hkl∈H):=Lh (List.getElem_mem hkl);obtain ⟨x,hx⟩:∃ x,x=H[k]'hkl:=⟨_,rfl⟩
   rw[<- hx]at y1 y2 DR XH;clear hx;rw[DR.out]at HR;have LM:Hid (met.length<=100000):=Lh (by have:=vN HG.out.1 HG.out.2.1;rw[<- HN.out]at this;omega);have HAS:=Lh (Qc HS.out.met_.in_ x LM.out);have SZ:Hid (B3<=wr.heap.size):=Lh (by
    have:=HS.out.hal.own (g:=gh) rfl;have:=HS.out.hal.lt (g:=gh) rfl;omega)
   by_cases hmem:x∈met
   ·have HR1:Hid (RR=PL.map (·.2)++rgs f n (H.drop (k+1)) met):=Lh (by rw[HR.out,rgs,if_pos hmem]);rw[decide_eq_true hmem]at HAS;clear hmem HR;obtain ⟨xe,xb⟩:=x;unfold hV at HAS;simp only at y1 y2 HAS;go_upto_region 6 with (go_at_call 17;refine HAS.out.mono ?_;rintro e w3 ⟨rfl,b3⟩;have B3':=Lh b3;clear b3)
    have HS3:=Lh (HS.out.below B3'.out);have HB3:=Lh (zF HB.out B3'.out HB.out.size);clear HS HB y1 y2;go_wp2;go_roundw
    case rel=>exact ⟨k+1,met,PL,by omega,by go_num,Lh ⟨ar,cr,rfl⟩,Lh ⟨am,cm,rfl⟩,HS3,HR1,HG,Lh (by have:=HPL.out;omega),HB3⟩
    case measure=>simp[intOf]<;>omega
   have NMT:Hid (x∉met):=Lh hmem;rw[decide_eq_false hmem]at HAS;have HR1:Hid (RR=PL.map (·.2)++(rwk f n [] x::rgs f n (H.drop (k+1)) (met++rwk f n [] x))):=Lh (by rw[HR.out,rgs,if_neg hmem]);have HG1:Hid (Gd f H (met++rwk f n [] x)):=Lh (by rw[HN.out];exact GN.out _ HG.out x XH.out hmem);clear hmem HR;obtain ⟨rk,hrk⟩:∃ rk,rk=rwk f n [] x:=⟨_,rfl⟩
   rw[<- hrk]at HR1 HG1;have RK:=Lh hrk;clear hrk;obtain ⟨xe,xb⟩:=x;unfold hV at HAS;simp only at y1 y2 HAS;go_upto_region 9 with (go_at_call 17;refine HAS.out.mono ?_;rintro e w3 ⟨rfl,b3⟩;have B3':=Lh b3;clear b3)
   have HS3:=Lh (HS.out.below B3'.out);have HB3:=Lh (zF HB.out B3'.out HB.out.size);have SZ3:Hid (B3<=w3.heap.size):=Lh (Nat.le_trans SZ.out B3'.out.size);replace y1:=keep B3'.out y1;replace y2:=keep B3'.out y2;obtain ⟨W6,hW6⟩:∃ W6,W6=(w3.alloc (.cells #[.int .i64 xe,.bool xb] 42)):=⟨_,rfl⟩
   have BX:Hid (Below w3.heap.size w3 W6):=Lh (by rw[hW6];repeat' (first|(with_reducible exact Below.refl _ _)|(with_reducible assumption)|(with_reducible refine zX ?_ _)|(with_reducible refine Below.drew ?_)|(with_reducible refine Below.alloc ?_ ?_ _)|(with_reducible refine Below.setCell ?_ ?_ _)|(with_reducible refine zF ?_ zW ?_)|(with_reducible exact Nat.le_refl _)|(with_reducible exact Nat.le_succ _)|(with_reducible exact Nat.le_succ_of_le zW)|omega|(simp;done)|(simp;omega)|(exact Nat.le_succ _)|(exact Nat.le_succ_of_le zW)));have FT:Hid (∀ q,RrZ w.heap.size (.slice (some ⟨gh,0,none⟩) n ch) (.slice am met.length cm) (.slice ar PL.length cr) PL q->q<w3.heap.size):=Lh λq k=>HS3.out.foot k
   have HS6:=Lh (HS3.out.below BX.out);have HB6:=Lh (zF HB3.out BX.out HB3.out.size);have Q6:Hid (Own W6 w3.heap.size 42 #[.int .i64 xe,.bool xb]):=Lh (by rw[hW6];exact Own.made_at (by simp));have S6:Hid (w3.heap.size+1<=W6.heap.size):=Lh (by rw[hW6];simp);have SW:Hid (w.heap.size<=w3.heap.size):=Lh HB3.out.size;clear HS HB HS3 HB3 SZ;go_upto_region 10 with fail;rw[<- hW6];clear hW6 BX;generalize w3.heap.size=g8 at *
   go_wp2;go_loopw [7,9] (λv7 j wq=>∃ (k2:Nat) (r:List Hf) (h:Hf),k2<=n/\j=.int .i64 (k2:Int)/\Hid (r.length=k2)/\Hid (∃ aq cq,v7=.slice aq k2 cq)/\Hid (h∈H)/\Hid (zY wq (g8+1) v7 r)/\Hid (Own wq g8 42 #[.int .i64 h.1,.bool h.2])/\Hid (RrS wq w.heap.size B3 (.slice a n0 c) (.slice a' m0 c') (.slice (some ⟨gh,0,none⟩) n ch) H (.slice am met.length cm) met (.slice ar PL.length cr) PL)/\Hid (rk=rwk f (n - k2) r h)/\Hid (r.Nodup/\∀ x∈r,x∈H)/\Hid (g8+1<=wq.heap.size)/\Hid (Below w.heap.size w wq)) (λv7 j wq=>n - (intOf j).toNat)
   case atStart=>exact ⟨0,[],(xe,xb),by omega,rfl,Lh rfl,Lh ⟨none,0,rfl⟩,XH,Lh (zY.nil _ _),Q6,HS6,Lh (by rw[RK.out];rfl),Lh ⟨List.nodup_nil,λx hx=>by cases hx⟩,S6,HB6⟩
   case round =>
    clear HS6 HB6 Q6 S6;obtain ⟨k2,r,h,hk2,rfl,HL,HSH,HH,HO,HQ,HS,HWK,HND,HSZ,HB⟩:=hrel;obtain ⟨aq,cq,hsh⟩:=HSH.out;subst hsh;have LR:Hid (r.length<=100000):=Lh (by rw[HL.out];omega);have HAS2:=Lh (λ(W:World) (hW:Below wr.heap.size wr W)=>Qc (HO.out.below hW).in_ h LR.out);obtain ⟨t,ht⟩:∃ t,t=(decide (k2<n) && !decide (h∈r)):=⟨_,rfl⟩
    have HT:=Lh ht;clear ht;obtain ⟨h1,h2⟩:=h;unfold hV at HAS2;simp only at HAS2 HQ;obtain ⟨u1,u2⟩:=zM HQ.out;go_upto_region 11 with fail;go_cut [37] (λs wx=>s=.bool t/\Hid (Below wr.heap.size wr wx))
    case first =>
     by_cases hlt2:k2<n
     ·have hki2:(k2:Int)<(n:Int):=by omega
      have e0:decide (k2<n)=true:=decide_eq_true hlt2;rw[e0]at HT;go_upto_region 11 with fail;go_wp2_with (go_at_call 17;refine (HAS2.out _ (Below.refl _ _)).mono ?_;rintro e w4 ⟨rfl,b4⟩;have B4:=Lh b4;clear b4)
      go_meet;exact ⟨by rw[HT.out];simp,B4⟩
     obtain rfl:k2=n:=by omega
     have e0:decide (k2<k2)=false:=by simp
     rw[e0]at HT;go_upto_region 11 with fail;go_wp2_with fail;go_meet;exact ⟨by rw[HT.out];simp,Lh (Below.refl _ _)⟩
    case rest =>
     obtain ⟨rfl,BC⟩:=hcut;replace HS:=Lh (HS.out.below BC.out);replace HO:=Lh (HO.out.below BC.out);replace HQ:=Lh (HQ.out.keep BC.out);replace HB:=Lh (zF HB.out BC.out HB.out.size);replace HSZ:Hid (g8+1<=wc.heap.size):=Lh (Nat.le_trans HSZ.out BC.out.size);clear BC HAS2 u1 u2 HSH;obtain ⟨i0,hi0,hz0,hz1,hz2⟩:=vW uL;cases t with
     | true =>
      obtain ⟨hlt2,hnm⟩:k2<n/\(h1,h2)∉r:=by
       have:=HT.out;simp only[Bool.true_eq,Bool.and_eq_true,decide_eq_true_eq,Bool.not_eq_true',decide_eq_false_iff_not]at this;exact this
      have WK:Hid (rk=rwk f (n - (k2+1)) (r++[(h1,h2)]) (f (h1,h2))):=Lh (by
       rw[HWK.out,show n - k2=(n - (k2+1))+1 by omega,rwk,if_neg hnm])
      have ND2:Hid ((r++[(h1,h2)]).Nodup/\∀ x∈r++[(h1,h2)],x∈H):=Lh (by
       refine ⟨qX HND.out.1 hnm,λx hx => ?_⟩;rcases List.mem_append.1 hx with hx|hx
       ·exact HND.out.2 x hx
       rw[List.mem_singleton]at hx;rw[hx];exact HH.out)
      have LL:Hid ((r++[(h1,h2)]).length=k2+1):=Lh (by rw[List.length_append,HL.out];rfl);have FH:Hid (f (h1,h2)∈H):=Lh (NM.out _ HH.out);have HT2:=HT;clear hnm HWK HND HT;have BX:Hid (Below wc.heap.size wc (wc.alloc (.cells #[.int .i64 h1,.bool h2] 42))):=Lh (bx1 _ _ _);have HS6:=Lh (HS.out.below BX.out);have Q6:=Lh (HQ.out.keep BX.out);have HO6:=Lh (HO.out.below BX.out);have HB6:=Lh (zF HB.out BX.out HB.out.size);obtain ⟨v1,v2⟩:=zM HQ.out;go_upto_region 14 with (at_builtin;refine wpList_append_own_at _ rfl _ _ 40 rfl (g8+1) 42 i0 (.agg #[.int .i64 0,.bool false]) 2 16 Try.underlying40 hi0 hz0 hz1 hz2 rfl (by decide) (.slice aq k2 cq) k2 (hC r) rfl (by have:=HO6.out;unfold zY at this;rw[HL.out]at this;exact this) ⟨wc.heap.size,0,none⟩ 1 1 [.int .i64 h1,.bool h2] rfl rfl (λj u hu=>vX wc _ _ _ j hu) (by intro u hu;simp at hu;rcases hu with rfl|rfl<;>rfl) (by unfold maxLen;omega) (by omega) (by have:=BX.out.size;have:=HSZ.out;omega) ?_;intro v9 w9 hown hgrow hnil hloc;obtain ⟨ya,yc,rfl⟩:=yG hown;have HO9:=Lh hown;have HG9:=Lh hgrow;clear hown hgrow hnil hloc)
      have C9:Hid (Chg (λq=>(Value.slice aq k2 cq).ownBlock=some q) (wc.alloc (.cells #[.int .i64 h1,.bool h2] 42)) w9):=Lh ((Chg.refl _ _).grown HG9.out λk hk=>.inl hk);have Q9:=Lh (C9.out.own Q6.out λk=>by have:=(HO6.out.own k).1;omega);have HS9:=Lh (HS6.out.keep C9.out λq k k2=>by
       have k3:=(HO6.out.own k).1;have:=FT.out q k2;omega)
      have HB9:=Lh (HB6.out.trans (C9.out.below HB6.out.size λq k=>by
       have k3:=(HO6.out.own k).1;have:=SW.out;omega))
      have HN9:Hid (zY w9 (g8+1) (.slice ya (k2+1) yc) (r++[(h1,h2)])):=Lh (by
       have:=HO9.out;unfold zY;rw[uC,jG,LL.out];exact this)
      have NX9:=Lh (NX.out w9 HB9.out _ HH.out);clear HS6 Q6 HO6 HB6 HO9 C9 v1 v2 HS HO HQ HB BX;obtain ⟨fe,hfe⟩:∃ fe,fe=f (h1,h2):=⟨_,rfl⟩
      rw[<- hfe]at NX9 WK FH;clear hfe;obtain ⟨f1,f2⟩:=fe;unfold hV at NX9;simp only at NX9;obtain ⟨p1,p2⟩:=zM HS9.out.plan;obtain ⟨q1,q2⟩:=zM Q9.out;have SZ9:Hid (g8+1<=w9.heap.size):=Lh (by have:=Q9.out.in_;omega);go_upto_region 12 with (go_at_call 21;refine NX9.out.mono ?_;rintro e w5 ⟨rfl,b5⟩;have B5:=Lh b5;clear b5;obtain ⟨x1,x2,x3⟩:=(Q9.out.keep B5.out).at_)
      have Q5:=Lh (Q9.out.keep B5.out);have HS5:=Lh (HS9.out.below B5.out);have HN5:=Lh (HN9.out.below B5.out);have HB5:=Lh (zF HB9.out B5.out HB9.out.size);have SZ5:Hid (g8+1<=w5.heap.size):=Lh (Nat.le_trans SZ9.out B5.out.size);have C11:Hid (Chg (·=g8) w5 ((w5.setCell ⟨g8,0,none⟩ (.int .i64 f1)).setCell ⟨g8,1,none⟩ (.bool f2))):=Lh (((Chg.refl (·=g8) w5).set ⟨g8,0,none⟩ (.inl rfl) _).set ⟨g8,1,none⟩ (.inl rfl) _);have Q11:Hid (Own ((w5.setCell ⟨g8,0,none⟩ (.int .i64 f1)).setCell ⟨g8,1,none⟩ (.bool f2)) g8 42 #[.int .i64 f1,.bool f2]):=Lh (((Q5.out.put 0 _).put 1 _).as (by simp));have HS11:=Lh (HS5.out.keep C11.out λq k k2=>by
       have:=FT.out q k2;omega)
      have HN11:=Lh (HN5.out.keep C11.out λg hg k=>by have:=(HN5.out.own hg).1;omega);have HB11:=Lh (HB5.out.trans (C11.out.below HB5.out.size λq k=>by have:=SW.out;omega));have SZ11:Hid (g8+1<=((w5.setCell ⟨g8,0,none⟩ (.int .i64 f1)).setCell ⟨g8,1,none⟩ (.bool f2)).heap.size):=Lh (Nat.le_trans SZ5.out C11.out.size);clear p1 p2 q1 q2 x1 x2 x3 C11 HS9 HS5 HN9 HN5 HB9 HB5 Q9 Q5 NX9 B5;go_wp2;go_roundw
      case rel=>exact ⟨k2+1,r++[(h1,h2)],(f1,f2),by omega,by go_num,LL,Lh ⟨ya,yc,rfl⟩,FH,HN11,Q11,HS11,WK,ND2,SZ11,HB11⟩
      case measure=>simp[intOf]<;>omega
     | false =>
      have EK:Hid (rk=r):=Lh (by
       rw[HWK.out];by_cases hlt2:k2<n
       ·have:=HT.out;simp only[hlt2,decide_true,Bool.true_and,Bool.false_eq,Bool.not_eq_false',decide_eq_true_eq]at this;rw[show n - k2=(n - k2 - 1)+1 by omega,rwk,if_pos this]
       rw[show n - k2=0 by omega,rwk])
      have hkp:0<k2:=by
       rcases Nat.eq_zero_or_pos k2 with h0|h0
       ·exfalso;have r0:r=[]:=List.eq_nil_of_length_eq_zero (by rw[HL.out];exact h0);have:=HT.out;rw[r0]at this;simp at this;omega
       exact h0
      rw[EK.out]at HR1 HG1;clear EK HWK HT;obtain ⟨gq,cq',hsl,hq1,hq2,hq3,hq4⟩:=vF HO.out (by rw[HL.out];exact hkp);obtain rfl:aq=some ⟨gq,0,none⟩:=by injection hsl
      clear hsl hq1 hq2 hq4 cq';have LM2:Hid (met.length+k2<=60000):=Lh (by have:=vN HG1.out.1 HG1.out.2.1;rw[<- HN.out,List.length_append,HL.out]at this;omega);have hlm:=LM2.out;have SRC:=Lh (HIn.src HO.out.in_);have ONE:=Lh (Ym r);have LC:Hid ((hC r).length=k2*2):=Lh (by rw[qP,HL.out]);have BM:Hid (B3<=wc.heap.size):=Lh (by have:=SZ3.out;have:=HSZ.out;omega);obtain ⟨lm,hlm2⟩:∃ lm,lm=met.length:=⟨_,rfl⟩
      rw[<- hlm2]at hlm HS FT ⊢;have HLM:=Lh hlm2;clear hlm2 LM LM2;have HK2:(0:Int)<(k2:Int):=by omega
      go_upto_region 16 with (at_builtin;refine wpList_append_own_at _ rfl _ _ 40 rfl B3 42 i0 (.agg #[.int .i64 0,.bool false]) 2 16 Try.underlying40 hi0 hz0 hz1 hz2 rfl (by decide) (.slice am lm cm) lm (hC met) rfl (by have:=HS.out.met_;unfold zY at this;rw[<- HLM.out]at this;exact this) ⟨gq,0,none⟩ k2 cq (hC r) rfl LC.out SRC.out ONE.out (by unfold maxLen;omega) (by omega) BM.out ?_;intro v9 w9 hown hgrow hnil hloc;obtain ⟨ya,yc,rfl⟩:=yG hown;have HO9:=Lh hown;have HG9:=Lh hgrow;have HL9:=Lh hloc;clear hown hgrow hnil hloc)
      have HN9:Hid (zY w9 B3 (.slice ya (lm+k2) yc) (met++r)):=Lh (by
       have:=HO9.out;unfold zY;rw[uC,List.length_append,HL.out,<- HLM.out];exact this)
      have HS9:=Lh (HS.out.metrow HG9.out HN9.out HL9.out);have C9:Hid (Chg (λq=>(Value.slice am lm cm).ownBlock=some q) wc w9):=Lh ((Chg.refl _ _).grown HG9.out λk hk=>.inl hk);have HO10:=Lh (HO.out.keep C9.out λg hg k=>by
       have:=FT.out g (.inr (.inr (.inl k)));have:=(HO.out.own hg).1;omega)
      have HB9:=Lh (HB.out.trans (C9.out.below HB.out.size λq k=>by
       have:=(HS.out.met_.own k).1;have:=SZ1.out;omega))
      have AP:Hid (∀ g,(Value.slice ya (lm+k2) yc).ownBlock=some g->g≠gq):=Lh λg hg e=>by
       rcases HL9.out with hl|hl
       ·rw[hl]at hg;have:=FT.out g (.inr (.inr (.inl hg)));omega
       rw[hl]at hg;have:=Option.some.inj hg;have:=HO.out.lt (g:=gq) rfl;omega
      have BM9:Hid (B3<=w9.heap.size):=Lh (Nat.le_trans BM.out C9.out.size);have LMM:Hid (lm+k2=(met++r).length):=Lh (by rw[List.length_append,HL.out,<- HLM.out]);clear HO9 HG9 HN9 HS C9 HO HB HL9 SRC ONE LC BM HQ;obtain ⟨i1,hi1,hy0,hy1,hy2⟩:=vW Qy;have BX:Hid (Below w9.heap.size w9 (w9.alloc (.cells #[.slice (some ⟨gq,0,none⟩) k2 cq] 40))):=Lh (bx1 _ _ _);have HS3:=Lh (HS9.out.below BX.out);have HO3:=Lh (HO10.out.below BX.out);have HB3:=Lh (zF HB9.out BX.out HB9.out.size);have PLN:=HPL.out;obtain ⟨pl,hpl⟩:∃ pl,pl=PL.length:=⟨_,rfl⟩
      rw[<- hpl]at PLN HS3 ⊢;have HPLN:=Lh hpl;clear hpl HS9 HO10 HB9;go_upto_region 6 with (at_builtin;refine wpList_append_own_at _ rfl _ _ 28 rfl B3 40 i1 (.slice none 0 0) 1 24 Try.underlying28 hi1 hy0 hy1 hy2 rfl (by decide) (.slice ar pl cr) pl (PL.map (·.1)) rfl (by have:=HS3.out.rin.1;rw[<- HPLN.out]at this;exact this) ⟨w9.heap.size,0,none⟩ 1 1 [.slice (some ⟨gq,0,none⟩) k2 cq] rfl rfl (λj u hu=>Vt w9 _ _ j hu) (by intro u hu;simp at hu;subst hu;rfl) (by unfold maxLen;omega) (by omega) (by have:=BM9.out;have:=BX.out.size;omega) ?_;intro v8 w8 hown hgrow hnil hloc;obtain ⟨za,zc,rfl⟩:=yG hown;have HO9:=Lh hown;have HG9:=Lh hgrow;clear hown hgrow hnil hloc)
      have NEW:=Lh (HS3.out.ringrow (PL':=PL++[(.slice (some ⟨gq,0,none⟩) k2 cq,r)]) HG9.out (by
       have:=HO9.out;rw[List.length_append,List.map_append,<- HPLN.out];exact this) (λx hx=>by
       rcases List.mem_append.1 hx with hx|hx
       ·exact HS3.out.rin.2 x hx
       ·rw[List.mem_singleton]at hx;rw[hx];have ho:=HO3.out;exact ⟨ho.1,ho.2.imp id λ⟨g,cap,cur,e1,e2,e3⟩=>⟨g,cap,cur,e1,by have:=SZ3.out;omega,e3⟩⟩) (λg hg x hx=>by
       rcases List.mem_append.1 hx with hx|hx
       ·exact HS3.out.apR g hg x hx
       rw[List.mem_singleton]at hx;rw[hx];intro e;exact AP.out g hg (Option.some.inj e).symm))
      have HB9:=Lh (HB3.out.grown HG9.out HB3.out.size λq k=>by have:=(HS3.out.rin.foot.1 q k).1;have:=SZ1.out;omega);have HSH9:Hid (∃ a c,Value.slice za (pl+1) zc=.slice a (PL++[(Value.slice (some ⟨gq,0,none⟩) k2 cq,r)]).length c):=Lh ⟨za,zc,by rw[List.length_append,<- HPLN.out];rfl⟩;have HSM9:Hid (∃ a c,Value.slice ya (lm+k2) yc=.slice a (met++r).length c):=Lh ⟨ya,yc,by rw[LMM.out]⟩;have HR2:Hid (RR=(PL++[(Value.slice (some ⟨gq,0,none⟩) k2 cq,r)]).map (·.2)++rgs f n (H.drop (k+1)) (met++r)):=Lh (by rw[HR1.out,List.map_append,List.append_assoc];rfl);have LE9:Hid ((PL++[(Value.slice (some ⟨gq,0,none⟩) k2 cq,r)]).length<=k+1):=Lh (by rw[List.length_append,<- HPLN.out,List.length_singleton];omega);clear HS3 HO3 HB3 HO9 HG9 BX AP HR1;go_wp2;go_roundw
      case rel=>exact ⟨k+1,met++r,PL++[(.slice (some ⟨gq,0,none⟩) k2 cq,r)],by omega,by go_num,HSH9,HSM9,NEW,HR2,HG1,LE9,HB9⟩
      case measure=>simp[intOf]<;>omega
  obtain rfl:k=n:=by omega
  have FIN:Hid (RR=PL.map (·.2)):=Lh (by rw[HR.out,List.drop_eq_nil_of_le (by rw[HN.out];exact Nat.le_refl _)];simp[rgs]);obtain ⟨ar,cr,rfl⟩:=HSR.out;go_wp2;go_ret;exact ⟨_,PL,rfl,⟨⟨HS.out.rin.1.1,HS.out.rin.1.2.imp id λ⟨g,cap,cur,e1,e2,e3⟩=>⟨g,cap,cur,e1,Nat.le_trans SZ1.out e2,e3⟩⟩,λx hx=>⟨(HS.out.rin.2 x hx).1,(HS.out.rin.2 x hx).2.imp id λ⟨g,cap,cur,e1,e2,e3⟩=>⟨g,cap,cur,e1,Nat.le_trans SZ1.out e2,e3⟩⟩⟩,FIN.out.symm,HB.out⟩
end
end Go.Proofs.Ytibnackmddigaaa.Pl
