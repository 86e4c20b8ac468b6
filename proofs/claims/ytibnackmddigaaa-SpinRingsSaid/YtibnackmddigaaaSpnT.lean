import Derived.Test.YtibnackmddigaaaSpnP
set_option linter.unusedVariables false
set_option linter.unusedSimpArgs false
set_option linter.unusedSectionVars false
namespace Go.Proofs.Ytibnackmddigaaa.Pl
open Go.ChangeShapes Go.WideShapes Go.ChangeAt Go.RowKit Go.Proofs.Ytibnackmddigaaa.Mp
theorem bY4 {p:Prop} (h:p:=by simp only[xJ,List.filterMap_cons,List.filterMap_nil,List.getElem?_cons_zero,List.getElem?_cons_succ,Option.map_some];exact rfl):p:=h
section
variable {v e : Value} {vs : List Vx} {es : List Eg} {w : World}
set_option maxRecDepth 10000 in
set_option maxHeartbeats 2000000 in
theorem zAr (hv:VIn w v vs) (he:EIn w e es) (fV':FlV vs) (hE:FlE vs es) (hn:vs.length<=30000) (hm:es.length<=30000) (i:Int):Calls Try.prog 44 #[.agg #[v,e],.int .i64 i] w λr w'=>∃ u,r=.returned u/\zY w' w.heap.size u (ot vs es i)/\Below w.heap.size w w':=by
 have HLV:=Lh (λ(W:World) (hW:Below w.heap.size w W)=>gP (v:=v) (by obtain ⟨a,c,h⟩:=hv.sl;exact ⟨_,_,_,h⟩) (TIn.below he hW) hm);have FR:=Lh (λ(W:World) (hW:Below w.heap.size w W) (h:Hf) (hh:h∈hfs es)=>qA (TIn.below hv hW) (TIn.below he hW) (by omega) h hh);have AT:=Lh (λ(W:World) (hW:Below w.heap.size w W) (j:Int) (hj:yJ vs j=true)=>fL v e vs j W (TIn.below hv hW) (by obtain ⟨a,c,h⟩:=he.sl;exact ⟨_,_,_,h⟩) (by omega) hj);have TW:=Lh gG;have AR:=Lh (λ(x y:Hf) (hx:x∈lv es i) (hy:y∈lv es i) (W:World)=>zC2 fV' hE hx hy W);have HH:=Lh (λ(h:Hf) (hh:h∈hfs es)=>vC hE hh);obtain ⟨i0,hi0,hz0,hz1,hz2⟩:=vW uL;obtain ⟨a,c,rfl⟩:=hv.sl;obtain ⟨a',c',rfl⟩:=he.sl;have PO:=Lh (Own.made w 25 #[.slice a vs.length c,.slice a' es.length c']);have BB:=Lh (bx1 w 25 #[.slice a vs.length c,.slice a' es.length c']);have NL:Hid ((hfs es).length<=60000):=Lh (by rw[vV];omega);clear hv he;unfold hV at FR TW;generalize vs.length=n0 at *
 generalize es.length=m0 at *
 go_enter Try.func44,Try.ntmps44;go_upto_region 3 with (go_at_call 45;refine (HLV.out _ BB.out).mono ?_;rintro e w1 ⟨av,rfl,ho,b1⟩;have HA:=Lh ho;have B1':=Lh b1;clear ho b1)
 have PO1:=Lh (PO.out.keep B1'.out);have HB1':=Lh (zF BB.out B1'.out BB.out.size);have HA1:Hid (zY w1 w.heap.size av (hfs es)):=Lh ⟨HA.out.1,HA.out.2.imp id λ⟨g,cap,cur,e1,e2,e3⟩=>⟨g,cap,cur,e1,Nat.le_trans BB.out.size e2,e3⟩⟩;obtain ⟨al,cl,hsl⟩:=HA.out.shape;subst hsl;obtain ⟨N,hN⟩:∃ N,N=(hfs es).length:=⟨_,rfl⟩
 rw[<- hN]at NL HA1 ⊢;have HN:=Lh hN;clear PO BB HA B1' HLV hN;have hNb:N<=60000:=NL.out;go_wp2;go_loopw [5,7] (λu5 j wr=>∃ (k:Nat) (o:List Hf) (on:Nat) (ao:Option Addr) (co:Nat),k<=N/\j=.int .i64 (k:Int)/\u5=.slice ao on co/\on<=k/\Hid (o=oin vs es i ((hfs es).take k))/\Hid (on=o.length)/\Hid (gX wr w.heap.size #[.slice a n0 c,.slice a' m0 c'] wr.heap.size (.slice al N cl) (hfs es) (.slice ao on co) o)/\Hid (Below w.heap.size w wr)) (λu5 j wr=>N - (intOf j).toNat)
 case atStart=>exact ⟨0,[],0,none,0,by omega,rfl,rfl,by omega,Lh rfl,Lh rfl,Lh ⟨PO1.out,HA1.out,zY.nil _ _,PO1.out.in_,λg hg=>HA1.out.lt hg,λg hg=>by cases hg⟩,HB1'⟩
 case round =>
  clear PO1 HA1 HB1';obtain ⟨k,o,on,ao,co,hk,rfl,rfl,hon,HOI,HOL,HS,HB⟩:=hrel;obtain ⟨p1,p2⟩:=zM HS.out.plan;by_cases hlt:k<N
  ·have hkl:k<(hfs es).length:=by rw[<- HN.out];exact hlt
   obtain ⟨g,c2,hsl,-,-,-,-⟩:=vF HS.out.all (by omega);obtain rfl:al=some ⟨g,0,none⟩:=by injection hsl
   clear hsl;obtain ⟨y1,y2⟩:=yH HS.out.all hkl;have TS:=Lh (vU (hfs es) k hkl);have XM:=Lh (List.getElem_mem hkl);obtain ⟨x,hx⟩:∃ x,x=(hfs es)[k]'hkl:=⟨_,rfl⟩
   rw[<- hx]at y1 y2 TS XM;have HXK:=Lh hx;clear hx;obtain ⟨xe,xb⟩:=x;simp only at y1 y2;have hki:(k:Int)<(N:Int):=by omega
   have FX:=Lh (λ(W:World) (hW:Below w.heap.size w W)=>FR.out W hW (xe,xb) XM.out);obtain ⟨fx,hfx⟩:∃ fx,fx=frm es (xe,xb):=⟨_,rfl⟩
   rw[<- hfx]at FX;have HFX:=Lh hfx;clear hfx;simp only at FX;by_cases hfi:fx=i
   ·subst hfi;have hne:(fx != fx)=false:=by simp
    go_upto_region 6 with fail;refine zL (λW=>Below wr.heap.size wr W) (0::1::2::3::4::6::7::[]) (0::4::[]) (0::1::2::3::4::6::5::7::[]) (by kernel_rfl) (by kernel_rfl) rfl (by kernel_rfl) rfl ((Below.refl _ _).drew) bY4 ?_;iterate 6
     refine zH (v := ?_) rfl rfl (λW hS => ?_) ?_;rotate_left
     ·first
       | (
        conv=>lhs;simp[go_sem,hki]
        first|done|exact rfl)
       | (
        have hS:=hS rfl;obtain ⟨p1,p2⟩:=zM (HS.out.plan.keep hS);have d1:=keep hS y1;have d2:=keep hS y2;conv=>lhs;simp[go_sem, *,hki]
        first|done|exact rfl)
     simp only[Act.put,lA,lZ,lS]
    refine zQ rfl rfl λK hK => ?_
    go_wp2_with (go_at_call 22;refine (FX.out _ (zF HB.out (Below.refl _ _).drew HB.out.size)).mono ?_;rintro e w2 ⟨rfl,b2⟩)
    have B2:=Lh (zF (Below.refl _ _).drew b2 (Nat.le_refl _));clear b2;refine hK _ _ (B2.out) ?_;clear hK K;iterate 1
     refine zH (v := ?_) rfl rfl (λW hS => ?_) ?_;rotate_left
     ·first
       | (
        conv=>lhs;simp[go_sem,hki]
        first|done|exact rfl)
       | (
        have hS:=hS rfl;obtain ⟨p1,p2⟩:=zM (HS.out.plan.keep hS);have d1:=keep hS y1;have d2:=keep hS y2;conv=>lhs;simp[go_sem, *,hki]
        first|done|exact rfl)
     simp only[Act.put,lA,lZ,lS]
    refine zT ?_;have HS2:=Lh (HS.out.below B2.out);have HB2:=Lh (zF HB.out B2.out HB.out.size);have XL:Hid ((xe,xb)∈lv es fx):=Lh (uD.2 ⟨XM.out,HFX.out.symm⟩);have HV1:Hid (yJ vs fx=true/\yJ vs (dst es (xe,xb))=true):=Lh (by have:=HH.out _ XM.out;rw[<- HFX.out]at this;exact ⟨this.1,this.2.1⟩);have OM:Hid (∀ y∈o,y∈hfs es/\y∈lv es fx):=Lh λy hy=>by
     rw[HOI.out]at hy;obtain ⟨h1,h2⟩:=zB3 hy;have h3:=List.mem_of_mem_take h1;exact ⟨h3,uD.2 ⟨h3,h2⟩⟩
    have HST:Hid (gX w2 w.heap.size #[.slice a n0 c,.slice a' m0 c'] w2.heap.size (.slice (some ⟨g,0,none⟩) N cl) (hfs es) (.slice ao on co) o):=Lh ⟨HS2.out.plan,HS2.out.all,HS2.out.out,HS2.out.plan.in_,λg hg=>HS2.out.all.lt hg,λg hg=>HS2.out.out.lt hg⟩;have HBW:Hid (w.heap.size<=w2.heap.size):=Lh HB2.out.size;clear HS HB HS2 p1 p2 y1 y2 B2 hne FX;obtain ⟨B1,hB1⟩:∃ B1,B1=w2.heap.size:=⟨_,rfl⟩
    rw[<- hB1]at HST HBW;have HBB0:Hid (B1<=w2.heap.size):=Lh (Nat.le_of_eq hB1);clear hB1;go_wp2;go_loopw [8,9,10] (λu8 u9 u10 wr=>∃ (q:Nat) (b:Bool) (L:List Hf) (ln:Nat) (a8:Option Addr) (c8:Nat),q<=on/\u10=.int .i64 (q:Int)/\u9=.bool b/\u8=.slice a8 ln c8/\ln<=2*q+1/\Hid (b=(o.take q).any (ltH vs es fx (xe,xb)))/\Hid (L=fY (ltH vs es fx) (xe,xb) (o.take q))/\Hid (ln=L.length)/\Hid (zY wr B1 (.slice a8 ln c8) L)/\Hid (gX wr w.heap.size #[.slice a n0 c,.slice a' m0 c'] B1 (.slice (some ⟨g,0,none⟩) N cl) (hfs es) (.slice ao on co) o)/\Hid (B1<=wr.heap.size)/\Hid (Below w.heap.size w wr)) (λu8 u9 u10 wr=>on - (intOf u10).toNat)
    case atStart=>exact ⟨0,false,[],0,none,0,by omega,rfl,rfl,rfl,by omega,Lh rfl,Lh rfl,Lh rfl,Lh (zY.nil _ _),HST,HBB0,HB2⟩
    case round =>
     clear HST HBB0 HB2;obtain ⟨q,b,L,ln,a8,c8,hq,rfl,rfl,rfl,hln,HBO,HLI,HLL,HL,HS,HBB,HB⟩:=hrel;obtain ⟨p1,p2⟩:=zM HS.out.plan;obtain ⟨x1,x2⟩:=yH HS.out.all hkl;rw[<- HXK.out]at x1 x2;simp only at x1 x2;by_cases hlq:q<on
     ·have hqo:q<o.length:=by rw[<- HOL.out];exact hlq
      obtain ⟨go,c3,hsl,-,-,-,-⟩:=vF HS.out.out (by omega);obtain rfl:ao=some ⟨go,0,none⟩:=by injection hsl
      clear hsl;obtain ⟨z1,z2⟩:=yH HS.out.out hqo;have TQ:=Lh (vU o q hqo);have YM:=Lh (OM.out _ (List.getElem_mem hqo));obtain ⟨y,hy⟩:∃ y,y=o[q]'hqo:=⟨_,rfl⟩
      rw[<- hy]at z1 z2 TQ YM;have HYK:=Lh hy;clear hy;have PST:=Lh (Yt (ltH vs es fx) (xe,xb) y (o.take q));have ANY:Hid ((o.take (q+1)).any (ltH vs es fx (xe,xb))=((o.take q).any (ltH vs es fx (xe,xb))||ltH vs es fx (xe,xb) y)):=Lh (by rw[TQ.out,List.any_append];simp);rw[<- TQ.out]at PST;obtain ⟨ye,yb⟩:=y;simp only at z1 z2;have hqi:(q:Int)<(on:Int):=by omega
      cases b with
      | true =>
       rw[<- HBO.out]at PST ANY;have NB:Hid (true=(o.take (q+1)).any (ltH vs es fx (xe,xb))):=Lh (by rw[ANY.out];rfl);have NL2:Hid (L++[(ye,yb)]=fY (ltH vs es fx) (xe,xb) (o.take (q+1))):=Lh (by rw[PST.out,HLI.out];rfl);have NLEN:Hid (ln+1=(L++[(ye,yb)]).length):=Lh (by rw[List.length_append,<- HLL.out];rfl);have LEN1:=HLL;go_upto_region 12 with fail;refine zL (λW=>Below wr.heap.size wr W) (0::1::2::3::4::5::6::7::8::9::10::11::12::13::14::15::16::17::18::19::20::21::22::23::24::25::26::[]) ([]) (0::1::2::3::4::5::6::7::8::9::10::11::12::13::14::15::16::17::18::19::20::21::22::23::24::25::26::[]) (by kernel_rfl) (by kernel_rfl) rfl (by kernel_rfl) rfl ((Below.refl _ _).drew) bY4 ?_;iterate 3
        refine zH (v := ?_) rfl rfl (λW hS => ?_) ?_;rotate_left
        ·first
          | (
           conv=>lhs;simp[go_sem,hki,hqi]
           first|done|exact rfl)
          | (
           have hS:=hS rfl;obtain ⟨p1,p2⟩:=zM (HS.out.plan.keep hS);have d1:=keep hS x1;have d2:=keep hS x2;have d3:=keep hS z1;have d4:=keep hS z2;conv=>lhs;simp[go_sem, *,hki,hqi]
           first|done|exact rfl)
        simp only[Act.put,lA,lZ,lS]
       refine zB rfl rfl ?_;simp only[Act.put,lA,lZ,lS];refine zB rfl rfl ?_;simp only[Act.put,lA,lZ,lS];refine zB rfl rfl ?_;simp only[Act.put,lA,lZ,lS];refine zB rfl rfl ?_;simp only[Act.put,lA,lZ,lS];refine zB rfl rfl ?_;simp only[Act.put,lA,lZ,lS];refine zB rfl rfl ?_;simp only[Act.put,lA,lZ,lS];refine zB rfl rfl ?_;simp only[Act.put,lA,lZ,lS];refine zB rfl rfl ?_;simp only[Act.put,lA,lZ,lS];refine zB rfl rfl ?_;simp only[Act.put,lA,lZ,lS];refine zB rfl rfl ?_;simp only[Act.put,lA,lZ,lS];refine zB rfl rfl ?_;simp only[Act.put,lA,lZ,lS];refine zB rfl rfl ?_;simp only[Act.put,lA,lZ,lS];refine zB rfl rfl ?_;simp only[Act.put,lA,lZ,lS]
       refine zB rfl rfl ?_;simp only[Act.put,lA,lZ,lS];refine zB rfl rfl ?_;simp only[Act.put,lA,lZ,lS];refine zB rfl rfl ?_;simp only[Act.put,lA,lZ,lS];refine zB rfl rfl ?_;simp only[Act.put,lA,lZ,lS];refine zB rfl rfl ?_;simp only[Act.put,lA,lZ,lS];refine zB rfl rfl ?_;simp only[Act.put,lA,lZ,lS];refine zB rfl rfl ?_;simp only[Act.put,lA,lZ,lS];refine zB rfl rfl ?_;simp only[Act.put,lA,lZ,lS];refine zB rfl rfl ?_;simp only[Act.put,lA,lZ,lS];refine zB rfl rfl ?_;simp only[Act.put,lA,lZ,lS];iterate 1
        refine zH (v := ?_) rfl rfl (λW hS => ?_) ?_;rotate_left
        ·first
          | (
           conv=>lhs;simp[go_sem,hki,hqi]
           first|done|exact rfl)
          | (
           have hS:=hS rfl;obtain ⟨p1,p2⟩:=zM (HS.out.plan.keep hS);have d1:=keep hS x1;have d2:=keep hS x2;have d3:=keep hS z1;have d4:=keep hS z2;conv=>lhs;simp[go_sem, *,hki,hqi]
           first|done|exact rfl)
        simp only[Act.put,lA,lZ,lS]
       refine zT ?_;have D1:Hid (Below wr.heap.size wr wr.drew):=Lh (Below.refl _ _).drew;replace HS:=Lh (HS.out.below D1.out);replace HL:=Lh (HL.out.below D1.out);replace HB:=Lh (zF HB.out D1.out HB.out.size);replace HBB:Hid (B1<=wr.drew.heap.size):=Lh (Nat.le_trans HBB.out D1.out.size);clear D1;generalize hD9:wr.drew=wd at HS HL HB HBB ⊢
       clear hD9;obtain ⟨x1,x2⟩:=yH HS.out.all hkl;rw[<- HXK.out]at x1 x2;simp only at x1 x2;obtain ⟨z1,z2⟩:=yH HS.out.out hqo;rw[<- HYK.out]at z1 z2;simp only at z1 z2;have bq1:=Lh (bx1 wd 42 #[.int .i64 ye,.bool yb]);have os1:=Lh (HS.out.below bq1.out);have hl1:=Lh (HL.out.below bq1.out);have hb1:=Lh (zF HB.out bq1.out HB.out.size);go_upto_region 11 with (at_builtin;refine wpList_append_own_at _ rfl _ _ 40 rfl B1 42 i0 (.agg #[.int .i64 0,.bool false]) 2 16 Try.underlying40 hi0 hz0 hz1 hz2 rfl (by decide) (.slice a8 (ln) c8) (ln) (hC (L)) rfl (by have:=hl1.out;unfold zY at this;rw[<- LEN1.out]at this;exact this) ⟨wd.heap.size,0,none⟩ 1 1 [.int .i64 ye,.bool yb] rfl rfl (λj u hu=>vX wd _ _ _ j hu) (by intro u hu;simp at hu;rcases hu with rfl|rfl<;>rfl) (by unfold maxLen;omega) (by omega) (by have:=bq1.out.size;have:=HBB.out;omega) ?_;intro v1 wa1 hown hgrow hnil hloc;obtain ⟨ya1,yc1,rfl⟩:=yG hown;have HO1:=Lh hown;have HG1:=Lh hgrow;clear hown hgrow hnil hloc)
       have CH1:Hid (Chg (λq=>(Value.slice a8 (ln) c8).ownBlock=some q) (World.alloc wd (.cells #[.int .i64 ye,.bool yb] 42)) wa1):=Lh ((Chg.refl _ _).grown HG1.out λk hk=>.inl hk);have OS1:=Lh (os1.out.keep CH1.out λq k=>(hl1.out.own k).1);have HB1:=Lh (hb1.out.trans (CH1.out.below hb1.out.size λq k=>by have:=(hl1.out.own k).1;have:=HBW.out;omega));have HN1:Hid (zY wa1 B1 (.slice ya1 (_+1) yc1) (L++[(ye,yb)])):=Lh (by have:=HO1.out;unfold zY;rw[uC,jG,List.length_append,<- LEN1.out];exact this);have HBE:Hid (B1<=wa1.heap.size):=Lh (by have:=HBB.out;have:=bq1.out.size;have:=HG1.out.size;omega);go_wp2;go_roundw
       case rel=>exact ⟨q+1,true,L++[(ye,yb)],ln+1,_,_,by omega,by go_num,rfl,rfl,by omega,NB,NL2,NLEN,HN1,OS1,HBE,HB1⟩
       case measure=>simp[intOf]<;>omega
      | false =>
       rw[<- HBO.out]at PST ANY;rw[Bool.false_or]at ANY;have TX:=Lh (λW=>TW.out (xe,xb) W);have TY:=Lh (λW=>TW.out (ye,yb) W);have FX:=Lh (λ(W:World) (hW:Below w.heap.size w W)=>FR.out W hW (tw (xe,xb)) (uV.2 XM.out));have FY:=Lh (λ(W:World) (hW:Below w.heap.size w W)=>FR.out W hW (tw (ye,yb)) (uV.2 YM.out.1));have HVY:Hid (yJ vs (dst es (ye,yb))=true):=Lh (HH.out _ YM.out.1).2.1;have AXY:=Lh (λ(W:World)=>AR.out (xe,xb) (ye,yb) XL.out YM.out.2 W);have hltz:ltH vs es fx (xe,xb) (ye,yb)=decide (cmH vs es fx (xe,xb) (ye,yb)<0):=rfl;rw[hltz]at PST ANY;change Hid (∀ W,Below w.heap.size w W->Calls Try.prog 22 #[_,_] W λr w'=>r=.returned (.int .i64 (dst es (xe,xb)))/\_) at FX;change Hid (∀ W,Below w.heap.size w W->Calls Try.prog 22 #[_,_] W λr w'=>r=.returned (.int .i64 (dst es (ye,yb)))/\_) at FY;generalize cmH vs es fx (xe,xb) (ye,yb)=z at *
       generalize dst es (xe,xb)=dx at *
       generalize dst es (ye,yb)=dy at *
       generalize tw (xe,xb)=tx at *
       generalize tw (ye,yb)=ty at *
       obtain ⟨tx1,tx2⟩:=tx;obtain ⟨ty1,ty2⟩:=ty;simp only at TX TY FX FY;clear hltz;have Y0:Hid (Below wr.heap.size wr wr.drew):=Lh (Below.refl _ _).drew;have Z0:=Lh (zF HB.out Y0.out HB.out.size);go_upto_region 12 with fail;refine zL (λW=>Below wr.heap.size wr W) (0::1::2::3::4::6::7::8::9::10::11::15::16::17::18::19::20::25::26::[]) (3::6::7::11::15::16::20::[]) (0::1::2::3::4::6::7::8::9::10::11::15::16::17::18::19::20::5::12::13::14::21::22::23::24::25::26::[]) (by kernel_rfl) (by kernel_rfl) rfl (by kernel_rfl) rfl (Y0.out) bY4 ?_;iterate 17
        refine zH (v := ?_) rfl rfl (λW hS => ?_) ?_;rotate_left
        ·first
          | (
           conv=>lhs;simp[go_sem,hki,hqi]
           first|done|exact rfl)
          | (
           have hS:=hS rfl;obtain ⟨p1,p2⟩:=zM (HS.out.plan.keep hS);have d1:=keep hS x1;have d2:=keep hS x2;have d3:=keep hS z1;have d4:=keep hS z2;conv=>lhs;simp[go_sem, *,hki,hqi]
           first|done|exact rfl)
        simp only[Act.put,lA,lZ,lS]
       refine zQ rfl rfl λK hK => ?_
       go_wp2_with (go_at_call 24;refine ((AT.out _ Z0.out _ HV1.out.1)).mono ?_;rintro e y1' ⟨rfl,c1⟩)
       have Y1:=Lh (zF Y0.out c1 Y0.out.size);have Z1:=Lh (zF HB.out Y1.out HB.out.size);refine hK _ _ Y1.out ?_;clear hK K c1;refine zQ rfl rfl λK hK => ?_
       go_wp2_with (go_at_call 23;refine ((TX.out _)).mono ?_;rintro e y2' ⟨rfl,c2⟩)
       have Y2:=Lh (zF Y1.out c2 Y1.out.size);have Z2:=Lh (zF HB.out Y2.out HB.out.size);refine hK _ _ Y2.out ?_;clear hK K c2;refine zQ rfl rfl λK hK => ?_
       go_wp2_with (go_at_call 22;refine ((FX.out _ Z2.out)).mono ?_;rintro e y3' ⟨rfl,c3⟩)
       have Y3:=Lh (zF Y2.out c3 Y2.out.size);have Z3:=Lh (zF HB.out Y3.out HB.out.size);refine hK _ _ Y3.out ?_;clear hK K c3;refine zQ rfl rfl λK hK => ?_
       go_wp2_with (go_at_call 24;refine ((AT.out _ Z3.out _ HV1.out.2)).mono ?_;rintro e y4' ⟨rfl,c4⟩)
       have Y4:=Lh (zF Y3.out c4 Y3.out.size);have Z4:=Lh (zF HB.out Y4.out HB.out.size);refine hK _ _ Y4.out ?_;clear hK K c4;refine zQ rfl rfl λK hK => ?_
       go_wp2_with (go_at_call 23;refine ((TY.out _)).mono ?_;rintro e y5' ⟨rfl,c5⟩)
       have Y5:=Lh (zF Y4.out c5 Y4.out.size);have Z5:=Lh (zF HB.out Y5.out HB.out.size);refine hK _ _ Y5.out ?_;clear hK K c5;refine zQ rfl rfl λK hK => ?_
       go_wp2_with (go_at_call 22;refine ((FY.out _ Z5.out)).mono ?_;rintro e y6' ⟨rfl,c6⟩)
       have Y6:=Lh (zF Y5.out c6 Y5.out.size);have Z6:=Lh (zF HB.out Y6.out HB.out.size);refine hK _ _ Y6.out ?_;clear hK K c6;refine zQ rfl rfl λK hK => ?_
       go_wp2_with (go_at_call 24;refine ((AT.out _ Z6.out _ HVY.out)).mono ?_;rintro e y7' ⟨rfl,c7⟩)
       have Y7:=Lh (zF Y6.out c7 Y6.out.size);have Z7:=Lh (zF HB.out Y7.out HB.out.size);refine hK _ _ Y7.out ?_;clear hK K c7;refine zQ rfl rfl λK hK => ?_
       go_wp2_with (go_at_call 63;refine ((AXY.out _)).mono ?_;rintro e y8' ⟨rfl,c8⟩)
       have Y8:=Lh (zF Y7.out c8 Y7.out.size);have Z8:=Lh (zF HB.out Y8.out HB.out.size);refine hK _ _ Y8.out ?_;clear hK K c8;iterate 2
        refine zH (v := ?_) rfl rfl (λW hS => ?_) ?_;rotate_left
        ·first
          | (
           conv=>lhs;simp[go_sem,hki,hqi]
           first|done|exact rfl)
          | (
           have hS:=hS rfl;obtain ⟨p1,p2⟩:=zM (HS.out.plan.keep hS);have d1:=keep hS x1;have d2:=keep hS x2;have d3:=keep hS z1;have d4:=keep hS z2;conv=>lhs;simp[go_sem, *,hki,hqi]
           first|done|exact rfl)
        simp only[Act.put,lA,lZ,lS]
       refine zT ?_;replace HS:=Lh (HS.out.below Y8.out);replace HL:=Lh (HL.out.below Y8.out);replace HB:=Z8;replace HBB:Hid (B1<=y8'.heap.size):=Lh (Nat.le_trans HBB.out Y8.out.size);clear Y0 Y1 Y2 Y3 Y4 Y5 Y6 Y7 Y8 Z0 Z1 Z2 Z3 Z4 Z5 Z6 Z7 TX TY FX FY AXY HVY;by_cases hz:z<0
       ·rw[decide_eq_true hz]at PST ANY;have NB:Hid (true=(o.take (q+1)).any (ltH vs es fx (xe,xb))):=Lh ANY.out.symm;have NL2:Hid (L++[(xe,xb)]++[(ye,yb)]=fY (ltH vs es fx) (xe,xb) (o.take (q+1))):=Lh (by rw[PST.out,HLI.out];rfl);have NLEN:Hid (ln+1+1=(L++[(xe,xb)]++[(ye,yb)]).length):=Lh (by rw[List.length_append,List.length_append,<- HLL.out];rfl);have LEN1:=HLL;have LEN2:Hid (ln+1=(L++[(xe,xb)]).length):=Lh (by rw[List.length_append,<- HLL.out];rfl);obtain ⟨x1,x2⟩:=yH HS.out.all hkl;rw[<- HXK.out]at x1 x2;simp only at x1 x2;obtain ⟨z1,z2⟩:=yH HS.out.out hqo;rw[<- HYK.out]at z1 z2;simp only at z1 z2;have bq1:=Lh (bx1 y8' 42 #[.int .i64 xe,.bool xb]);have os1:=Lh (HS.out.below bq1.out);have hl1:=Lh (HL.out.below bq1.out);have hb1:=Lh (zF HB.out bq1.out HB.out.size);go_upto_region 14 with (at_builtin;refine wpList_append_own_at _ rfl _ _ 40 rfl B1 42 i0 (.agg #[.int .i64 0,.bool false]) 2 16 Try.underlying40 hi0 hz0 hz1 hz2 rfl (by decide) (.slice a8 (ln) c8) (ln) (hC (L)) rfl (by have:=hl1.out;unfold zY at this;rw[<- LEN1.out]at this;exact this) ⟨y8'.heap.size,0,none⟩ 1 1 [.int .i64 xe,.bool xb] rfl rfl (λj u hu=>vX y8' _ _ _ j hu) (by intro u hu;simp at hu;rcases hu with rfl|rfl<;>rfl) (by unfold maxLen;omega) (by omega) (by have:=bq1.out.size;have:=HBB.out;omega) ?_;intro v1 wa1 hown hgrow hnil hloc;obtain ⟨ya1,yc1,rfl⟩:=yG hown;have HO1:=Lh hown;have HG1:=Lh hgrow;clear hown hgrow hnil hloc)
        have CH1:Hid (Chg (λq=>(Value.slice a8 (ln) c8).ownBlock=some q) (World.alloc y8' (.cells #[.int .i64 xe,.bool xb] 42)) wa1):=Lh ((Chg.refl _ _).grown HG1.out λk hk=>.inl hk);have OS1:=Lh (os1.out.keep CH1.out λq k=>(hl1.out.own k).1);have HB1:=Lh (hb1.out.trans (CH1.out.below hb1.out.size λq k=>by have:=(hl1.out.own k).1;have:=HBW.out;omega));have HN1:Hid (zY wa1 B1 (.slice ya1 (_+1) yc1) (L++[(xe,xb)])):=Lh (by have:=HO1.out;unfold zY;rw[uC,jG,List.length_append,<- LEN1.out];exact this);replace HBB:Hid (B1<=wa1.heap.size):=Lh (by have:=HBB.out;have:=bq1.out.size;have:=HG1.out.size;omega);obtain ⟨x1,x2⟩:=yH OS1.out.all hkl;rw[<- HXK.out]at x1 x2;simp only at x1 x2;obtain ⟨z1,z2⟩:=yH OS1.out.out hqo;rw[<- HYK.out]at z1 z2;simp only at z1 z2;have bq2:=Lh (bx1 wa1 42 #[.int .i64 ye,.bool yb]);have os2:=Lh (OS1.out.below bq2.out);have hl2:=Lh (HN1.out.below bq2.out);have hb2:=Lh (zF HB1.out bq2.out HB1.out.size);go_upto_region 11 with (at_builtin;refine wpList_append_own_at _ rfl _ _ 40 rfl B1 42 i0 (.agg #[.int .i64 0,.bool false]) 2 16 Try.underlying40 hi0 hz0 hz1 hz2 rfl (by decide) (.slice ya1 (ln+1) yc1) (ln+1) (hC (L++[(xe,xb)])) rfl (by have:=hl2.out;unfold zY at this;rw[<- LEN2.out]at this;exact this) ⟨wa1.heap.size,0,none⟩ 1 1 [.int .i64 ye,.bool yb] rfl rfl (λj u hu=>vX wa1 _ _ _ j hu) (by intro u hu;simp at hu;rcases hu with rfl|rfl<;>rfl) (by unfold maxLen;omega) (by omega) (by have:=bq2.out.size;have:=HBB.out;omega) ?_;intro v2 wa2 hown hgrow hnil hloc;obtain ⟨ya2,yc2,rfl⟩:=yG hown;have HO2:=Lh hown;have HG2:=Lh hgrow;clear hown hgrow hnil hloc)
        have CH2:Hid (Chg (λq=>(Value.slice ya1 (ln+1) yc1).ownBlock=some q) (World.alloc wa1 (.cells #[.int .i64 ye,.bool yb] 42)) wa2):=Lh ((Chg.refl _ _).grown HG2.out λk hk=>.inl hk);have OS2:=Lh (os2.out.keep CH2.out λq k=>(hl2.out.own k).1);have HB2:=Lh (hb2.out.trans (CH2.out.below hb2.out.size λq k=>by have:=(hl2.out.own k).1;have:=HBW.out;omega));have HN2:Hid (zY wa2 B1 (.slice ya2 (_+1) yc2) (L++[(xe,xb)]++[(ye,yb)])):=Lh (by have:=HO2.out;unfold zY;rw[uC,jG,List.length_append,<- LEN2.out];exact this);have HBE:Hid (B1<=wa2.heap.size):=Lh (by have:=HBB.out;have:=bq2.out.size;have:=HG2.out.size;omega);go_wp2;go_roundw
        case rel=>exact ⟨q+1,true,L++[(xe,xb)]++[(ye,yb)],ln+1+1,_,_,by omega,by go_num,rfl,rfl,by omega,NB,NL2,NLEN,HN2,OS2,HBE,HB2⟩
        case measure=>simp[intOf]<;>omega
       rw[decide_eq_false hz]at PST ANY;have NB:Hid (false=(o.take (q+1)).any (ltH vs es fx (xe,xb))):=Lh ANY.out.symm;have NL2:Hid (L++[(ye,yb)]=fY (ltH vs es fx) (xe,xb) (o.take (q+1))):=Lh (by rw[PST.out,HLI.out];rfl);have NLEN:Hid (ln+1=(L++[(ye,yb)]).length):=Lh (by rw[List.length_append,<- HLL.out];rfl);have LEN1:=HLL;obtain ⟨x1,x2⟩:=yH HS.out.all hkl;rw[<- HXK.out]at x1 x2;simp only at x1 x2;obtain ⟨z1,z2⟩:=yH HS.out.out hqo;rw[<- HYK.out]at z1 z2;simp only at z1 z2;have bq1:=Lh (bx1 y8' 42 #[.int .i64 ye,.bool yb]);have os1:=Lh (HS.out.below bq1.out);have hl1:=Lh (HL.out.below bq1.out);have hb1:=Lh (zF HB.out bq1.out HB.out.size);go_upto_region 11 with (at_builtin;refine wpList_append_own_at _ rfl _ _ 40 rfl B1 42 i0 (.agg #[.int .i64 0,.bool false]) 2 16 Try.underlying40 hi0 hz0 hz1 hz2 rfl (by decide) (.slice a8 (ln) c8) (ln) (hC (L)) rfl (by have:=hl1.out;unfold zY at this;rw[<- LEN1.out]at this;exact this) ⟨y8'.heap.size,0,none⟩ 1 1 [.int .i64 ye,.bool yb] rfl rfl (λj u hu=>vX y8' _ _ _ j hu) (by intro u hu;simp at hu;rcases hu with rfl|rfl<;>rfl) (by unfold maxLen;omega) (by omega) (by have:=bq1.out.size;have:=HBB.out;omega) ?_;intro v1 wa1 hown hgrow hnil hloc;obtain ⟨ya1,yc1,rfl⟩:=yG hown;have HO1:=Lh hown;have HG1:=Lh hgrow;clear hown hgrow hnil hloc)
       have CH1:Hid (Chg (λq=>(Value.slice a8 (ln) c8).ownBlock=some q) (World.alloc y8' (.cells #[.int .i64 ye,.bool yb] 42)) wa1):=Lh ((Chg.refl _ _).grown HG1.out λk hk=>.inl hk);have OS1:=Lh (os1.out.keep CH1.out λq k=>(hl1.out.own k).1);have HB1:=Lh (hb1.out.trans (CH1.out.below hb1.out.size λq k=>by have:=(hl1.out.own k).1;have:=HBW.out;omega));have HN1:Hid (zY wa1 B1 (.slice ya1 (_+1) yc1) (L++[(ye,yb)])):=Lh (by have:=HO1.out;unfold zY;rw[uC,jG,List.length_append,<- LEN1.out];exact this);have HBE:Hid (B1<=wa1.heap.size):=Lh (by have:=HBB.out;have:=bq1.out.size;have:=HG1.out.size;omega);go_wp2;go_roundw
       case rel=>exact ⟨q+1,false,L++[(ye,yb)],ln+1,_,_,by omega,by go_num,rfl,rfl,by omega,NB,NL2,NLEN,HN1,OS1,HBE,HB1⟩
       case measure=>simp[intOf]<;>omega
     obtain rfl:q=on:=by omega
     have TA:Hid (o.take q=o):=Lh (List.take_of_length_le (by rw[HOL.out];exact Nat.le_refl _));have PEN:=Lh (zAi (ltH vs es fx) (xe,xb) o);have OIN:Hid (oin vs es fx ((hfs es).take (k+1))=uF (ltH vs es fx) (xe,xb) o):=Lh (by rw[TS.out,zAn HFX.out.symm,HOI.out]);have LNB:Hid ((uF (ltH vs es fx) (xe,xb) o).length<=k+1):=Lh (by rw[(jC _ _ _).length_eq,List.length_cons,<- HOL.out];omega);rw[TA.out]at HBO HLI;rw[<- HBO.out,<- HLI.out]at PEN;cases b with
     | true =>
      have NOI:Hid (L=oin vs es fx ((hfs es).take (k+1))):=Lh (by rw[OIN.out,PEN.out];rfl);have NLE:Hid (ln=(L).length):=HLL;have NLK:ln<=k+1:=by have h1:=LNB.out;rw[PEN.out]at h1;have h2:=NLE.out;rw[h2];exact h1
      have HLW:Hid (zY wr w.heap.size (.slice a8 ln c8) L):=Lh ⟨HL.out.1,HL.out.2.imp id λ⟨g,cap,cur,e1,e2,e3⟩=>⟨g,cap,cur,e1,Nat.le_trans HBW.out e2,e3⟩⟩;have NOS:Hid (gX wr w.heap.size #[.slice a n0 c,.slice a' m0 c'] wr.heap.size (.slice (some ⟨g,0,none⟩) N cl) (hfs es) (.slice a8 ln c8) L):=Lh ⟨HS.out.plan,HS.out.all,HLW.out,HS.out.plan.in_,λg hg=>HS.out.all.lt hg,λg hg=>HLW.out.lt hg⟩;go_wp2;go_roundw
      case rel=>exact ⟨k+1,L,ln,a8,c8,by omega,by go_num,rfl,NLK,NOI,NLE,NOS,HB⟩
      case measure=>simp[intOf]<;>omega
     | false =>
      have NOI:Hid (L++[(xe,xb)]=oin vs es fx ((hfs es).take (k+1))):=Lh (by rw[OIN.out,PEN.out];rfl);have NLE:Hid (ln+1=(L++[(xe,xb)]).length):=Lh (by rw[List.length_append,<- HLL.out];rfl);have NLK:ln+1<=k+1:=by have h1:=LNB.out;rw[PEN.out]at h1;have h2:=NLE.out;rw[h2];exact h1
      have LEN1:=HLL;have bq1:=Lh (bx1 wr 42 #[.int .i64 xe,.bool xb]);have os1:=Lh (HS.out.below bq1.out);have hl1:=Lh (HL.out.below bq1.out);have hb1:=Lh (zF HB.out bq1.out HB.out.size);go_upto_region 18 with (at_builtin;refine wpList_append_own_at _ rfl _ _ 40 rfl B1 42 i0 (.agg #[.int .i64 0,.bool false]) 2 16 Try.underlying40 hi0 hz0 hz1 hz2 rfl (by decide) (.slice a8 (ln) c8) (ln) (hC (L)) rfl (by have:=hl1.out;unfold zY at this;rw[<- LEN1.out]at this;exact this) ⟨wr.heap.size,0,none⟩ 1 1 [.int .i64 xe,.bool xb] rfl rfl (λj u hu=>vX wr _ _ _ j hu) (by intro u hu;simp at hu;rcases hu with rfl|rfl<;>rfl) (by unfold maxLen;omega) (by omega) (by have:=bq1.out.size;have:=HBB.out;omega) ?_;intro v1 wa1 hown hgrow hnil hloc;obtain ⟨ya1,yc1,rfl⟩:=yG hown;have HO1:=Lh hown;have HG1:=Lh hgrow;clear hown hgrow hnil hloc)
      have CH1:Hid (Chg (λq=>(Value.slice a8 (ln) c8).ownBlock=some q) (World.alloc wr (.cells #[.int .i64 xe,.bool xb] 42)) wa1):=Lh ((Chg.refl _ _).grown HG1.out λk hk=>.inl hk);have OS1:=Lh (os1.out.keep CH1.out λq k=>(hl1.out.own k).1);have HB1:=Lh (hb1.out.trans (CH1.out.below hb1.out.size λq k=>by have:=(hl1.out.own k).1;have:=HBW.out;omega));have HN1:Hid (zY wa1 B1 (.slice ya1 (_+1) yc1) (L++[(xe,xb)])):=Lh (by have:=HO1.out;unfold zY;rw[uC,jG,List.length_append,<- LEN1.out];exact this);have HLW:Hid (zY wa1 w.heap.size (.slice ya1 (ln+1) yc1) (L++[(xe,xb)])):=Lh ⟨HN1.out.1,HN1.out.2.imp id λ⟨g,cap,cur,e1,e2,e3⟩=>⟨g,cap,cur,e1,Nat.le_trans HBW.out e2,e3⟩⟩;have NOS:Hid (gX wa1 w.heap.size #[.slice a n0 c,.slice a' m0 c'] wa1.heap.size (.slice (some ⟨g,0,none⟩) N cl) (hfs es) (.slice ya1 (ln+1) yc1) (L++[(xe,xb)])):=Lh ⟨OS1.out.plan,OS1.out.all,HLW.out,OS1.out.plan.in_,λg hg=>OS1.out.all.lt hg,λg hg=>HLW.out.lt hg⟩;go_wp2;go_roundw
      case rel=>exact ⟨k+1,L++[(xe,xb)],ln+1,ya1,yc1,by omega,by go_num,rfl,NLK,NOI,NLE,NOS,HB1⟩
      case measure=>simp[intOf]<;>omega
   have hne:(fx != i)=true:=by simpa using hfi
   have NOI:Hid (o=oin vs es i ((hfs es).take (k+1))):=Lh (by rw[TS.out,zAt (by rw[<- HFX.out];exact hfi),HOI.out]);go_upto_region 6 with fail;refine zL (λW=>Below wr.heap.size wr W) (0::1::2::3::4::6::7::[]) (0::4::[]) (0::1::2::3::4::6::5::7::[]) (by kernel_rfl) (by kernel_rfl) rfl (by kernel_rfl) rfl ((Below.refl _ _).drew) bY4 ?_;iterate 6
    refine zH (v := ?_) rfl rfl (λW hS => ?_) ?_;rotate_left
    ·first
      | (
       conv=>lhs;simp[go_sem,hki]
       first|done|exact rfl)
      | (
       have hS:=hS rfl;obtain ⟨p1,p2⟩:=zM (HS.out.plan.keep hS);have d1:=keep hS y1;have d2:=keep hS y2;conv=>lhs;simp[go_sem, *,hki]
       first|done|exact rfl)
    simp only[Act.put,lA,lZ,lS]
   refine zQ rfl rfl λK hK => ?_
   go_wp2_with (go_at_call 22;refine (FX.out _ (zF HB.out (Below.refl _ _).drew HB.out.size)).mono ?_;rintro e w2 ⟨rfl,b2⟩)
   have B2:=Lh (zF (Below.refl _ _).drew b2 (Nat.le_refl _));clear b2;refine hK _ _ (B2.out) ?_;clear hK K;iterate 1
    refine zH (v := ?_) rfl rfl (λW hS => ?_) ?_;rotate_left
    ·first
      | (
       conv=>lhs;simp[go_sem,hki]
       first|done|exact rfl)
      | (
       have hS:=hS rfl;obtain ⟨p1,p2⟩:=zM (HS.out.plan.keep hS);have d1:=keep hS y1;have d2:=keep hS y2;conv=>lhs;simp[go_sem, *,hki]
       first|done|exact rfl)
    simp only[Act.put,lA,lZ,lS]
   refine zT ?_;have HS2:=Lh (HS.out.below B2.out);have HB2:=Lh (zF HB.out B2.out HB.out.size);have NOS:Hid (gX w2 w.heap.size #[.slice a n0 c,.slice a' m0 c'] w2.heap.size (.slice (some ⟨g,0,none⟩) N cl) (hfs es) (.slice ao on co) o):=Lh ⟨HS2.out.plan,HS2.out.all,HS2.out.out,HS2.out.plan.in_,λg hg=>HS2.out.all.lt hg,λg hg=>HS2.out.out.lt hg⟩;go_wp2;go_roundw
   case rel=>exact ⟨k+1,o,on,ao,co,by omega,by go_num,rfl,by omega,NOI,HOL,NOS,HB2⟩
   case measure=>simp[intOf]<;>omega
  obtain rfl:k=N:=by omega
  have FIN:Hid (zY wr w.heap.size (.slice ao on co) (ot vs es i)):=Lh (by
   have:=HS.out.out;rw[HOI.out,List.take_of_length_le (by rw[HN.out];exact Nat.le_refl _),zBr]at this;exact this)
  go_wp2;go_ret;exact ⟨_,rfl,FIN.out,HB.out⟩
end
end Go.Proofs.Ytibnackmddigaaa.Pl
