import Derived.Test.YtibnackmddigaaaPlnT
set_option linter.unusedVariables false
set_option linter.unusedSimpArgs false
set_option linter.unusedSectionVars false
namespace Go.Proofs.Ytibnackmddigaaa.Pl
open Go.ChangeShapes Go.WideShapes Go.ChangeAt Go.RowKit
theorem vR {p:Prop} (h:p:=by simp only[xJ,List.filterMap_cons,List.filterMap_nil,List.getElem?_cons_zero,List.getElem?_cons_succ,Option.map_some];exact rfl):p:=h
theorem Qe {α:Type} (f:α->Int) (L:List α) (i:Nat) (hi:0<i) (p:α) (hp:L[i - 1]?=some p) (hr:∀ u∈L.take (i - 1),f u<f p) (z:Int):(∀ u∈L.take i,f u<z)↔f p<z:=by
 have hl:=(List.getElem?_eq_some_iff.1 hp).1;have e:L.take i=L.take (i - 1)++[p]:=by
  have:=List.take_append_getElem hl;rw[(List.getElem?_eq_some_iff.1 hp).2,show i - 1+1=i by omega]at this;exact this.symm
 rw[e];constructor
 ·intro h;exact h p (by simp)
 intro h u hu;rcases List.mem_append.1 hu with hu|hu
 ·have:=hr u hu;omega
 rw[List.mem_singleton]at hu;rw[hu];exact h
theorem zDs {vs:List Vx} {i:Nat} {x y:Int} (h:∀ m (hm:m<vs.length),m<i->decide ((vs[m]'hm).x=x/\(vs[m]'hm).y=y)=false):atV (vs.take i) x y=false:=by
 unfold atV;rw[List.any_eq_false];intro u hu;rw[List.mem_take_iff_getElem]at hu;obtain ⟨k,hk,rfl⟩:=hu;rw[h k (by omega) (by omega)];simp
theorem zB6 {vs:List Vx} {i m:Nat} {x y:Int} (hm:m<vs.length) (hi:m<i) (h:decide ((vs[m]'hm).x=x/\(vs[m]'hm).y=y)=true):atV (vs.take i) x y=true :=
 List.any_eq_true.2 ⟨vs[m]'hm,by rw[List.mem_take_iff_getElem];exact ⟨m,by omega,rfl⟩,h⟩
section
variable {v e : Value} {vs : List Vx} {es : List Eg} {w : World}
set_option maxRecDepth 10000 in
set_option maxHeartbeats 4000000 in
theorem mC (hv:VIn w v vs) (he:EIn w e es) (hn:vs.length<=100000) (hm:es.length<=100000):Calls Try.prog 19 #[.agg #[v,e]] w λr w'=>r=.returned (.bool (rtB vs es))/\Below w.heap.size w w':=by
 have VSL:=he.sl;have VX:=Lh (λW (hW:Below w.heap.size w W) (i:Int)=>gU v e vs i W (TIn.below hv hW) (by obtain ⟨a,c,k⟩:=he.sl;exact ⟨_,_,_,k⟩) hn);have AT:=Lh (λW (hW:Below w.heap.size w W) (i:Int) (hi:yJ vs i=true)=>fL v e vs i W (TIn.below hv hW) (by obtain ⟨a,c,k⟩:=he.sl;exact ⟨_,_,_,k⟩) hn hi);have LK:=Lh (λ(e':Value) (es':List Eg) W (hW:EIn W e' es') (h2:es'.length<=100000) (a b:Int)=>Yx v e' es' a b W hW (by obtain ⟨a,c,k⟩:=hv.sl;exact ⟨_,_,_,k⟩) h2);have RON:=Lh (λW (hW:Below w.heap.size w W) (p1 p2 s1 s2:Int) (hr:FlV vs) hp hs=>zBt v e vs p1 p2 s1 s2 W (TIn.below hv hW) (by obtain ⟨a,c,k⟩:=he.sl;exact ⟨_,_,_,k⟩) hn hr.rng hp hs);have RMT:=Lh (λW (hW:Below w.heap.size w W) (p1 p2 s1 s2:Int) (n:Nat) (h1:n<=es.length) (hV:FlV vs) hE hp hs hps=>Vb v e vs es p1 p2 s1 s2 W (TIn.below hv hW) (TIn.below he hW) hn hm n h1 hV hE hp hs hps);clear VSL;obtain ⟨a,cap,rfl,hc1,hc2,-,hcl⟩:=hv.open_;obtain ⟨a',cap',rfl,hc1',hc2',hcut,hcl'⟩:=he.open_;have HV:=Lh hcl;have HE:=Lh hcl';have EC:=Lh (λW (hW:Below w.heap.size w W) k (hk:k<=es.length)=>show EIn W (.slice a' k cap') (es.take k) from TIn.below (hcut k hk) hW);have NRT:Hid (¬ Rt vs es->rtB vs es=false):=Lh jZ;have YRT:Hid (Rt vs es->rtB vs es=true):=Lh uG.2;have FEW:Hid (Rt vs es->vs.length<=512/\es.length<=1024):=Lh λh=>by
  have:=uE.1 h;exact ⟨this.1.few,this.2.few⟩
 obtain ⟨R,hR⟩:∃ R,R=rtB vs es:=⟨_,rfl⟩
 rw[<- hR]at NRT YRT ⊢;clear hR hv he hcl hcl' hcut;obtain ⟨n,hnn⟩:∃ n,n=vs.length:=⟨_,rfl⟩
 obtain ⟨m,hmm⟩:∃ m,m=es.length:=⟨_,rfl⟩
 rw[<- hnn]at hc1 hn FEW VX AT RON RMT LK ⊢;rw[<- hmm]at hc1' hm FEW VX AT RON RMT EC ⊢;have HN:=Lh hnn;have HM:=Lh hmm;clear hnn hmm;have OB:=Lh (Own.made w 25 #[.slice a n cap,.slice a' m cap']);have BB:=Lh (bx1 w 25 #[.slice a n cap,.slice a' m cap']);by_cases k1:512<n
 ·obtain rfl:R=false:=NRT.out λh=>by have:=(FEW.out h).1;omega
  go_enter Try.func19,Try.ntmps19;go_wp2;go_ret;exact ⟨rfl,BB.out⟩
 by_cases k2:1024<m
 ·obtain rfl:R=false:=NRT.out λh=>by have:=(FEW.out h).2;omega
  go_enter Try.func19,Try.ntmps19;go_wp2;go_ret;exact ⟨rfl,BB.out⟩
 clear FEW;go_enter Try.func19,Try.ntmps19;go_wp2;go_loopw [3] (λj wr=>∃ i:Nat,i<=n/\j=.int .i64 (i:Int)/\Hid (∀ k,k<i->OkV vs k)/\Hid (Own wr w.heap.size 25 #[.slice a n cap,.slice a' m cap'])/\Hid (Below w.heap.size w wr)) (λj wr=>n - (intOf j).toNat)
 case atStart=>exact ⟨0,by omega,rfl,Lh λk hk=>by omega,OB,BB⟩
 case round =>
  clear OB BB;obtain ⟨i,hi,rfl,HOK,HP,HB⟩:=hrel;obtain ⟨p1,p2,p3⟩:=HP.out.at_;have HBz:=Lh HB.out.size;by_cases hlt:i<n
  ·have hil:i<vs.length:=by rw[<- HN.out];exact hlt
   obtain ⟨b,o,rfl,hb,hc⟩:=HV.out i hil;obtain ⟨c1,c2,c3⟩:=hc wr HB.out;have GE:=Lh (List.getElem?_eq_getElem hil);obtain ⟨x,hx⟩:∃ x,x=vs[i]'hil:=⟨_,rfl⟩
   rw[<- hx]at c1 c2 c3 GE;clear hx hc;obtain ⟨x1,x2,x3⟩:=x;simp only at c1 c2 c3;have i9:(i:Int)<(n:Int):=by omega
   have OKK:Hid (OkV vs i↔0<x1/\(∀ u∈vs.take i,u.id<x1)/\inB x2 x3=true/\atV (vs.take i) x2 x3=false):=Lh (by
    constructor
    ·intro h;have:=h _ GE.out;rw[fI]at this;exact ⟨this.1,this.2.1,this.2.2.1,this.2.2.2.1⟩
    rintro ⟨h1,h2,h3,h4⟩ v hv;rw[GE.out]at hv;injection hv with hv;subst hv;exact ⟨h1,h2,fI.2 ⟨h3,h4,rfl,by rw[List.length_take];omega⟩⟩)
   have PV:Hid (∀ (h0:0<i),∃ b9 o9 z,some (⟨b,o,none⟩:Addr)=some ⟨b9,o9,none⟩/\(∀ W,Below w.heap.size w W->W.cell? ⟨b9,o9+(i - 1)*3,none⟩=some (.int .i64 z))/\((∀ u∈vs.take i,u.id<x1)↔z<x1)):=Lh λh0=>by
    have hil':i - 1<vs.length:=by omega
    obtain ⟨b9,o9,e9,_,hc9⟩:=HV.out (i - 1) hil';refine ⟨b9,o9,_,e9,λW hW=>(hc9 W hW).1,Qe Vx.id vs i h0 _ (List.getElem?_eq_getElem hil') (λu hu=>(HOK.out (i - 1) (by omega) _ (List.getElem?_eq_getElem hil')).2.1 u hu) x1⟩
   have INC:=Lh (λW=>RIn_any x2 x3 W);obtain ⟨t,ht⟩:∃ t,t=inB x2 x3:=⟨_,rfl⟩
   rw[<- ht]at INC OKK;clear ht;have OX:=Lh (Own.made wr 39 #[.int .i64 x1,.int .i64 x2,.int .i64 x3]);have BX:=Lh (bx1 wr 39 #[.int .i64 x1,.int .i64 x2,.int .i64 x3]);go_upto_region 7 with fail;have P1:=Lh (HP.out.keep BX.out);have B1:=Lh (zF HB.out BX.out HB.out.size);generalize hW1:wr.alloc (.cells #[.int .i64 x1,.int .i64 x2,.int .i64 x3] 39)=W1 at OX BX P1 B1 ⊢
   clear hW1 p1 p2 p3 c1 c2 c3;have KB:Hid (∀ W,Below W1.heap.size W1 W->Below w.heap.size w W/\Own W w.heap.size 25 #[.slice (some ⟨b,o,none⟩) n cap,.slice a' m cap']/\Own W wr.heap.size 39 #[.int .i64 x1,.int .i64 x2,.int .i64 x3]):=Lh λW hW=>⟨zF B1.out hW B1.out.size,P1.out.keep hW,OX.out.keep hW⟩
   have D1:Below W1.heap.size W1 W1.drew:=(Below.refl _ _).drew;by_cases s1:x1<1
   ·obtain rfl:R=false:=NRT.out λh=>by have:=(OKK.out.1 (h.1 i)).1;omega
    refine zL (λW=>Below W1.heap.size W1 W) (0::1::2::3::4::5::6::7::8::9::10::11::12::13::14::15::16::17::18::19::20::21::22::23::24::[]) (1::[]) (0::1::2::3::4::5::6::7::8::9::10::11::12::13::14::15::16::17::18::19::20::21::22::23::24::[]) (by kernel_rfl) (by kernel_rfl) rfl (by kernel_rfl) rfl (D1) vR ?_;iterate 4
     refine zH (v := ?_) rfl rfl (λW hS => ?_) ?_;rotate_left
     ·first
       | (
        conv=>lhs;simp[go_sem,s1]
        first|done|exact rfl)
       | (
        have hS:=hS rfl;obtain ⟨hbw,h1,h2⟩:=KB.out _ hS;obtain ⟨q0,q1⟩:=zN h1;obtain ⟨g1,g2,g3⟩:=zK h2;conv=>lhs;simp[go_sem, *,s1]
        first|done|exact rfl)
     simp only[Act.put,lA,lZ,lS]
    refine zB rfl rfl ?_;simp only[Act.put,lA,lZ,lS];refine zB rfl rfl ?_;simp only[Act.put,lA,lZ,lS];refine zB rfl rfl ?_;simp only[Act.put,lA,lZ,lS];refine zB rfl rfl ?_;simp only[Act.put,lA,lZ,lS];refine zB rfl rfl ?_;simp only[Act.put,lA,lZ,lS];refine zB rfl rfl ?_;simp only[Act.put,lA,lZ,lS];refine zB rfl rfl ?_;simp only[Act.put,lA,lZ,lS];refine zB rfl rfl ?_;simp only[Act.put,lA,lZ,lS];refine zB rfl rfl ?_;simp only[Act.put,lA,lZ,lS];refine zB rfl rfl ?_;simp only[Act.put,lA,lZ,lS];refine zB rfl rfl ?_;simp only[Act.put,lA,lZ,lS];refine zB rfl rfl ?_;simp only[Act.put,lA,lZ,lS];refine zB rfl rfl ?_;simp only[Act.put,lA,lZ,lS];refine zB rfl rfl ?_
    simp only[Act.put,lA,lZ,lS];iterate 2
     refine zH (v := ?_) rfl rfl (λW hS => ?_) ?_;rotate_left
     ·first
       | (
        conv=>lhs;simp[go_sem,s1]
        first|done|exact rfl)
       | (
        have hS:=hS rfl;obtain ⟨hbw,h1,h2⟩:=KB.out _ hS;obtain ⟨q0,q1⟩:=zN h1;obtain ⟨g1,g2,g3⟩:=zK h2;conv=>lhs;simp[go_sem, *,s1]
        first|done|exact rfl)
     simp only[Act.put,lA,lZ,lS]
    refine zB rfl rfl ?_;simp only[Act.put,lA,lZ,lS];refine zB rfl rfl ?_;simp only[Act.put,lA,lZ,lS];refine zB rfl rfl ?_;simp only[Act.put,lA,lZ,lS];refine zB rfl rfl ?_;simp only[Act.put,lA,lZ,lS];iterate 1
     refine zH (v := ?_) rfl rfl (λW hS => ?_) ?_;rotate_left
     ·first
       | (
        conv=>lhs;simp[go_sem,s1]
        first|done|exact rfl)
       | (
        have hS:=hS rfl;obtain ⟨hbw,h1,h2⟩:=KB.out _ hS;obtain ⟨q0,q1⟩:=zN h1;obtain ⟨g1,g2,g3⟩:=zK h2;conv=>lhs;simp[go_sem, *,s1]
        first|done|exact rfl)
     simp only[Act.put,lA,lZ,lS]
    refine zT ?_;go_wp2;go_ret;exact ⟨rfl,(KB.out _ D1).1⟩
   by_cases s2:i=0
   ·subst s2;clear PV;cases t with
    | false =>
     obtain rfl:R=false:=NRT.out λh=>by have:=(OKK.out.1 (h.1 0)).2.2.1;cases this
     refine zL (λW=>Below W1.heap.size W1 W) (0::1::2::3::4::5::6::7::8::9::10::11::12::13::14::15::16::17::18::19::20::21::23::24::[]) (1::21::[]) (0::1::2::3::4::5::6::7::8::9::10::11::12::13::14::15::16::17::18::19::20::21::22::23::24::[]) (by kernel_rfl) (by kernel_rfl) rfl (by kernel_rfl) rfl (D1) vR ?_;iterate 7
      refine zH (v := ?_) rfl rfl (λW hS => ?_) ?_;rotate_left
      ·first
        | (
         conv=>lhs;simp[go_sem,s1]
         first|done|exact rfl)
        | (
         have hS:=hS rfl;obtain ⟨hbw,h1,h2⟩:=KB.out _ hS;obtain ⟨q0,q1⟩:=zN h1;obtain ⟨g1,g2,g3⟩:=zK h2;conv=>lhs;simp[go_sem, *,s1]
         first|done|exact rfl)
      simp only[Act.put,lA,lZ,lS]
     refine zB rfl rfl ?_;simp only[Act.put,lA,lZ,lS];refine zB rfl rfl ?_;simp only[Act.put,lA,lZ,lS];refine zB rfl rfl ?_;simp only[Act.put,lA,lZ,lS];refine zB rfl rfl ?_;simp only[Act.put,lA,lZ,lS];refine zB rfl rfl ?_;simp only[Act.put,lA,lZ,lS];refine zB rfl rfl ?_;simp only[Act.put,lA,lZ,lS];refine zB rfl rfl ?_;simp only[Act.put,lA,lZ,lS];refine zB rfl rfl ?_;simp only[Act.put,lA,lZ,lS];refine zB rfl rfl ?_;simp only[Act.put,lA,lZ,lS];refine zB rfl rfl ?_;simp only[Act.put,lA,lZ,lS];iterate 5
      refine zH (v := ?_) rfl rfl (λW hS => ?_) ?_;rotate_left
      ·first
        | (
         conv=>lhs;simp[go_sem,s1]
         first|done|exact rfl)
        | (
         have hS:=hS rfl;obtain ⟨hbw,h1,h2⟩:=KB.out _ hS;obtain ⟨q0,q1⟩:=zN h1;obtain ⟨g1,g2,g3⟩:=zK h2;conv=>lhs;simp[go_sem, *,s1]
         first|done|exact rfl)
      simp only[Act.put,lA,lZ,lS]
     refine zQ rfl rfl λK hK => ?_
     go_wp2_with (go_at_call 40;refine (INC.out _).mono ?_;rintro e w3 ⟨rfl,b3⟩)
     have B3:=Lh (zF D1 b3 (Nat.le_refl _));refine hK _ _ B3.out ?_;clear hK K b3;iterate 2
      refine zH (v := ?_) rfl rfl (λW hS => ?_) ?_;rotate_left
      ·first
        | (
         conv=>lhs;simp[go_sem,s1]
         first|done|exact rfl)
        | (
         have hS:=hS rfl;obtain ⟨hbw,h1,h2⟩:=KB.out _ hS;obtain ⟨q0,q1⟩:=zN h1;obtain ⟨g1,g2,g3⟩:=zK h2;conv=>lhs;simp[go_sem, *,s1]
         first|done|exact rfl)
      simp only[Act.put,lA,lZ,lS]
     refine zT ?_;go_wp2;go_ret;exact ⟨rfl,(KB.out _ B3.out).1⟩
    | true =>
     refine zL (λW=>Below W1.heap.size W1 W) (0::1::2::3::4::5::6::7::8::9::10::11::12::13::14::15::16::17::18::19::20::21::23::24::[]) (1::21::[]) (0::1::2::3::4::5::6::7::8::9::10::11::12::13::14::15::16::17::18::19::20::21::22::23::24::[]) (by kernel_rfl) (by kernel_rfl) rfl (by kernel_rfl) rfl (D1) vR ?_;iterate 7
      refine zH (v := ?_) rfl rfl (λW hS => ?_) ?_;rotate_left
      ·first
        | (
         conv=>lhs;simp[go_sem,s1]
         first|done|exact rfl)
        | (
         have hS:=hS rfl;obtain ⟨hbw,h1,h2⟩:=KB.out _ hS;obtain ⟨q0,q1⟩:=zN h1;obtain ⟨g1,g2,g3⟩:=zK h2;conv=>lhs;simp[go_sem, *,s1]
         first|done|exact rfl)
      simp only[Act.put,lA,lZ,lS]
     refine zB rfl rfl ?_;simp only[Act.put,lA,lZ,lS];refine zB rfl rfl ?_;simp only[Act.put,lA,lZ,lS];refine zB rfl rfl ?_;simp only[Act.put,lA,lZ,lS];refine zB rfl rfl ?_;simp only[Act.put,lA,lZ,lS];refine zB rfl rfl ?_;simp only[Act.put,lA,lZ,lS];refine zB rfl rfl ?_;simp only[Act.put,lA,lZ,lS];refine zB rfl rfl ?_;simp only[Act.put,lA,lZ,lS];refine zB rfl rfl ?_;simp only[Act.put,lA,lZ,lS];refine zB rfl rfl ?_;simp only[Act.put,lA,lZ,lS];refine zB rfl rfl ?_;simp only[Act.put,lA,lZ,lS];iterate 5
      refine zH (v := ?_) rfl rfl (λW hS => ?_) ?_;rotate_left
      ·first
        | (
         conv=>lhs;simp[go_sem,s1]
         first|done|exact rfl)
        | (
         have hS:=hS rfl;obtain ⟨hbw,h1,h2⟩:=KB.out _ hS;obtain ⟨q0,q1⟩:=zN h1;obtain ⟨g1,g2,g3⟩:=zK h2;conv=>lhs;simp[go_sem, *,s1]
         first|done|exact rfl)
      simp only[Act.put,lA,lZ,lS]
     refine zQ rfl rfl λK hK => ?_
     go_wp2_with (go_at_call 40;refine (INC.out _).mono ?_;rintro e w3 ⟨rfl,b3⟩)
     have B3:=Lh (zF D1 b3 (Nat.le_refl _));refine hK _ _ B3.out ?_;clear hK K b3;iterate 2
      refine zH (v := ?_) rfl rfl (λW hS => ?_) ?_;rotate_left
      ·first
        | (
         conv=>lhs;simp[go_sem,s1]
         first|done|exact rfl)
        | (
         have hS:=hS rfl;obtain ⟨hbw,h1,h2⟩:=KB.out _ hS;obtain ⟨q0,q1⟩:=zN h1;obtain ⟨g1,g2,g3⟩:=zK h2;conv=>lhs;simp[go_sem, *,s1]
         first|done|exact rfl)
      simp only[Act.put,lA,lZ,lS]
     refine zT ?_;go_wp2;go_loopw [5] (λj wq=>j=.int .i64 0/\Hid (Below W1.heap.size W1 wq)) (λj wq=>0)
     case atStart=>exact ⟨rfl,B3⟩
     case round =>
      obtain ⟨rfl,HQ⟩:=hrel;have OKI:Hid (OkV vs 0):=Lh (OKK.out.2 ⟨by omega,λu hu=>by simp at hu,by trivial,rfl⟩);have HPK:=Lh (KB.out _ HQ.out);go_wp2;go_roundw
      case rel=>exact ⟨1,by omega,rfl,Lh λq hq=>by
       obtain rfl:q=0:=by omega
       exact OKI.out,Lh HPK.out.2.1,Lh HPK.out.1⟩
      case measure=>simp[intOf]<;>omega
   obtain ⟨b9,o9,z,e9,hc9,hz⟩:=PV.out (by omega);injection e9 with e9;injection e9 with e9 e8 _;subst e9 e8;have PC:=Lh hc9;have PZ:=Lh hz;have n0:0<i:=by omega
   have n1:(0:Int)<(i:Int):=by omega
   have n2:IntKind.i64.wrap ((i:Int) - 1)=((i - 1:Nat):Int):=by rw[IntKind.wrap_i64];omega
   have n3:((i - 1:Nat):Int)<(n:Int):=by omega
   clear hc9 hz PV;by_cases s3:x1<=z
   ·obtain rfl:R=false:=NRT.out λh=>by have:=PZ.out.1 (OKK.out.1 (h.1 i)).2.1;omega
    refine zL (λW=>Below W1.heap.size W1 W) (0::1::2::3::4::5::6::7::8::9::10::11::12::13::14::15::16::17::18::19::20::21::22::23::24::[]) (1::8::13::15::[]) (0::1::2::3::4::5::6::7::8::9::10::11::12::13::14::15::16::17::18::19::20::21::22::23::24::[]) (by kernel_rfl) (by kernel_rfl) rfl (by kernel_rfl) rfl (D1) vR ?_;iterate 20
     refine zH (v := ?_) rfl rfl (λW hS => ?_) ?_;rotate_left
     ·first
       | (
        conv=>lhs;simp[go_sem,s1,n0,n1,n2,n3,s3]
        first|done|exact rfl)
       | (
        have hS:=hS rfl;obtain ⟨hbw,h1,h2⟩:=KB.out _ hS;obtain ⟨q0,q1⟩:=zN h1;obtain ⟨g1,g2,g3⟩:=zK h2;have pc:=PC.out _ hbw;conv=>lhs;simp[go_sem, *,s1,n0,n1,n2,n3,s3]
        first|done|exact rfl)
     simp only[Act.put,lA,lZ,lS]
    refine zB rfl rfl ?_;simp only[Act.put,lA,lZ,lS];refine zB rfl rfl ?_;simp only[Act.put,lA,lZ,lS];refine zB rfl rfl ?_;simp only[Act.put,lA,lZ,lS];refine zB rfl rfl ?_;simp only[Act.put,lA,lZ,lS];iterate 1
     refine zH (v := ?_) rfl rfl (λW hS => ?_) ?_;rotate_left
     ·first
       | (
        conv=>lhs;simp[go_sem,s1,n0,n1,n2,n3,s3]
        first|done|exact rfl)
       | (
        have hS:=hS rfl;obtain ⟨hbw,h1,h2⟩:=KB.out _ hS;obtain ⟨q0,q1⟩:=zN h1;obtain ⟨g1,g2,g3⟩:=zK h2;have pc:=PC.out _ hbw;conv=>lhs;simp[go_sem, *,s1,n0,n1,n2,n3,s3]
        first|done|exact rfl)
     simp only[Act.put,lA,lZ,lS]
    refine zT ?_;go_wp2;go_ret;exact ⟨rfl,(KB.out _ D1).1⟩
   cases t with
   | false =>
    obtain rfl:R=false:=NRT.out λh=>by have:=(OKK.out.1 (h.1 i)).2.2.1;cases this
    refine zL (λW=>Below W1.heap.size W1 W) (0::1::2::3::4::5::6::7::8::9::10::11::12::13::14::15::16::17::18::19::20::21::23::24::[]) (1::8::13::15::21::[]) (0::1::2::3::4::5::6::7::8::9::10::11::12::13::14::15::16::17::18::19::20::21::22::23::24::[]) (by kernel_rfl) (by kernel_rfl) rfl (by kernel_rfl) rfl (D1) vR ?_;iterate 22
     refine zH (v := ?_) rfl rfl (λW hS => ?_) ?_;rotate_left
     ·first
       | (
        conv=>lhs;simp[go_sem,s1,n0,n1,n2,n3,s3]
        first|done|exact rfl)
       | (
        have hS:=hS rfl;obtain ⟨hbw,h1,h2⟩:=KB.out _ hS;obtain ⟨q0,q1⟩:=zN h1;obtain ⟨g1,g2,g3⟩:=zK h2;have pc:=PC.out _ hbw;conv=>lhs;simp[go_sem, *,s1,n0,n1,n2,n3,s3]
        first|done|exact rfl)
     simp only[Act.put,lA,lZ,lS]
    refine zQ rfl rfl λK hK => ?_
    go_wp2_with (go_at_call 40;refine (INC.out _).mono ?_;rintro e w3 ⟨rfl,b3⟩)
    have B3:=Lh (zF D1 b3 (Nat.le_refl _));refine hK _ _ B3.out ?_;clear hK K b3;iterate 2
     refine zH (v := ?_) rfl rfl (λW hS => ?_) ?_;rotate_left
     ·first
       | (
        conv=>lhs;simp[go_sem,s1,n0,n1,n2,n3,s3]
        first|done|exact rfl)
       | (
        have hS:=hS rfl;obtain ⟨hbw,h1,h2⟩:=KB.out _ hS;obtain ⟨q0,q1⟩:=zN h1;obtain ⟨g1,g2,g3⟩:=zK h2;have pc:=PC.out _ hbw;conv=>lhs;simp[go_sem, *,s1,n0,n1,n2,n3,s3]
        first|done|exact rfl)
     simp only[Act.put,lA,lZ,lS]
    refine zT ?_;go_wp2;go_ret;exact ⟨rfl,(KB.out _ B3.out).1⟩
   | true =>
    refine zL (λW=>Below W1.heap.size W1 W) (0::1::2::3::4::5::6::7::8::9::10::11::12::13::14::15::16::17::18::19::20::21::23::24::[]) (1::8::13::15::21::[]) (0::1::2::3::4::5::6::7::8::9::10::11::12::13::14::15::16::17::18::19::20::21::22::23::24::[]) (by kernel_rfl) (by kernel_rfl) rfl (by kernel_rfl) rfl (D1) vR ?_;iterate 22
     refine zH (v := ?_) rfl rfl (λW hS => ?_) ?_;rotate_left
     ·first
       | (
        conv=>lhs;simp[go_sem,s1,n0,n1,n2,n3,s3]
        first|done|exact rfl)
       | (
        have hS:=hS rfl;obtain ⟨hbw,h1,h2⟩:=KB.out _ hS;obtain ⟨q0,q1⟩:=zN h1;obtain ⟨g1,g2,g3⟩:=zK h2;have pc:=PC.out _ hbw;conv=>lhs;simp[go_sem, *,s1,n0,n1,n2,n3,s3]
        first|done|exact rfl)
     simp only[Act.put,lA,lZ,lS]
    refine zQ rfl rfl λK hK => ?_
    go_wp2_with (go_at_call 40;refine (INC.out _).mono ?_;rintro e w3 ⟨rfl,b3⟩)
    have B3:=Lh (zF D1 b3 (Nat.le_refl _));refine hK _ _ B3.out ?_;clear hK K b3;iterate 2
     refine zH (v := ?_) rfl rfl (λW hS => ?_) ?_;rotate_left
     ·first
       | (
        conv=>lhs;simp[go_sem,s1,n0,n1,n2,n3,s3]
        first|done|exact rfl)
       | (
        have hS:=hS rfl;obtain ⟨hbw,h1,h2⟩:=KB.out _ hS;obtain ⟨q0,q1⟩:=zN h1;obtain ⟨g1,g2,g3⟩:=zK h2;have pc:=PC.out _ hbw;conv=>lhs;simp[go_sem, *,s1,n0,n1,n2,n3,s3]
        first|done|exact rfl)
     simp only[Act.put,lA,lZ,lS]
    refine zT ?_;have KS:=Lh (λ(k:Nat) (hk:k<vs.length)=>HV.out k hk);go_wp2;go_loopw [5] (λj wq=>∃ k:Nat,k<=i/\j=.int .i64 (k:Int)/\Hid (∀ q (hq:q<vs.length),q<k->decide ((vs[q]'hq).x=x2/\(vs[q]'hq).y=x3)=false)/\Hid (Below W1.heap.size W1 wq)) (λj wq=>i - (intOf j).toNat)
    case atStart=>exact ⟨0,by omega,rfl,Lh λq hq h=>by omega,B3⟩
    case round =>
     obtain ⟨k,hk,rfl,hno,HQ⟩:=hrel;by_cases hlk:k<i
     ·have hkl:k<vs.length:=by omega
      obtain ⟨b7,o7,e7,hb7,hc7⟩:=KS.out k hkl;injection e7 with e7;injection e7 with e7 e6 _;subst e7 e6;have H7:=Lh hc7;have NK:Hid (decide ((vs[k]'hkl).x=x2/\(vs[k]'hkl).y=x3)=true->R=false):=Lh λhy=>NRT.out λh=>by
       have:=(OKK.out.1 (h.1 i)).2.2.2;rw[zB6 hkl hlk hy]at this;cases this
      obtain ⟨y,hy⟩:∃ y,y=vs[k]'hkl:=⟨_,rfl⟩
      rw[<- hy]at H7 NK;have HY:=Lh hy;clear hy hc7;obtain ⟨y1,y2,y3⟩:=y;simp only at H7 NK;have k9:(k:Int)<(n:Int):=by omega
      go_upto_region 12 with fail;by_cases hyx:y2=x2/\y3=x3
      ·have hye:decide (y2=x2/\y3=x3)=true:=by simpa using hyx
       obtain rfl:R=false:=NK.out hye;refine zL (λW=>Below W1.heap.size W1 W) (0::1::2::3::4::5::6::7::8::[]) (1::5::7::[]) (0::1::2::3::4::5::6::7::8::[]) (by kernel_rfl) (by kernel_rfl) rfl (by kernel_rfl) rfl (HQ.out.drew) vR ?_;iterate 9
        refine zH (v := ?_) rfl rfl (λW hS => ?_) ?_;rotate_left
        ·first
          | (
           conv=>lhs;simp[go_sem,zO,k9,hyx.1,hyx.2]
           first|done|exact rfl)
          | (
           have hS:=hS rfl;obtain ⟨hbw,h1,h2⟩:=KB.out _ hS;obtain ⟨q0,q1⟩:=zN h1;obtain ⟨g1,g2,g3⟩:=zK h2;obtain ⟨f1,f2,f3⟩:=H7.out _ hbw;conv=>lhs;simp[go_sem, *,zO,k9,hyx.1,hyx.2]
           first|done|exact rfl)
        simp only[Act.put,lA,lZ,lS]
       refine zT ?_;go_wp2;go_ret;exact ⟨rfl,(KB.out _ HQ.out.drew).1⟩
      have hye:Hid (decide (y2=x2/\y3=x3)=false):=Lh (by simpa using hyx);refine zL (λW=>Below W1.heap.size W1 W) (0::1::2::3::4::5::6::7::8::[]) (1::5::7::[]) (0::1::2::3::4::5::6::7::8::[]) (by kernel_rfl) (by kernel_rfl) rfl (by kernel_rfl) rfl (HQ.out.drew) vR ?_;iterate 9
       refine zH (v := ?_) rfl rfl (λW hS => ?_) ?_;rotate_left
       ·first
         | (
          conv=>lhs;simp[go_sem,zO,k9,hyx]
          first|done|exact rfl)
         | (
          have hS:=hS rfl;obtain ⟨hbw,h1,h2⟩:=KB.out _ hS;obtain ⟨q0,q1⟩:=zN h1;obtain ⟨g1,g2,g3⟩:=zK h2;obtain ⟨f1,f2,f3⟩:=H7.out _ hbw;conv=>lhs;simp[go_sem, *,zO,k9,hyx]
          first|done|exact rfl)
       simp only[Act.put,lA,lZ,lS]
      refine zT ?_;go_wp2;go_roundw
      case rel =>
       refine ⟨k+1,by omega,by go_num,Lh λq hq hqk => ?_,Lh HQ.out.drew⟩;rcases Nat.lt_succ_iff_lt_or_eq.1 hqk with hqk|rfl
       ·exact hno.out q hq hqk
       rw[<- HY.out];exact hye.out
      case measure=>simp[intOf]<;>omega
     obtain rfl:k=i:=by omega
     have OKI:Hid (OkV vs k):=Lh (OKK.out.2 ⟨by omega,PZ.out.2 (by omega),by trivial,zDs λq hq h=>hno.out q hq h⟩);have HPK:=Lh (KB.out _ HQ.out);go_wp2;go_roundw
     case rel=>exact ⟨k+1,by omega,by go_num,Lh λq hq=>by
      rcases Nat.lt_succ_iff_lt_or_eq.1 hq with hq|rfl
      ·exact HOK.out q hq
      exact OKI.out,Lh HPK.out.2.1,Lh HPK.out.1⟩
     case measure=>simp[intOf]<;>omega
  have FV:Hid (FlV vs):=Lh (Xf.1 λk u hu=>by
   have hk:=(List.getElem?_eq_some_iff.1 hu).1;exact HOK.out k (by have:=HN.out;omega) u hu)
  clear HOK HV;have HP0:=HP;have HB0:=HB;clear HP HB HBz;go_wp2;go_loopw [6] (λj wq=>∃ i:Nat,i<=m/\j=.int .i64 (i:Int)/\Hid (∀ k,k<i->OkE vs es k)/\Hid (Own wq w.heap.size 25 #[.slice a n cap,.slice a' m cap'])/\Hid (Below w.heap.size w wq)) (λj wq=>m - (intOf j).toNat)
  case atStart=>exact ⟨0,by omega,rfl,Lh λk hk=>by omega,HP0,HB0⟩
  case round =>
   clear HP0 HB0 hlt hi p1 p2 p3;obtain ⟨i,hi,rfl,HOK,HP,HB⟩:=hrel;obtain ⟨p1,p2,p3⟩:=HP.out.at_;have HBz:=Lh HB.out.size;by_cases hlt:i<m
   ·have hil:i<es.length:=by rw[<- HM.out];exact hlt
    obtain ⟨b,o,rfl,hb,hc⟩:=HE.out i hil;obtain ⟨c1,c2,c3⟩:=hc wr HB.out;have GE:=Lh (List.getElem?_eq_getElem hil);obtain ⟨x,hx⟩:∃ x,x=es[i]'hil:=⟨_,rfl⟩
    rw[<- hx]at c1 c2 c3 GE;clear hx hc;obtain ⟨x1,x2,x3⟩:=x;simp only at c1 c2 c3;have i9:(i:Int)<(m:Int):=by omega
    have OKK:Hid (OkE vs es i↔0<x1/\(∀ u∈es.take i,u.id<x1)/\x2≠x3/\yJ vs x2=true/\yJ vs x3=true/\jnL (es.take i) x2 x3=false/\onV vs (px vs x2) (py vs x2) (px vs x3) (py vs x3)=false/\mtL vs (es.take i) (px vs x2) (py vs x2) (px vs x3) (py vs x3)=false):=Lh (by
     constructor
     ·intro h;have:=h _ GE.out;rw[jD]at this;exact ⟨this.1,this.2.1,this.2.2.1,this.2.2.2.1,this.2.2.2.2.1,this.2.2.2.2.2.1,this.2.2.2.2.2.2.1,this.2.2.2.2.2.2.2.1⟩
     rintro ⟨h1,h2,h3,h4,h5,h6,h7,h8⟩ v hv;rw[GE.out]at hv;injection hv with hv;subst hv;exact ⟨h1,h2,jD.2 ⟨h3,h4,h5,h6,h7,h8,by rw[List.length_take];omega⟩⟩)
    have PV:Hid (∀ (h0:0<i),∃ b9 o9 z,some (⟨b,o,none⟩:Addr)=some ⟨b9,o9,none⟩/\(∀ W,Below w.heap.size w W->W.cell? ⟨b9,o9+(i - 1)*3,none⟩=some (.int .i64 z))/\((∀ u∈es.take i,u.id<x1)↔z<x1)):=Lh λh0=>by
     have hil':i - 1<es.length:=by omega
     obtain ⟨b9,o9,e9,_,hc9⟩:=HE.out (i - 1) hil';refine ⟨b9,o9,_,e9,λW hW=>(hc9 W hW).1,Qe Eg.id es i h0 _ (List.getElem?_eq_getElem hil') (λu hu=>(HOK.out (i - 1) (by omega) _ (List.getElem?_eq_getElem hil')).2.1 u hu) x1⟩
    have OX:=Lh (Own.made wr 71 #[.int .i64 x1,.int .i64 x2,.int .i64 x3]);have BX:=Lh (bx1 wr 71 #[.int .i64 x1,.int .i64 x2,.int .i64 x3]);go_upto_region 18 with fail;have P1:=Lh (HP.out.keep BX.out);have B1:=Lh (zF HB.out BX.out HB.out.size);generalize hW1:wr.alloc (.cells #[.int .i64 x1,.int .i64 x2,.int .i64 x3] 71)=W1 at OX BX P1 B1 ⊢
    clear hW1 p1 p2 p3 c1 c2 c3;have KB:Hid (∀ W,Below W1.heap.size W1 W->Below w.heap.size w W/\Own W w.heap.size 25 #[.slice a n cap,.slice (some ⟨b,o,none⟩) m cap']/\Own W wr.heap.size 71 #[.int .i64 x1,.int .i64 x2,.int .i64 x3]):=Lh λW hW=>⟨zF B1.out hW B1.out.size,P1.out.keep hW,OX.out.keep hW⟩
    have D1:Below W1.heap.size W1 W1.drew:=(Below.refl _ _).drew;have VA:=Lh (λW (hW:Below W1.heap.size W1 W)=>VX.out W (KB.out W hW).1 x2);have VB:=Lh (λW (hW:Below W1.heap.size W1 W)=>VX.out W (KB.out W hW).1 x3);have NA:=Xi vs x2;have NB:=Xi vs x3;obtain ⟨za,hza⟩:∃ z,z=vIx vs x2:=⟨_,rfl⟩
    obtain ⟨zb,hzb⟩:∃ z,z=vIx vs x3:=⟨_,rfl⟩
    rw[<- hza]at VA NA;rw[<- hzb]at VB NB;have NAH:=Lh NA;have NBH:=Lh NB;clear hza hzb NA NB;by_cases s1:x1<1
    ·obtain rfl:R=false:=NRT.out λh=>by have:=(OKK.out.1 (h.2 i)).1;omega
     refine zL (λW=>Below W1.heap.size W1 W) (0::1::2::3::4::5::6::7::8::9::10::11::12::13::14::15::16::17::18::19::20::21::22::23::24::25::26::27::28::29::30::31::32::33::34::35::36::37::38::39::[]) (1::[]) (0::1::2::3::4::5::6::7::8::9::10::11::12::13::14::15::16::17::18::19::20::21::22::23::24::25::26::27::28::29::30::31::32::33::34::35::36::37::38::39::[]) (by kernel_rfl) (by kernel_rfl) rfl (by kernel_rfl) rfl (D1) vR ?_;iterate 4
      refine zH (v := ?_) rfl rfl (λW hS => ?_) ?_;rotate_left
      ·first
        | (
         conv=>lhs;simp[go_sem,s1]
         first|done|exact rfl)
        | (
         have hS:=hS rfl;obtain ⟨hbw,h1,h2⟩:=KB.out _ hS;obtain ⟨q0,q1⟩:=zN h1;obtain ⟨g1,g2,g3⟩:=zK h2;conv=>lhs;simp[go_sem, *,s1]
         first|done|exact rfl)
      simp only[Act.put,lA,lZ,lS]
     refine zB rfl rfl ?_;simp only[Act.put,lA,lZ,lS];refine zB rfl rfl ?_;simp only[Act.put,lA,lZ,lS];refine zB rfl rfl ?_;simp only[Act.put,lA,lZ,lS];refine zB rfl rfl ?_;simp only[Act.put,lA,lZ,lS];refine zB rfl rfl ?_;simp only[Act.put,lA,lZ,lS];refine zB rfl rfl ?_;simp only[Act.put,lA,lZ,lS];refine zB rfl rfl ?_;simp only[Act.put,lA,lZ,lS];refine zB rfl rfl ?_;simp only[Act.put,lA,lZ,lS];refine zB rfl rfl ?_;simp only[Act.put,lA,lZ,lS];refine zB rfl rfl ?_;simp only[Act.put,lA,lZ,lS];refine zB rfl rfl ?_;simp only[Act.put,lA,lZ,lS];refine zB rfl rfl ?_;simp only[Act.put,lA,lZ,lS];refine zB rfl rfl ?_;simp only[Act.put,lA,lZ,lS];refine zB rfl rfl ?_
     simp only[Act.put,lA,lZ,lS];iterate 2
      refine zH (v := ?_) rfl rfl (λW hS => ?_) ?_;rotate_left
      ·first
        | (
         conv=>lhs;simp[go_sem,s1]
         first|done|exact rfl)
        | (
         have hS:=hS rfl;obtain ⟨hbw,h1,h2⟩:=KB.out _ hS;obtain ⟨q0,q1⟩:=zN h1;obtain ⟨g1,g2,g3⟩:=zK h2;conv=>lhs;simp[go_sem, *,s1]
         first|done|exact rfl)
      simp only[Act.put,lA,lZ,lS]
     refine zB rfl rfl ?_;simp only[Act.put,lA,lZ,lS];refine zB rfl rfl ?_;simp only[Act.put,lA,lZ,lS];refine zB rfl rfl ?_;simp only[Act.put,lA,lZ,lS];refine zB rfl rfl ?_;simp only[Act.put,lA,lZ,lS];refine zB rfl rfl ?_;simp only[Act.put,lA,lZ,lS];iterate 2
      refine zH (v := ?_) rfl rfl (λW hS => ?_) ?_;rotate_left
      ·first
        | (
         conv=>lhs;simp[go_sem,s1]
         first|done|exact rfl)
        | (
         have hS:=hS rfl;obtain ⟨hbw,h1,h2⟩:=KB.out _ hS;obtain ⟨q0,q1⟩:=zN h1;obtain ⟨g1,g2,g3⟩:=zK h2;conv=>lhs;simp[go_sem, *,s1]
         first|done|exact rfl)
      simp only[Act.put,lA,lZ,lS]
     refine zB rfl rfl ?_;simp only[Act.put,lA,lZ,lS];refine zB rfl rfl ?_;simp only[Act.put,lA,lZ,lS];refine zB rfl rfl ?_;simp only[Act.put,lA,lZ,lS];refine zB rfl rfl ?_;simp only[Act.put,lA,lZ,lS];refine zB rfl rfl ?_;simp only[Act.put,lA,lZ,lS];iterate 2
      refine zH (v := ?_) rfl rfl (λW hS => ?_) ?_;rotate_left
      ·first
        | (
         conv=>lhs;simp[go_sem,s1]
         first|done|exact rfl)
        | (
         have hS:=hS rfl;obtain ⟨hbw,h1,h2⟩:=KB.out _ hS;obtain ⟨q0,q1⟩:=zN h1;obtain ⟨g1,g2,g3⟩:=zK h2;conv=>lhs;simp[go_sem, *,s1]
         first|done|exact rfl)
      simp only[Act.put,lA,lZ,lS]
     refine zB rfl rfl ?_;simp only[Act.put,lA,lZ,lS];refine zB rfl rfl ?_;simp only[Act.put,lA,lZ,lS];refine zB rfl rfl ?_;simp only[Act.put,lA,lZ,lS];refine zB rfl rfl ?_;simp only[Act.put,lA,lZ,lS];refine zB rfl rfl ?_;simp only[Act.put,lA,lZ,lS];iterate 1
      refine zH (v := ?_) rfl rfl (λW hS => ?_) ?_;rotate_left
      ·first
        | (
         conv=>lhs;simp[go_sem,s1]
         first|done|exact rfl)
        | (
         have hS:=hS rfl;obtain ⟨hbw,h1,h2⟩:=KB.out _ hS;obtain ⟨q0,q1⟩:=zN h1;obtain ⟨g1,g2,g3⟩:=zK h2;conv=>lhs;simp[go_sem, *,s1]
         first|done|exact rfl)
      simp only[Act.put,lA,lZ,lS]
     refine zT ?_;go_wp2;go_ret;exact ⟨rfl,(KB.out _ D1).1⟩
    by_cases s2:i=0
    ·have RI:Hid (∀ u∈es.take i,u.id<x1):=Lh λu hu=>by rw[s2]at hu;simp at hu
     have n0:¬ 0<i:=by omega
     have n1:¬ (0:Int)<(i:Int):=by omega
     clear PV s2;by_cases s4:x2=x3
     ·obtain rfl:R=false:=NRT.out λh=>(OKK.out.1 (h.2 i)).2.2.1 s4
      refine zL (λW=>Below W1.heap.size W1 W) (0::1::2::3::4::5::6::7::8::9::10::11::12::13::14::15::16::17::18::19::20::21::22::23::24::25::26::27::28::29::30::31::32::33::34::35::36::37::38::39::[]) (1::21::23::[]) (0::1::2::3::4::5::6::7::8::9::10::11::12::13::14::15::16::17::18::19::20::21::22::23::24::25::26::27::28::29::30::31::32::33::34::35::36::37::38::39::[]) (by kernel_rfl) (by kernel_rfl) rfl (by kernel_rfl) rfl (D1) vR ?_;iterate 7
       refine zH (v := ?_) rfl rfl (λW hS => ?_) ?_;rotate_left
       ·first
         | (
          conv=>lhs;simp[go_sem,s1,n0,n1,s4]
          first|done|exact rfl)
         | (
          have hS:=hS rfl;obtain ⟨hbw,h1,h2⟩:=KB.out _ hS;obtain ⟨q0,q1⟩:=zN h1;obtain ⟨g1,g2,g3⟩:=zK h2;conv=>lhs;simp[go_sem, *,s1,n0,n1,s4]
          first|done|exact rfl)
       simp only[Act.put,lA,lZ,lS]
      refine zB rfl rfl ?_;simp only[Act.put,lA,lZ,lS];refine zB rfl rfl ?_;simp only[Act.put,lA,lZ,lS];refine zB rfl rfl ?_;simp only[Act.put,lA,lZ,lS];refine zB rfl rfl ?_;simp only[Act.put,lA,lZ,lS];refine zB rfl rfl ?_;simp only[Act.put,lA,lZ,lS];refine zB rfl rfl ?_;simp only[Act.put,lA,lZ,lS];refine zB rfl rfl ?_;simp only[Act.put,lA,lZ,lS];refine zB rfl rfl ?_;simp only[Act.put,lA,lZ,lS];refine zB rfl rfl ?_;simp only[Act.put,lA,lZ,lS];refine zB rfl rfl ?_;simp only[Act.put,lA,lZ,lS];iterate 10
       refine zH (v := ?_) rfl rfl (λW hS => ?_) ?_;rotate_left
       ·first
         | (
          conv=>lhs;simp[go_sem,s1,n0,n1,s4]
          first|done|exact rfl)
         | (
          have hS:=hS rfl;obtain ⟨hbw,h1,h2⟩:=KB.out _ hS;obtain ⟨q0,q1⟩:=zN h1;obtain ⟨g1,g2,g3⟩:=zK h2;conv=>lhs;simp[go_sem, *,s1,n0,n1,s4]
          first|done|exact rfl)
       simp only[Act.put,lA,lZ,lS]
      refine zB rfl rfl ?_;simp only[Act.put,lA,lZ,lS];refine zB rfl rfl ?_;simp only[Act.put,lA,lZ,lS];refine zB rfl rfl ?_;simp only[Act.put,lA,lZ,lS];refine zB rfl rfl ?_;simp only[Act.put,lA,lZ,lS];refine zB rfl rfl ?_;simp only[Act.put,lA,lZ,lS];iterate 2
       refine zH (v := ?_) rfl rfl (λW hS => ?_) ?_;rotate_left
       ·first
         | (
          conv=>lhs;simp[go_sem,s1,n0,n1,s4]
          first|done|exact rfl)
         | (
          have hS:=hS rfl;obtain ⟨hbw,h1,h2⟩:=KB.out _ hS;obtain ⟨q0,q1⟩:=zN h1;obtain ⟨g1,g2,g3⟩:=zK h2;conv=>lhs;simp[go_sem, *,s1,n0,n1,s4]
          first|done|exact rfl)
       simp only[Act.put,lA,lZ,lS]
      refine zB rfl rfl ?_;simp only[Act.put,lA,lZ,lS];refine zB rfl rfl ?_;simp only[Act.put,lA,lZ,lS];refine zB rfl rfl ?_;simp only[Act.put,lA,lZ,lS];refine zB rfl rfl ?_;simp only[Act.put,lA,lZ,lS];refine zB rfl rfl ?_;simp only[Act.put,lA,lZ,lS];iterate 1
       refine zH (v := ?_) rfl rfl (λW hS => ?_) ?_;rotate_left
       ·first
         | (
          conv=>lhs;simp[go_sem,s1,n0,n1,s4]
          first|done|exact rfl)
         | (
          have hS:=hS rfl;obtain ⟨hbw,h1,h2⟩:=KB.out _ hS;obtain ⟨q0,q1⟩:=zN h1;obtain ⟨g1,g2,g3⟩:=zK h2;conv=>lhs;simp[go_sem, *,s1,n0,n1,s4]
          first|done|exact rfl)
       simp only[Act.put,lA,lZ,lS]
      refine zT ?_;go_wp2;go_ret;exact ⟨rfl,(KB.out _ D1).1⟩
     have q4:(x2==x3)=false:=by simpa using s4
     cases sa:yJ vs x2 with
     | false =>
      have M1:Hid (decide (za<0)=true):=Lh (by have:=NAH.out;rw[sa]at this;exact this);obtain rfl:R=false:=NRT.out λh=>by have:=(OKK.out.1 (h.2 i)).2.2.2.1;rw[sa]at this;cases this
      refine zL (λW=>Below W1.heap.size W1 W) (0::1::2::3::4::5::6::7::8::9::10::11::12::13::14::15::16::17::18::19::20::21::22::23::24::25::26::27::28::29::31::32::33::34::35::36::37::38::39::[]) (1::21::23::27::29::[]) (0::1::2::3::4::5::6::7::8::9::10::11::12::13::14::15::16::17::18::19::20::21::22::23::24::25::26::27::28::29::30::31::32::33::34::35::36::37::38::39::[]) (by kernel_rfl) (by kernel_rfl) rfl (by kernel_rfl) rfl (D1) vR ?_;iterate 7
       refine zH (v := ?_) rfl rfl (λW hS => ?_) ?_;rotate_left
       ·first
         | (
          conv=>lhs;simp[go_sem,s1,n0,n1,q4,M1.out]
          first|done|exact rfl)
         | (
          have hS:=hS rfl;obtain ⟨hbw,h1,h2⟩:=KB.out _ hS;obtain ⟨q0,q1⟩:=zN h1;obtain ⟨g1,g2,g3⟩:=zK h2;conv=>lhs;simp[go_sem, *,s1,n0,n1,q4,M1.out]
          first|done|exact rfl)
       simp only[Act.put,lA,lZ,lS]
      refine zB rfl rfl ?_;simp only[Act.put,lA,lZ,lS];refine zB rfl rfl ?_;simp only[Act.put,lA,lZ,lS];refine zB rfl rfl ?_;simp only[Act.put,lA,lZ,lS];refine zB rfl rfl ?_;simp only[Act.put,lA,lZ,lS];refine zB rfl rfl ?_;simp only[Act.put,lA,lZ,lS];refine zB rfl rfl ?_;simp only[Act.put,lA,lZ,lS];refine zB rfl rfl ?_;simp only[Act.put,lA,lZ,lS];refine zB rfl rfl ?_;simp only[Act.put,lA,lZ,lS];refine zB rfl rfl ?_;simp only[Act.put,lA,lZ,lS];refine zB rfl rfl ?_;simp only[Act.put,lA,lZ,lS];iterate 13
       refine zH (v := ?_) rfl rfl (λW hS => ?_) ?_;rotate_left
       ·first
         | (
          conv=>lhs;simp[go_sem,s1,n0,n1,q4,M1.out]
          first|done|exact rfl)
         | (
          have hS:=hS rfl;obtain ⟨hbw,h1,h2⟩:=KB.out _ hS;obtain ⟨q0,q1⟩:=zN h1;obtain ⟨g1,g2,g3⟩:=zK h2;conv=>lhs;simp[go_sem, *,s1,n0,n1,q4,M1.out]
          first|done|exact rfl)
       simp only[Act.put,lA,lZ,lS]
      refine zQ rfl rfl λK hK => ?_
      go_wp2_with (go_at_call 39;refine (VA.out _ D1).mono ?_;rintro e w3 ⟨rfl,b3⟩)
      have B3:=Lh (zF D1 b3 (Nat.le_refl _));refine hK _ _ B3.out ?_;clear hK K b3;iterate 3
       refine zH (v := ?_) rfl rfl (λW hS => ?_) ?_;rotate_left
       ·first
         | (
          conv=>lhs;simp[go_sem,s1,n0,n1,q4,M1.out]
          first|done|exact rfl)
         | (
          have hS:=hS rfl;obtain ⟨hbw,h1,h2⟩:=KB.out _ hS;obtain ⟨q0,q1⟩:=zN h1;obtain ⟨g1,g2,g3⟩:=zK h2;conv=>lhs;simp[go_sem, *,s1,n0,n1,q4,M1.out]
          first|done|exact rfl)
       simp only[Act.put,lA,lZ,lS]
      refine zB rfl rfl ?_;simp only[Act.put,lA,lZ,lS];refine zB rfl rfl ?_;simp only[Act.put,lA,lZ,lS];refine zB rfl rfl ?_;simp only[Act.put,lA,lZ,lS];refine zB rfl rfl ?_;simp only[Act.put,lA,lZ,lS];refine zB rfl rfl ?_;simp only[Act.put,lA,lZ,lS];iterate 1
       refine zH (v := ?_) rfl rfl (λW hS => ?_) ?_;rotate_left
       ·first
         | (
          conv=>lhs;simp[go_sem,s1,n0,n1,q4,M1.out]
          first|done|exact rfl)
         | (
          have hS:=hS rfl;obtain ⟨hbw,h1,h2⟩:=KB.out _ hS;obtain ⟨q0,q1⟩:=zN h1;obtain ⟨g1,g2,g3⟩:=zK h2;conv=>lhs;simp[go_sem, *,s1,n0,n1,q4,M1.out]
          first|done|exact rfl)
       simp only[Act.put,lA,lZ,lS]
      refine zT ?_;go_wp2;go_ret;exact ⟨rfl,(KB.out _ B3.out).1⟩
     | true =>
      have M1:Hid (decide (za<0)=false):=Lh (by have:=NAH.out;rw[sa]at this;exact this);cases sb:yJ vs x3 with
      | false =>
       have M2:Hid (decide (zb<0)=true):=Lh (by have:=NBH.out;rw[sb]at this;exact this);obtain rfl:R=false:=NRT.out λh=>by have:=(OKK.out.1 (h.2 i)).2.2.2.2.1;rw[sb]at this;cases this
       refine zL (λW=>Below W1.heap.size W1 W) (0::1::2::3::4::5::6::7::8::9::10::11::12::13::14::15::16::17::18::19::20::21::22::23::24::25::26::27::28::29::31::32::33::34::35::36::38::39::[]) (1::21::23::27::29::34::36::[]) (0::1::2::3::4::5::6::7::8::9::10::11::12::13::14::15::16::17::18::19::20::21::22::23::24::25::26::27::28::29::30::31::32::33::34::35::36::37::38::39::[]) (by kernel_rfl) (by kernel_rfl) rfl (by kernel_rfl) rfl (D1) vR ?_;iterate 7
        refine zH (v := ?_) rfl rfl (λW hS => ?_) ?_;rotate_left
        ·first
          | (
           conv=>lhs;simp[go_sem,s1,n0,n1,q4,M1.out,M2.out]
           first|done|exact rfl)
          | (
           have hS:=hS rfl;obtain ⟨hbw,h1,h2⟩:=KB.out _ hS;obtain ⟨q0,q1⟩:=zN h1;obtain ⟨g1,g2,g3⟩:=zK h2;conv=>lhs;simp[go_sem, *,s1,n0,n1,q4,M1.out,M2.out]
           first|done|exact rfl)
        simp only[Act.put,lA,lZ,lS]
       refine zB rfl rfl ?_;simp only[Act.put,lA,lZ,lS];refine zB rfl rfl ?_;simp only[Act.put,lA,lZ,lS];refine zB rfl rfl ?_;simp only[Act.put,lA,lZ,lS];refine zB rfl rfl ?_;simp only[Act.put,lA,lZ,lS];refine zB rfl rfl ?_;simp only[Act.put,lA,lZ,lS];refine zB rfl rfl ?_;simp only[Act.put,lA,lZ,lS];refine zB rfl rfl ?_;simp only[Act.put,lA,lZ,lS];refine zB rfl rfl ?_;simp only[Act.put,lA,lZ,lS];refine zB rfl rfl ?_;simp only[Act.put,lA,lZ,lS];refine zB rfl rfl ?_;simp only[Act.put,lA,lZ,lS];iterate 13
        refine zH (v := ?_) rfl rfl (λW hS => ?_) ?_;rotate_left
        ·first
          | (
           conv=>lhs;simp[go_sem,s1,n0,n1,q4,M1.out,M2.out]
           first|done|exact rfl)
          | (
           have hS:=hS rfl;obtain ⟨hbw,h1,h2⟩:=KB.out _ hS;obtain ⟨q0,q1⟩:=zN h1;obtain ⟨g1,g2,g3⟩:=zK h2;conv=>lhs;simp[go_sem, *,s1,n0,n1,q4,M1.out,M2.out]
           first|done|exact rfl)
        simp only[Act.put,lA,lZ,lS]
       refine zQ rfl rfl λK hK => ?_
       go_wp2_with (go_at_call 39;refine (VA.out _ D1).mono ?_;rintro e w3 ⟨rfl,b3⟩)
       have B3:=Lh (zF D1 b3 (Nat.le_refl _));refine hK _ _ B3.out ?_;clear hK K b3;iterate 6
        refine zH (v := ?_) rfl rfl (λW hS => ?_) ?_;rotate_left
        ·first
          | (
           conv=>lhs;simp[go_sem,s1,n0,n1,q4,M1.out,M2.out]
           first|done|exact rfl)
          | (
           have hS:=hS rfl;obtain ⟨hbw,h1,h2⟩:=KB.out _ hS;obtain ⟨q0,q1⟩:=zN h1;obtain ⟨g1,g2,g3⟩:=zK h2;conv=>lhs;simp[go_sem, *,s1,n0,n1,q4,M1.out,M2.out]
           first|done|exact rfl)
        simp only[Act.put,lA,lZ,lS]
       refine zQ rfl rfl λK hK => ?_
       go_wp2_with (go_at_call 39;refine (VB.out _ B3.out).mono ?_;rintro e w4 ⟨rfl,b4⟩)
       have B4:=Lh (zF B3.out b4 B3.out.size);refine hK _ _ B4.out ?_;clear hK K b4;iterate 2
        refine zH (v := ?_) rfl rfl (λW hS => ?_) ?_;rotate_left
        ·first
          | (
           conv=>lhs;simp[go_sem,s1,n0,n1,q4,M1.out,M2.out]
           first|done|exact rfl)
          | (
           have hS:=hS rfl;obtain ⟨hbw,h1,h2⟩:=KB.out _ hS;obtain ⟨q0,q1⟩:=zN h1;obtain ⟨g1,g2,g3⟩:=zK h2;conv=>lhs;simp[go_sem, *,s1,n0,n1,q4,M1.out,M2.out]
           first|done|exact rfl)
        simp only[Act.put,lA,lZ,lS]
       refine zT ?_;go_wp2;go_ret;exact ⟨rfl,(KB.out _ B4.out).1⟩
      | true =>
       have M2:Hid (decide (zb<0)=false):=Lh (by have:=NBH.out;rw[sb]at this;exact this);refine zL (λW=>Below W1.heap.size W1 W) (0::1::2::3::4::5::6::7::8::9::10::11::12::13::14::15::16::17::18::19::20::21::22::23::24::25::26::27::28::29::31::32::33::34::35::36::38::39::[]) (1::21::23::27::29::34::36::[]) (0::1::2::3::4::5::6::7::8::9::10::11::12::13::14::15::16::17::18::19::20::21::22::23::24::25::26::27::28::29::30::31::32::33::34::35::36::37::38::39::[]) (by kernel_rfl) (by kernel_rfl) rfl (by kernel_rfl) rfl (D1) vR ?_;iterate 7
        refine zH (v := ?_) rfl rfl (λW hS => ?_) ?_;rotate_left
        ·first
          | (
           conv=>lhs;simp[go_sem,s1,n0,n1,q4,M1.out,M2.out]
           first|done|exact rfl)
          | (
           have hS:=hS rfl;obtain ⟨hbw,h1,h2⟩:=KB.out _ hS;obtain ⟨q0,q1⟩:=zN h1;obtain ⟨g1,g2,g3⟩:=zK h2;conv=>lhs;simp[go_sem, *,s1,n0,n1,q4,M1.out,M2.out]
           first|done|exact rfl)
        simp only[Act.put,lA,lZ,lS]
       refine zB rfl rfl ?_;simp only[Act.put,lA,lZ,lS];refine zB rfl rfl ?_;simp only[Act.put,lA,lZ,lS];refine zB rfl rfl ?_;simp only[Act.put,lA,lZ,lS];refine zB rfl rfl ?_;simp only[Act.put,lA,lZ,lS];refine zB rfl rfl ?_;simp only[Act.put,lA,lZ,lS];refine zB rfl rfl ?_;simp only[Act.put,lA,lZ,lS];refine zB rfl rfl ?_;simp only[Act.put,lA,lZ,lS];refine zB rfl rfl ?_;simp only[Act.put,lA,lZ,lS];refine zB rfl rfl ?_;simp only[Act.put,lA,lZ,lS];refine zB rfl rfl ?_;simp only[Act.put,lA,lZ,lS];iterate 13
        refine zH (v := ?_) rfl rfl (λW hS => ?_) ?_;rotate_left
        ·first
          | (
           conv=>lhs;simp[go_sem,s1,n0,n1,q4,M1.out,M2.out]
           first|done|exact rfl)
          | (
           have hS:=hS rfl;obtain ⟨hbw,h1,h2⟩:=KB.out _ hS;obtain ⟨q0,q1⟩:=zN h1;obtain ⟨g1,g2,g3⟩:=zK h2;conv=>lhs;simp[go_sem, *,s1,n0,n1,q4,M1.out,M2.out]
           first|done|exact rfl)
        simp only[Act.put,lA,lZ,lS]
       refine zQ rfl rfl λK hK => ?_
       go_wp2_with (go_at_call 39;refine (VA.out _ D1).mono ?_;rintro e w3 ⟨rfl,b3⟩)
       have B3:=Lh (zF D1 b3 (Nat.le_refl _));refine hK _ _ B3.out ?_;clear hK K b3;iterate 6
        refine zH (v := ?_) rfl rfl (λW hS => ?_) ?_;rotate_left
        ·first
          | (
           conv=>lhs;simp[go_sem,s1,n0,n1,q4,M1.out,M2.out]
           first|done|exact rfl)
          | (
           have hS:=hS rfl;obtain ⟨hbw,h1,h2⟩:=KB.out _ hS;obtain ⟨q0,q1⟩:=zN h1;obtain ⟨g1,g2,g3⟩:=zK h2;conv=>lhs;simp[go_sem, *,s1,n0,n1,q4,M1.out,M2.out]
           first|done|exact rfl)
        simp only[Act.put,lA,lZ,lS]
       refine zQ rfl rfl λK hK => ?_
       go_wp2_with (go_at_call 39;refine (VB.out _ B3.out).mono ?_;rintro e w4 ⟨rfl,b4⟩)
       have B4:=Lh (zF B3.out b4 B3.out.size);refine hK _ _ B4.out ?_;clear hK K b4;iterate 2
        refine zH (v := ?_) rfl rfl (λW hS => ?_) ?_;rotate_left
        ·first
          | (
           conv=>lhs;simp[go_sem,s1,n0,n1,q4,M1.out,M2.out]
           first|done|exact rfl)
          | (
           have hS:=hS rfl;obtain ⟨hbw,h1,h2⟩:=KB.out _ hS;obtain ⟨q0,q1⟩:=zN h1;obtain ⟨g1,g2,g3⟩:=zK h2;conv=>lhs;simp[go_sem, *,s1,n0,n1,q4,M1.out,M2.out]
           first|done|exact rfl)
        simp only[Act.put,lA,lZ,lS]
       refine zT ?_;have B9:=Lh B4.out;clear B4 B3 VA VB NAH NBH;go_upto_region 20 with fail;have j1:(i:Int)<=(cap':Int):=by omega
       have KK:Hid (∀ W,Below W1.heap.size W1 W->Own W w.heap.size 25 #[.slice a n cap,.slice (some ⟨b,o,none⟩) m cap']):=Lh λW hW=>(KB.out W hW).2.1
       refine zL (λW=>Below W1.heap.size W1 W) (0::1::2::3::4::5::6::[]) (1::3::[]) (0::1::2::3::4::5::6::7::8::[]) (by kernel_rfl) (by kernel_rfl) rfl (by kernel_rfl) rfl (B9.out.drew) vR ?_;iterate 7
        refine zH (v := ?_) rfl rfl (λW hS => ?_) ?_;rotate_left
        ·first
          | (
           conv=>lhs;simp[go_sem,j1]
           first|done|exact rfl)
          | (
           have hS:=hS rfl;obtain ⟨q0,q1⟩:=zN (KK.out _ hS);conv=>lhs;simp[go_sem, *,j1]
           first|done|exact rfl)
        simp only[Act.put,lA,lZ,lS]
       refine zQ rfl rfl λK hK => ?_
       go_wp2;refine hK _ _ ((B9.out.alloc B9.out.size _).drew) ?_;clear hK K;refine xR rfl rfl (by kernel_rfl) rfl λK hK => ?_
       go_wp2;refine hK _ _ ?_;clear hK K;refine zT ?_;have B8:Hid (Below W1.heap.size W1 (w4.alloc (.cells #[.slice a n cap,.slice (some ⟨b,o,none⟩) i cap'] 25)).drew):=Lh (B9.out.alloc B9.out.size _).drew;have O8:Hid (Own (w4.alloc (.cells #[.slice a n cap,.slice (some ⟨b,o,none⟩) i cap'] 25)).drew w4.heap.size 25 #[.slice a n cap,.slice (some ⟨b,o,none⟩) i cap']):=Lh (Own.made _ _ _).drawn;generalize hW2:(w4.alloc (.cells #[.slice a n cap,.slice (some ⟨b,o,none⟩) i cap'] 25)).drew=W2 at B8 O8 ⊢
       clear hW2 B9;have K2:Hid (∀ W,Below W2.heap.size W2 W->Below w.heap.size w W/\Own W w.heap.size 25 #[.slice a n cap,.slice (some ⟨b,o,none⟩) m cap']/\Own W wr.heap.size 71 #[.int .i64 x1,.int .i64 x2,.int .i64 x3]/\Own W w4.heap.size 25 #[.slice a n cap,.slice (some ⟨b,o,none⟩) i cap']):=Lh λW hW=>by
        have:=KB.out W (zF B8.out hW B8.out.size);exact ⟨this.1,this.2.1,this.2.2,O8.out.keep hW⟩
       have E2:Below W2.heap.size W2 W2.drew:=(Below.refl _ _).drew;have HL:=Lh (λW (hW:Below W2.heap.size W2 W)=>LK.out _ (es.take i) W (EC.out W (K2.out W hW).1 i (by omega)) (by rw[List.length_take];omega) x2 x3);have HA:=Lh (λW (hW:Below W2.heap.size W2 W)=>AT.out W (K2.out W hW).1 x2 sa);have HBB:=Lh (λW (hW:Below W2.heap.size W2 W)=>AT.out W (K2.out W hW).1 x3 sb);have HO:=Lh (λW (hW:Below W2.heap.size W2 W)=>RON.out W (K2.out W hW).1 _ _ _ _ FV.out (uN FV.out.rng sa) (uN FV.out.rng sb));have HMT:=Lh (λW (hW:Below W2.heap.size W2 W)=>RMT.out W (K2.out W hW).1 _ _ _ _ i (by omega) FV.out (λk u hk hu=>by have:=jD.1 (HOK.out k hk u hu).2.2;exact ⟨this.1,this.2.1,this.2.2.1⟩) (uN FV.out.rng sa) (uN FV.out.rng sb) (qZ FV.out sa sb s4));have OKJ:Hid (OkE vs es i↔jnL (es.take i) x2 x3=false/\onV vs (px vs x2) (py vs x2) (px vs x3) (py vs x3)=false/\mtL vs (es.take i) (px vs x2) (py vs x2) (px vs x3) (py vs x3)=false):=Lh (OKK.out.trans ⟨λh=>h.2.2.2.2.2,λh=>⟨by omega,RI.out,s4,sa,sb,h⟩⟩);clear OKK VX AT RON RMT LK;generalize jnL (es.take i) x2 x3=tj at *
       generalize onV vs (px vs x2) (py vs x2) (px vs x3) (py vs x3)=tq at *
       generalize mtL vs (es.take i) (px vs x2) (py vs x2) (px vs x3) (py vs x3)=tm at *
       generalize px vs x2=ax at *
       generalize py vs x2=ay at *
       generalize px vs x3=bx at *
       generalize py vs x3=byy at *
       clear q4 s4 sa sb;go_upto_region 21 with fail;cases tj with
       | true =>
        obtain rfl:R=false:=NRT.out λh=>by have:=(OKJ.out.1 (h.2 i)).1;cases this
        refine zL (λW=>Below W2.heap.size W2 W) (0::1::2::3::4::6::7::8::9::10::11::12::13::14::15::16::17::18::19::20::21::22::23::24::25::26::27::28::29::30::[]) (0::2::4::[]) (0::1::2::3::4::5::6::7::8::9::10::11::12::13::14::15::16::17::18::19::20::21::22::23::24::25::26::27::28::29::30::[]) (by kernel_rfl) (by kernel_rfl) rfl (by kernel_rfl) rfl (E2) vR ?_;iterate 5
         refine zH (v := ?_) rfl rfl (λW hS => ?_) ?_;rotate_left
         ·first
           | (
            conv=>lhs;simp[go_sem]
            first|done|exact rfl)
           | (
            have hS:=hS rfl;obtain ⟨hbw,h1,h2,h3⟩:=K2.out _ hS;obtain ⟨q0,q1⟩:=zN h1;obtain ⟨g1,g2,g3⟩:=zK h2;obtain ⟨f0,f1⟩:=zN h3;conv=>lhs;simp[go_sem, *]
            first|done|exact rfl)
         simp only[Act.put,lA,lZ,lS]
        refine zQ rfl rfl λK hK => ?_
        go_wp2_with (go_at_call 41;refine (HL.out _ E2).mono ?_;rintro e y1 ⟨rfl,c1⟩)
        have Y1:=Lh (zF E2 c1 E2.size);refine hK _ _ Y1.out ?_;clear hK K c1;iterate 1
         refine zH (v := ?_) rfl rfl (λW hS => ?_) ?_;rotate_left
         ·first
           | (
            conv=>lhs;simp[go_sem]
            first|done|exact rfl)
           | (
            have hS:=hS rfl;obtain ⟨hbw,h1,h2,h3⟩:=K2.out _ hS;obtain ⟨q0,q1⟩:=zN h1;obtain ⟨g1,g2,g3⟩:=zK h2;obtain ⟨f0,f1⟩:=zN h3;conv=>lhs;simp[go_sem, *]
            first|done|exact rfl)
         simp only[Act.put,lA,lZ,lS]
        refine zB rfl rfl ?_;simp only[Act.put,lA,lZ,lS];refine zB rfl rfl ?_;simp only[Act.put,lA,lZ,lS];refine zB rfl rfl ?_;simp only[Act.put,lA,lZ,lS];refine zB rfl rfl ?_;simp only[Act.put,lA,lZ,lS];refine zB rfl rfl ?_;simp only[Act.put,lA,lZ,lS];refine zB rfl rfl ?_;simp only[Act.put,lA,lZ,lS];refine zB rfl rfl ?_;simp only[Act.put,lA,lZ,lS];refine zB rfl rfl ?_;simp only[Act.put,lA,lZ,lS];refine zB rfl rfl ?_;simp only[Act.put,lA,lZ,lS];refine zB rfl rfl ?_;simp only[Act.put,lA,lZ,lS];iterate 2
         refine zH (v := ?_) rfl rfl (λW hS => ?_) ?_;rotate_left
         ·first
           | (
            conv=>lhs;simp[go_sem]
            first|done|exact rfl)
           | (
            have hS:=hS rfl;obtain ⟨hbw,h1,h2,h3⟩:=K2.out _ hS;obtain ⟨q0,q1⟩:=zN h1;obtain ⟨g1,g2,g3⟩:=zK h2;obtain ⟨f0,f1⟩:=zN h3;conv=>lhs;simp[go_sem, *]
            first|done|exact rfl)
         simp only[Act.put,lA,lZ,lS]
        refine zB rfl rfl ?_;simp only[Act.put,lA,lZ,lS];refine zB rfl rfl ?_;simp only[Act.put,lA,lZ,lS];refine zB rfl rfl ?_;simp only[Act.put,lA,lZ,lS];refine zB rfl rfl ?_;simp only[Act.put,lA,lZ,lS];refine zB rfl rfl ?_;simp only[Act.put,lA,lZ,lS];refine zB rfl rfl ?_;simp only[Act.put,lA,lZ,lS];refine zB rfl rfl ?_;simp only[Act.put,lA,lZ,lS];refine zB rfl rfl ?_;simp only[Act.put,lA,lZ,lS];refine zB rfl rfl ?_;simp only[Act.put,lA,lZ,lS];refine zB rfl rfl ?_;simp only[Act.put,lA,lZ,lS];refine zB rfl rfl ?_;simp only[Act.put,lA,lZ,lS];iterate 1
         refine zH (v := ?_) rfl rfl (λW hS => ?_) ?_;rotate_left
         ·first
           | (
            conv=>lhs;simp[go_sem]
            first|done|exact rfl)
           | (
            have hS:=hS rfl;obtain ⟨hbw,h1,h2,h3⟩:=K2.out _ hS;obtain ⟨q0,q1⟩:=zN h1;obtain ⟨g1,g2,g3⟩:=zK h2;obtain ⟨f0,f1⟩:=zN h3;conv=>lhs;simp[go_sem, *]
            first|done|exact rfl)
         simp only[Act.put,lA,lZ,lS]
        refine zT ?_;go_wp2;go_ret;exact ⟨rfl,(K2.out _ Y1.out).1⟩
       | false =>
        cases tq with
        | true =>
         obtain rfl:R=false:=NRT.out λh=>by have:=(OKJ.out.1 (h.2 i)).2.1;cases this
         refine zL (λW=>Below W2.heap.size W2 W) (0::1::2::3::4::6::7::8::9::10::12::13::14::17::18::19::20::21::22::23::24::25::26::27::28::29::30::[]) (0::2::4::7::8::10::12::14::[]) (0::1::2::3::4::5::6::7::8::9::10::12::13::14::11::15::16::17::18::19::20::21::22::23::24::25::26::27::28::29::30::[]) (by kernel_rfl) (by kernel_rfl) rfl (by kernel_rfl) rfl (E2) vR ?_;iterate 5
          refine zH (v := ?_) rfl rfl (λW hS => ?_) ?_;rotate_left
          ·first
            | (
             conv=>lhs;simp[go_sem]
             first|done|exact rfl)
            | (
             have hS:=hS rfl;obtain ⟨hbw,h1,h2,h3⟩:=K2.out _ hS;obtain ⟨q0,q1⟩:=zN h1;obtain ⟨g1,g2,g3⟩:=zK h2;obtain ⟨f0,f1⟩:=zN h3;conv=>lhs;simp[go_sem, *]
             first|done|exact rfl)
          simp only[Act.put,lA,lZ,lS]
         refine zQ rfl rfl λK hK => ?_
         go_wp2_with (go_at_call 41;refine (HL.out _ E2).mono ?_;rintro e y1 ⟨rfl,c1⟩)
         have Y1:=Lh (zF E2 c1 E2.size);refine hK _ _ Y1.out ?_;clear hK K c1;iterate 8
          refine zH (v := ?_) rfl rfl (λW hS => ?_) ?_;rotate_left
          ·first
            | (
             conv=>lhs;simp[go_sem]
             first|done|exact rfl)
            | (
             have hS:=hS rfl;obtain ⟨hbw,h1,h2,h3⟩:=K2.out _ hS;obtain ⟨q0,q1⟩:=zN h1;obtain ⟨g1,g2,g3⟩:=zK h2;obtain ⟨f0,f1⟩:=zN h3;conv=>lhs;simp[go_sem, *]
             first|done|exact rfl)
          simp only[Act.put,lA,lZ,lS]
         refine zQ rfl rfl λK hK => ?_
         go_wp2_with (go_at_call 24;refine (HA.out _ Y1.out).mono ?_;rintro e y2 ⟨rfl,c2⟩)
         have Y2:=Lh (zF Y1.out c2 Y1.out.size);refine hK _ _ Y2.out ?_;clear hK K c2;refine zQ rfl rfl λK hK => ?_
         go_wp2_with (go_at_call 24;refine (HBB.out _ Y2.out).mono ?_;rintro e y3 ⟨rfl,c3⟩)
         have Y3:=Lh (zF Y2.out c3 Y2.out.size);refine hK _ _ Y3.out ?_;clear hK K c3;refine zQ rfl rfl λK hK => ?_
         go_wp2_with (go_at_call 42;refine (HO.out _ Y3.out).mono ?_;rintro e y4 ⟨rfl,c4⟩)
         have Y4:=Lh (zF Y3.out c4 Y3.out.size);refine hK _ _ Y4.out ?_;clear hK K c4;iterate 2
          refine zH (v := ?_) rfl rfl (λW hS => ?_) ?_;rotate_left
          ·first
            | (
             conv=>lhs;simp[go_sem]
             first|done|exact rfl)
            | (
             have hS:=hS rfl;obtain ⟨hbw,h1,h2,h3⟩:=K2.out _ hS;obtain ⟨q0,q1⟩:=zN h1;obtain ⟨g1,g2,g3⟩:=zK h2;obtain ⟨f0,f1⟩:=zN h3;conv=>lhs;simp[go_sem, *]
             first|done|exact rfl)
          simp only[Act.put,lA,lZ,lS]
         refine zB rfl rfl ?_;simp only[Act.put,lA,lZ,lS];refine zB rfl rfl ?_;simp only[Act.put,lA,lZ,lS];refine zB rfl rfl ?_;simp only[Act.put,lA,lZ,lS];refine zB rfl rfl ?_;simp only[Act.put,lA,lZ,lS];refine zB rfl rfl ?_;simp only[Act.put,lA,lZ,lS];refine zB rfl rfl ?_;simp only[Act.put,lA,lZ,lS];refine zB rfl rfl ?_;simp only[Act.put,lA,lZ,lS];refine zB rfl rfl ?_;simp only[Act.put,lA,lZ,lS];refine zB rfl rfl ?_;simp only[Act.put,lA,lZ,lS];refine zB rfl rfl ?_;simp only[Act.put,lA,lZ,lS];refine zB rfl rfl ?_;simp only[Act.put,lA,lZ,lS];iterate 1
          refine zH (v := ?_) rfl rfl (λW hS => ?_) ?_;rotate_left
          ·first
            | (
             conv=>lhs;simp[go_sem]
             first|done|exact rfl)
            | (
             have hS:=hS rfl;obtain ⟨hbw,h1,h2,h3⟩:=K2.out _ hS;obtain ⟨q0,q1⟩:=zN h1;obtain ⟨g1,g2,g3⟩:=zK h2;obtain ⟨f0,f1⟩:=zN h3;conv=>lhs;simp[go_sem, *]
             first|done|exact rfl)
          simp only[Act.put,lA,lZ,lS]
         refine zT ?_;go_wp2;go_ret;exact ⟨rfl,(K2.out _ Y4.out).1⟩
        | false =>
         cases tm with
         | true =>
          obtain rfl:R=false:=NRT.out λh=>by have:=(OKJ.out.1 (h.2 i)).2.2;cases this
          refine zL (λW=>Below W2.heap.size W2 W) (0::1::2::3::4::6::7::8::9::10::12::13::14::17::18::19::20::21::22::24::25::26::28::30::[]) (0::2::4::7::8::10::12::14::19::20::22::24::26::[]) (0::1::2::3::4::5::6::7::8::9::10::12::13::14::11::15::16::17::18::19::20::21::22::24::25::26::28::23::27::29::30::[]) (by kernel_rfl) (by kernel_rfl) rfl (by kernel_rfl) rfl (E2) vR ?_;iterate 5
           refine zH (v := ?_) rfl rfl (λW hS => ?_) ?_;rotate_left
           ·first
             | (
              conv=>lhs;simp[go_sem]
              first|done|exact rfl)
             | (
              have hS:=hS rfl;obtain ⟨hbw,h1,h2,h3⟩:=K2.out _ hS;obtain ⟨q0,q1⟩:=zN h1;obtain ⟨g1,g2,g3⟩:=zK h2;obtain ⟨f0,f1⟩:=zN h3;conv=>lhs;simp[go_sem, *]
              first|done|exact rfl)
           simp only[Act.put,lA,lZ,lS]
          refine zQ rfl rfl λK hK => ?_
          go_wp2_with (go_at_call 41;refine (HL.out _ E2).mono ?_;rintro e y1 ⟨rfl,c1⟩)
          have Y1:=Lh (zF E2 c1 E2.size);refine hK _ _ Y1.out ?_;clear hK K c1;iterate 8
           refine zH (v := ?_) rfl rfl (λW hS => ?_) ?_;rotate_left
           ·first
             | (
              conv=>lhs;simp[go_sem]
              first|done|exact rfl)
             | (
              have hS:=hS rfl;obtain ⟨hbw,h1,h2,h3⟩:=K2.out _ hS;obtain ⟨q0,q1⟩:=zN h1;obtain ⟨g1,g2,g3⟩:=zK h2;obtain ⟨f0,f1⟩:=zN h3;conv=>lhs;simp[go_sem, *]
              first|done|exact rfl)
           simp only[Act.put,lA,lZ,lS]
          refine zQ rfl rfl λK hK => ?_
          go_wp2_with (go_at_call 24;refine (HA.out _ Y1.out).mono ?_;rintro e y2 ⟨rfl,c2⟩)
          have Y2:=Lh (zF Y1.out c2 Y1.out.size);refine hK _ _ Y2.out ?_;clear hK K c2;refine zQ rfl rfl λK hK => ?_
          go_wp2_with (go_at_call 24;refine (HBB.out _ Y2.out).mono ?_;rintro e y3 ⟨rfl,c3⟩)
          have Y3:=Lh (zF Y2.out c3 Y2.out.size);refine hK _ _ Y3.out ?_;clear hK K c3;refine zQ rfl rfl λK hK => ?_
          go_wp2_with (go_at_call 42;refine (HO.out _ Y3.out).mono ?_;rintro e y4 ⟨rfl,c4⟩)
          have Y4:=Lh (zF Y3.out c4 Y3.out.size);refine hK _ _ Y4.out ?_;clear hK K c4;iterate 10
           refine zH (v := ?_) rfl rfl (λW hS => ?_) ?_;rotate_left
           ·first
             | (
              conv=>lhs;simp[go_sem]
              first|done|exact rfl)
             | (
              have hS:=hS rfl;obtain ⟨hbw,h1,h2,h3⟩:=K2.out _ hS;obtain ⟨q0,q1⟩:=zN h1;obtain ⟨g1,g2,g3⟩:=zK h2;obtain ⟨f0,f1⟩:=zN h3;conv=>lhs;simp[go_sem, *]
              first|done|exact rfl)
           simp only[Act.put,lA,lZ,lS]
          refine zQ rfl rfl λK hK => ?_
          go_wp2_with (go_at_call 24;refine (HA.out _ Y4.out).mono ?_;rintro e y5 ⟨rfl,c5⟩)
          have Y5:=Lh (zF Y4.out c5 Y4.out.size);refine hK _ _ Y5.out ?_;clear hK K c5;refine zQ rfl rfl λK hK => ?_
          go_wp2_with (go_at_call 24;refine (HBB.out _ Y5.out).mono ?_;rintro e y6 ⟨rfl,c6⟩)
          have Y6:=Lh (zF Y5.out c6 Y5.out.size);refine hK _ _ Y6.out ?_;clear hK K c6;refine zQ rfl rfl λK hK => ?_
          go_wp2_with (go_at_call 43;refine (HMT.out _ Y6.out).mono ?_;rintro e y7 ⟨rfl,c7⟩)
          have Y7:=Lh (zF Y6.out c7 Y6.out.size);refine hK _ _ Y7.out ?_;clear hK K c7;iterate 1
           refine zH (v := ?_) rfl rfl (λW hS => ?_) ?_;rotate_left
           ·first
             | (
              conv=>lhs;simp[go_sem]
              first|done|exact rfl)
             | (
              have hS:=hS rfl;obtain ⟨hbw,h1,h2,h3⟩:=K2.out _ hS;obtain ⟨q0,q1⟩:=zN h1;obtain ⟨g1,g2,g3⟩:=zK h2;obtain ⟨f0,f1⟩:=zN h3;conv=>lhs;simp[go_sem, *]
              first|done|exact rfl)
           simp only[Act.put,lA,lZ,lS]
          refine zT ?_;go_wp2;go_ret;exact ⟨rfl,(K2.out _ Y7.out).1⟩
         | false =>
          have OKI:Hid (OkE vs es i):=Lh (OKJ.out.2 ⟨by trivial,by trivial,by trivial⟩);refine zL (λW=>Below W2.heap.size W2 W) (0::1::2::3::4::6::7::8::9::10::12::13::14::17::18::19::20::21::22::24::25::26::28::30::[]) (0::2::4::7::8::10::12::14::19::20::22::24::26::[]) (0::1::2::3::4::5::6::7::8::9::10::12::13::14::11::15::16::17::18::19::20::21::22::24::25::26::28::23::27::29::30::[]) (by kernel_rfl) (by kernel_rfl) rfl (by kernel_rfl) rfl (E2) vR ?_;iterate 5
           refine zH (v := ?_) rfl rfl (λW hS => ?_) ?_;rotate_left
           ·first
             | (
              conv=>lhs;simp[go_sem]
              first|done|exact rfl)
             | (
              have hS:=hS rfl;obtain ⟨hbw,h1,h2,h3⟩:=K2.out _ hS;obtain ⟨q0,q1⟩:=zN h1;obtain ⟨g1,g2,g3⟩:=zK h2;obtain ⟨f0,f1⟩:=zN h3;conv=>lhs;simp[go_sem, *]
              first|done|exact rfl)
           simp only[Act.put,lA,lZ,lS]
          refine zQ rfl rfl λK hK => ?_
          go_wp2_with (go_at_call 41;refine (HL.out _ E2).mono ?_;rintro e y1 ⟨rfl,c1⟩)
          have Y1:=Lh (zF E2 c1 E2.size);refine hK _ _ Y1.out ?_;clear hK K c1;iterate 8
           refine zH (v := ?_) rfl rfl (λW hS => ?_) ?_;rotate_left
           ·first
             | (
              conv=>lhs;simp[go_sem]
              first|done|exact rfl)
             | (
              have hS:=hS rfl;obtain ⟨hbw,h1,h2,h3⟩:=K2.out _ hS;obtain ⟨q0,q1⟩:=zN h1;obtain ⟨g1,g2,g3⟩:=zK h2;obtain ⟨f0,f1⟩:=zN h3;conv=>lhs;simp[go_sem, *]
              first|done|exact rfl)
           simp only[Act.put,lA,lZ,lS]
          refine zQ rfl rfl λK hK => ?_
          go_wp2_with (go_at_call 24;refine (HA.out _ Y1.out).mono ?_;rintro e y2 ⟨rfl,c2⟩)
          have Y2:=Lh (zF Y1.out c2 Y1.out.size);refine hK _ _ Y2.out ?_;clear hK K c2;refine zQ rfl rfl λK hK => ?_
          go_wp2_with (go_at_call 24;refine (HBB.out _ Y2.out).mono ?_;rintro e y3 ⟨rfl,c3⟩)
          have Y3:=Lh (zF Y2.out c3 Y2.out.size);refine hK _ _ Y3.out ?_;clear hK K c3;refine zQ rfl rfl λK hK => ?_
          go_wp2_with (go_at_call 42;refine (HO.out _ Y3.out).mono ?_;rintro e y4 ⟨rfl,c4⟩)
          have Y4:=Lh (zF Y3.out c4 Y3.out.size);refine hK _ _ Y4.out ?_;clear hK K c4;iterate 10
           refine zH (v := ?_) rfl rfl (λW hS => ?_) ?_;rotate_left
           ·first
             | (
              conv=>lhs;simp[go_sem]
              first|done|exact rfl)
             | (
              have hS:=hS rfl;obtain ⟨hbw,h1,h2,h3⟩:=K2.out _ hS;obtain ⟨q0,q1⟩:=zN h1;obtain ⟨g1,g2,g3⟩:=zK h2;obtain ⟨f0,f1⟩:=zN h3;conv=>lhs;simp[go_sem, *]
              first|done|exact rfl)
           simp only[Act.put,lA,lZ,lS]
          refine zQ rfl rfl λK hK => ?_
          go_wp2_with (go_at_call 24;refine (HA.out _ Y4.out).mono ?_;rintro e y5 ⟨rfl,c5⟩)
          have Y5:=Lh (zF Y4.out c5 Y4.out.size);refine hK _ _ Y5.out ?_;clear hK K c5;refine zQ rfl rfl λK hK => ?_
          go_wp2_with (go_at_call 24;refine (HBB.out _ Y5.out).mono ?_;rintro e y6 ⟨rfl,c6⟩)
          have Y6:=Lh (zF Y5.out c6 Y5.out.size);refine hK _ _ Y6.out ?_;clear hK K c6;refine zQ rfl rfl λK hK => ?_
          go_wp2_with (go_at_call 43;refine (HMT.out _ Y6.out).mono ?_;rintro e y7 ⟨rfl,c7⟩)
          have Y7:=Lh (zF Y6.out c7 Y6.out.size);refine hK _ _ Y7.out ?_;clear hK K c7;iterate 1
           refine zH (v := ?_) rfl rfl (λW hS => ?_) ?_;rotate_left
           ·first
             | (
              conv=>lhs;simp[go_sem]
              first|done|exact rfl)
             | (
              have hS:=hS rfl;obtain ⟨hbw,h1,h2,h3⟩:=K2.out _ hS;obtain ⟨q0,q1⟩:=zN h1;obtain ⟨g1,g2,g3⟩:=zK h2;obtain ⟨f0,f1⟩:=zN h3;conv=>lhs;simp[go_sem, *]
              first|done|exact rfl)
           simp only[Act.put,lA,lZ,lS]
          refine zT ?_;have HPK:=Lh (K2.out _ Y7.out);go_wp2;go_roundw
          case rel=>exact ⟨i+1,by omega,by go_num,Lh λq hq=>by
           rcases Nat.lt_succ_iff_lt_or_eq.1 hq with hq|rfl
           ·exact HOK.out q hq
           exact OKI.out,Lh HPK.out.2.1,Lh HPK.out.1⟩
          case measure=>simp[intOf]<;>omega
    obtain ⟨b9,o9,z,e9,hc9,hz⟩:=PV.out (by omega);injection e9 with e9;injection e9 with e9 e8 _;subst e9 e8;have PC:=Lh hc9;have PZ:=Lh hz;have n0:0<i:=by omega
    have n1:(0:Int)<(i:Int):=by omega
    have n2:IntKind.i64.wrap ((i:Int) - 1)=((i - 1:Nat):Int):=by rw[IntKind.wrap_i64];omega
    have n3:((i - 1:Nat):Int)<(m:Int):=by omega
    clear hc9 hz PV;by_cases s3:x1<=z
    ·obtain rfl:R=false:=NRT.out λh=>by have:=PZ.out.1 (OKK.out.1 (h.2 i)).2.1;omega
     refine zL (λW=>Below W1.heap.size W1 W) (0::1::2::3::4::5::6::7::8::9::10::11::12::13::14::15::16::17::18::19::20::21::22::23::24::25::26::27::28::29::30::31::32::33::34::35::36::37::38::39::[]) (1::8::13::15::[]) (0::1::2::3::4::5::6::7::8::9::10::11::12::13::14::15::16::17::18::19::20::21::22::23::24::25::26::27::28::29::30::31::32::33::34::35::36::37::38::39::[]) (by kernel_rfl) (by kernel_rfl) rfl (by kernel_rfl) rfl (D1) vR ?_;iterate 20
      refine zH (v := ?_) rfl rfl (λW hS => ?_) ?_;rotate_left
      ·first
        | (
         conv=>lhs;simp[go_sem,s1,n0,n1,n2,n3,s3]
         first|done|exact rfl)
        | (
         have hS:=hS rfl;obtain ⟨hbw,h1,h2⟩:=KB.out _ hS;obtain ⟨q0,q1⟩:=zN h1;obtain ⟨g1,g2,g3⟩:=zK h2;have pc:=PC.out _ hbw;conv=>lhs;simp[go_sem, *,s1,n0,n1,n2,n3,s3]
         first|done|exact rfl)
      simp only[Act.put,lA,lZ,lS]
     refine zB rfl rfl ?_;simp only[Act.put,lA,lZ,lS];refine zB rfl rfl ?_;simp only[Act.put,lA,lZ,lS];refine zB rfl rfl ?_;simp only[Act.put,lA,lZ,lS];refine zB rfl rfl ?_;simp only[Act.put,lA,lZ,lS];refine zB rfl rfl ?_;simp only[Act.put,lA,lZ,lS];iterate 2
      refine zH (v := ?_) rfl rfl (λW hS => ?_) ?_;rotate_left
      ·first
        | (
         conv=>lhs;simp[go_sem,s1,n0,n1,n2,n3,s3]
         first|done|exact rfl)
        | (
         have hS:=hS rfl;obtain ⟨hbw,h1,h2⟩:=KB.out _ hS;obtain ⟨q0,q1⟩:=zN h1;obtain ⟨g1,g2,g3⟩:=zK h2;have pc:=PC.out _ hbw;conv=>lhs;simp[go_sem, *,s1,n0,n1,n2,n3,s3]
         first|done|exact rfl)
      simp only[Act.put,lA,lZ,lS]
     refine zB rfl rfl ?_;simp only[Act.put,lA,lZ,lS];refine zB rfl rfl ?_;simp only[Act.put,lA,lZ,lS];refine zB rfl rfl ?_;simp only[Act.put,lA,lZ,lS];refine zB rfl rfl ?_;simp only[Act.put,lA,lZ,lS];refine zB rfl rfl ?_;simp only[Act.put,lA,lZ,lS];iterate 2
      refine zH (v := ?_) rfl rfl (λW hS => ?_) ?_;rotate_left
      ·first
        | (
         conv=>lhs;simp[go_sem,s1,n0,n1,n2,n3,s3]
         first|done|exact rfl)
        | (
         have hS:=hS rfl;obtain ⟨hbw,h1,h2⟩:=KB.out _ hS;obtain ⟨q0,q1⟩:=zN h1;obtain ⟨g1,g2,g3⟩:=zK h2;have pc:=PC.out _ hbw;conv=>lhs;simp[go_sem, *,s1,n0,n1,n2,n3,s3]
         first|done|exact rfl)
      simp only[Act.put,lA,lZ,lS]
     refine zB rfl rfl ?_;simp only[Act.put,lA,lZ,lS];refine zB rfl rfl ?_;simp only[Act.put,lA,lZ,lS];refine zB rfl rfl ?_;simp only[Act.put,lA,lZ,lS];refine zB rfl rfl ?_;simp only[Act.put,lA,lZ,lS];refine zB rfl rfl ?_;simp only[Act.put,lA,lZ,lS];iterate 1
      refine zH (v := ?_) rfl rfl (λW hS => ?_) ?_;rotate_left
      ·first
        | (
         conv=>lhs;simp[go_sem,s1,n0,n1,n2,n3,s3]
         first|done|exact rfl)
        | (
         have hS:=hS rfl;obtain ⟨hbw,h1,h2⟩:=KB.out _ hS;obtain ⟨q0,q1⟩:=zN h1;obtain ⟨g1,g2,g3⟩:=zK h2;have pc:=PC.out _ hbw;conv=>lhs;simp[go_sem, *,s1,n0,n1,n2,n3,s3]
         first|done|exact rfl)
      simp only[Act.put,lA,lZ,lS]
     refine zT ?_;go_wp2;go_ret;exact ⟨rfl,(KB.out _ D1).1⟩
    have RI:Hid (∀ u∈es.take i,u.id<x1):=Lh (PZ.out.2 (by omega));by_cases s4:x2=x3
    ·obtain rfl:R=false:=NRT.out λh=>(OKK.out.1 (h.2 i)).2.2.1 s4
     refine zL (λW=>Below W1.heap.size W1 W) (0::1::2::3::4::5::6::7::8::9::10::11::12::13::14::15::16::17::18::19::20::21::22::23::24::25::26::27::28::29::30::31::32::33::34::35::36::37::38::39::[]) (1::8::13::15::21::23::[]) (0::1::2::3::4::5::6::7::8::9::10::11::12::13::14::15::16::17::18::19::20::21::22::23::24::25::26::27::28::29::30::31::32::33::34::35::36::37::38::39::[]) (by kernel_rfl) (by kernel_rfl) rfl (by kernel_rfl) rfl (D1) vR ?_;iterate 27
      refine zH (v := ?_) rfl rfl (λW hS => ?_) ?_;rotate_left
      ·first
        | (
         conv=>lhs;simp[go_sem,s1,n0,n1,n2,n3,s3,s4]
         first|done|exact rfl)
        | (
         have hS:=hS rfl;obtain ⟨hbw,h1,h2⟩:=KB.out _ hS;obtain ⟨q0,q1⟩:=zN h1;obtain ⟨g1,g2,g3⟩:=zK h2;have pc:=PC.out _ hbw;conv=>lhs;simp[go_sem, *,s1,n0,n1,n2,n3,s3,s4]
         first|done|exact rfl)
      simp only[Act.put,lA,lZ,lS]
     refine zB rfl rfl ?_;simp only[Act.put,lA,lZ,lS];refine zB rfl rfl ?_;simp only[Act.put,lA,lZ,lS];refine zB rfl rfl ?_;simp only[Act.put,lA,lZ,lS];refine zB rfl rfl ?_;simp only[Act.put,lA,lZ,lS];refine zB rfl rfl ?_;simp only[Act.put,lA,lZ,lS];iterate 2
      refine zH (v := ?_) rfl rfl (λW hS => ?_) ?_;rotate_left
      ·first
        | (
         conv=>lhs;simp[go_sem,s1,n0,n1,n2,n3,s3,s4]
         first|done|exact rfl)
        | (
         have hS:=hS rfl;obtain ⟨hbw,h1,h2⟩:=KB.out _ hS;obtain ⟨q0,q1⟩:=zN h1;obtain ⟨g1,g2,g3⟩:=zK h2;have pc:=PC.out _ hbw;conv=>lhs;simp[go_sem, *,s1,n0,n1,n2,n3,s3,s4]
         first|done|exact rfl)
      simp only[Act.put,lA,lZ,lS]
     refine zB rfl rfl ?_;simp only[Act.put,lA,lZ,lS];refine zB rfl rfl ?_;simp only[Act.put,lA,lZ,lS];refine zB rfl rfl ?_;simp only[Act.put,lA,lZ,lS];refine zB rfl rfl ?_;simp only[Act.put,lA,lZ,lS];refine zB rfl rfl ?_;simp only[Act.put,lA,lZ,lS];iterate 1
      refine zH (v := ?_) rfl rfl (λW hS => ?_) ?_;rotate_left
      ·first
        | (
         conv=>lhs;simp[go_sem,s1,n0,n1,n2,n3,s3,s4]
         first|done|exact rfl)
        | (
         have hS:=hS rfl;obtain ⟨hbw,h1,h2⟩:=KB.out _ hS;obtain ⟨q0,q1⟩:=zN h1;obtain ⟨g1,g2,g3⟩:=zK h2;have pc:=PC.out _ hbw;conv=>lhs;simp[go_sem, *,s1,n0,n1,n2,n3,s3,s4]
         first|done|exact rfl)
      simp only[Act.put,lA,lZ,lS]
     refine zT ?_;go_wp2;go_ret;exact ⟨rfl,(KB.out _ D1).1⟩
    have q4:(x2==x3)=false:=by simpa using s4
    cases sa:yJ vs x2 with
    | false =>
     have M1:Hid (decide (za<0)=true):=Lh (by have:=NAH.out;rw[sa]at this;exact this);obtain rfl:R=false:=NRT.out λh=>by have:=(OKK.out.1 (h.2 i)).2.2.2.1;rw[sa]at this;cases this
     refine zL (λW=>Below W1.heap.size W1 W) (0::1::2::3::4::5::6::7::8::9::10::11::12::13::14::15::16::17::18::19::20::21::22::23::24::25::26::27::28::29::31::32::33::34::35::36::37::38::39::[]) (1::8::13::15::21::23::27::29::[]) (0::1::2::3::4::5::6::7::8::9::10::11::12::13::14::15::16::17::18::19::20::21::22::23::24::25::26::27::28::29::30::31::32::33::34::35::36::37::38::39::[]) (by kernel_rfl) (by kernel_rfl) rfl (by kernel_rfl) rfl (D1) vR ?_;iterate 30
      refine zH (v := ?_) rfl rfl (λW hS => ?_) ?_;rotate_left
      ·first
        | (
         conv=>lhs;simp[go_sem,s1,n0,n1,n2,n3,s3,q4,M1.out]
         first|done|exact rfl)
        | (
         have hS:=hS rfl;obtain ⟨hbw,h1,h2⟩:=KB.out _ hS;obtain ⟨q0,q1⟩:=zN h1;obtain ⟨g1,g2,g3⟩:=zK h2;have pc:=PC.out _ hbw;conv=>lhs;simp[go_sem, *,s1,n0,n1,n2,n3,s3,q4,M1.out]
         first|done|exact rfl)
      simp only[Act.put,lA,lZ,lS]
     refine zQ rfl rfl λK hK => ?_
     go_wp2_with (go_at_call 39;refine (VA.out _ D1).mono ?_;rintro e w3 ⟨rfl,b3⟩)
     have B3:=Lh (zF D1 b3 (Nat.le_refl _));refine hK _ _ B3.out ?_;clear hK K b3;iterate 3
      refine zH (v := ?_) rfl rfl (λW hS => ?_) ?_;rotate_left
      ·first
        | (
         conv=>lhs;simp[go_sem,s1,n0,n1,n2,n3,s3,q4,M1.out]
         first|done|exact rfl)
        | (
         have hS:=hS rfl;obtain ⟨hbw,h1,h2⟩:=KB.out _ hS;obtain ⟨q0,q1⟩:=zN h1;obtain ⟨g1,g2,g3⟩:=zK h2;have pc:=PC.out _ hbw;conv=>lhs;simp[go_sem, *,s1,n0,n1,n2,n3,s3,q4,M1.out]
         first|done|exact rfl)
      simp only[Act.put,lA,lZ,lS]
     refine zB rfl rfl ?_;simp only[Act.put,lA,lZ,lS];refine zB rfl rfl ?_;simp only[Act.put,lA,lZ,lS];refine zB rfl rfl ?_;simp only[Act.put,lA,lZ,lS];refine zB rfl rfl ?_;simp only[Act.put,lA,lZ,lS];refine zB rfl rfl ?_;simp only[Act.put,lA,lZ,lS];iterate 1
      refine zH (v := ?_) rfl rfl (λW hS => ?_) ?_;rotate_left
      ·first
        | (
         conv=>lhs;simp[go_sem,s1,n0,n1,n2,n3,s3,q4,M1.out]
         first|done|exact rfl)
        | (
         have hS:=hS rfl;obtain ⟨hbw,h1,h2⟩:=KB.out _ hS;obtain ⟨q0,q1⟩:=zN h1;obtain ⟨g1,g2,g3⟩:=zK h2;have pc:=PC.out _ hbw;conv=>lhs;simp[go_sem, *,s1,n0,n1,n2,n3,s3,q4,M1.out]
         first|done|exact rfl)
      simp only[Act.put,lA,lZ,lS]
     refine zT ?_;go_wp2;go_ret;exact ⟨rfl,(KB.out _ B3.out).1⟩
    | true =>
     have M1:Hid (decide (za<0)=false):=Lh (by have:=NAH.out;rw[sa]at this;exact this);cases sb:yJ vs x3 with
     | false =>
      have M2:Hid (decide (zb<0)=true):=Lh (by have:=NBH.out;rw[sb]at this;exact this);obtain rfl:R=false:=NRT.out λh=>by have:=(OKK.out.1 (h.2 i)).2.2.2.2.1;rw[sb]at this;cases this
      refine zL (λW=>Below W1.heap.size W1 W) (0::1::2::3::4::5::6::7::8::9::10::11::12::13::14::15::16::17::18::19::20::21::22::23::24::25::26::27::28::29::31::32::33::34::35::36::38::39::[]) (1::8::13::15::21::23::27::29::34::36::[]) (0::1::2::3::4::5::6::7::8::9::10::11::12::13::14::15::16::17::18::19::20::21::22::23::24::25::26::27::28::29::30::31::32::33::34::35::36::37::38::39::[]) (by kernel_rfl) (by kernel_rfl) rfl (by kernel_rfl) rfl (D1) vR ?_;iterate 30
       refine zH (v := ?_) rfl rfl (λW hS => ?_) ?_;rotate_left
       ·first
         | (
          conv=>lhs;simp[go_sem,s1,n0,n1,n2,n3,s3,q4,M1.out,M2.out]
          first|done|exact rfl)
         | (
          have hS:=hS rfl;obtain ⟨hbw,h1,h2⟩:=KB.out _ hS;obtain ⟨q0,q1⟩:=zN h1;obtain ⟨g1,g2,g3⟩:=zK h2;have pc:=PC.out _ hbw;conv=>lhs;simp[go_sem, *,s1,n0,n1,n2,n3,s3,q4,M1.out,M2.out]
          first|done|exact rfl)
       simp only[Act.put,lA,lZ,lS]
      refine zQ rfl rfl λK hK => ?_
      go_wp2_with (go_at_call 39;refine (VA.out _ D1).mono ?_;rintro e w3 ⟨rfl,b3⟩)
      have B3:=Lh (zF D1 b3 (Nat.le_refl _));refine hK _ _ B3.out ?_;clear hK K b3;iterate 6
       refine zH (v := ?_) rfl rfl (λW hS => ?_) ?_;rotate_left
       ·first
         | (
          conv=>lhs;simp[go_sem,s1,n0,n1,n2,n3,s3,q4,M1.out,M2.out]
          first|done|exact rfl)
         | (
          have hS:=hS rfl;obtain ⟨hbw,h1,h2⟩:=KB.out _ hS;obtain ⟨q0,q1⟩:=zN h1;obtain ⟨g1,g2,g3⟩:=zK h2;have pc:=PC.out _ hbw;conv=>lhs;simp[go_sem, *,s1,n0,n1,n2,n3,s3,q4,M1.out,M2.out]
          first|done|exact rfl)
       simp only[Act.put,lA,lZ,lS]
      refine zQ rfl rfl λK hK => ?_
      go_wp2_with (go_at_call 39;refine (VB.out _ B3.out).mono ?_;rintro e w4 ⟨rfl,b4⟩)
      have B4:=Lh (zF B3.out b4 B3.out.size);refine hK _ _ B4.out ?_;clear hK K b4;iterate 2
       refine zH (v := ?_) rfl rfl (λW hS => ?_) ?_;rotate_left
       ·first
         | (
          conv=>lhs;simp[go_sem,s1,n0,n1,n2,n3,s3,q4,M1.out,M2.out]
          first|done|exact rfl)
         | (
          have hS:=hS rfl;obtain ⟨hbw,h1,h2⟩:=KB.out _ hS;obtain ⟨q0,q1⟩:=zN h1;obtain ⟨g1,g2,g3⟩:=zK h2;have pc:=PC.out _ hbw;conv=>lhs;simp[go_sem, *,s1,n0,n1,n2,n3,s3,q4,M1.out,M2.out]
          first|done|exact rfl)
       simp only[Act.put,lA,lZ,lS]
      refine zT ?_;go_wp2;go_ret;exact ⟨rfl,(KB.out _ B4.out).1⟩
     | true =>
      have M2:Hid (decide (zb<0)=false):=Lh (by have:=NBH.out;rw[sb]at this;exact this);refine zL (λW=>Below W1.heap.size W1 W) (0::1::2::3::4::5::6::7::8::9::10::11::12::13::14::15::16::17::18::19::20::21::22::23::24::25::26::27::28::29::31::32::33::34::35::36::38::39::[]) (1::8::13::15::21::23::27::29::34::36::[]) (0::1::2::3::4::5::6::7::8::9::10::11::12::13::14::15::16::17::18::19::20::21::22::23::24::25::26::27::28::29::30::31::32::33::34::35::36::37::38::39::[]) (by kernel_rfl) (by kernel_rfl) rfl (by kernel_rfl) rfl (D1) vR ?_;iterate 30
       refine zH (v := ?_) rfl rfl (λW hS => ?_) ?_;rotate_left
       ·first
         | (
          conv=>lhs;simp[go_sem,s1,n0,n1,n2,n3,s3,q4,M1.out,M2.out]
          first|done|exact rfl)
         | (
          have hS:=hS rfl;obtain ⟨hbw,h1,h2⟩:=KB.out _ hS;obtain ⟨q0,q1⟩:=zN h1;obtain ⟨g1,g2,g3⟩:=zK h2;have pc:=PC.out _ hbw;conv=>lhs;simp[go_sem, *,s1,n0,n1,n2,n3,s3,q4,M1.out,M2.out]
          first|done|exact rfl)
       simp only[Act.put,lA,lZ,lS]
      refine zQ rfl rfl λK hK => ?_
      go_wp2_with (go_at_call 39;refine (VA.out _ D1).mono ?_;rintro e w3 ⟨rfl,b3⟩)
      have B3:=Lh (zF D1 b3 (Nat.le_refl _));refine hK _ _ B3.out ?_;clear hK K b3;iterate 6
       refine zH (v := ?_) rfl rfl (λW hS => ?_) ?_;rotate_left
       ·first
         | (
          conv=>lhs;simp[go_sem,s1,n0,n1,n2,n3,s3,q4,M1.out,M2.out]
          first|done|exact rfl)
         | (
          have hS:=hS rfl;obtain ⟨hbw,h1,h2⟩:=KB.out _ hS;obtain ⟨q0,q1⟩:=zN h1;obtain ⟨g1,g2,g3⟩:=zK h2;have pc:=PC.out _ hbw;conv=>lhs;simp[go_sem, *,s1,n0,n1,n2,n3,s3,q4,M1.out,M2.out]
          first|done|exact rfl)
       simp only[Act.put,lA,lZ,lS]
      refine zQ rfl rfl λK hK => ?_
      go_wp2_with (go_at_call 39;refine (VB.out _ B3.out).mono ?_;rintro e w4 ⟨rfl,b4⟩)
      have B4:=Lh (zF B3.out b4 B3.out.size);refine hK _ _ B4.out ?_;clear hK K b4;iterate 2
       refine zH (v := ?_) rfl rfl (λW hS => ?_) ?_;rotate_left
       ·first
         | (
          conv=>lhs;simp[go_sem,s1,n0,n1,n2,n3,s3,q4,M1.out,M2.out]
          first|done|exact rfl)
         | (
          have hS:=hS rfl;obtain ⟨hbw,h1,h2⟩:=KB.out _ hS;obtain ⟨q0,q1⟩:=zN h1;obtain ⟨g1,g2,g3⟩:=zK h2;have pc:=PC.out _ hbw;conv=>lhs;simp[go_sem, *,s1,n0,n1,n2,n3,s3,q4,M1.out,M2.out]
          first|done|exact rfl)
       simp only[Act.put,lA,lZ,lS]
      refine zT ?_;have B9:=Lh B4.out;clear B4 B3 VA VB NAH NBH;go_upto_region 20 with fail;have j1:(i:Int)<=(cap':Int):=by omega
      have KK:Hid (∀ W,Below W1.heap.size W1 W->Own W w.heap.size 25 #[.slice a n cap,.slice (some ⟨b,o,none⟩) m cap']):=Lh λW hW=>(KB.out W hW).2.1
      refine zL (λW=>Below W1.heap.size W1 W) (0::1::2::3::4::5::6::[]) (1::3::[]) (0::1::2::3::4::5::6::7::8::[]) (by kernel_rfl) (by kernel_rfl) rfl (by kernel_rfl) rfl (B9.out.drew) vR ?_;iterate 7
       refine zH (v := ?_) rfl rfl (λW hS => ?_) ?_;rotate_left
       ·first
         | (
          conv=>lhs;simp[go_sem,j1]
          first|done|exact rfl)
         | (
          have hS:=hS rfl;obtain ⟨q0,q1⟩:=zN (KK.out _ hS);conv=>lhs;simp[go_sem, *,j1]
          first|done|exact rfl)
       simp only[Act.put,lA,lZ,lS]
      refine zQ rfl rfl λK hK => ?_
      go_wp2;refine hK _ _ ((B9.out.alloc B9.out.size _).drew) ?_;clear hK K;refine xR rfl rfl (by kernel_rfl) rfl λK hK => ?_
      go_wp2;refine hK _ _ ?_;clear hK K;refine zT ?_;have B8:Hid (Below W1.heap.size W1 (w4.alloc (.cells #[.slice a n cap,.slice (some ⟨b,o,none⟩) i cap'] 25)).drew):=Lh (B9.out.alloc B9.out.size _).drew;have O8:Hid (Own (w4.alloc (.cells #[.slice a n cap,.slice (some ⟨b,o,none⟩) i cap'] 25)).drew w4.heap.size 25 #[.slice a n cap,.slice (some ⟨b,o,none⟩) i cap']):=Lh (Own.made _ _ _).drawn;generalize hW2:(w4.alloc (.cells #[.slice a n cap,.slice (some ⟨b,o,none⟩) i cap'] 25)).drew=W2 at B8 O8 ⊢
      clear hW2 B9;have K2:Hid (∀ W,Below W2.heap.size W2 W->Below w.heap.size w W/\Own W w.heap.size 25 #[.slice a n cap,.slice (some ⟨b,o,none⟩) m cap']/\Own W wr.heap.size 71 #[.int .i64 x1,.int .i64 x2,.int .i64 x3]/\Own W w4.heap.size 25 #[.slice a n cap,.slice (some ⟨b,o,none⟩) i cap']):=Lh λW hW=>by
       have:=KB.out W (zF B8.out hW B8.out.size);exact ⟨this.1,this.2.1,this.2.2,O8.out.keep hW⟩
      have E2:Below W2.heap.size W2 W2.drew:=(Below.refl _ _).drew;have HL:=Lh (λW (hW:Below W2.heap.size W2 W)=>LK.out _ (es.take i) W (EC.out W (K2.out W hW).1 i (by omega)) (by rw[List.length_take];omega) x2 x3);have HA:=Lh (λW (hW:Below W2.heap.size W2 W)=>AT.out W (K2.out W hW).1 x2 sa);have HBB:=Lh (λW (hW:Below W2.heap.size W2 W)=>AT.out W (K2.out W hW).1 x3 sb);have HO:=Lh (λW (hW:Below W2.heap.size W2 W)=>RON.out W (K2.out W hW).1 _ _ _ _ FV.out (uN FV.out.rng sa) (uN FV.out.rng sb));have HMT:=Lh (λW (hW:Below W2.heap.size W2 W)=>RMT.out W (K2.out W hW).1 _ _ _ _ i (by omega) FV.out (λk u hk hu=>by have:=jD.1 (HOK.out k hk u hu).2.2;exact ⟨this.1,this.2.1,this.2.2.1⟩) (uN FV.out.rng sa) (uN FV.out.rng sb) (qZ FV.out sa sb s4));have OKJ:Hid (OkE vs es i↔jnL (es.take i) x2 x3=false/\onV vs (px vs x2) (py vs x2) (px vs x3) (py vs x3)=false/\mtL vs (es.take i) (px vs x2) (py vs x2) (px vs x3) (py vs x3)=false):=Lh (OKK.out.trans ⟨λh=>h.2.2.2.2.2,λh=>⟨by omega,RI.out,s4,sa,sb,h⟩⟩);clear OKK VX AT RON RMT LK;generalize jnL (es.take i) x2 x3=tj at *
      generalize onV vs (px vs x2) (py vs x2) (px vs x3) (py vs x3)=tq at *
      generalize mtL vs (es.take i) (px vs x2) (py vs x2) (px vs x3) (py vs x3)=tm at *
      generalize px vs x2=ax at *
      generalize py vs x2=ay at *
      generalize px vs x3=bx at *
      generalize py vs x3=byy at *
      clear q4 s4 sa sb;go_upto_region 21 with fail;cases tj with
      | true =>
       obtain rfl:R=false:=NRT.out λh=>by have:=(OKJ.out.1 (h.2 i)).1;cases this
       refine zL (λW=>Below W2.heap.size W2 W) (0::1::2::3::4::6::7::8::9::10::11::12::13::14::15::16::17::18::19::20::21::22::23::24::25::26::27::28::29::30::[]) (0::2::4::[]) (0::1::2::3::4::5::6::7::8::9::10::11::12::13::14::15::16::17::18::19::20::21::22::23::24::25::26::27::28::29::30::[]) (by kernel_rfl) (by kernel_rfl) rfl (by kernel_rfl) rfl (E2) vR ?_;iterate 5
        refine zH (v := ?_) rfl rfl (λW hS => ?_) ?_;rotate_left
        ·first
          | (
           conv=>lhs;simp[go_sem]
           first|done|exact rfl)
          | (
           have hS:=hS rfl;obtain ⟨hbw,h1,h2,h3⟩:=K2.out _ hS;obtain ⟨q0,q1⟩:=zN h1;obtain ⟨g1,g2,g3⟩:=zK h2;obtain ⟨f0,f1⟩:=zN h3;conv=>lhs;simp[go_sem, *]
           first|done|exact rfl)
        simp only[Act.put,lA,lZ,lS]
       refine zQ rfl rfl λK hK => ?_
       go_wp2_with (go_at_call 41;refine (HL.out _ E2).mono ?_;rintro e y1 ⟨rfl,c1⟩)
       have Y1:=Lh (zF E2 c1 E2.size);refine hK _ _ Y1.out ?_;clear hK K c1;iterate 1
        refine zH (v := ?_) rfl rfl (λW hS => ?_) ?_;rotate_left
        ·first
          | (
           conv=>lhs;simp[go_sem]
           first|done|exact rfl)
          | (
           have hS:=hS rfl;obtain ⟨hbw,h1,h2,h3⟩:=K2.out _ hS;obtain ⟨q0,q1⟩:=zN h1;obtain ⟨g1,g2,g3⟩:=zK h2;obtain ⟨f0,f1⟩:=zN h3;conv=>lhs;simp[go_sem, *]
           first|done|exact rfl)
        simp only[Act.put,lA,lZ,lS]
       refine zB rfl rfl ?_;simp only[Act.put,lA,lZ,lS];refine zB rfl rfl ?_;simp only[Act.put,lA,lZ,lS];refine zB rfl rfl ?_;simp only[Act.put,lA,lZ,lS];refine zB rfl rfl ?_;simp only[Act.put,lA,lZ,lS];refine zB rfl rfl ?_;simp only[Act.put,lA,lZ,lS];refine zB rfl rfl ?_;simp only[Act.put,lA,lZ,lS];refine zB rfl rfl ?_;simp only[Act.put,lA,lZ,lS];refine zB rfl rfl ?_;simp only[Act.put,lA,lZ,lS];refine zB rfl rfl ?_;simp only[Act.put,lA,lZ,lS];refine zB rfl rfl ?_;simp only[Act.put,lA,lZ,lS];iterate 2
        refine zH (v := ?_) rfl rfl (λW hS => ?_) ?_;rotate_left
        ·first
          | (
           conv=>lhs;simp[go_sem]
           first|done|exact rfl)
          | (
           have hS:=hS rfl;obtain ⟨hbw,h1,h2,h3⟩:=K2.out _ hS;obtain ⟨q0,q1⟩:=zN h1;obtain ⟨g1,g2,g3⟩:=zK h2;obtain ⟨f0,f1⟩:=zN h3;conv=>lhs;simp[go_sem, *]
           first|done|exact rfl)
        simp only[Act.put,lA,lZ,lS]
       refine zB rfl rfl ?_;simp only[Act.put,lA,lZ,lS];refine zB rfl rfl ?_;simp only[Act.put,lA,lZ,lS];refine zB rfl rfl ?_;simp only[Act.put,lA,lZ,lS];refine zB rfl rfl ?_;simp only[Act.put,lA,lZ,lS];refine zB rfl rfl ?_;simp only[Act.put,lA,lZ,lS];refine zB rfl rfl ?_;simp only[Act.put,lA,lZ,lS];refine zB rfl rfl ?_;simp only[Act.put,lA,lZ,lS];refine zB rfl rfl ?_;simp only[Act.put,lA,lZ,lS];refine zB rfl rfl ?_;simp only[Act.put,lA,lZ,lS];refine zB rfl rfl ?_;simp only[Act.put,lA,lZ,lS];refine zB rfl rfl ?_;simp only[Act.put,lA,lZ,lS];iterate 1
        refine zH (v := ?_) rfl rfl (λW hS => ?_) ?_;rotate_left
        ·first
          | (
           conv=>lhs;simp[go_sem]
           first|done|exact rfl)
          | (
           have hS:=hS rfl;obtain ⟨hbw,h1,h2,h3⟩:=K2.out _ hS;obtain ⟨q0,q1⟩:=zN h1;obtain ⟨g1,g2,g3⟩:=zK h2;obtain ⟨f0,f1⟩:=zN h3;conv=>lhs;simp[go_sem, *]
           first|done|exact rfl)
        simp only[Act.put,lA,lZ,lS]
       refine zT ?_;go_wp2;go_ret;exact ⟨rfl,(K2.out _ Y1.out).1⟩
      | false =>
       cases tq with
       | true =>
        obtain rfl:R=false:=NRT.out λh=>by have:=(OKJ.out.1 (h.2 i)).2.1;cases this
        refine zL (λW=>Below W2.heap.size W2 W) (0::1::2::3::4::6::7::8::9::10::12::13::14::17::18::19::20::21::22::23::24::25::26::27::28::29::30::[]) (0::2::4::7::8::10::12::14::[]) (0::1::2::3::4::5::6::7::8::9::10::12::13::14::11::15::16::17::18::19::20::21::22::23::24::25::26::27::28::29::30::[]) (by kernel_rfl) (by kernel_rfl) rfl (by kernel_rfl) rfl (E2) vR ?_;iterate 5
         refine zH (v := ?_) rfl rfl (λW hS => ?_) ?_;rotate_left
         ·first
           | (
            conv=>lhs;simp[go_sem]
            first|done|exact rfl)
           | (
            have hS:=hS rfl;obtain ⟨hbw,h1,h2,h3⟩:=K2.out _ hS;obtain ⟨q0,q1⟩:=zN h1;obtain ⟨g1,g2,g3⟩:=zK h2;obtain ⟨f0,f1⟩:=zN h3;conv=>lhs;simp[go_sem, *]
            first|done|exact rfl)
         simp only[Act.put,lA,lZ,lS]
        refine zQ rfl rfl λK hK => ?_
        go_wp2_with (go_at_call 41;refine (HL.out _ E2).mono ?_;rintro e y1 ⟨rfl,c1⟩)
        have Y1:=Lh (zF E2 c1 E2.size);refine hK _ _ Y1.out ?_;clear hK K c1;iterate 8
         refine zH (v := ?_) rfl rfl (λW hS => ?_) ?_;rotate_left
         ·first
           | (
            conv=>lhs;simp[go_sem]
            first|done|exact rfl)
           | (
            have hS:=hS rfl;obtain ⟨hbw,h1,h2,h3⟩:=K2.out _ hS;obtain ⟨q0,q1⟩:=zN h1;obtain ⟨g1,g2,g3⟩:=zK h2;obtain ⟨f0,f1⟩:=zN h3;conv=>lhs;simp[go_sem, *]
            first|done|exact rfl)
         simp only[Act.put,lA,lZ,lS]
        refine zQ rfl rfl λK hK => ?_
        go_wp2_with (go_at_call 24;refine (HA.out _ Y1.out).mono ?_;rintro e y2 ⟨rfl,c2⟩)
        have Y2:=Lh (zF Y1.out c2 Y1.out.size);refine hK _ _ Y2.out ?_;clear hK K c2;refine zQ rfl rfl λK hK => ?_
        go_wp2_with (go_at_call 24;refine (HBB.out _ Y2.out).mono ?_;rintro e y3 ⟨rfl,c3⟩)
        have Y3:=Lh (zF Y2.out c3 Y2.out.size);refine hK _ _ Y3.out ?_;clear hK K c3;refine zQ rfl rfl λK hK => ?_
        go_wp2_with (go_at_call 42;refine (HO.out _ Y3.out).mono ?_;rintro e y4 ⟨rfl,c4⟩)
        have Y4:=Lh (zF Y3.out c4 Y3.out.size);refine hK _ _ Y4.out ?_;clear hK K c4;iterate 2
         refine zH (v := ?_) rfl rfl (λW hS => ?_) ?_;rotate_left
         ·first
           | (
            conv=>lhs;simp[go_sem]
            first|done|exact rfl)
           | (
            have hS:=hS rfl;obtain ⟨hbw,h1,h2,h3⟩:=K2.out _ hS;obtain ⟨q0,q1⟩:=zN h1;obtain ⟨g1,g2,g3⟩:=zK h2;obtain ⟨f0,f1⟩:=zN h3;conv=>lhs;simp[go_sem, *]
            first|done|exact rfl)
         simp only[Act.put,lA,lZ,lS]
        refine zB rfl rfl ?_;simp only[Act.put,lA,lZ,lS];refine zB rfl rfl ?_;simp only[Act.put,lA,lZ,lS];refine zB rfl rfl ?_;simp only[Act.put,lA,lZ,lS];refine zB rfl rfl ?_;simp only[Act.put,lA,lZ,lS];refine zB rfl rfl ?_;simp only[Act.put,lA,lZ,lS];refine zB rfl rfl ?_;simp only[Act.put,lA,lZ,lS];refine zB rfl rfl ?_;simp only[Act.put,lA,lZ,lS];refine zB rfl rfl ?_;simp only[Act.put,lA,lZ,lS];refine zB rfl rfl ?_;simp only[Act.put,lA,lZ,lS];refine zB rfl rfl ?_;simp only[Act.put,lA,lZ,lS];refine zB rfl rfl ?_;simp only[Act.put,lA,lZ,lS];iterate 1
         refine zH (v := ?_) rfl rfl (λW hS => ?_) ?_;rotate_left
         ·first
           | (
            conv=>lhs;simp[go_sem]
            first|done|exact rfl)
           | (
            have hS:=hS rfl;obtain ⟨hbw,h1,h2,h3⟩:=K2.out _ hS;obtain ⟨q0,q1⟩:=zN h1;obtain ⟨g1,g2,g3⟩:=zK h2;obtain ⟨f0,f1⟩:=zN h3;conv=>lhs;simp[go_sem, *]
            first|done|exact rfl)
         simp only[Act.put,lA,lZ,lS]
        refine zT ?_;go_wp2;go_ret;exact ⟨rfl,(K2.out _ Y4.out).1⟩
       | false =>
        cases tm with
        | true =>
         obtain rfl:R=false:=NRT.out λh=>by have:=(OKJ.out.1 (h.2 i)).2.2;cases this
         refine zL (λW=>Below W2.heap.size W2 W) (0::1::2::3::4::6::7::8::9::10::12::13::14::17::18::19::20::21::22::24::25::26::28::30::[]) (0::2::4::7::8::10::12::14::19::20::22::24::26::[]) (0::1::2::3::4::5::6::7::8::9::10::12::13::14::11::15::16::17::18::19::20::21::22::24::25::26::28::23::27::29::30::[]) (by kernel_rfl) (by kernel_rfl) rfl (by kernel_rfl) rfl (E2) vR ?_;iterate 5
          refine zH (v := ?_) rfl rfl (λW hS => ?_) ?_;rotate_left
          ·first
            | (
             conv=>lhs;simp[go_sem]
             first|done|exact rfl)
            | (
             have hS:=hS rfl;obtain ⟨hbw,h1,h2,h3⟩:=K2.out _ hS;obtain ⟨q0,q1⟩:=zN h1;obtain ⟨g1,g2,g3⟩:=zK h2;obtain ⟨f0,f1⟩:=zN h3;conv=>lhs;simp[go_sem, *]
             first|done|exact rfl)
          simp only[Act.put,lA,lZ,lS]
         refine zQ rfl rfl λK hK => ?_
         go_wp2_with (go_at_call 41;refine (HL.out _ E2).mono ?_;rintro e y1 ⟨rfl,c1⟩)
         have Y1:=Lh (zF E2 c1 E2.size);refine hK _ _ Y1.out ?_;clear hK K c1;iterate 8
          refine zH (v := ?_) rfl rfl (λW hS => ?_) ?_;rotate_left
          ·first
            | (
             conv=>lhs;simp[go_sem]
             first|done|exact rfl)
            | (
             have hS:=hS rfl;obtain ⟨hbw,h1,h2,h3⟩:=K2.out _ hS;obtain ⟨q0,q1⟩:=zN h1;obtain ⟨g1,g2,g3⟩:=zK h2;obtain ⟨f0,f1⟩:=zN h3;conv=>lhs;simp[go_sem, *]
             first|done|exact rfl)
          simp only[Act.put,lA,lZ,lS]
         refine zQ rfl rfl λK hK => ?_
         go_wp2_with (go_at_call 24;refine (HA.out _ Y1.out).mono ?_;rintro e y2 ⟨rfl,c2⟩)
         have Y2:=Lh (zF Y1.out c2 Y1.out.size);refine hK _ _ Y2.out ?_;clear hK K c2;refine zQ rfl rfl λK hK => ?_
         go_wp2_with (go_at_call 24;refine (HBB.out _ Y2.out).mono ?_;rintro e y3 ⟨rfl,c3⟩)
         have Y3:=Lh (zF Y2.out c3 Y2.out.size);refine hK _ _ Y3.out ?_;clear hK K c3;refine zQ rfl rfl λK hK => ?_
         go_wp2_with (go_at_call 42;refine (HO.out _ Y3.out).mono ?_;rintro e y4 ⟨rfl,c4⟩)
         have Y4:=Lh (zF Y3.out c4 Y3.out.size);refine hK _ _ Y4.out ?_;clear hK K c4;iterate 10
          refine zH (v := ?_) rfl rfl (λW hS => ?_) ?_;rotate_left
          ·first
            | (
             conv=>lhs;simp[go_sem]
             first|done|exact rfl)
            | (
             have hS:=hS rfl;obtain ⟨hbw,h1,h2,h3⟩:=K2.out _ hS;obtain ⟨q0,q1⟩:=zN h1;obtain ⟨g1,g2,g3⟩:=zK h2;obtain ⟨f0,f1⟩:=zN h3;conv=>lhs;simp[go_sem, *]
             first|done|exact rfl)
          simp only[Act.put,lA,lZ,lS]
         refine zQ rfl rfl λK hK => ?_
         go_wp2_with (go_at_call 24;refine (HA.out _ Y4.out).mono ?_;rintro e y5 ⟨rfl,c5⟩)
         have Y5:=Lh (zF Y4.out c5 Y4.out.size);refine hK _ _ Y5.out ?_;clear hK K c5;refine zQ rfl rfl λK hK => ?_
         go_wp2_with (go_at_call 24;refine (HBB.out _ Y5.out).mono ?_;rintro e y6 ⟨rfl,c6⟩)
         have Y6:=Lh (zF Y5.out c6 Y5.out.size);refine hK _ _ Y6.out ?_;clear hK K c6;refine zQ rfl rfl λK hK => ?_
         go_wp2_with (go_at_call 43;refine (HMT.out _ Y6.out).mono ?_;rintro e y7 ⟨rfl,c7⟩)
         have Y7:=Lh (zF Y6.out c7 Y6.out.size);refine hK _ _ Y7.out ?_;clear hK K c7;iterate 1
          refine zH (v := ?_) rfl rfl (λW hS => ?_) ?_;rotate_left
          ·first
            | (
             conv=>lhs;simp[go_sem]
             first|done|exact rfl)
            | (
             have hS:=hS rfl;obtain ⟨hbw,h1,h2,h3⟩:=K2.out _ hS;obtain ⟨q0,q1⟩:=zN h1;obtain ⟨g1,g2,g3⟩:=zK h2;obtain ⟨f0,f1⟩:=zN h3;conv=>lhs;simp[go_sem, *]
             first|done|exact rfl)
          simp only[Act.put,lA,lZ,lS]
         refine zT ?_;go_wp2;go_ret;exact ⟨rfl,(K2.out _ Y7.out).1⟩
        | false =>
         have OKI:Hid (OkE vs es i):=Lh (OKJ.out.2 ⟨by trivial,by trivial,by trivial⟩);refine zL (λW=>Below W2.heap.size W2 W) (0::1::2::3::4::6::7::8::9::10::12::13::14::17::18::19::20::21::22::24::25::26::28::30::[]) (0::2::4::7::8::10::12::14::19::20::22::24::26::[]) (0::1::2::3::4::5::6::7::8::9::10::12::13::14::11::15::16::17::18::19::20::21::22::24::25::26::28::23::27::29::30::[]) (by kernel_rfl) (by kernel_rfl) rfl (by kernel_rfl) rfl (E2) vR ?_;iterate 5
          refine zH (v := ?_) rfl rfl (λW hS => ?_) ?_;rotate_left
          ·first
            | (
             conv=>lhs;simp[go_sem]
             first|done|exact rfl)
            | (
             have hS:=hS rfl;obtain ⟨hbw,h1,h2,h3⟩:=K2.out _ hS;obtain ⟨q0,q1⟩:=zN h1;obtain ⟨g1,g2,g3⟩:=zK h2;obtain ⟨f0,f1⟩:=zN h3;conv=>lhs;simp[go_sem, *]
             first|done|exact rfl)
          simp only[Act.put,lA,lZ,lS]
         refine zQ rfl rfl λK hK => ?_
         go_wp2_with (go_at_call 41;refine (HL.out _ E2).mono ?_;rintro e y1 ⟨rfl,c1⟩)
         have Y1:=Lh (zF E2 c1 E2.size);refine hK _ _ Y1.out ?_;clear hK K c1;iterate 8
          refine zH (v := ?_) rfl rfl (λW hS => ?_) ?_;rotate_left
          ·first
            | (
             conv=>lhs;simp[go_sem]
             first|done|exact rfl)
            | (
             have hS:=hS rfl;obtain ⟨hbw,h1,h2,h3⟩:=K2.out _ hS;obtain ⟨q0,q1⟩:=zN h1;obtain ⟨g1,g2,g3⟩:=zK h2;obtain ⟨f0,f1⟩:=zN h3;conv=>lhs;simp[go_sem, *]
             first|done|exact rfl)
          simp only[Act.put,lA,lZ,lS]
         refine zQ rfl rfl λK hK => ?_
         go_wp2_with (go_at_call 24;refine (HA.out _ Y1.out).mono ?_;rintro e y2 ⟨rfl,c2⟩)
         have Y2:=Lh (zF Y1.out c2 Y1.out.size);refine hK _ _ Y2.out ?_;clear hK K c2;refine zQ rfl rfl λK hK => ?_
         go_wp2_with (go_at_call 24;refine (HBB.out _ Y2.out).mono ?_;rintro e y3 ⟨rfl,c3⟩)
         have Y3:=Lh (zF Y2.out c3 Y2.out.size);refine hK _ _ Y3.out ?_;clear hK K c3;refine zQ rfl rfl λK hK => ?_
         go_wp2_with (go_at_call 42;refine (HO.out _ Y3.out).mono ?_;rintro e y4 ⟨rfl,c4⟩)
         have Y4:=Lh (zF Y3.out c4 Y3.out.size);refine hK _ _ Y4.out ?_;clear hK K c4;iterate 10
          refine zH (v := ?_) rfl rfl (λW hS => ?_) ?_;rotate_left
          ·first
            | (
             conv=>lhs;simp[go_sem]
             first|done|exact rfl)
            | (
             have hS:=hS rfl;obtain ⟨hbw,h1,h2,h3⟩:=K2.out _ hS;obtain ⟨q0,q1⟩:=zN h1;obtain ⟨g1,g2,g3⟩:=zK h2;obtain ⟨f0,f1⟩:=zN h3;conv=>lhs;simp[go_sem, *]
             first|done|exact rfl)
          simp only[Act.put,lA,lZ,lS]
         refine zQ rfl rfl λK hK => ?_
         go_wp2_with (go_at_call 24;refine (HA.out _ Y4.out).mono ?_;rintro e y5 ⟨rfl,c5⟩)
         have Y5:=Lh (zF Y4.out c5 Y4.out.size);refine hK _ _ Y5.out ?_;clear hK K c5;refine zQ rfl rfl λK hK => ?_
         go_wp2_with (go_at_call 24;refine (HBB.out _ Y5.out).mono ?_;rintro e y6 ⟨rfl,c6⟩)
         have Y6:=Lh (zF Y5.out c6 Y5.out.size);refine hK _ _ Y6.out ?_;clear hK K c6;refine zQ rfl rfl λK hK => ?_
         go_wp2_with (go_at_call 43;refine (HMT.out _ Y6.out).mono ?_;rintro e y7 ⟨rfl,c7⟩)
         have Y7:=Lh (zF Y6.out c7 Y6.out.size);refine hK _ _ Y7.out ?_;clear hK K c7;iterate 1
          refine zH (v := ?_) rfl rfl (λW hS => ?_) ?_;rotate_left
          ·first
            | (
             conv=>lhs;simp[go_sem]
             first|done|exact rfl)
            | (
             have hS:=hS rfl;obtain ⟨hbw,h1,h2,h3⟩:=K2.out _ hS;obtain ⟨q0,q1⟩:=zN h1;obtain ⟨g1,g2,g3⟩:=zK h2;obtain ⟨f0,f1⟩:=zN h3;conv=>lhs;simp[go_sem, *]
             first|done|exact rfl)
          simp only[Act.put,lA,lZ,lS]
         refine zT ?_;have HPK:=Lh (K2.out _ Y7.out);go_wp2;go_roundw
         case rel=>exact ⟨i+1,by omega,by go_num,Lh λq hq=>by
          rcases Nat.lt_succ_iff_lt_or_eq.1 hq with hq|rfl
          ·exact HOK.out q hq
          exact OKI.out,Lh HPK.out.2.1,Lh HPK.out.1⟩
         case measure=>simp[intOf]<;>omega
   have RT:Hid (Rt vs es):=Lh (uE.2 ⟨FV.out,Xe.1 λk u hu=>by
    have hk:=(List.getElem?_eq_some_iff.1 hu).1;exact HOK.out k (by have:=HM.out;omega) u hu⟩)
   obtain rfl:R=true:=YRT.out RT.out;go_wp2;go_ret;exact ⟨rfl,HB.out⟩
end
end Go.Proofs.Ytibnackmddigaaa.Pl
