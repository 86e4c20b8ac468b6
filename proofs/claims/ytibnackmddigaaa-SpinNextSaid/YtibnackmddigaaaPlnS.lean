import Derived.Test.YtibnackmddigaaaPlnR
import Derived.Test.YtibnackmddigaaaTree
import Derived.Test.YtibnackmddigaaaSpnO
set_option linter.unusedVariables false
set_option linter.unusedSimpArgs false
set_option linter.unusedSectionVars false
namespace Go.Proofs.Ytibnackmddigaaa.Pl
open Go.ChangeShapes Go.WideShapes Go.ChangeAt Go.RowKit
theorem zDo {p:Prop} (h:p:=by simp only[xJ,List.filterMap_cons,List.filterMap_nil,List.getElem?_cons_zero,List.getElem?_cons_succ,Option.map_some];exact rfl):p:=h
theorem zN {w:World} {p:Nat} {T:TypeId} {x y:Value} (h:Own w p T #[x,y]):w.cell? ⟨p,0,none⟩=some x/\w.cell? ⟨p,1,none⟩=some y:=⟨(h.at_).1 0,(h.at_).1 1⟩
set_option maxRecDepth 10000 in
theorem fL (v e:Value) (vs:List Vx) (i:Int) (w:World) (h:VIn w v vs) (he:∃ a l c,e=.slice a l c) (hn:vs.length<=100000) (hi:yJ vs i=true) :
 Calls Try.prog 24 #[.agg #[v,e],.int .i64 i] w λx w'=>x=.returned (.agg #[.int .i64 (px vs i),.int .i64 (py vs i)])/\Below w.heap.size w w':=by
 have VX:=Lh (λW (hW:Below w.heap.size w W)=>gU v e vs i W (TIn.below h hW) he hn);obtain ⟨k,hk,hkx,hfv⟩:=Xm hi;rw[hkx]at VX;obtain ⟨a,cap,rfl,hc1,hc2,-,hcl⟩:=TIn.open_ h;obtain ⟨ea,el,ec,rfl⟩:=he;obtain ⟨b,o,rfl,hb,hc⟩:=hcl k hk;have hx:px vs i=(vs[k]'hk).x:=by unfold px;rw[hfv]
 have hy:py vs i=(vs[k]'hk).y:=by unfold py;rw[hfv]
 rw[hx,hy];have HC:=Lh hc;have kl:(k:Int)<(vs.length:Int):=by omega
 clear hx hy hfv hkx hcl hc h;generalize vs[k]'hk=x at *
 obtain ⟨x1,x2,x3⟩:=x;simp only at HC ⊢;generalize vs.length=n at *
 have OB:=Lh ((Own.made w 25 #[.slice (some ⟨b,o,none⟩) n cap,.slice ea el ec]).more (.cells #[.int .i64 0,.int .i64 0] 37));have BB:=Lh ((bx1 w 25 #[.slice (some ⟨b,o,none⟩) n cap,.slice ea el ec]).alloc (bx1 w _ _).size (.cells #[.int .i64 0,.int .i64 0] 37));have OR:Hid (Own ((w.alloc (.cells #[.slice (some ⟨b,o,none⟩) n cap,.slice ea el ec] 25)).alloc (.cells #[.int .i64 0,.int .i64 0] 37)) (w.heap.size+1) 37 #[.int .i64 0,.int .i64 0]):=Lh (Own.made_at (by simp));go_enter Try.func24,Try.ntmps24;go_upto_region 1 with fail;refine zL (λW=>Below w.heap.size w W/\Own W w.heap.size 25 #[.slice (some ⟨b,o,none⟩) n cap,.slice ea el ec]) (0::1::2::3::5::6::7::[]) (1::2::7::[]) (0::1::2::3::4::5::6::7::8::[]) (by kernel_rfl) (by kernel_rfl) rfl (by kernel_rfl) rfl (⟨BB.out.drew,OB.out⟩) zDo ?_;iterate 4
  refine zH (v := ?_) rfl rfl (λW hS => ?_) ?_;rotate_left
  ·first
    | (
     conv=>lhs;simp[go_sem,kl]
     first|done|exact rfl)
    | (
     have hS:=hS rfl;obtain ⟨q0,q1⟩:=zN hS.2;obtain ⟨c1,c2,c3⟩:=HC.out _ hS.1;conv=>lhs;simp[go_sem, *,kl]
     first|done|exact rfl)
  simp only[Act.put,lA,lZ,lS]
 refine zQ rfl rfl λK hK => ?_
 go_wp2_with (go_at_call 39;refine (VX.out _ BB.out.drew).mono ?_;rintro e w2 ⟨rfl,b2⟩)
 have B2:=Lh (zF BB.out.drew b2 BB.out.size);have O2:=Lh ((OB.out.drawn).keep b2);have R2:=Lh ((OR.out.drawn).keep b2);refine hK _ _ ⟨B2.out,O2.out⟩ ?_;clear hK K b2;iterate 3
  refine zH (v := ?_) rfl rfl (λW hS => ?_) ?_;rotate_left
  ·first
    | (
     conv=>lhs;simp[go_sem,kl]
     first|done|exact rfl)
    | (
     have hS:=hS rfl;obtain ⟨q0,q1⟩:=zN hS.2;obtain ⟨c1,c2,c3⟩:=HC.out _ hS.1;conv=>lhs;simp[go_sem, *,kl]
     first|done|exact rfl)
  simp only[Act.put,lA,lZ,lS]
 obtain ⟨r1,r2,r3⟩:=R2.out.at_;refine xR rfl rfl (by kernel_rfl) rfl λK hK => ?_
 go_wp2;refine hK _ _ ?_;clear hK K;refine zT ?_;have R3:=Lh (((R2.out.put 0 (.int .i64 x2)).put 1 (.int .i64 x3)).as (show (_:Array Value) = #[.int .i64 x2,.int .i64 x3] by simp));obtain ⟨t0,t1⟩:=zN R3.out;go_wp2;refine bodyPost_ret (by simp[results,Try.results24,go_sem,t0,t1]) rfl ⟨rfl,?_⟩;exact (B2.out.setCell (show w.heap.size<=w.heap.size+1 by omega) _).setCell (show w.heap.size<=w.heap.size+1 by omega) _
set_option maxRecDepth 10000 in
set_option maxHeartbeats 1000000 in
theorem Yx (v e:Value) (es:List Eg) (i1 i2:Int) (w:World) (h:EIn w e es) (he:∃ a l c,v=.slice a l c) (hn:es.length<=100000) :
 Calls Try.prog 41 #[.agg #[v,e],.int .i64 i1,.int .i64 i2] w λx w'=>x=.returned (.bool (jnL es i1 i2))/\Below w.heap.size w w':=by
 obtain ⟨a,cap,rfl,hc1,hc2,-,hcl⟩:=TIn.open_ h;obtain ⟨ea,el,ec,rfl⟩:=he;have YES:Hid (∀ k (hk:k<es.length),jn (es[k]'hk) i1 i2=true->jnL es i1 i2=true):=Lh λk hk hj=>fP hk hj
 have NO:Hid ((∀ k (hk:k<es.length),jn (es[k]'hk) i1 i2=false)->jnL es i1 i2=false):=Lh λhj=>gD hj
 obtain ⟨R,hR⟩:∃ R,R=jnL es i1 i2:=⟨_,rfl⟩
 rw[<- hR]at YES NO ⊢;clear hR h;obtain ⟨n,hnn⟩:∃ n,n=es.length:=⟨_,rfl⟩
 rw[<- hnn]at hc1 hn ⊢;have HN:=Lh hnn;clear hnn;have OB:=Lh (Own.made w 25 #[.slice ea el ec,.slice a n cap]);have BB:=Lh (bx1 w 25 #[.slice ea el ec,.slice a n cap]);go_enter Try.func41,Try.ntmps41;go_wp2;go_loopw [7] (λj wr=>∃ k:Nat,k<=n/\j=.int .i64 (k:Int)/\Hid (∀ m (hm:m<es.length),m<k->jn (es[m]'hm) i1 i2=false)/\Hid (Below w.heap.size w wr)/\Hid (Own wr w.heap.size 25 #[.slice ea el ec,.slice a n cap])) (λj wr=>n - (intOf j).toNat)
 case atStart=>exact ⟨0,by omega,rfl,Lh λm hm h=>by omega,BB,OB⟩
 case round =>
  obtain ⟨k,hk,rfl,hno,HB,HO⟩:=hrel;obtain ⟨q1,q2,q3⟩:=HO.out.at_;by_cases hlt:k<n
  ·have hkl:k<es.length:=by rw[<- HN.out];exact hlt
   obtain ⟨b,o,rfl,hb,hc⟩:=hcl k hkl;obtain ⟨c1,c2,c3⟩:=hc wr HB.out;have YK:=Lh (YES.out k hkl);obtain ⟨x,hx⟩:∃ x,x=es[k]'hkl:=⟨_,rfl⟩
   rw[<- hx]at c1 c2 c3 YK;have HX:=Lh hx;clear hx hcl hc;obtain ⟨x1,x2,x3⟩:=x;simp only at c1 c2 c3;have HB2:Hid (Below w.heap.size w (wr.alloc (.cells #[.int .i64 x1,.int .i64 x2,.int .i64 x3] 71))):=Lh (HB.out.alloc HB.out.size _);have HO2:=Lh (HO.out.more (.cells #[.int .i64 x1,.int .i64 x2,.int .i64 x3] 71));have HJ:Hid (jn ⟨x1,x2,x3⟩ i1 i2=((x2==i1&&x3==i2)||(x2==i2&&x3==i1))):=Lh rfl;obtain ⟨t1,ht1⟩:∃ t,t=(x2==i1):=⟨_,rfl⟩
   obtain ⟨t2,ht2⟩:∃ t,t=(x3==i2):=⟨_,rfl⟩
   obtain ⟨t3,ht3⟩:∃ t,t=(x2==i2):=⟨_,rfl⟩
   obtain ⟨t4,ht4⟩:∃ t,t=(x3==i1):=⟨_,rfl⟩
   rw[<- ht1,<- ht2,<- ht3,<- ht4]at HJ;replace ht1:=ht1.symm;replace ht2:=ht2.symm;replace ht3:=ht3.symm;replace ht4:=ht4.symm;cases t1<;>cases t2<;>cases t3<;>cases t4
   all_goals first
    | (
     have hj:Hid (jn ⟨x1,x2,x3⟩ i1 i2=true):=Lh (by rw[HJ.out];rfl);obtain rfl:R=true:=YK.out hj.out;go_wp2;go_ret;exact ⟨rfl,HB2.out⟩)
    | (
     have hj:Hid (jn ⟨x1,x2,x3⟩ i1 i2=false):=Lh (by rw[HJ.out];rfl);go_wp2;go_roundw
     case rel =>
      refine ⟨k+1,by omega,by go_num,Lh λm hm hmk => ?_,HB2,HO2⟩;rcases Nat.lt_succ_iff_lt_or_eq.1 hmk with hmk|rfl
      ·exact hno.out m hm hmk
      rw[<- HX.out];exact hj.out
     case measure=>simp[intOf]<;>omega)
  obtain rfl:R=false:=NO.out λm hm=>hno.out m hm (by rw[<- HN.out]at hm;omega)
  go_wp2;go_ret;exact ⟨rfl,HB.out⟩
set_option maxRecDepth 10000 in
set_option maxHeartbeats 1000000 in
theorem zBt (v e:Value) (vs:List Vx) (p1 p2 s1 s2:Int) (w:World) (h:VIn w v vs) (he:∃ a l c,e=.slice a l c) (hn:vs.length<=100000) (hr:∀ u∈vs,inB u.x u.y=true) (hp:inB p1 p2=true) (hs:inB s1 s2=true) :
 Calls Try.prog 42 #[.agg #[v,e],.agg #[.int .i64 p1,.int .i64 p2],.agg #[.int .i64 s1,.int .i64 s2]] w λx w'=>x=.returned (.bool (onV vs p1 p2 s1 s2))/\Below w.heap.size w w':=by
 obtain ⟨a,cap,rfl,hc1,hc2,-,hcl⟩:=TIn.open_ h;obtain ⟨ea,el,ec,rfl⟩:=he;have YES:Hid (∀ k (hk:k<vs.length),onB (vs[k]'hk).x (vs[k]'hk).y p1 p2 s1 s2=true->onV vs p1 p2 s1 s2=true):=Lh λk hk hj=>fP (P:=λv:Vx=>onB v.x v.y p1 p2 s1 s2) hk hj
 have NO:Hid ((∀ k (hk:k<vs.length),onB (vs[k]'hk).x (vs[k]'hk).y p1 p2 s1 s2=false)->onV vs p1 p2 s1 s2=false):=Lh λhj=>gD hj
 have CON:Hid (∀ k (hk:k<vs.length) W,Calls Try.prog 61 #[.agg #[.int .i64 (vs[k]'hk).x,.int .i64 (vs[k]'hk).y],.agg #[.int .i64 p1,.int .i64 p2],.agg #[.int .i64 s1,.int .i64 s2]] W λe w'=>e=.returned (.bool (onB (vs[k]'hk).x (vs[k]'hk).y p1 p2 s1 s2))/\Below W.heap.size W w'):=Lh λk hk W=>by
  have hv:=hr _ (List.getElem_mem hk);rw[on_in (zV.2 ⟨xA.1 hv,xA.1 hp,xA.1 hs⟩)];exact ROn_in (xA.1 hv) (xA.1 hp) (xA.1 hs) W
 obtain ⟨R,hR⟩:∃ R,R=onV vs p1 p2 s1 s2:=⟨_,rfl⟩
 rw[<- hR]at YES NO ⊢;clear hR h hr hp hs;obtain ⟨n,hnn⟩:∃ n,n=vs.length:=⟨_,rfl⟩
 rw[<- hnn]at hc1 hn ⊢;have HN:=Lh hnn;clear hnn;have OB:=Lh ((Own.made w 25 #[.slice a n cap,.slice ea el ec]).more (.cells #[.int .i64 p1,.int .i64 p2] 37) |>.more (.cells #[.int .i64 s1,.int .i64 s2] 37));have BB:Hid (Below w.heap.size w (((w.alloc (.cells #[.slice a n cap,.slice ea el ec] 25)).alloc (.cells #[.int .i64 p1,.int .i64 p2] 37)).alloc (.cells #[.int .i64 s1,.int .i64 s2] 37))):=Lh (by repeat' (first|(with_reducible exact Below.refl _ _)|(with_reducible assumption)|(with_reducible refine zX ?_ _)|(with_reducible refine Below.drew ?_)|(with_reducible refine Below.alloc ?_ ?_ _)|(with_reducible refine Below.setCell ?_ ?_ _)|(with_reducible refine zF ?_ zW ?_)|(with_reducible exact Nat.le_refl _)|(with_reducible exact Nat.le_succ _)|(with_reducible exact Nat.le_succ_of_le zW)|omega|(simp;done)|(simp;omega)|(exact Nat.le_succ _)|(exact Nat.le_succ_of_le zW)));have OP:Hid (Own (((w.alloc (.cells #[.slice a n cap,.slice ea el ec] 25)).alloc (.cells #[.int .i64 p1,.int .i64 p2] 37)).alloc (.cells #[.int .i64 s1,.int .i64 s2] 37)) (w.heap.size+1) 37 #[.int .i64 p1,.int .i64 p2]):=Lh (Own.more (Own.made_at (by simp)) _);have OS:Hid (Own (((w.alloc (.cells #[.slice a n cap,.slice ea el ec] 25)).alloc (.cells #[.int .i64 p1,.int .i64 p2] 37)).alloc (.cells #[.int .i64 s1,.int .i64 s2] 37)) (w.heap.size+2) 37 #[.int .i64 s1,.int .i64 s2]):=Lh (Own.made_at (by simp))
 go_enter Try.func42,Try.ntmps42;go_upto_region 2 with fail;generalize hW0:((w.alloc (.cells #[.slice a n cap,.slice ea el ec] 25)).alloc (.cells #[.int .i64 p1,.int .i64 p2] 37)).alloc (.cells #[.int .i64 s1,.int .i64 s2] 37)=W0 at OB BB OP OS ⊢
 clear hW0;have KB:Hid (∀ W,Below W0.heap.size W0 W->Below w.heap.size w W/\Own W w.heap.size 25 #[.slice a n cap,.slice ea el ec]/\Own W (w.heap.size+1) 37 #[.int .i64 p1,.int .i64 p2]/\Own W (w.heap.size+2) 37 #[.int .i64 s1,.int .i64 s2]):=Lh λW hW=>⟨zF BB.out hW BB.out.size,OB.out.keep hW,OP.out.keep hW,OS.out.keep hW⟩
 clear OB BB OP OS;go_wp2;go_loopw [7] (λj wr=>∃ k:Nat,k<=n/\j=.int .i64 (k:Int)/\Hid (∀ m (hm:m<vs.length),m<k->onB (vs[m]'hm).x (vs[m]'hm).y p1 p2 s1 s2=false)/\Hid (Below W0.heap.size W0 wr)) (λj wr=>n - (intOf j).toNat)
 case atStart=>exact ⟨0,by omega,rfl,Lh λm hm h=>by omega,Lh (Below.refl _ _)⟩
 case round =>
  obtain ⟨k,hk,rfl,hno,HB⟩:=hrel;obtain ⟨hbw,h1,h2,h3⟩:=KB.out _ HB.out;obtain ⟨q1,q2,q3⟩:=h1.at_;by_cases hlt:k<n
  ·have hkl:k<vs.length:=by rw[<- HN.out];exact hlt
   obtain ⟨b,o,rfl,hb,hc⟩:=hcl k hkl;have HC:=Lh hc;have YK:=Lh (YES.out k hkl);have CK:=Lh (CON.out k hkl);obtain ⟨x,hx⟩:∃ x,x=vs[k]'hkl:=⟨_,rfl⟩
   rw[<- hx]at HC YK CK;have HX:=Lh hx;clear hx hcl hc hbw h1 h2 h3 YES CON;obtain ⟨x1,x2,x3⟩:=x;simp only at HC YK CK;have kl:(k:Int)<(n:Int):=by omega
   cases ht:onB x2 x3 p1 p2 s1 s2 with
   | true =>
    rw[ht]at CK YK;have HT:=Lh ht;obtain rfl:R=true:=YK.out rfl;clear ht YK;go_upto_region 4 with fail;clear q1 q2 q3;refine zL (λW=>Below W0.heap.size W0 W) (0::1::2::3::4::5::6::7::[]) (1::5::6::7::[]) (0::1::2::3::4::5::6::7::8::[]) (by kernel_rfl) (by kernel_rfl) rfl (by kernel_rfl) rfl (HB.out.drew) zDo ?_;iterate 8
     refine zH (v := ?_) rfl rfl (λW hS => ?_) ?_;rotate_left
     ·first
       | (
        conv=>lhs;simp[go_sem,kl]
        first|done|exact rfl)
       | (
        have hS:=hS rfl;obtain ⟨hbw,h1,h2,h3⟩:=KB.out _ hS;obtain ⟨q0,q1⟩:=zN h1;obtain ⟨f0,f1⟩:=zN h2;obtain ⟨g0,g1⟩:=zN h3;obtain ⟨c1,c2,c3⟩:=HC.out _ hbw;conv=>lhs;simp[go_sem, *,kl]
        first|done|exact rfl)
     simp only[Act.put,lA,lZ,lS]
    refine zQ rfl rfl λK hK => ?_
    go_wp2_with (go_at_call 61;refine (CK.out _).mono ?_;rintro e w3 ⟨rfl,b3⟩)
    have B3:=Lh (zF HB.out.drew b3 HB.out.size);refine hK _ _ B3.out ?_;clear hK K b3;refine zT ?_;go_wp2;go_ret;exact ⟨rfl,(KB.out _ B3.out).1⟩
   | false =>
    rw[ht]at CK;have HT:=Lh ht;clear ht YK;go_upto_region 4 with fail;clear q1 q2 q3;refine zL (λW=>Below W0.heap.size W0 W) (0::1::2::3::4::5::6::7::[]) (1::5::6::7::[]) (0::1::2::3::4::5::6::7::8::[]) (by kernel_rfl) (by kernel_rfl) rfl (by kernel_rfl) rfl (HB.out.drew) zDo ?_;iterate 8
     refine zH (v := ?_) rfl rfl (λW hS => ?_) ?_;rotate_left
     ·first
       | (
        conv=>lhs;simp[go_sem,kl]
        first|done|exact rfl)
       | (
        have hS:=hS rfl;obtain ⟨hbw,h1,h2,h3⟩:=KB.out _ hS;obtain ⟨q0,q1⟩:=zN h1;obtain ⟨f0,f1⟩:=zN h2;obtain ⟨g0,g1⟩:=zN h3;obtain ⟨c1,c2,c3⟩:=HC.out _ hbw;conv=>lhs;simp[go_sem, *,kl]
        first|done|exact rfl)
     simp only[Act.put,lA,lZ,lS]
    refine zQ rfl rfl λK hK => ?_
    go_wp2_with (go_at_call 61;refine (CK.out _).mono ?_;rintro e w3 ⟨rfl,b3⟩)
    have B3:=Lh (zF HB.out.drew b3 HB.out.size);refine hK _ _ B3.out ?_;clear hK K b3;refine zT ?_;go_wp2;go_roundw
    case rel =>
     refine ⟨k+1,by omega,by go_num,Lh λm hm hmk => ?_,B3⟩;rcases Nat.lt_succ_iff_lt_or_eq.1 hmk with hmk|rfl
     ·exact hno.out m hm hmk
     rw[<- HX.out];exact HT.out
    case measure=>simp[intOf]<;>omega
  obtain rfl:R=false:=NO.out λm hm=>hno.out m hm (by rw[<- HN.out]at hm;omega)
  go_wp2;go_ret;exact ⟨rfl,hbw⟩
end Go.Proofs.Ytibnackmddigaaa.Pl
