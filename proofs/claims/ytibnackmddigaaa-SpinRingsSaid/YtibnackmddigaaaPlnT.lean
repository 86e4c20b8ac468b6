import Derived.Test.YtibnackmddigaaaPlnS
set_option linter.unusedVariables false
set_option linter.unusedSimpArgs false
set_option linter.unusedSectionVars false
namespace Go.Proofs.Ytibnackmddigaaa.Pl
open Go.ChangeShapes Go.WideShapes Go.ChangeAt Go.RowKit
theorem bY12 {p:Prop} (h:p:=by simp only[xJ,List.filterMap_cons,List.filterMap_nil,List.getElem?_cons_zero,List.getElem?_cons_succ,Option.map_some];exact rfl):p:=h
def mtE (vs:List Vx) (p1 p2 s1 s2:Int) (u:Eg):Bool:=mtB p1 p2 s1 s2 (px vs u.a) (py vs u.a) (px vs u.b) (py vs u.b)
set_option maxRecDepth 10000 in
set_option maxHeartbeats 1000000 in
theorem Vb (v e:Value) (vs:List Vx) (es:List Eg) (p1 p2 s1 s2:Int) (w:World) (h:VIn w v vs) (he:EIn w e es) (hn:vs.length<=100000) (hm:es.length<=100000) (n:Nat) (hne:n<=es.length) (hV:FlV vs)
 (hE:∀ (k:Nat) (u:Eg),k<n->es[k]?=some u->u.a≠u.b/\yJ vs u.a=true/\yJ vs u.b=true) (hp:inB p1 p2=true) (hs:inB s1 s2=true) (hps:decide (p1=s1/\p2=s2)=false) :
 Calls Try.prog 43 #[.agg #[v,e],.agg #[.int .i64 p1,.int .i64 p2],.agg #[.int .i64 s1,.int .i64 s2],.int .i64 (n:Int)] w λx w'=>x=.returned (.bool (mtL vs (es.take n) p1 p2 s1 s2))/\Below w.heap.size w w':=by
 have AT:=Lh (λW (hW:Below w.heap.size w W) (i:Int) (hi:yJ vs i=true)=>fL v e vs i W (TIn.below h hW) (by obtain ⟨a,c,k⟩:=he.sl;exact ⟨_,_,_,k⟩) hn hi);obtain ⟨va,vc,rfl⟩:=h.sl;obtain ⟨a,cap,rfl,hc1,hc2,-,hcl⟩:=TIn.open_ he;have YES:Hid (∀ k (hk:k<es.length),k<n->mtE vs p1 p2 s1 s2 (es[k]'hk)=true->mtL vs (es.take n) p1 p2 s1 s2=true):=Lh λk hk hkn hj=>List.any_eq_true.2 ⟨es[k]'hk,by rw[List.mem_take_iff_getElem];exact ⟨k,by omega,rfl⟩,hj⟩
 have NO:Hid ((∀ k (hk:k<es.length),k<n->mtE vs p1 p2 s1 s2 (es[k]'hk)=false)->mtL vs (es.take n) p1 p2 s1 s2=false):=Lh λhj=>by
  unfold mtL;rw[List.any_eq_false];intro u hu;rw[List.mem_take_iff_getElem]at hu;obtain ⟨k,hk,rfl⟩:=hu;have:=hj k (by omega) (by omega);unfold mtE at this;rw[this];simp
 have CON:Hid (∀ k (hk:k<es.length),k<n->yJ vs (es[k]'hk).a=true/\yJ vs (es[k]'hk).b=true/\∀ W,Calls Try.prog 62 #[.agg #[.int .i64 p1,.int .i64 p2],.agg #[.int .i64 s1,.int .i64 s2],.agg #[.int .i64 (px vs (es[k]'hk).a),.int .i64 (py vs (es[k]'hk).a)],.agg #[.int .i64 (px vs (es[k]'hk).b),.int .i64 (py vs (es[k]'hk).b)]] W λe w'=>e=.returned (.bool (mtE vs p1 p2 s1 s2 (es[k]'hk)))/\Below W.heap.size W w'):=Lh λk hk hkn=>by
  obtain ⟨h1,h2,h3⟩:=hE k _ hkn (List.getElem?_eq_getElem hk);refine ⟨h2,h3,λW => ?_⟩;have r2:=xA.1 (uN hV.rng h2);have r3:=xA.1 (uN hV.rng h3);unfold mtE;rw[mt_in (zC.2 ⟨xA.1 hp,xA.1 hs,r2,r3⟩) hps (qZ hV h2 h3 h1)];exact RMeet_in (xA.1 hp) (xA.1 hs) r2 r3 W
 obtain ⟨R,hR⟩:∃ R,R=mtL vs (es.take n) p1 p2 s1 s2:=⟨_,rfl⟩
 rw[<- hR]at YES NO ⊢;clear hR h he hp hs hps hV hE;obtain ⟨l,hl⟩:∃ l,l=vs.length:=⟨_,rfl⟩
 rw[<- hl]at AT hn ⊢;obtain ⟨m,hnn⟩:∃ n,n=es.length:=⟨_,rfl⟩
 rw[<- hnn]at hc1 hm hne AT ⊢;have HN:=Lh hnn;clear hnn hl;have OB:=Lh ((Own.made w 25 #[.slice va l vc,.slice a m cap]).more (.cells #[.int .i64 p1,.int .i64 p2] 37) |>.more (.cells #[.int .i64 s1,.int .i64 s2] 37));have BB:Hid (Below w.heap.size w (((w.alloc (.cells #[.slice va l vc,.slice a m cap] 25)).alloc (.cells #[.int .i64 p1,.int .i64 p2] 37)).alloc (.cells #[.int .i64 s1,.int .i64 s2] 37))):=Lh (by repeat' (first|(with_reducible exact Below.refl _ _)|(with_reducible assumption)|(with_reducible refine zX ?_ _)|(with_reducible refine Below.drew ?_)|(with_reducible refine Below.alloc ?_ ?_ _)|(with_reducible refine Below.setCell ?_ ?_ _)|(with_reducible refine zF ?_ zW ?_)|(with_reducible exact Nat.le_refl _)|(with_reducible exact Nat.le_succ _)|(with_reducible exact Nat.le_succ_of_le zW)|omega|(simp;done)|(simp;omega)|(exact Nat.le_succ _)|(exact Nat.le_succ_of_le zW)));have OP:Hid (Own (((w.alloc (.cells #[.slice va l vc,.slice a m cap] 25)).alloc (.cells #[.int .i64 p1,.int .i64 p2] 37)).alloc (.cells #[.int .i64 s1,.int .i64 s2] 37)) (w.heap.size+1) 37 #[.int .i64 p1,.int .i64 p2]):=Lh (Own.more (Own.made_at (by simp)) _);have OS:Hid (Own (((w.alloc (.cells #[.slice va l vc,.slice a m cap] 25)).alloc (.cells #[.int .i64 p1,.int .i64 p2] 37)).alloc (.cells #[.int .i64 s1,.int .i64 s2] 37)) (w.heap.size+2) 37 #[.int .i64 s1,.int .i64 s2]):=Lh (Own.made_at (by simp))
 go_enter Try.func43,Try.ntmps43;go_upto_region 2 with fail;generalize hW0:((w.alloc (.cells #[.slice va l vc,.slice a m cap] 25)).alloc (.cells #[.int .i64 p1,.int .i64 p2] 37)).alloc (.cells #[.int .i64 s1,.int .i64 s2] 37)=W0 at OB BB OP OS ⊢
 clear hW0;have KB:Hid (∀ W,Below W0.heap.size W0 W->Below w.heap.size w W/\Own W w.heap.size 25 #[.slice va l vc,.slice a m cap]/\Own W (w.heap.size+1) 37 #[.int .i64 p1,.int .i64 p2]/\Own W (w.heap.size+2) 37 #[.int .i64 s1,.int .i64 s2]):=Lh λW hW=>⟨zF BB.out hW BB.out.size,OB.out.keep hW,OP.out.keep hW,OS.out.keep hW⟩
 clear OB BB OP OS;go_wp2;go_loopw [9] (λj wr=>∃ k:Nat,k<=n/\j=.int .i64 (k:Int)/\Hid (∀ i (hi:i<es.length),i<k->mtE vs p1 p2 s1 s2 (es[i]'hi)=false)/\Hid (Below W0.heap.size W0 wr)) (λj wr=>n - (intOf j).toNat)
 case atStart=>exact ⟨0,by omega,rfl,Lh λi hi h=>by omega,Lh (Below.refl _ _)⟩
 case round =>
  obtain ⟨k,hk,rfl,hno,HB⟩:=hrel;obtain ⟨hbw,h1,h2,h3⟩:=KB.out _ HB.out;obtain ⟨q1,q2,q3⟩:=h1.at_;by_cases hlt:k<n
  ·have hkl:k<es.length:=by rw[<- HN.out];omega
   obtain ⟨b,o,rfl,hb,hc⟩:=hcl k hkl;have HC:=Lh hc;have YK:=Lh (YES.out k hkl hlt);have CK:=Lh (CON.out k hkl hlt);obtain ⟨x,hx⟩:∃ x,x=es[k]'hkl:=⟨_,rfl⟩
   rw[<- hx]at HC YK CK;have HX:=Lh hx;clear hx hcl hc hbw h1 h2 h3 YES CON;obtain ⟨x1,x2,x3⟩:=x;simp only at HC YK CK;have ATA:=Lh (λW hW=>AT.out W hW x2 CK.out.1);have ATB:=Lh (λW hW=>AT.out W hW x3 CK.out.2.1);replace CK:=Lh CK.out.2.2;generalize px vs x2=ax at *
   generalize py vs x2=ay at *
   generalize px vs x3=bx at *
   generalize py vs x3=by_ at *
   have kl:(k:Int)<(m:Int):=by omega
   cases ht:mtE vs p1 p2 s1 s2 ⟨x1,x2,x3⟩ with
   | true =>
    rw[ht]at CK YK;have HT:=Lh ht;obtain rfl:R=true:=YK.out rfl;clear ht YK;go_upto_region 4 with fail;clear q1 q2 q3;refine zL (λW=>Below W0.heap.size W0 W) (0::1::2::3::4::5::6::7::8::10::11::12::13::14::15::16::[]) (0::1::2::4::8::10::12::16::[]) (0::1::2::3::4::5::6::7::8::10::11::12::13::14::15::16::9::17::18::[]) (by kernel_rfl) (by kernel_rfl) rfl (by kernel_rfl) rfl (HB.out.drew) bY12 ?_;iterate 16
     refine zH (v := ?_) rfl rfl (λW hS => ?_) ?_;rotate_left
     ·first
       | (
        conv=>lhs;simp[go_sem,kl]
        first|done|exact rfl)
       | (
        have hS:=hS rfl;obtain ⟨hbw,h1,h2,h3⟩:=KB.out _ hS;obtain ⟨q0,q1⟩:=zN h1;obtain ⟨f0,f1⟩:=zN h2;obtain ⟨g0,g1⟩:=zN h3;obtain ⟨c1,c2,c3⟩:=HC.out _ hbw;conv=>lhs;simp[go_sem, *,kl]
        first|done|exact rfl)
     simp only[Act.put,lA,lZ,lS]
    refine zQ rfl rfl λK hK => ?_
    go_wp2_with (go_at_call 24;refine (ATA.out _ (KB.out _ HB.out.drew).1).mono ?_;rintro e w3 ⟨rfl,b3⟩)
    have B3:=Lh (zF HB.out.drew b3 HB.out.drew.size);refine hK _ _ B3.out ?_;clear hK K b3;refine zQ rfl rfl λK hK => ?_
    go_wp2_with (go_at_call 24;refine (ATB.out _ (KB.out _ B3.out).1).mono ?_;rintro e w4 ⟨rfl,b4⟩)
    have B4:=Lh (zF B3.out b4 B3.out.size);refine hK _ _ B4.out ?_;clear hK K b4;refine zQ rfl rfl λK hK => ?_
    go_wp2_with (go_at_call 62;refine (CK.out _).mono ?_;rintro e w5 ⟨rfl,b5⟩)
    have B5:=Lh (zF B4.out b5 B4.out.size);refine hK _ _ B5.out ?_;clear hK K b5;refine zT ?_;go_wp2;go_ret;exact ⟨rfl,(KB.out _ B5.out).1⟩
   | false =>
    rw[ht]at CK;have HT:=Lh ht;clear ht YK;go_upto_region 4 with fail;clear q1 q2 q3;refine zL (λW=>Below W0.heap.size W0 W) (0::1::2::3::4::5::6::7::8::10::11::12::13::14::15::16::[]) (0::1::2::4::8::10::12::16::[]) (0::1::2::3::4::5::6::7::8::10::11::12::13::14::15::16::9::17::18::[]) (by kernel_rfl) (by kernel_rfl) rfl (by kernel_rfl) rfl (HB.out.drew) bY12 ?_;iterate 16
     refine zH (v := ?_) rfl rfl (λW hS => ?_) ?_;rotate_left
     ·first
       | (
        conv=>lhs;simp[go_sem,kl]
        first|done|exact rfl)
       | (
        have hS:=hS rfl;obtain ⟨hbw,h1,h2,h3⟩:=KB.out _ hS;obtain ⟨q0,q1⟩:=zN h1;obtain ⟨f0,f1⟩:=zN h2;obtain ⟨g0,g1⟩:=zN h3;obtain ⟨c1,c2,c3⟩:=HC.out _ hbw;conv=>lhs;simp[go_sem, *,kl]
        first|done|exact rfl)
     simp only[Act.put,lA,lZ,lS]
    refine zQ rfl rfl λK hK => ?_
    go_wp2_with (go_at_call 24;refine (ATA.out _ (KB.out _ HB.out.drew).1).mono ?_;rintro e w3 ⟨rfl,b3⟩)
    have B3:=Lh (zF HB.out.drew b3 HB.out.drew.size);refine hK _ _ B3.out ?_;clear hK K b3;refine zQ rfl rfl λK hK => ?_
    go_wp2_with (go_at_call 24;refine (ATB.out _ (KB.out _ B3.out).1).mono ?_;rintro e w4 ⟨rfl,b4⟩)
    have B4:=Lh (zF B3.out b4 B3.out.size);refine hK _ _ B4.out ?_;clear hK K b4;refine zQ rfl rfl λK hK => ?_
    go_wp2_with (go_at_call 62;refine (CK.out _).mono ?_;rintro e w5 ⟨rfl,b5⟩)
    have B5:=Lh (zF B4.out b5 B4.out.size);refine hK _ _ B5.out ?_;clear hK K b5;refine zT ?_;go_wp2;go_roundw
    case rel =>
     refine ⟨k+1,by omega,by go_num,Lh λi hi hik => ?_,B5⟩;rcases Nat.lt_succ_iff_lt_or_eq.1 hik with hik|rfl
     ·exact hno.out i hi hik
     rw[<- HX.out];exact HT.out
    case measure=>simp[intOf]<;>omega
  obtain rfl:R=false:=NO.out λi hi hin=>hno.out i hi (by omega)
  go_wp2;go_ret;exact ⟨rfl,hbw⟩
end Go.Proofs.Ytibnackmddigaaa.Pl
