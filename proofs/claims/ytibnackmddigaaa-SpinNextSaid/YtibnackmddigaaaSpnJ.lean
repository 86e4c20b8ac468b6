import Derived.Test.YtibnackmddigaaaSpnH
set_option linter.unusedVariables false
set_option linter.unusedSimpArgs false
set_option linter.unusedSectionVars false
section
namespace Go.Proofs.Ytibnackmddigaaa.Pl
open Go.ChangeShapes Go.WideShapes Go.ChangeAt Go.RowKit Go.Proofs.Ytibnackmddigaaa.Mp
theorem bY5 {p:Prop} (h:p:=by simp only[xJ,List.filterMap_cons,List.filterMap_nil,List.getElem?_cons_zero,List.getElem?_cons_succ,Option.map_some];exact rfl):p:=h
set_option maxRecDepth 10000 in
theorem gG (h:Hf) (w:World):Calls Try.prog 23 #[hV h] w λe w'=>e=.returned (hV (tw h))/\Below w.heap.size w w':=by
 obtain ⟨e,b⟩:=h;unfold hV tw;simp only;go_enter Try.func23,Try.ntmps23;go_wp2;refine bodyPost_ret (by simp[results,Try.results23,go_sem]) rfl ⟨rfl,?_⟩;repeat' (first|(with_reducible exact Below.refl _ _)|(with_reducible assumption)|(with_reducible refine zX ?_ _)|(with_reducible refine Below.drew ?_)|(with_reducible refine Below.alloc ?_ ?_ _)|(with_reducible refine Below.setCell ?_ ?_ _)|(with_reducible refine zF ?_ zW ?_)|(with_reducible exact Nat.le_refl _)|(with_reducible exact Nat.le_succ _)|(with_reducible exact Nat.le_succ_of_le zW)|omega|(simp;done)|(simp;omega)|(exact Nat.le_succ _)|(exact Nat.le_succ_of_le zW))
section
variable {v u : Value} {L M : List Hf} {w : World}
set_option maxRecDepth 10000 in
theorem Qc (hv:HIn w v L) (h:Hf) (hn:L.length<=100000):Calls Try.prog 17 #[v,hV h] w λe w'=>e=.returned (.bool (decide (h∈L)))/\Below w.heap.size w w':=by
 obtain ⟨a,cap,rfl,hc1,hc2,hcl⟩:=hv.open_;have YES:Hid (∀ k (hk:k<L.length),L[k]'hk=h->decide (h∈L)=true):=Lh λk hk e=>decide_eq_true (e▸List.getElem_mem hk)
 have NO:Hid ((∀ m (hm:m<L.length),L[m]'hm≠h)->decide (h∈L)=false):=Lh λh0=>decide_eq_false λk=>by
  obtain ⟨m,hm,e⟩:=List.mem_iff_getElem.1 k;exact h0 m hm e
 obtain ⟨R,hR⟩:∃ R,R=decide (h∈L):=⟨_,rfl⟩
 rw[<- hR]at YES NO ⊢;clear hR hv;obtain ⟨n,hnn⟩:∃ n,n=L.length:=⟨_,rfl⟩
 rw[<- hnn]at hc1 hn ⊢;have HN:=Lh hnn;clear hnn;obtain ⟨e,b⟩:=h;unfold hV;simp only;have OB:=Lh (Own.made w 42 #[.int .i64 e,.bool b]);have BB:=Lh (bx1 w 42 #[.int .i64 e,.bool b]);have EQ:=jV;go_enter Try.func17,Try.ntmps17;go_wp2;go_loopw [5] (λj wr=>∃ k:Nat,k<=n/\j=.int .i64 (k:Int)/\Hid (∀ m (hm:m<L.length),m<k->L[m]'hm≠(e,b))/\Hid (Below w.heap.size w wr)/\Hid (Own wr w.heap.size 42 #[.int .i64 e,.bool b])) (λj wr=>n - (intOf j).toNat)
 case atStart=>exact ⟨0,by omega,rfl,Lh λm hm h=>by omega,BB,OB⟩
 case round =>
  obtain ⟨k,hk,rfl,hno,HB,HO⟩:=hrel;obtain ⟨q1,q2⟩:=zM HO.out;by_cases hlt:k<n
  ·have hkl:k<L.length:=by rw[<- HN.out];exact hlt
   obtain ⟨g,o,rfl,hb,hc⟩:=hcl k hkl;obtain ⟨c1,c2⟩:=hc wr HB.out;have YK:=Lh (YES.out k hkl);obtain ⟨x,hx⟩:∃ x,x=L[k]'hkl:=⟨_,rfl⟩
   rw[<- hx]at c1 c2 YK;have HX:=Lh hx;clear hx hcl hc;obtain ⟨xe,xb⟩:=x;simp only at c1 c2;obtain ⟨t,ht⟩:∃ t,t=decide (xe=e/\xb=b):=⟨_,rfl⟩
   have EK:∀ W,(Op.equalIn 10000 42 (.agg #[.int .i64 xe,.bool xb]) (.agg #[.int .i64 e,.bool b])).run Try.prog W=.ok t W:=λW=>by rw[ht];exact EQ xe e xb b W
   have HT:=Lh ht;have hki:(k:Int)<(n:Int):=by omega
   clear ht EQ;cases t with
   | true =>
    have h3:=of_decide_eq_true HT.out.symm;have e1:R=true:=YK.out (by rw[h3.1,h3.2]);subst e1;clear h3;go_upto_region 4 with fail;refine zL (λW=>Below wr.heap.size wr W) (0::1::2::3::4::5::[]) (3::4::[]) (0::1::2::3::4::5::[]) (by kernel_rfl) (by kernel_rfl) rfl (by kernel_rfl) rfl ((Below.refl _ _).drew) bY5 ?_;iterate 6
     refine zH (v := ?_) rfl rfl (λW hS => ?_) ?_;rotate_left
     ·first
       | (
        conv=>lhs;simp[go_sem,hki,EK]
        first|done|exact rfl)
       | (
        have hS:=hS rfl;have d1:=keep hS c1;have d2:=keep hS c2;obtain ⟨q1,q2⟩:=zM (HO.out.keep hS);conv=>lhs;simp[go_sem, *,hki,EK]
        first|done|exact rfl)
     simp only[Act.put,lA,lZ,lS]
    refine zT ?_;go_wp2;go_ret;exact ⟨rfl,HB.out.drew⟩
   | false =>
    have h3:=Lh (of_decide_eq_false HT.out.symm);go_upto_region 4 with fail;refine zL (λW=>Below wr.heap.size wr W) (0::1::2::3::4::5::[]) (3::4::[]) (0::1::2::3::4::5::[]) (by kernel_rfl) (by kernel_rfl) rfl (by kernel_rfl) rfl ((Below.refl _ _).drew) bY5 ?_;iterate 6
     refine zH (v := ?_) rfl rfl (λW hS => ?_) ?_;rotate_left
     ·first
       | (
        conv=>lhs;simp[go_sem,hki,EK]
        first|done|exact rfl)
       | (
        have hS:=hS rfl;have d1:=keep hS c1;have d2:=keep hS c2;obtain ⟨q1,q2⟩:=zM (HO.out.keep hS);conv=>lhs;simp[go_sem, *,hki,EK]
        first|done|exact rfl)
     simp only[Act.put,lA,lZ,lS]
    refine zT ?_;go_wp2;go_roundw
    case rel =>
     refine ⟨k+1,by omega,by go_num,Lh λm hm hmk => ?_,Lh HB.out.drew,Lh HO.out.drawn⟩;rcases Nat.lt_succ_iff_lt_or_eq.1 hmk with hmk|rfl
     ·exact hno.out m hm hmk
     rw[<- HX.out];intro e5;exact h3.out ⟨congrArg Prod.fst e5,congrArg Prod.snd e5⟩
    case measure=>simp[intOf]<;>omega
  obtain rfl:k=n:=by omega
  have e1:R=false:=NO.out λm hm=>hno.out m hm (by rw[HN.out];exact hm)
  subst e1;go_wp2;go_ret;exact ⟨rfl,HB.out⟩
set_option maxRecDepth 10000 in
theorem mK (hv:HIn w v L) (hu:HIn w u M) (hn:L.length<=100000) (hm:M.length<=100000):Calls Try.prog 26 #[v,u] w λe w'=>e=.returned (.bool (decide (L=M)))/\Below w.heap.size w w':=by
 obtain ⟨a,cap,rfl,hc1,hc2,hcl⟩:=hv.open_;obtain ⟨a',cap',rfl,hc1',hc2',hcl'⟩:=hu.open_;by_cases hlen:L.length=M.length
 ·have NO:Hid (∀ k (hk:k<L.length) (hk2:k<M.length),L[k]'hk≠M[k]'hk2->decide (L=M)=false):=Lh λk hk hk2 e=>decide_eq_false λe2=>by
   subst e2;exact e rfl
  have YES:Hid ((∀ m (hm:m<L.length) (hm2:m<M.length),L[m]'hm=M[m]'hm2)->decide (L=M)=true):=Lh λh0=>decide_eq_true (List.ext_getElem hlen λi h1 h2=>h0 i h1 h2)
  obtain ⟨R,hR⟩:∃ R,R=decide (L=M):=⟨_,rfl⟩
  rw[<- hR]at YES NO ⊢;clear hR hv hu;obtain ⟨n,hnn⟩:∃ n,n=L.length:=⟨_,rfl⟩
  rw[<- hnn]at hc1 hn hlen ⊢;rw[<- hlen]at hc1' hm ⊢;have HN:=Lh hnn;have HM:=Lh hlen;clear hnn hlen;have EQ:=jV;go_enter Try.func26,Try.ntmps26;go_wp2;go_loopw [5] (λj wr=>∃ k:Nat,k<=n/\j=.int .i64 (k:Int)/\Hid (∀ m (hm:m<L.length) (hm2:m<M.length),m<k->L[m]'hm=M[m]'hm2)/\Hid (Below w.heap.size w wr)) (λj wr=>n - (intOf j).toNat)
  case atStart=>exact ⟨0,by omega,rfl,Lh λm hm hm2 h=>by omega,Lh (Below.refl _ _)⟩
  case round =>
   obtain ⟨k,hk,rfl,hno,HB⟩:=hrel;by_cases hlt:k<n
   ·have hkl:k<L.length:=by rw[<- HN.out];exact hlt
    have hkm:k<M.length:=by rw[<- HM.out];exact hlt
    obtain ⟨g,o,rfl,hb,hc⟩:=hcl k hkl;obtain ⟨g',o',rfl,hb',hc'⟩:=hcl' k hkm;obtain ⟨c1,c2⟩:=hc wr HB.out;obtain ⟨d1,d2⟩:=hc' wr HB.out;have NK:=Lh (NO.out k hkl hkm);obtain ⟨x,hx⟩:∃ x,x=L[k]'hkl:=⟨_,rfl⟩
    obtain ⟨y,hy⟩:∃ y,y=M[k]'hkm:=⟨_,rfl⟩
    rw[<- hx]at c1 c2 NK;rw[<- hy]at d1 d2 NK;have HX:=Lh hx;have HY:=Lh hy;clear hx hcl hc hy hcl' hc';obtain ⟨xe,xb⟩:=x;obtain ⟨ye,yb⟩:=y;simp only at c1 c2 d1 d2;obtain ⟨t,ht⟩:∃ t,t=decide (xe=ye/\xb=yb):=⟨_,rfl⟩
    have EK:∀ W,(Op.equalIn 10000 42 (.agg #[.int .i64 xe,.bool xb]) (.agg #[.int .i64 ye,.bool yb])).run Try.prog W=.ok t W:=λW=>by rw[ht];exact EQ xe ye xb yb W
    have HT:=Lh ht;have hki:(k:Int)<(n:Int):=by omega
    clear ht EQ;cases t with
    | false =>
     have h3:=Lh (of_decide_eq_false HT.out.symm);have e1:R=false:=NK.out λe=>h3.out ⟨congrArg Prod.fst e,congrArg Prod.snd e⟩
     subst e1;go_upto_region 6 with fail;refine zL (λW=>Below wr.heap.size wr W) (0::1::2::3::4::5::6::7::8::[]) (3::7::[]) (0::1::2::3::4::5::6::7::8::[]) (by kernel_rfl) (by kernel_rfl) rfl (by kernel_rfl) rfl ((Below.refl _ _).drew) bY5 ?_;iterate 9
      refine zH (v := ?_) rfl rfl (λW hS => ?_) ?_;rotate_left
      ·first
        | (
         conv=>lhs;simp[go_sem,hki,EK]
         first|done|exact rfl)
        | (
         have hS:=hS rfl;have d3:=keep hS c1;have d4:=keep hS c2;have d5:=keep hS d1;have d6:=keep hS d2;conv=>lhs;simp[go_sem, *,hki,EK]
         first|done|exact rfl)
      simp only[Act.put,lA,lZ,lS]
     refine zT ?_;go_wp2;go_ret;exact ⟨rfl,HB.out.drew⟩
    | true =>
     have h3:=Lh (of_decide_eq_true HT.out.symm);go_upto_region 6 with fail;refine zL (λW=>Below wr.heap.size wr W) (0::1::2::3::4::5::6::7::8::[]) (3::7::[]) (0::1::2::3::4::5::6::7::8::[]) (by kernel_rfl) (by kernel_rfl) rfl (by kernel_rfl) rfl ((Below.refl _ _).drew) bY5 ?_;iterate 9
      refine zH (v := ?_) rfl rfl (λW hS => ?_) ?_;rotate_left
      ·first
        | (
         conv=>lhs;simp[go_sem,hki,EK]
         first|done|exact rfl)
        | (
         have hS:=hS rfl;have d3:=keep hS c1;have d4:=keep hS c2;have d5:=keep hS d1;have d6:=keep hS d2;conv=>lhs;simp[go_sem, *,hki,EK]
         first|done|exact rfl)
      simp only[Act.put,lA,lZ,lS]
     refine zT ?_;go_wp2;go_roundw
     case rel =>
      refine ⟨k+1,by omega,by go_num,Lh λm hm hm2 hmk => ?_,Lh HB.out.drew⟩;rcases Nat.lt_succ_iff_lt_or_eq.1 hmk with hmk|rfl
      ·exact hno.out m hm hm2 hmk
      rw[<- HX.out,<- HY.out,h3.out.1,h3.out.2]
     case measure=>simp[intOf]<;>omega
   obtain rfl:k=n:=by omega
   have e1:R=true:=YES.out λm hm hm2=>hno.out m hm hm2 (by rw[HN.out];exact hm)
   subst e1;go_wp2;go_ret;exact ⟨rfl,HB.out⟩
 rw[decide_eq_false λe=>hlen (congrArg List.length e)];clear hcl hcl' hv hu;generalize L.length=n at *
 generalize M.length=m at *
 have hne:((n:Int) != (m:Int))=true:=by simp;omega
 clear hlen;go_enter Try.func26,Try.ntmps26;go_wp2;go_ret;exact ⟨rfl,Below.refl _ _⟩
end
section
variable {v e : Value} {vs : List Vx} {es : List Eg} {w : World}
def Ye (vs:List Vx) (es:List Eg):Bool:=decide (vs.length<=40)&&decide (es.length<=40)
theorem Qs (h:Ye vs es=true):vs.length<=40/\es.length<=40:=by
 unfold Ye at h;simpa using h
set_option maxRecDepth 10000 in
theorem Qr (hv:VIn w v vs) (he:EIn w e es):Calls Try.prog 9 #[.agg #[v,e]] w λr w'=>r=.returned (.bool (Ye vs es))/\Below w.heap.size w w':=by
 obtain ⟨a,c,rfl⟩:=hv.sl;obtain ⟨a',c',rfl⟩:=he.sl;clear hv he;have BB:=Lh (bx1 w 25 #[.slice a vs.length c,.slice a' es.length c']);unfold Ye;have e1:decide ((vs.length:Int)<=40)=decide (vs.length<=40):=by by_cases k:vs.length<=40<;>simp[k]<;>omega
 have e2:decide ((es.length:Int)<=40)=decide (es.length<=40):=by by_cases k:es.length<=40<;>simp[k]<;>omega
 rw[<- e1,<- e2];clear e1 e2;generalize vs.length=n at *
 generalize es.length=m at *
 by_cases k:(n:Int)<=40
 ·have t1:decide ((n:Int)<=40)=true:=by simpa using k
  rw[t1];clear k;go_enter Try.func9,Try.ntmps9;go_wp2;go_ret;exact ⟨rfl,BB.out⟩
 have t1:decide ((n:Int)<=40)=false:=by simpa using k
 rw[t1];clear k;go_enter Try.func9,Try.ntmps9;go_wp2;go_ret;exact ⟨rfl,BB.out⟩
set_option maxRecDepth 10000 in
theorem mE (hv:VIn w v vs) (he:EIn w e es):Calls Try.prog 11 #[.agg #[v,e]] w λr w'=>r=.returned (.agg #[v,e])/\Below w.heap.size w w':=by
 obtain ⟨a,c,rfl⟩:=hv.sl;obtain ⟨a',c',rfl⟩:=he.sl;clear hv he;go_enter Try.func11,Try.ntmps11;go_wp2;refine bodyPost_ret (by simp[results,Try.results11,go_sem]) rfl ⟨rfl,?_⟩;repeat' (first|(with_reducible exact Below.refl _ _)|(with_reducible assumption)|(with_reducible refine zX ?_ _)|(with_reducible refine Below.drew ?_)|(with_reducible refine Below.alloc ?_ ?_ _)|(with_reducible refine Below.setCell ?_ ?_ _)|(with_reducible refine zF ?_ zW ?_)|(with_reducible exact Nat.le_refl _)|(with_reducible exact Nat.le_succ _)|(with_reducible exact Nat.le_succ_of_le zW)|omega|(simp;done)|(simp;omega)|(exact Nat.le_succ _)|(exact Nat.le_succ_of_le zW))
end
end Go.Proofs.Ytibnackmddigaaa.Pl
end
section
namespace Go.Proofs.Ytibnackmddigaaa.Pl
open Go.ChangeShapes Go.WideShapes Go.ChangeAt Go.RowKit Go.Proofs.Ytibnackmddigaaa.Mp
theorem jA.shape {w:World} {B:Nat} {v:Value} {PL:List (Value × List Hf)} (h:jA w B v PL):∃ a c,v=.slice a PL.length c/\PL.length<=c/\c<=maxLen:=by
 rcases h.1.2 with ⟨rfl,h0⟩|⟨g,cap,cur,rfl,h1,h2,h3,h4,h5,h6⟩
 ·exact ⟨none,0,by rw[h0],by omega,Nat.zero_le _⟩
 exact ⟨_,cap,rfl,h3,h4⟩
theorem jA.cell {w:World} {B n c:Nat} {a:Option Addr} {PL:List (Value × List Hf)} (h:jA w B (.slice a n c) PL) {i:Nat} (hi:i<PL.length):∃ g,a=some ⟨g,0,none⟩/\g<w.heap.size/\w.cell? ⟨g,i,none⟩=some (PL[i]'hi).1/\zY w B (PL[i]'hi).1 (PL[i]'hi).2:=by
 rcases h.1.2 with ⟨_,h0⟩|⟨g,cap,cur,e,h1,h2,h3,h4,h5,h6⟩
 ·omega
 injection e with e1 e2 e3;have ho:Own w g 40 cur:=h2;refine ⟨g,e1,ho.in_,?_,h.2 _ (List.getElem_mem hi)⟩;rw[ho.at_.1];have e4:(PL.map (·.1))[i]?=some (PL[i]'hi).1:=by rw[List.getElem?_map,List.getElem?_eq_getElem hi];rfl
 rw[<- h6,List.getElem?_take_of_lt (by omega),Array.getElem?_toList]at e4;exact e4
def exS:List Vx:=[⟨1,0,0⟩,⟨2,4,0⟩]
def exT:List Eg:=[⟨1,1,2⟩]
theorem zAs:Rt exS exT:=by
 rw[uE];refine ⟨⟨?_,?_,?_,?_,?_⟩,⟨?_,?_,?_,?_,?_,?_,?_⟩⟩
 case refine_10=>decide +kernel
 all_goals simp[exS,exT,inB,yJ,fV]
theorem zC1:rg exS exT=[[(1,false),(1,true)]]:=by decide +kernel
theorem zBs {w:World} {g:Nat} (h:Own w g 39 #[.int .i64 1,.int .i64 0,.int .i64 0,.int .i64 2,.int .i64 4,.int .i64 0]):VIn w (.slice (some ⟨g,0,none⟩) 2 2) exS:=by
 refine ⟨_,2,rfl,by simp[exS],by unfold maxLen;omega,.inr ⟨g,0,rfl,h.in_,λi hi => ?_⟩⟩;have k:=h.at_.1;have hi3:i<2:=hi;rw[k,k,k];match i,hi3 with
 | 0,_=>exact ⟨rfl,rfl,rfl⟩
 | 1,_=>exact ⟨rfl,rfl,rfl⟩
theorem zB9 {w:World} {g:Nat} (h:Own w g 71 #[.int .i64 1,.int .i64 1,.int .i64 2]):EIn w (.slice (some ⟨g,0,none⟩) 1 1) exT:=by
 refine ⟨_,1,rfl,by simp[exT],by unfold maxLen;omega,.inr ⟨g,0,rfl,h.in_,λi hi => ?_⟩⟩;have k:=h.at_.1;have hi3:i<1:=hi;rw[k,k,k];match i,hi3 with
 | 0,_=>exact ⟨rfl,rfl,rfl⟩
theorem zBk {w:World} {g:Nat} (h:Own w g 42 #[.int .i64 1,.bool false,.int .i64 1,.bool true]):HIn w (.slice (some ⟨g,0,none⟩) 2 2) [(1,false),(1,true)]:=by
 refine ⟨_,2,rfl,by simp,by unfold maxLen;omega,.inr ⟨g,0,rfl,h.in_,λi hi => ?_⟩⟩;have k:=h.at_.1;have hi3:i<2:=hi;rw[k,k];match i,hi3 with
 | 0,_=>exact ⟨rfl,rfl⟩
 | 1,_=>exact ⟨rfl,rfl⟩
set_option maxRecDepth 10000 in
theorem fO (w:World):Calls Try.prog 8 #[] w λr w'=>r=.returned (.bool true)/\Below w.heap.size w w':=by
 have RG:=Lh (λ(W:World) (v e:Value) (hv:VIn W v exS) (he:EIn W e exT)=>mN hv he (by decide) (by decide));rw[(xM zAs).1,(xM zAs).2,zC1]at RG;have SM:=Lh (λ(W:World) (v u:Value) (L M:List Hf) (hv:HIn W v L) (hu:HIn W u M) (h1:L.length<=100000) (h2:M.length<=100000)=>mK hv hu h1 h2);obtain ⟨W0,hW0⟩:∃ W0,W0=((w.alloc (.cells #[.int .i64 1,.int .i64 0,.int .i64 0,.int .i64 2,.int .i64 4,.int .i64 0] 39)).alloc (.cells #[.int .i64 1,.int .i64 1,.int .i64 2] 71)).alloc (.cells #[.slice (some ⟨w.heap.size,0,none⟩) 2 2,.slice (some ⟨w.heap.size+1,0,none⟩) 1 1] 30):=⟨_,rfl⟩
 have B0:Hid (Below w.heap.size w W0):=Lh (by rw[hW0];repeat' (first|(with_reducible exact Below.refl _ _)|(with_reducible assumption)|(with_reducible refine zX ?_ _)|(with_reducible refine Below.drew ?_)|(with_reducible refine Below.alloc ?_ ?_ _)|(with_reducible refine Below.setCell ?_ ?_ _)|(with_reducible refine zF ?_ zW ?_)|(with_reducible exact Nat.le_refl _)|(with_reducible exact Nat.le_succ _)|(with_reducible exact Nat.le_succ_of_le zW)|omega|(simp;done)|(simp;omega)|(exact Nat.le_succ _)|(exact Nat.le_succ_of_le zW)));have O0:Hid (Own W0 (w.heap.size+1+1) 30 #[.slice (some ⟨w.heap.size,0,none⟩) 2 2,.slice (some ⟨w.heap.size+1,0,none⟩) 1 1]):=Lh (by rw[hW0];exact Own.made_at (by simp));have V0:Hid (VIn W0 (.slice (some ⟨w.heap.size,0,none⟩) 2 2) exS):=Lh (zBs (by rw[hW0];exact ((Own.made _ _ _).more _).more _));have E0:Hid (EIn W0 (.slice (some ⟨w.heap.size+1,0,none⟩) 1 1) exT):=Lh (zB9 (by rw[hW0];exact (Own.made_at (by simp)).more _));go_enter Try.func8,Try.ntmps8;go_upto_region 2 with fail;rw[<- hW0];clear hW0;obtain ⟨p1,p2⟩:=zM O0.out;go_upto_region 3 with (go_at_call 10;refine (RG.out _ _ _ V0.out E0.out).mono ?_;rintro e w1 ⟨u,PL,rfl,r1,r2,b1⟩;have R1:=Lh r1;have R2:=Lh r2;have B1:=Lh (zF B0.out b1 B0.out.size);clear r1 r2 b1)
 obtain ⟨x,rfl⟩:∃ x,PL=[x]:=by
  have:=congrArg List.length R2.out;rw[List.length_map]at this;exact List.length_eq_one_iff.1 this
 obtain ⟨x1,x2⟩:=x;obtain rfl:x2=[(1,false),(1,true)]:=by simpa using R2.out
 obtain ⟨a,c,hsh,hc1,hc2⟩:=R1.out.shape;subst hsh;obtain ⟨g,rfl,hg,hcl,ho⟩:=R1.out.cell (i:=0) (by simp);simp only[List.getElem_cons_zero]at hcl ho;obtain ⟨xa,xc,hx1⟩:=ho.shape;subst hx1;have BX:=Lh (bx1 w1 42 #[.int .i64 1,.bool false,.int .i64 1,.bool true]);have HI:=Lh (ho.in_.below BX.out);have HJ:=Lh (zBk (Own.made w1 42 #[.int .i64 1,.bool false,.int .i64 1,.bool true]));have hlen:([(Value.slice xa [((1:Int),false),(1,true)].length xc,[((1:Int),false),(1,true)])]:List (Value × List Hf)).length=1:=rfl;have hlen2:[((1:Int),false),(1,true)].length=2:=rfl;rw[hlen];rw[hlen2]at hcl HI;clear R1 R2 ho hlen hlen2;go_wp2_with (go_at_call 26;refine (SM.out _ _ _ _ _ HI.out HJ.out (by decide) (by decide)).mono ?_;rintro e w2 ⟨rfl,b2⟩;have B2:=Lh (zF (zF B1.out BX.out B1.out.size) b2 (zF B1.out BX.out B1.out.size).size);clear b2)
 go_ret;exact ⟨rfl,B2.out⟩
end Go.Proofs.Ytibnackmddigaaa.Pl
end
