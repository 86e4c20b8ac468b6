import Derived.Test.YtibnackmddigaaaPlnF
import Derived.Test.YtibnackmddigaaaPlnM
set_option linter.unusedVariables false
set_option linter.unusedSimpArgs false
set_option linter.unusedSectionVars false
section
namespace Go.Proofs.Ytibnackmddigaaa.Pl
open Go.ChangeShapes Go.WideShapes Go.ChangeAt Go.RowKit
def Lst {α:Type} (f:α->Int) (L:List α) (l:Int):Prop:=0<=l/\(∀ u∈L,f u<=l)/\(l=0\/∃ u∈L,f u=l)
section
variable {α : Type} {f : α -> Int} {L : List α} {l : Int}
theorem Lst.start:Lst f [] 0:=⟨Int.le_refl _,λ_ h=>(by cases h),.inl rfl⟩
theorem Lst.next (h:Lst f L l) {x:α} (hx:l<f x):Lst f (L++[x]) (f x):=by
 obtain ⟨h0,h1,h2⟩:=h;refine ⟨by omega,λu hu => ?_,.inr ⟨x,by simp,rfl⟩⟩;rcases List.mem_append.1 hu with hu|hu
 ·have:=h1 u hu;omega
 rw[List.mem_singleton]at hu;rw[hu];exact Int.le_refl _
theorem Lst.ok (h:Lst f L l) {x:Int}:l<x↔0<x/\∀ u∈L,f u<x:=by
 obtain ⟨h0,h1,h2⟩:=h;constructor
 ·intro h;exact ⟨by omega,λu hu=>by have:=h1 u hu;omega⟩
 rintro ⟨h3,h4⟩;rcases h2 with rfl|⟨u,hu,e⟩
 ·exact h3
 have:=h4 u hu;omega
end
theorem vU {α:Type} (L:List α) (k:Nat) (hk:k<L.length):L.take (k+1)=L.take k++[L[k]'hk]:=(List.take_append_getElem hk).symm
section
variable {w w' : World} {B d : Nat} {vs : List Vx} {es : List Eg}
theorem zBj (w:World) (B a b c:Nat) {W:World} (hB:B<=a/\B<=b/\B<=c/\B<=d) (hne:a≠b/\a≠c/\b<=c/\b≠c) (ho:Own W d 124 #[.map (some a),.map (some b),.map (some c),.slice none 0 0,.slice none 0 0]) (h1:W.heap[a]?=some (.map #[] 0)) (h2:W.heap[b]?=some (.map #[] 0)) (h3:W.heap[c]?=some (.map #[] 0)):xQ W B d [] [] :=
 ⟨a,b,c,_,_,[],ho,⟨hB.2.2.2,hB.1,hB.2.1,hB.2.2.1⟩,⟨hne.1,hne.2.1,hne.2.2.2⟩,⟨#[],0,h1,by simp,by simp[plF,fV]⟩,⟨#[],0,h2,by simp[mtF]⟩,⟨#[],0,h3,by simp[jnF]⟩,World.ownsRow_nil _ _ _ _,World.ownsRow_nil _ _ _ _,rfl,λx hx=>by cases hx⟩
theorem jK {q:Nat} (o:Obj) (h:q=w.heap.size):(w.alloc o).heap[q]?=some o:=by
 subst h;unfold World.alloc;simp
theorem xS {q:Nat} {o o2:Obj} (h:w.heap[q]?=some o):(w.alloc o2).heap[q]?=some o:=(Below.heap_alloc w o2 q (Array.getElem?_eq_some_iff.1 h).1).trans h
theorem Uv {q:Nat} {T:TypeId} {cs:Array Value} (hc:Chg (DT w B) w w') (ho:Own w q T cs) (h1:T≠124) (h2:T≠37) (h3:T≠148):Own w' q T cs:=hc.own ho λk=>by
 rcases k.2 with ⟨es,ck,e⟩|⟨U,cs2,ho2,hU⟩
 ·unfold Own at ho;rw[ho]at e;cases e
 by_cases e:T=U
 ·subst e;rcases hU with h|h|h
  ·exact h1 h
  ·exact h2 h
  exact h3 h
 exact xO ho ho2 e rfl
theorem Jb (hc:Chg (DT w B) w w') {w0:World} (h:Below B w0 w) (hB:B<=w.heap.size):Below B w0 w':=h.trans (hc.below hB λq k=>k.1)
set_option maxRecDepth 10000 in
set_option maxHeartbeats 2000000 in
theorem Qm (v e:Value) (vs:List Vx) (es:List Eg) (w:World) (hv:VIn w v vs) (he:EIn w e es) (hn:vs.length<=100000) (hm:es.length<=100000) :
 Calls Try.prog 38 #[.agg #[v,e]] w λr w'=>((Rt vs es/\∃ d,r=.returned (.tuple #[.pointer (some ⟨d,0,none⟩),.bool true])/\xQ w' w.heap.size d vs es)\/(¬ Rt vs es/\r=.returned (.tuple #[.pointer none,.bool false])))/\Below w.heap.size w w':=by
 obtain ⟨a,cap,rfl,hc1,hc2,-,hcl⟩:=hv.open_;obtain ⟨a',cap',rfl,hc1',hc2',-,hcl'⟩:=he.open_;have HV:=Lh hcl;have HE:=Lh hcl';clear hv he hcl hcl';obtain ⟨n,hnn⟩:∃ n,n=vs.length:=⟨_,rfl⟩
 obtain ⟨m,hmm⟩:∃ m,m=es.length:=⟨_,rfl⟩
 rw[<- hnn]at hc1 hn ⊢;rw[<- hmm]at hc1' hm ⊢;have HN:=Lh hnn;have HM:=Lh hmm;clear hnn hmm;have hmk := @run_makeMap Try.prog;go_enter Try.func38,Try.ntmps38;go_wp2;go_loopw [5,18] (λl j wr=>∃ (k:Nat) (z:Int),k<=n/\j=.int .i64 (k:Int)/\l=.int .i64 z/\Hid (∀ i,i<k->OkV vs i)/\Hid (Lst Vx.id (vs.take k) z)/\Hid (xQ wr w.heap.size (w.heap.size+4) (vs.take k) [])/\Hid (Own wr w.heap.size 30 #[.slice a n cap,.slice a' m cap'])/\Hid (Below w.heap.size w wr)) (λl j wr=>n - (intOf j).toNat)
 case atStart =>
  refine ⟨0,0,by omega,rfl,rfl,Lh λi hi=>by omega,Lh Lst.start,Lh ?_,Lh ?_,Lh (by repeat' (first|(with_reducible exact Below.refl _ _)|(with_reducible assumption)|(with_reducible refine zX ?_ _)|(with_reducible refine Below.drew ?_)|(with_reducible refine Below.alloc ?_ ?_ _)|(with_reducible refine Below.setCell ?_ ?_ _)|(with_reducible refine zF ?_ zW ?_)|(with_reducible exact Nat.le_refl _)|(with_reducible exact Nat.le_succ _)|(with_reducible exact Nat.le_succ_of_le zW)|omega|(simp;done)|(simp;omega)|(exact Nat.le_succ _)|(exact Nat.le_succ_of_le zW)))⟩
  ·exact zBj w w.heap.size (w.heap.size+1) (w.heap.size+2) (w.heap.size+3) (by omega) (by omega) (Own.made_at (by simp)) (xS (xS (xS (jK _ (by simp))))) (xS (xS (jK _ (by simp)))) (xS (jK _ (by simp)))
  exact (((((Own.made w _ _).more _).more _).more _).more _)
 case round =>
  obtain ⟨k,z,hk,rfl,rfl,HOK,HL,HD,HP,HB⟩:=hrel;obtain ⟨p1,p2,p3⟩:=HP.out.at_;have HBz:=Lh HB.out.size;by_cases hlt:k<n
  ·have hkl:k<vs.length:=by rw[<- HN.out];exact hlt
   obtain ⟨b,o,rfl,hb,hc⟩:=HV.out k hkl;obtain ⟨c1,c2,c3⟩:=hc wr HB.out;have TS:=Lh (vU vs k hkl);have GE:=Lh (List.getElem?_eq_getElem hkl);have tkl:(vs.take k).length<=100000:=by rw[List.length_take];omega
   obtain ⟨x,hx⟩:∃ x,x=vs[k]'hkl:=⟨_,rfl⟩
   rw[<- hx]at c1 c2 c3 TS GE;clear hx hc HV;obtain ⟨x1,x2,x3⟩:=x;simp only at c1 c2 c3;have OKK:Hid (OkV vs k↔z<x1/\Qp (vs.take k) [] x2 x3=0):=Lh (by
    rw[HL.out.ok (x:=x1)];constructor
    ·intro h;have:=h _ GE.out;exact ⟨⟨this.1,this.2.1⟩,this.2.2⟩
    rintro ⟨⟨h1,h2⟩,h3⟩ v hv;rw[GE.out]at hv;injection hv with hv;subst hv;exact ⟨h1,h2,h3⟩)
   have BX:=Lh (bx1 wr 39 #[.int .i64 x1,.int .i64 x2,.int .i64 x3]);have HB1:=Lh (zF HB.out BX.out HB.out.size);have OX:=Lh (Own.made wr 39 #[.int .i64 x1,.int .i64 x2,.int .i64 x3]);by_cases hle:x1<=z
   ·have NR:Hid (¬ Rt vs es):=Lh λh=>by have:=OKK.out.1 (h.1 k);omega
    go_wp2;go_ret2;exact ⟨.inr ⟨NR.out,rfl⟩,HB1.out⟩
   have CA:=Lh (Vh (HD.out.below BX.out) (by omega) x2 x3);obtain ⟨c,hc⟩:∃ c,c=Qp (vs.take k) [] x2 x3:=⟨_,rfl⟩
   rw[<- hc]at CA OKK;have HC:=Lh hc;clear hc;by_cases h0:c=0
   ·subst h0;have OK9:Hid (OkV vs k):=Lh (OKK.out.2 ⟨by omega,rfl⟩);go_upto_region 8 with (go_at_call 57;refine CA.out.mono ?_;rintro e w2 ⟨rfl,b2⟩;have B2:=Lh b2;clear b2)
    have D2:=Lh ((HD.out.below BX.out).below B2.out);have O2:=Lh (OX.out.keep B2.out);have P2:=Lh ((HP.out.keep BX.out).keep B2.out);have HB2:=Lh (zF HB1.out B2.out HB1.out.size);have CK:=fI.1 HC.out.symm;have AD:=Lh (zB8 D2.out ⟨x1,x2,x3⟩ (fA.2 λu hu e=>by have:=HL.out.2.1 u hu;have e:u.id=x1:=e;omega) CK.2.1 tkl HB2.out.size);obtain ⟨o1,o2,o3⟩:=zK O2.out;clear CK CA BX OX HB1 HD p1 p2 p3 HP c1 c2 c3 OKK;go_upto_region 9 with (go_at_call 58;refine AD.out.mono ?_;rintro e w3 ⟨rfl,d3,c3⟩;have D3:=Lh d3;have C3:=Lh c3;clear d3 c3)
    have HB3:=Lh (Jb C3.out HB2.out HB2.out.size);have O3:=Lh (Uv C3.out O2.out (by decide) (by decide) (by decide));have P3:=Lh (Uv C3.out P2.out (by decide) (by decide) (by decide));obtain ⟨o1,o2,o3⟩:=zK O3.out;go_wp2;go_roundw
    case rel=>exact ⟨k+1,x1,by omega,by go_num,rfl,Lh λi hi=>by
     rcases Nat.lt_succ_iff_lt_or_eq.1 hi with hi|rfl
     ·exact HOK.out i hi
     exact OK9.out,Lh (by rw[TS.out];exact HL.out.next (x:=(⟨x1,x2,x3⟩:Vx)) (by show z<x1;omega)),Lh (by rw[TS.out];exact D3.out),P3,HB3⟩
    case measure=>simp[intOf]<;>omega
   have t0:(c != 0)=true:=by simpa using h0
   have NR:Hid (¬ Rt vs es):=Lh λh=>h0 (OKK.out.1 (h.1 k)).2
   go_wp2_with (go_at_call 57;refine CA.out.mono ?_;rintro e w2 ⟨rfl,b2⟩;have B2:=Lh b2;clear b2)
   have HB2:=Lh (zF HB1.out B2.out HB1.out.size);go_ret2;exact ⟨.inr ⟨NR.out,rfl⟩,HB2.out⟩
  obtain rfl:k=n:=by omega
  have ALL:Hid (∀ i,OkV vs i):=Lh λi v hv=>by
   have hi:=(List.getElem?_eq_some_iff.1 hv).1;exact HOK.out i (by rw[HN.out];exact hi) v hv
  have HD1:Hid (xQ wr w.heap.size (w.heap.size+4) vs []):=Lh (by have:=HD.out;rw[List.take_of_length_le (by rw[HN.out];exact Nat.le_refl _)]at this;exact this);clear HOK HL HD HV hlt;go_wp2;go_loopw [5,42] (λl j wq=>∃ (k':Nat) (z:Int),k'<=m/\j=.int .i64 (k':Int)/\l=.int .i64 z/\Hid (∀ i,i<k'->OkE vs es i)/\Hid (Lst Eg.id (es.take k') z)/\Hid (xQ wq w.heap.size (w.heap.size+4) vs (es.take k'))/\Hid (Below w.heap.size w wq)) (λl j wq=>m - (intOf j).toNat)
  case atStart=>exact ⟨0,0,by omega,rfl,rfl,Lh λi hi=>by omega,Lh Lst.start,HD1,HB⟩
  case round =>
   clear HP HD1 HBz HB p1 p2 p3;obtain ⟨k',z,hk,rfl,rfl,HOK,HL,HD,HB⟩:=hrel;have HBz:=Lh HB.out.size;by_cases hlt:k'<m
   ·have hkl:k'<es.length:=by rw[<- HM.out];exact hlt
    obtain ⟨b,o,rfl,hb,hc⟩:=HE.out k' hkl;obtain ⟨c1,c2,c3⟩:=hc _ HB.out;have TS:=Lh (vU es k' hkl);have GE:=Lh (List.getElem?_eq_getElem hkl);have tkl:(es.take k').length<=100000:=by rw[List.length_take];omega
    obtain ⟨x,hx⟩:∃ x,x=es[k']'hkl:=⟨_,rfl⟩
    rw[<- hx]at c1 c2 c3 TS GE;clear hx hc HE;obtain ⟨x1,x2,x3⟩:=x;simp only at c1 c2 c3;have OKK:Hid (OkE vs es k'↔z<x1/\gM vs (es.take k') x2 x3=0):=Lh (by
     rw[HL.out.ok (x:=x1)];constructor
     ·intro h;have:=h _ GE.out;exact ⟨⟨this.1,this.2.1⟩,this.2.2⟩
     rintro ⟨⟨h1,h2⟩,h3⟩ v hv;rw[GE.out]at hv;injection hv with hv;subst hv;exact ⟨h1,h2,h3⟩)
    have BX:=Lh (bx1 wr 71 #[.int .i64 x1,.int .i64 x2,.int .i64 x3]);have HB1:=Lh (zF HB.out BX.out HB.out.size);have OX:=Lh (Own.made wr 71 #[.int .i64 x1,.int .i64 x2,.int .i64 x3]);by_cases hle:x1<=z
    ·have NR:Hid (¬ Rt vs es):=Lh λh=>by have:=OKK.out.1 (h.2 k');omega
     go_wp2;go_ret2;exact ⟨.inr ⟨NR.out,rfl⟩,HB1.out⟩
    have CA:=Lh (Qn (HD.out.below BX.out) (by omega) x2 x3);obtain ⟨c,hc⟩:∃ c,c=gM vs (es.take k') x2 x3:=⟨_,rfl⟩
    rw[<- hc]at CA OKK;have HC:=Lh hc;clear hc;by_cases h0:c=0
    ·subst h0;have OK9:Hid (OkE vs es k'):=Lh (OKK.out.2 ⟨by omega,rfl⟩);go_upto_region 17 with (go_at_call 59;refine CA.out.mono ?_;rintro e w2 ⟨rfl,b2⟩;have B2:=Lh b2;clear b2)
     have D2:=Lh ((HD.out.below BX.out).below B2.out);have O2:=Lh (OX.out.keep B2.out);have HB2:=Lh (zF HB1.out B2.out HB1.out.size);have CK:=jD.1 HC.out.symm;have AD:=Lh (zA9 D2.out ⟨x1,x2,x3⟩ CK.2.2.2.1 tkl HB2.out.size);obtain ⟨o1,o2,o3⟩:=zK O2.out;clear CK CA BX OX HB1 HD c1 c2 c3 OKK;go_upto_region 18 with (go_at_call 60;refine AD.out.mono ?_;rintro e w3 ⟨rfl,d3,c3⟩;have D3:=Lh d3;have C3:=Lh c3;clear d3 c3)
     have HB3:=Lh (Jb C3.out HB2.out HB2.out.size);have O3:=Lh (Uv C3.out O2.out (by decide) (by decide) (by decide));obtain ⟨o1,o2,o3⟩:=zK O3.out;go_wp2;go_roundw
     case rel=>exact ⟨k'+1,x1,by omega,by go_num,rfl,Lh λi hi=>by
      rcases Nat.lt_succ_iff_lt_or_eq.1 hi with hi|rfl
      ·exact HOK.out i hi
      exact OK9.out,Lh (by rw[TS.out];exact HL.out.next (x:=(⟨x1,x2,x3⟩:Eg)) (by show z<x1;omega)),Lh (by rw[TS.out];exact D3.out),HB3⟩
     case measure=>simp[intOf]<;>omega
    have t0:(c != 0)=true:=by simpa using h0
    have NR:Hid (¬ Rt vs es):=Lh λh=>h0 (OKK.out.1 (h.2 k')).2
    go_wp2_with (go_at_call 59;refine CA.out.mono ?_;rintro e w2 ⟨rfl,b2⟩;have B2:=Lh b2;clear b2)
    have HB2:=Lh (zF HB1.out B2.out HB1.out.size);go_ret2;exact ⟨.inr ⟨NR.out,rfl⟩,HB2.out⟩
   obtain rfl:k'=m:=by omega
   have RT:Hid (Rt vs es):=Lh ⟨ALL.out,λi v hv=>by
    have hi:=(List.getElem?_eq_some_iff.1 hv).1;exact HOK.out i (by rw[HM.out];exact hi) v hv⟩
   have HD2:Hid (xQ wr w.heap.size (w.heap.size+4) vs es):=Lh (by have:=HD.out;rw[List.take_of_length_le (by rw[HM.out];exact Nat.le_refl _)]at this;exact this);go_wp2;go_ret2;exact ⟨.inl ⟨RT.out,_,rfl,HD2.out⟩,HB.out⟩
end
end Go.Proofs.Ytibnackmddigaaa.Pl
end
section
namespace Go.Proofs.Ytibnackmddigaaa.Pl
open Go.ChangeShapes Go.WideShapes Go.ChangeAt Go.RowKit
end Go.Proofs.Ytibnackmddigaaa.Pl
end
section
namespace Go.Proofs.Ytibnackmddigaaa.Pl
open Go.ChangeShapes Go.WideShapes Go.ChangeAt Go.RowKit
section
variable {v e : Value} {vs : List Vx} {es : List Eg} {w : World}
theorem zA5 (hv:VIn w v vs) (he:EIn w e es) (hn:vs.length<=100000) (hm:es.length<=100000) (h:Rt vs es):Calls Try.prog 38 #[.agg #[v,e]] w λr w'=>∃ d,r=.returned (.tuple #[.pointer (some ⟨d,0,none⟩),.bool true])/\xQ w' w.heap.size d vs es/\Below w.heap.size w w':=by
 refine (Qm v e vs es w hv he hn hm).mono ?_;rintro r w' ⟨⟨_,d,h1,h2⟩|⟨hr,_⟩,hb⟩
 ·exact ⟨d,h1,h2,hb⟩
 exact absurd h hr
theorem zCc (hv:VIn w v vs) (he:EIn w e es) (hn:vs.length<=100000) (hm:es.length<=100000) (h:¬ Rt vs es):Calls Try.prog 38 #[.agg #[v,e]] w λr w'=>r=.returned (.tuple #[.pointer none,.bool false])/\Below w.heap.size w w':=by
 refine (Qm v e vs es w hv he hn hm).mono ?_;rintro r w' ⟨⟨hr,d,h1,h2⟩|⟨_,h1⟩,hb⟩
 ·exact absurd hr h
 exact ⟨h1,hb⟩
set_option maxRecDepth 10000 in
theorem mP (hv:VIn w v vs) (he:EIn w e es) (hn:vs.length<=100000) (hm:es.length<=100000):Calls Try.prog 12 #[.agg #[v,e]] w λr w'=>r=.returned (.bool (rtB vs es))/\Below w.heap.size w w':=by
 have HV:Hid (∀ W,Below w.heap.size w W->VIn W v vs):=Lh λW hW=>TIn.below hv hW
 have HE:Hid (∀ W,Below w.heap.size w W->EIn W e es):=Lh λW hW=>TIn.below he hW
 have DY:=Lh (λW (hW:Below w.heap.size w W) (h:Rt vs es)=>zA5 (HV.out W hW) (HE.out W hW) hn hm h);have DN:=Lh (λW (hW:Below w.heap.size w W) (h:¬ Rt vs es)=>zCc (HV.out W hW) (HE.out W hW) hn hm h);obtain ⟨a,c,rfl⟩:=hv.sl;obtain ⟨a',c',rfl⟩:=he.sl;have BB:=Lh (bx1 w 30 #[.slice a vs.length c,.slice a' es.length c']);clear HV HE hv he;by_cases h:Rt vs es
 ·rw[uG.2 h];have RT:=Lh h;clear h DN;generalize vs.length=n at *
  generalize es.length=m at *
  go_enter Try.func12,Try.ntmps12;go_wp2_with (go_at_call 38;refine (DY.out _ BB.out RT.out).mono ?_;rintro e w2 ⟨d,rfl,d2,b2⟩;have D2:=Lh d2;have B2:=Lh (zF BB.out b2 BB.out.size);clear d2 b2)
  go_ret;exact ⟨rfl,B2.out⟩
 rw[jZ h];have RT:=Lh h;clear h DY;generalize vs.length=n at *
 generalize es.length=m at *
 go_enter Try.func12,Try.ntmps12;go_wp2_with (go_at_call 38;refine (DN.out _ BB.out RT.out).mono ?_;rintro e w2 ⟨rfl,b2⟩;have B2:=Lh (zF BB.out b2 BB.out.size);clear b2)
 go_ret;exact ⟨rfl,B2.out⟩
end
end Go.Proofs.Ytibnackmddigaaa.Pl
end
