import Derived.Test.YtibnackmddigaaaSpnT
import Derived.Test.YtibnackmddigaaaSpnG
set_option linter.unusedVariables false
set_option linter.unusedSimpArgs false
set_option linter.unusedSectionVars false
namespace Go.Proofs.Ytibnackmddigaaa.Pl
open Go.ChangeShapes Go.WideShapes Go.ChangeAt Go.RowKit Go.Proofs.Ytibnackmddigaaa.Mp
theorem bY3 {p:Prop} (h:p:=by simp only[xJ,List.filterMap_cons,List.filterMap_nil,List.getElem?_cons_zero,List.getElem?_cons_succ,Option.map_some];exact rfl):p:=h
theorem Yi {l:List Hf} {x:Hf} {k:Nat} (hk:k<l.length) (h0:∀ m (hm:m<l.length),m<k->l[m]'hm≠x) (h1:l[k]'hk=x):l.idxOf x=k:=by
 induction l generalizing k with
 | nil=>simp at hk
 | cons y l ih =>
  cases k with
  | zero =>
   simp only[List.getElem_cons_zero]at h1;subst h1;simp
  | succ k =>
   have hne:y≠x:=h0 0 (by simp) (by omega);have hb:(y==x)=false:=beq_eq_false_iff_ne.2 hne;rw[List.idxOf_cons,hb];have:=ih (k:=k) (by simpa using hk) (λm hm hmk=>h0 (m+1) (by simpa using hm) (by omega)) (by simpa using h1);rw[this];rfl
section
variable {v e : Value} {vs : List Vx} {es : List Eg} {w : World}
set_option maxRecDepth 10000 in
set_option maxHeartbeats 1000000 in
theorem Jd (hv:VIn w v vs) (he:EIn w e es) (fV':FlV vs) (hE:FlE vs es) (hn:vs.length<=30000) (hm:es.length<=30000) (h:Hf) (hh:h∈hfs es):Calls Try.prog 21 #[.agg #[v,e],hV h] w λr w'=>r=.returned (hV (nx vs es h))/\Below w.heap.size w w':=by
 have TW:=Lh (λ(W:World)=>gG h W);have FR:=Lh (λ(W:World) (hW:Below w.heap.size w W)=>qA (TIn.below hv hW) (TIn.below he hW) (by omega) (tw h) (uV.2 hh));have RO:=Lh (λ(W:World) (hW:Below w.heap.size w W)=>zAr (TIn.below hv hW) (TIn.below he hW) fV' hE hn hm (dst es h));have MM:Hid (tw h∈ot vs es (dst es h)):=Lh (jR.2 ⟨uV.2 hh,rfl⟩);have LN:Hid ((ot vs es (dst es h)).length<=60000):=Lh (by have:=Ux (es:=es) (dst es h);rw[(uU _).length_eq];omega);have NXD:Hid (nx vs es h=prv (ot vs es (dst es h)) (tw h)):=Lh rfl;change Hid (∀ W,Below w.heap.size w W->Calls Try.prog 22 #[_,_] W λr w'=>r=.returned (.int .i64 (dst es h))/\_) at FR;obtain ⟨a,c,rfl⟩:=hv.sl;obtain ⟨a',c',rfl⟩:=he.sl;clear hv he;generalize nx vs es h=z at *
 generalize ot vs es (dst es h)=O at *
 generalize dst es h=d at *
 generalize tw h=t at *
 generalize vs.length=n0 at *
 generalize es.length=m0 at *
 obtain ⟨te,tb⟩:=t;obtain ⟨ze,zb⟩:=z;obtain ⟨h1,h2⟩:=h;unfold hV at TW FR ⊢;simp only at TW FR ⊢;obtain ⟨W0,hW0⟩:∃ W0,W0=((w.alloc (.cells #[.slice a n0 c,.slice a' m0 c'] 25)).alloc (.cells #[.int .i64 h1,.bool h2] 42)).alloc (.cells #[.int .i64 0,.bool false] 42):=⟨_,rfl⟩
 have BB:Hid (Below w.heap.size w W0):=Lh (by rw[hW0];repeat' (first|(with_reducible exact Below.refl _ _)|(with_reducible assumption)|(with_reducible refine zX ?_ _)|(with_reducible refine Below.drew ?_)|(with_reducible refine Below.alloc ?_ ?_ _)|(with_reducible refine Below.setCell ?_ ?_ _)|(with_reducible refine zF ?_ zW ?_)|(with_reducible exact Nat.le_refl _)|(with_reducible exact Nat.le_succ _)|(with_reducible exact Nat.le_succ_of_le zW)|omega|(simp;done)|(simp;omega)|(exact Nat.le_succ _)|(exact Nat.le_succ_of_le zW)));have PO:Hid (Own W0 w.heap.size 25 #[.slice a n0 c,.slice a' m0 c']):=Lh (by rw[hW0];exact ((Own.made _ _ _).more _).more _);have HO:Hid (Own W0 (w.heap.size+1) 42 #[.int .i64 h1,.bool h2]):=Lh (by rw[hW0];exact (Own.made_at (by simp)).more _);have R4:Hid (Own W0 (w.heap.size+1+1) 42 #[.int .i64 0,.bool false]):=Lh (by rw[hW0];exact Own.made_at (by simp));go_enter Try.func21,Try.ntmps21;go_upto_region 1 with fail;rw[<- hW0];clear hW0;have Y0:Hid (Below W0.heap.size W0 W0.drew):=Lh (Below.refl _ _).drew;refine zL (λW=>Below W0.heap.size W0 W) (0::1::2::6::[]) (0::1::2::[]) (0::1::2::3::4::5::6::[]) (by kernel_rfl) (by kernel_rfl) rfl (by kernel_rfl) rfl (Y0.out) bY3 ?_
 iterate 3
  refine zH (v := ?_) rfl rfl (λW hS => ?_) ?_;rotate_left
  ·first
    | (
     conv=>lhs;simp[go_sem]
     first|done|exact rfl)
    | (
     have hS:=hS rfl;obtain ⟨p1,p2⟩:=zM (PO.out.keep hS);obtain ⟨q1,q2⟩:=zM (HO.out.keep hS);conv=>lhs;simp[go_sem, *]
     first|done|exact rfl)
  simp only[Act.put,lA,lZ,lS]
 refine zQ rfl rfl λK hK => ?_
 go_wp2_with (go_at_call 23;refine (TW.out _).mono ?_;rintro e y1' ⟨rfl,c1⟩)
 have Y1:=Lh (zF Y0.out c1 Y0.out.size);refine hK _ _ Y1.out ?_;clear hK K c1;refine zQ rfl rfl λK hK => ?_
 go_wp2_with (go_at_call 22;refine (FR.out _ (zF BB.out Y1.out BB.out.size)).mono ?_;rintro e y2' ⟨rfl,c2⟩)
 have Y2:=Lh (zF Y1.out c2 Y1.out.size);refine hK _ _ Y2.out ?_;clear hK K c2;refine zQ rfl rfl λK hK => ?_
 go_wp2_with (go_at_call 44;refine (RO.out _ (zF BB.out Y2.out BB.out.size)).mono ?_;rintro e y3' ⟨u,rfl,ho,c3⟩)
 have Y3:=Lh (zF Y2.out c3 Y2.out.size);have OO:=Lh ho;clear ho;refine hK _ _ Y3.out ?_;clear hK K c3;iterate 1
  refine zH (v := ?_) rfl rfl (λW hS => ?_) ?_;rotate_left
  ·first
    | (
     conv=>lhs;simp[go_sem]
     first|done|exact rfl)
    | (
     have hS:=hS rfl;obtain ⟨p1,p2⟩:=zM (PO.out.keep hS);obtain ⟨q1,q2⟩:=zM (HO.out.keep hS);conv=>lhs;simp[go_sem, *]
     first|done|exact rfl)
  simp only[Act.put,lA,lZ,lS]
 refine zT ?_;obtain ⟨g,cO,hsl,hc1,hc2,-,-⟩:=vF OO.out (List.length_pos_of_mem MM.out);subst hsl;have HB3:=Lh (zF BB.out Y3.out BB.out.size);have HO3:=Lh (HO.out.keep Y3.out);have R43:=Lh (R4.out.keep Y3.out);obtain ⟨n,hnn⟩:∃ n,n=O.length:=⟨_,rfl⟩
 rw[<- hnn]at hc1 OO LN ⊢;have HN:=Lh hnn;have hnb:n<=60000:=LN.out;have hnp:0<n:=by rw[hnn];exact List.length_pos_of_mem MM.out
 have HWB:Hid (w.heap.size<=y2'.heap.size):=Lh (by have:=BB.out.size;have:=Y2.out.size;omega);clear hnn Y0 Y1 Y3 FR RO PO HO R4 BB;generalize y2'.heap.size=B2 at *
 go_wp2;go_loopw [6] (λj wr=>∃ k:Nat,k<=n/\j=.int .i64 (k:Int)/\Hid (∀ m (hm:m<O.length),m<k->O[m]'hm≠(te,tb))/\Hid (zY wr B2 (.slice (some ⟨g,0,none⟩) n cO) O)/\Hid (Own wr (w.heap.size+1) 42 #[.int .i64 h1,.bool h2])/\Hid (Own wr (w.heap.size+1+1) 42 #[.int .i64 0,.bool false])/\Hid (Below w.heap.size w wr)) (λj wr=>n - (intOf j).toNat)
 case atStart=>exact ⟨0,by omega,rfl,Lh λm hm h=>by omega,OO,HO3,R43,HB3⟩
 case round =>
  clear OO HO3 R43 HB3;obtain ⟨k,hk,rfl,hno,HO,HQ,HR,HB⟩:=hrel;by_cases hlt:k<n
  ·have hkl:k<O.length:=by rw[<- HN.out];exact hlt
   obtain ⟨c1,c2⟩:=yH HO.out hkl;have IX:=Lh (λe=>Yi (x:=(te,tb)) hkl (λm hm hmk=>hno.out m hm hmk) e);have NK:Hid (O[k]'hkl≠(te,tb)->∀ m (hm:m<O.length),m<k+1->O[m]'hm≠(te,tb)):=Lh λe m hm hmk=>by
    rcases Nat.lt_succ_iff_lt_or_eq.1 hmk with hmk|rfl
    ·exact hno.out m hm hmk
    exact e
   obtain ⟨x,hx⟩:∃ x,x=O[k]'hkl:=⟨_,rfl⟩
   rw[<- hx]at c1 c2 IX NK;clear hx;obtain ⟨xe,xb⟩:=x;simp only at c1 c2;obtain ⟨t,ht⟩:∃ t,t=decide (xe=te/\xb=tb):=⟨_,rfl⟩
   have EK:∀ W,(Op.equalIn 10000 42 (.agg #[.int .i64 xe,.bool xb]) (.agg #[.int .i64 te,.bool tb])).run Try.prog W=.ok t W:=λW=>by rw[ht];exact jV xe te xb tb W
   have HT:=Lh ht;have hki:(k:Int)<(n:Int):=by omega
   clear ht;go_upto_region 5 with fail;refine zL (λW=>Below wr.heap.size wr W) (0::1::2::3::4::6::[]) (3::4::[]) (0::1::2::3::4::5::6::[]) (by kernel_rfl) (by kernel_rfl) rfl (by kernel_rfl) rfl ((Below.refl _ _).drew) bY3 ?_;iterate 5
    refine zH (v := ?_) rfl rfl (λW hS => ?_) ?_;rotate_left
    ·first
      | (
       conv=>lhs;simp[go_sem,hki,EK]
       first|done|exact rfl)
      | (
       have hS:=hS rfl;obtain ⟨q1,q2⟩:=zM (HQ.out.keep hS);have d1:=keep hS c1;have d2:=keep hS c2;conv=>lhs;simp[go_sem, *,hki,EK]
       first|done|exact rfl)
    simp only[Act.put,lA,lZ,lS]
   refine zQ rfl rfl λK hK => ?_
   go_wp2_with (go_at_call 23;refine (TW.out _).mono ?_;rintro e w2 ⟨rfl,b2⟩)
   have B5:=Lh (zF (Below.refl _ _).drew b2 (Nat.le_refl _));clear b2;refine hK _ _ (B5.out) ?_;clear hK K;iterate 1
    refine zH (v := ?_) rfl rfl (λW hS => ?_) ?_;rotate_left
    ·first
      | (
       conv=>lhs;simp[go_sem,hki,EK]
       first|done|exact rfl)
      | (
       have hS:=hS rfl;obtain ⟨q1,q2⟩:=zM (HQ.out.keep hS);have d1:=keep hS c1;have d2:=keep hS c2;conv=>lhs;simp[go_sem, *,hki,EK]
       first|done|exact rfl)
    simp only[Act.put,lA,lZ,lS]
   refine zT ?_;replace HO:=Lh (HO.out.below B5.out);replace HQ:=Lh (HQ.out.keep B5.out);replace HR:=Lh (HR.out.keep B5.out);replace HB:=Lh (zF HB.out B5.out HB.out.size);clear c1 c2 B5 EK;cases t with
   | true =>
    have h3:=of_decide_eq_true HT.out.symm;have IK:Hid (O.idxOf (te,tb)=k):=Lh (IX.out (by rw[h3.1,h3.2]));clear h3;obtain ⟨f1,f2,f3⟩:=HR.out.at_;have F4:Hid (Own ((w2.setCell ⟨w.heap.size+1+1,0,none⟩ (.int .i64 ze)).setCell ⟨w.heap.size+1+1,1,none⟩ (.bool zb)) (w.heap.size+1+1) 42 #[.int .i64 ze,.bool zb]):=Lh (((HR.out.put 0 _).put 1 _).as (by simp));have FB:Hid (Below w.heap.size w ((w2.setCell ⟨w.heap.size+1+1,0,none⟩ (.int .i64 ze)).setCell ⟨w.heap.size+1+1,1,none⟩ (.bool zb))):=Lh ((HB.out.setCell (by show w.heap.size<=w.heap.size+1+1;omega) _).setCell (by show w.heap.size<=w.heap.size+1+1;omega) _);obtain ⟨k0,k1⟩:=zM F4.out;by_cases hk0:k=0
    ·subst hk0;obtain ⟨n1,hn1⟩:∃ n1,n=n1+1:=⟨n - 1,by omega⟩
     have hz:(ze,zb)=O[n1]'(by have:=HN.out;omega):=by
      rw[NXD.out,prv,IK.out,if_pos rfl];exact (Vw (by have:=HN.out;omega)).symm
     obtain ⟨y1,y2⟩:=yH HO.out (i:=n1) (by have:=HN.out;omega);rw[<- hz]at y1 y2;clear hz;simp only at y1 y2;subst hn1;have hwr:RowKit.wrap64 (n1:Int)=(n1:Int):=by unfold RowKit.wrap64;omega
     go_wp2;refine bodyPost_ret (by simp[results,Try.results21,go_sem,k0,k1]) rfl ⟨rfl,FB.out⟩
    obtain ⟨k9,hk9⟩:∃ k9,k=k9+1:=⟨k - 1,by omega⟩
    have hz:(ze,zb)=O[k9]'(by have:=HN.out;omega):=by
     have e9:k - 1=k9:=by omega
     rw[NXD.out,prv,IK.out,if_neg hk0,e9,List.getD_eq_getElem?_getD,List.getElem?_eq_getElem (by have:=HN.out;omega)];rfl
    obtain ⟨y1,y2⟩:=yH HO.out (i:=k9) (by have:=HN.out;omega);rw[<- hz]at y1 y2;clear hz;simp only at y1 y2;have hk0b:(((k:Nat):Int)==0)=false:=by simp;omega
    subst hk9;have hwr:RowKit.wrap64 (k9:Int)=(k9:Int):=by unfold RowKit.wrap64;omega
    have hki9:(k9:Int)<(n:Int):=by omega
    go_wp2;refine bodyPost_ret (by simp[results,Try.results21,go_sem,k0,k1]) rfl ⟨rfl,FB.out⟩
   | false =>
    have h3:=Lh (of_decide_eq_false HT.out.symm);have NK2:Hid (∀ m (hm:m<O.length),m<k+1->O[m]'hm≠(te,tb)):=Lh (NK.out λe=>h3.out ⟨congrArg Prod.fst e,congrArg Prod.snd e⟩);go_wp2;go_roundw
    case rel=>exact ⟨k+1,by omega,by go_num,NK2,HO,HQ,HR,HB⟩
    case measure=>simp[intOf]<;>omega
  exfalso;obtain ⟨m,hm,e⟩:=List.mem_iff_getElem.1 MM.out;exact hno.out m hm (by have:=HN.out;omega) e
end
end Go.Proofs.Ytibnackmddigaaa.Pl
