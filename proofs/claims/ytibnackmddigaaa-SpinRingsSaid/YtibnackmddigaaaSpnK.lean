import Derived.Test.YtibnackmddigaaaSpnJ
import Derived.Test.YtibnackmddigaaaPlnR
import Derived.Test.YtibnackmddigaaaTree
set_option linter.unusedVariables false
set_option linter.unusedSimpArgs false
set_option linter.unusedSectionVars false
namespace Go.Proofs.Ytibnackmddigaaa.Pl
open Go.ChangeShapes Go.WideShapes Go.ChangeAt Go.RowKit Go.Proofs.Ytibnackmddigaaa.Mp
section
variable {v e : Value} {vs : List Vx} {es : List Eg} {w : World}
set_option maxRecDepth 10000 in
set_option maxHeartbeats 1000000 in
theorem qA (hv:VIn w v vs) (he:EIn w e es) (hm:es.length<=100000) (h:Hf) (hh:h∈hfs es):Calls Try.prog 22 #[.agg #[v,e],hV h] w λr w'=>r=.returned (.int .i64 (frm es h))/\Below w.heap.size w w':=by
 obtain ⟨k,hk,hix,hfe⟩:=Xk (uR.1 hh);obtain ⟨a,c,rfl⟩:=hv.sl;have RE:=Lh (λ(W:World) (hW:Below w.heap.size w W)=>mT (.slice a vs.length c) e es h.1 W (TIn.below he hW) ⟨a,_,c,rfl⟩ hm);rw[hix]at RE;obtain ⟨a',c',rfl,hc1,hc2,-,hcl⟩:=he.open_;obtain ⟨b,o,rfl,hb,hc⟩:=hcl k hk;have FR:frm es h=if h.2 then (es[k]'hk).b else (es[k]'hk).a:=by unfold frm;rw[hfe]
 rw[FR];obtain ⟨x,hx⟩:∃ x,x=es[k]'hk:=⟨_,rfl⟩
 rw[<- hx]at hc ⊢;have HC:=Lh hc;clear hx hcl hc FR hix hfe hh hv he;obtain ⟨x1,x2,x3⟩:=x;obtain ⟨h1,h2⟩:=h;unfold hV;simp only at HC RE ⊢;have hki:(k:Int)<(es.length:Int):=by omega
 generalize vs.length=n at *
 generalize es.length=m at *
 obtain ⟨W0,hW0⟩:∃ W0,W0=(w.alloc (.cells #[.slice a n c,.slice (some ⟨b,o,none⟩) m c'] 25)).alloc (.cells #[.int .i64 h1,.bool h2] 42):=⟨_,rfl⟩
 have BB:Hid (Below w.heap.size w W0):=Lh (by rw[hW0];repeat' (first|(with_reducible exact Below.refl _ _)|(with_reducible assumption)|(with_reducible refine zX ?_ _)|(with_reducible refine Below.drew ?_)|(with_reducible refine Below.alloc ?_ ?_ _)|(with_reducible refine Below.setCell ?_ ?_ _)|(with_reducible refine zF ?_ zW ?_)|(with_reducible exact Nat.le_refl _)|(with_reducible exact Nat.le_succ _)|(with_reducible exact Nat.le_succ_of_le zW)|omega|(simp;done)|(simp;omega)|(exact Nat.le_succ _)|(exact Nat.le_succ_of_le zW)));have PO:Hid (Own W0 w.heap.size 25 #[.slice a n c,.slice (some ⟨b,o,none⟩) m c']):=Lh (by rw[hW0];exact (Own.made _ _ _).more _);have HO:Hid (Own W0 (w.heap.size+1) 42 #[.int .i64 h1,.bool h2]):=Lh (by rw[hW0];exact Own.made_at (by simp));have SF:Hid (∀ W,Below W0.heap.size W0 W->Below W0.heap.size W0 W):=Lh λW hW=>hW
 go_enter Try.func22,Try.ntmps22;go_upto_region 1 with fail;rw[<- hW0];clear hW0;have B1:Hid (Below W0.heap.size W0 W0.drew):=Lh (Below.refl _ _).drew;go_cut [5] (λs5 wx=>∃ g,s5=.pointer (some ⟨g,0,none⟩)/\Hid (Own wx g 71 #[.int .i64 x1,.int .i64 x2,.int .i64 x3])/\Hid (Below W0.heap.size W0 wx)/\W0.heap.size<=g)
 case first =>
  go_upto_region 1 with fail;refine xY (λW=>Below W0.heap.size W0 W) [0,1,2,3,4,6,7] [1,2,4,7] 10 (by kernel_rfl) rfl ?_;generalize hD_:W0.drew=Wd0 at B1 ⊢
  clear hD_;refine zI (i:=0) (v := ?_) rfl rfl (by kernel_rfl) (by kernel_rfl) (by kernel_rfl) rfl (λW hS => ?_) (SF.out _ B1.out) ?_;rotate_left
  ·conv=>lhs;simp[go_sem,hki]
   first|done|exact rfl
  simp only[Act.put,List.getElem_toArray,List.getElem_cons_zero,List.getElem_cons_succ,lA,lZ,lS];refine zI (i:=1) (v := ?_) rfl rfl (by kernel_rfl) (by kernel_rfl) (by kernel_rfl) rfl (λW hS => ?_) (SF.out _ B1.out) ?_;rotate_left
  ·have hS:=hS rfl;obtain ⟨g1,g2⟩:=zM (PO.out.keep hS);obtain ⟨g3,g4⟩:=zM (HO.out.keep hS);obtain ⟨y1,y2,y3⟩:=HC.out W (zF BB.out hS BB.out.size);conv=>lhs;simp[go_sem, *]
   first|done|exact rfl
  simp only[Act.put,List.getElem_toArray,List.getElem_cons_zero,List.getElem_cons_succ,lA,lZ,lS];refine zI (i:=2) (v := ?_) rfl rfl (by kernel_rfl) (by kernel_rfl) (by kernel_rfl) rfl (λW hS => ?_) (SF.out _ B1.out) ?_;rotate_left
  ·have hS:=hS rfl;obtain ⟨g1,g2⟩:=zM (PO.out.keep hS);obtain ⟨g3,g4⟩:=zM (HO.out.keep hS);obtain ⟨y1,y2,y3⟩:=HC.out W (zF BB.out hS BB.out.size);conv=>lhs;simp[go_sem, *]
   first|done|exact rfl
  simp only[Act.put,List.getElem_toArray,List.getElem_cons_zero,List.getElem_cons_succ,lA,lZ,lS];refine zI (i:=3) (v := ?_) rfl rfl (by kernel_rfl) (by kernel_rfl) (by kernel_rfl) rfl (λW hS => ?_) (SF.out _ B1.out) ?_;rotate_left
  ·conv=>lhs;simp[go_sem,hki]
   first|done|exact rfl
  simp only[Act.put,List.getElem_toArray,List.getElem_cons_zero,List.getElem_cons_succ,lA,lZ,lS];refine zI (i:=4) (v := ?_) rfl rfl (by kernel_rfl) (by kernel_rfl) (by kernel_rfl) rfl (λW hS => ?_) (SF.out _ B1.out) ?_;rotate_left
  ·have hS:=hS rfl;obtain ⟨g1,g2⟩:=zM (PO.out.keep hS);obtain ⟨g3,g4⟩:=zM (HO.out.keep hS);obtain ⟨y1,y2,y3⟩:=HC.out W (zF BB.out hS BB.out.size);conv=>lhs;simp[go_sem, *]
   first|done|exact rfl
  simp only[Act.put,List.getElem_toArray,List.getElem_cons_zero,List.getElem_cons_succ,lA,lZ,lS];refine yZ (i:=5) (k:=8) (by kernel_rfl) rfl rfl ?_ ?_
  ·refine ⟨_,rfl,λK hK => ?_⟩;go_wp2_with (go_at_call 20;refine (RE.out _ (zF BB.out B1.out BB.out.size)).mono ?_;rintro e wt1 ⟨rfl,bt1⟩;replace bt1:=Lh bt1)
   replace B1:=Lh (zF B1.out bt1.out B1.out.size);refine hK _ _ (SF.out _ B1.out) ?_;clear hK K;refine zI (i:=6) (v := ?_) rfl rfl (by kernel_rfl) (by kernel_rfl) (by kernel_rfl) rfl (λW hS => ?_) (SF.out _ B1.out) ?_;rotate_left
   ·conv=>lhs;simp[go_sem,hki]
    first|done|exact rfl
   simp only[Act.put,List.getElem_toArray,List.getElem_cons_zero,List.getElem_cons_succ,lA,lZ,lS];refine zI (i:=7) (v := ?_) rfl rfl (by kernel_rfl) (by kernel_rfl) (by kernel_rfl) rfl (λW hS => ?_) (SF.out _ B1.out) ?_;rotate_left
   ·have hS:=hS rfl;obtain ⟨g1,g2⟩:=zM (PO.out.keep hS);obtain ⟨g3,g4⟩:=zM (HO.out.keep hS);obtain ⟨y1,y2,y3⟩:=HC.out W (zF BB.out hS BB.out.size);conv=>lhs;simp[go_sem, *]
    first|done|exact rfl
   simp only[Act.put,List.getElem_toArray,List.getElem_cons_zero,List.getElem_cons_succ,lA,lZ,lS];refine zR (i:=8) (by kernel_rfl) rfl ?_;refine ⟨_,rfl,λK hK => ?_⟩;go_wp2;obtain ⟨wt2,hW⟩:∃ X,X=World.alloc wt1 (.cells #[.int .i64 0,.int .i64 0,.int .i64 0] 71):=⟨_,rfl⟩
   have bt2:Hid (Below (wt1).heap.size (wt1) wt2):=Lh (by rw[hW];exact bx1 _ _ _);have t5_:Hid (Own wt2 (wt1).heap.size 71 #[.int .i64 0,.int .i64 0,.int .i64 0]):=Lh (by rw[hW];exact Own.made _ _ _);have t5_lo:Hid (W0.heap.size<=(wt1).heap.size):=Lh B1.out.size;replace B1:=Lh (zF B1.out bt2.out B1.out.size);rw[<- hW];obtain ⟨gb_t5,hg_t5⟩:∃ g,g=(wt1).heap.size:=⟨_,rfl⟩
   rw[<- hg_t5]at t5_ t5_lo  ⊢;clear hW hg_t5;have t5:=t5_;refine hK _ _ (SF.out _ B1.out) ?_;clear hK K;refine zR (i:=9) (by kernel_rfl) rfl ?_;refine ⟨_,rfl,λK hK => ?_⟩;obtain ⟨fz1,fz2,fz3⟩:=t5.out.at_;go_wp2;clear fz1 fz2 fz3;have t5_f:Hid (Own (World.setCell (World.setCell (World.setCell wt2 ⟨gb_t5,0,none⟩ (.int .i64 x1)) ⟨gb_t5,1,none⟩ (.int .i64 x2)) ⟨gb_t5,2,none⟩ (.int .i64 x3)) gb_t5 71 #[.int .i64 x1,.int .i64 x2,.int .i64 x3]):=Lh ((((t5.out.put 0 _).put 1 _).put 2 _).as (by simp));have BF_:Hid (Below W0.heap.size W0 (World.setCell (World.setCell (World.setCell wt2 ⟨gb_t5,0,none⟩ (.int .i64 x1)) ⟨gb_t5,1,none⟩ (.int .i64 x2)) ⟨gb_t5,2,none⟩ (.int .i64 x3))):=Lh (Below.setCell (Below.setCell (Below.setCell B1.out (p:=⟨gb_t5,0,none⟩) (t5_lo.out) _) (p:=⟨gb_t5,1,none⟩) (t5_lo.out) _) (p:=⟨gb_t5,2,none⟩) (t5_lo.out) _);generalize hWF_:(World.setCell (World.setCell (World.setCell wt2 ⟨gb_t5,0,none⟩ (.int .i64 x1)) ⟨gb_t5,1,none⟩ (.int .i64 x2)) ⟨gb_t5,2,none⟩ (.int .i64 x3))=wt3 at t5_f BF_ ⊢
   clear hWF_;have BF:=BF_;refine hK _ _ (SF.out _ BF.out) ?_;clear hK K;refine yC (by kernel_rfl) ?_;go_wp2_with fail;go_meet;exact ⟨_,rfl,t5_f,BF,t5_lo.out⟩
  refine ⟨_,rfl,λK hK => ?_⟩;go_wp2;obtain ⟨wt4,hW⟩:∃ X,X=World.alloc Wd0 (.cells #[.int .i64 0,.int .i64 0,.int .i64 0] 71):=⟨_,rfl⟩
  have bt4:Hid (Below (Wd0).heap.size (Wd0) wt4):=Lh (by rw[hW];exact bx1 _ _ _);have t5_:Hid (Own wt4 (Wd0).heap.size 71 #[.int .i64 0,.int .i64 0,.int .i64 0]):=Lh (by rw[hW];exact Own.made _ _ _);have t5_lo:Hid (W0.heap.size<=(Wd0).heap.size):=Lh B1.out.size;replace B1:=Lh (zF B1.out bt4.out B1.out.size);rw[<- hW];obtain ⟨gb_t5,hg_t5⟩:∃ g,g=(Wd0).heap.size:=⟨_,rfl⟩
  rw[<- hg_t5]at t5_ t5_lo  ⊢;clear hW hg_t5;have t5:=t5_;refine hK _ _ (SF.out _ B1.out) ?_;clear hK K;refine zR (i:=5) (by kernel_rfl) rfl ?_;refine ⟨_,rfl,λK hK => ?_⟩;go_wp2_with (go_at_call 20;refine (RE.out _ (zF BB.out B1.out BB.out.size)).mono ?_;rintro e wt5 ⟨rfl,bt5⟩;replace bt5:=Lh bt5)
  replace B1:=Lh (zF B1.out bt5.out B1.out.size);replace t5:=Lh (t5.out.keep bt5.out);refine hK _ _ (SF.out _ B1.out) ?_;clear hK K;refine zI (i:=6) (v := ?_) rfl rfl (by kernel_rfl) (by kernel_rfl) (by kernel_rfl) rfl (λW hS => ?_) (SF.out _ B1.out) ?_;rotate_left
  ·conv=>lhs;simp[go_sem,hki]
   first|done|exact rfl
  simp only[Act.put,List.getElem_toArray,List.getElem_cons_zero,List.getElem_cons_succ,lA,lZ,lS];refine zI (i:=7) (v := ?_) rfl rfl (by kernel_rfl) (by kernel_rfl) (by kernel_rfl) rfl (λW hS => ?_) (SF.out _ B1.out) ?_;rotate_left
  ·have hS:=hS rfl;obtain ⟨g1,g2⟩:=zM (PO.out.keep hS);obtain ⟨g3,g4⟩:=zM (HO.out.keep hS);obtain ⟨y1,y2,y3⟩:=HC.out W (zF BB.out hS BB.out.size);conv=>lhs;simp[go_sem, *]
   first|done|exact rfl
  simp only[Act.put,List.getElem_toArray,List.getElem_cons_zero,List.getElem_cons_succ,lA,lZ,lS];refine zR (i:=9) (by kernel_rfl) rfl ?_;refine ⟨_,rfl,λK hK => ?_⟩;obtain ⟨fz1,fz2,fz3⟩:=t5.out.at_;go_wp2;clear fz1 fz2 fz3;have t5_f:Hid (Own (World.setCell (World.setCell (World.setCell wt5 ⟨gb_t5,0,none⟩ (.int .i64 x1)) ⟨gb_t5,1,none⟩ (.int .i64 x2)) ⟨gb_t5,2,none⟩ (.int .i64 x3)) gb_t5 71 #[.int .i64 x1,.int .i64 x2,.int .i64 x3]):=Lh ((((t5.out.put 0 _).put 1 _).put 2 _).as (by simp));have BF_:Hid (Below W0.heap.size W0 (World.setCell (World.setCell (World.setCell wt5 ⟨gb_t5,0,none⟩ (.int .i64 x1)) ⟨gb_t5,1,none⟩ (.int .i64 x2)) ⟨gb_t5,2,none⟩ (.int .i64 x3))):=Lh (Below.setCell (Below.setCell (Below.setCell B1.out (p:=⟨gb_t5,0,none⟩) (t5_lo.out) _) (p:=⟨gb_t5,1,none⟩) (t5_lo.out) _) (p:=⟨gb_t5,2,none⟩) (t5_lo.out) _);generalize hWF_:(World.setCell (World.setCell (World.setCell wt5 ⟨gb_t5,0,none⟩ (.int .i64 x1)) ⟨gb_t5,1,none⟩ (.int .i64 x2)) ⟨gb_t5,2,none⟩ (.int .i64 x3))=wt6 at t5_f BF_ ⊢
  clear hWF_;have BF:=BF_;refine hK _ _ (SF.out _ BF.out) ?_;clear hK K;refine yC (by kernel_rfl) ?_;go_wp2_with fail;go_meet;exact ⟨_,rfl,t5_f,BF,t5_lo.out⟩
 case rest =>
  obtain ⟨g,rfl,H5,BF,hlo⟩:=hcut;have HO2:=Lh (HO.out.keep BF.out);have HBF:=Lh (zF BB.out BF.out BB.out.size);clear BB PO HO SF B1 BF RE HC;obtain ⟨q1,q2⟩:=zM HO2.out;obtain ⟨g0,g1,g2⟩:=zK H5.out;cases h2 with
  | true =>
   go_wp2;go_ret;exact ⟨rfl,HBF.out⟩
  | false =>
   go_wp2;go_ret;exact ⟨rfl,HBF.out⟩
end
end Go.Proofs.Ytibnackmddigaaa.Pl
