import Derived.Test.YtibnackmddigaaaSpnE
set_option linter.unusedVariables false
set_option linter.unusedSimpArgs false
set_option linter.unusedSectionVars false
namespace Go.Proofs.Ytibnackmddigaaa.Pl
open Go.ChangeShapes Go.WideShapes Go.ChangeAt Go.RowKit Go.Proofs.Ytibnackmddigaaa.Mp
theorem Jf (w:World):(zeroValue 42).run Try.prog w=.ok (hV (0,false)) w:=by kernel_rfl
noncomputable def nxE (vs:List Vx) (es:List Eg) (h:Hf):Hf:=if h∈hfs (pes vs es) then nx (pvs vs es) (pes vs es) h else (0,false)
section
variable {v e : Value} {vs : List Vx} {es : List Eg} {w : World}
set_option maxRecDepth 10000 in
set_option maxHeartbeats 1000000 in
theorem zBb (hv:VIn w v vs) (he:EIn w e es) (hn:vs.length<=30000) (hm:es.length<=30000) (h:Hf):Calls Try.prog 15 #[.agg #[v,e],hV h] w λr w' =>
 r=.returned (.tuple #[hV (nxE vs es h),.bool (decide (h∈hfs (pes vs es)))])/\Below w.heap.size w w':=by
 have WV:=Lh (λ(W:World) (hW:Below w.heap.size w W)=>gI (TIn.below hv hW) (TIn.below he hW) hn hm);have FO:=Lh (λ(W:World) (B p:Nat) (Z:Nat->Prop) (h:Web W B p (wys (pvs vs es) (pes vs es)) Z)=>fU (pfl vs es).1 (pfl vs es).2 h (Nat.le_trans (Jt vs es) hm));have LKF:=Lh (λ(L:List (Hf × Value)) (hL:∀ h,(h∈hfs (pes vs es)->lkG L h=some (hV (nx (pvs vs es) (pes vs es) h)))/\(h∉hfs (pes vs es)->lkG L h=none)) (q:Nat) (W:World) (hq:yX W q hV L)=>show (Instr.lookup 74 (.map (some q)) (hV h) true).run Try.prog W=.ok (.tuple #[hV (nxE vs es h),.bool (decide (h∈hfs (pes vs es)))]) W from by
  have k:=hq.look (t:=74) Try.underlying74 vY (Jf W) h;rw[k];unfold nxE;by_cases m:h∈hfs (pes vs es)
  ·rw[(hL h).1 m,if_pos m,decide_eq_true m];rfl
  rw[(hL h).2 m,if_neg m,decide_eq_false m];rfl)
 obtain ⟨a,c,rfl⟩:=hv.sl;obtain ⟨a',c',rfl⟩:=he.sl;clear hv he;generalize nxE vs es h=A at *
 generalize decide (h∈hfs (pes vs es))=ok at *
 generalize vs.length=n at *
 generalize es.length=m at *
 obtain ⟨ne,nb⟩:=A;obtain ⟨he,hb⟩:=h;have hVe:∀ x:Hf,hV x=.agg #[.int .i64 x.1,.bool x.2]:=λ_=>rfl
 rw[hVe (he,hb),hVe (ne,nb)];have LKG:Hid (∀ (L:List (Hf × Value)),(∀ h,(h∈hfs (pes vs es)->lkG L h=some (hV (nx (pvs vs es) (pes vs es) h)))/\(h∉hfs (pes vs es)->lkG L h=none))->∀ (q:Nat) (W:World),yX W q hV L->(Instr.lookup 74 (.map (some q)) (.agg #[.int .i64 he,.bool hb]) true).run Try.prog W=.ok (.tuple #[.agg #[.int .i64 ne,.bool nb],.bool ok]) W):=LKF;clear LKF hVe;simp only;obtain ⟨W0,hW0⟩:∃ W0,W0=((w.alloc (.cells #[.slice a n c,.slice a' m c'] 30)).alloc (.cells #[.int .i64 he,.bool hb] 42)).alloc (.cells #[.int .i64 0,.bool false] 42):=⟨_,rfl⟩
 have BB:Hid (Below w.heap.size w W0):=Lh (by rw[hW0];repeat' (first|(with_reducible exact Below.refl _ _)|(with_reducible assumption)|(with_reducible refine zX ?_ _)|(with_reducible refine Below.drew ?_)|(with_reducible refine Below.alloc ?_ ?_ _)|(with_reducible refine Below.setCell ?_ ?_ _)|(with_reducible refine zF ?_ zW ?_)|(with_reducible exact Nat.le_refl _)|(with_reducible exact Nat.le_succ _)|(with_reducible exact Nat.le_succ_of_le zW)|omega|(simp;done)|(simp;omega)|(exact Nat.le_succ _)|(exact Nat.le_succ_of_le zW)));have PO:Hid (Own W0 w.heap.size 30 #[.slice a n c,.slice a' m c']):=Lh (by rw[hW0];exact ((Own.made w _ _).more _).more _);have HO:Hid (Own W0 (w.heap.size+1) 42 #[.int .i64 he,.bool hb]):=Lh (by rw[hW0];exact (Own.made_at (by simp)).more _);have R4:Hid (Own W0 (w.heap.size+1+1) 42 #[.int .i64 0,.bool false]):=Lh (by rw[hW0];exact Own.made_at (by simp));have SF:Hid (∀ W,Below W0.heap.size W0 W->Own W w.heap.size 30 #[.slice a n c,.slice a' m c']/\Own W (w.heap.size+1) 42 #[.int .i64 he,.bool hb]):=Lh λW hW=>⟨PO.out.keep hW,HO.out.keep hW⟩
 go_enter Try.func15,Try.ntmps15;go_upto_region 1 with fail;rw[<- hW0];clear hW0;have B1:Hid (Below W0.heap.size W0 W0.drew):=Lh (Below.refl _ _).drew;go_cut [6,7] (λs7 s8 wx=>∃ g,s7=.pointer (some ⟨g,0,none⟩)/\s8=.bool ok/\Hid (Own wx g 42 #[.int .i64 ne,.bool nb])/\Hid (Below W0.heap.size W0 wx)/\W0.heap.size<=g)
 case first =>
  go_upto_region 1 with fail;refine xY (λW=>Own W w.heap.size 30 #[.slice a n c,.slice a' m c']/\Own W (w.heap.size+1) 42 #[.int .i64 he,.bool hb]) [0,3,5,6,7,10] [0,3] 11 (by kernel_rfl) rfl ?_;generalize hD_:W0.drew=Wd0 at B1 ⊢
  clear hD_;refine zI (i:=0) (v := ?_) rfl rfl (by kernel_rfl) (by kernel_rfl) (by kernel_rfl) rfl (λW hS => ?_) (SF.out _ B1.out) ?_;rotate_left
  ·have hS:=hS rfl;obtain ⟨hp1,hp2⟩:=hS;obtain ⟨g1,g2⟩:=zM hp1;obtain ⟨g3,g4⟩:=zM hp2;conv=>lhs;simp[go_sem, *]
   first|done|exact rfl
  simp only[Act.put,List.getElem_toArray,List.getElem_cons_zero,List.getElem_cons_succ,lA,lZ,lS];refine zI (i:=3) (v := ?_) rfl rfl (by kernel_rfl) (by kernel_rfl) (by kernel_rfl) rfl (λW hS => ?_) (SF.out _ B1.out) ?_;rotate_left
  ·have hS:=hS rfl;obtain ⟨hp1,hp2⟩:=hS;obtain ⟨g1,g2⟩:=zM hp1;obtain ⟨g3,g4⟩:=zM hp2;conv=>lhs;simp[go_sem, *]
   first|done|exact rfl
  simp only[Act.put,List.getElem_toArray,List.getElem_cons_zero,List.getElem_cons_succ,lA,lZ,lS];refine yZ (i:=1) (k:=8) (by kernel_rfl) rfl rfl ?_ ?_
  ·refine ⟨_,rfl,λK hK => ?_⟩;go_wp2_with (go_at_call 35;refine (WV.out _ (zF BB.out B1.out BB.out.size)).mono ?_;rintro e wt1 ⟨p,Z,rfl,hw2,bt1⟩;replace bt1:=Lh bt1;have HW:=Lh hw2;clear hw2)
   replace B1:=Lh (zF B1.out bt1.out B1.out.size);refine hK _ _ (SF.out _ B1.out) ?_;clear hK K;refine yZ (i:=2) (k:=8) (by kernel_rfl) rfl rfl ?_ ?_
   ·refine ⟨_,rfl,λK hK => ?_⟩;go_wp2_with (go_at_call 36;refine (FO.out _ _ _ _ HW.out).mono ?_;rintro e wt2 ⟨mq,L,rfl,-,mw,fl,bt2⟩;replace bt2:=Lh bt2;have MW:=Lh mw;have LL:=Lh (LKG.out L fl mq);clear mw fl)
    replace B1:=Lh (zF B1.out bt2.out B1.out.size);replace HW:=Lh (HW.out.below bt2.out);refine hK _ _ (SF.out _ B1.out) ?_;clear hK K;refine yZ (i:=4) (k:=8) (by kernel_rfl) rfl rfl ?_ ?_
    ·refine ⟨_,rfl,λK hK => ?_⟩;have lk6:=LL.out _ MW.out;go_wp2;refine hK _ _ (SF.out _ B1.out) ?_;clear hK K;refine zI (i:=5) (v := ?_) rfl rfl (by kernel_rfl) (by kernel_rfl) (by kernel_rfl) rfl (λW hS => ?_) (SF.out _ B1.out) ?_;rotate_left
     ·conv=>lhs;simp[go_sem]
      first|done|exact rfl
     simp only[Act.put,List.getElem_toArray,List.getElem_cons_zero,List.getElem_cons_succ,lA,lZ,lS];refine zI (i:=6) (v := ?_) rfl rfl (by kernel_rfl) (by kernel_rfl) (by kernel_rfl) rfl (λW hS => ?_) (SF.out _ B1.out) ?_;rotate_left
     ·conv=>lhs;simp[go_sem]
      first|done|exact rfl
     simp only[Act.put,List.getElem_toArray,List.getElem_cons_zero,List.getElem_cons_succ,lA,lZ,lS];refine zI (i:=7) (v := ?_) rfl rfl (by kernel_rfl) (by kernel_rfl) (by kernel_rfl) rfl (λW hS => ?_) (SF.out _ B1.out) ?_;rotate_left
     ·conv=>lhs;simp[go_sem]
      first|done|exact rfl
     simp only[Act.put,List.getElem_toArray,List.getElem_cons_zero,List.getElem_cons_succ,lA,lZ,lS];refine zR (i:=8) (by kernel_rfl) rfl ?_;refine ⟨_,rfl,λK hK => ?_⟩;go_wp2;obtain ⟨wt4,hW⟩:∃ X,X=World.alloc wt2 (.cells #[.int .i64 0,.bool false] 42):=⟨_,rfl⟩
     have bt4:Hid (Below (wt2).heap.size (wt2) wt4):=Lh (by rw[hW];exact bx1 _ _ _);have t7_:Hid (Own wt4 (wt2).heap.size 42 #[.int .i64 0,.bool false]):=Lh (by rw[hW];exact Own.made _ _ _);have t7_lo:Hid (W0.heap.size<=(wt2).heap.size):=Lh B1.out.size;replace B1:=Lh (zF B1.out bt4.out B1.out.size);replace HW:=Lh (HW.out.below bt4.out);replace MW:=Lh (MW.out.keep (bt4.out.block _ MW.out.in_));rw[<- hW];obtain ⟨gb_t7,hg_t7⟩:∃ g,g=(wt2).heap.size:=⟨_,rfl⟩
     rw[<- hg_t7]at t7_ t7_lo  ⊢;clear hW hg_t7;have t7:=t7_;refine hK _ _ (SF.out _ B1.out) ?_;clear hK K;refine zR (i:=9) (by kernel_rfl) rfl ?_;refine ⟨_,rfl,λK hK => ?_⟩;obtain ⟨fz1,fz2,fz3⟩:=t7.out.at_;go_wp2;clear fz1 fz2 fz3;have t7_f:Hid (Own (World.setCell (World.setCell wt4 ⟨gb_t7,0,none⟩ (.int .i64 ne)) ⟨gb_t7,1,none⟩ (.bool nb)) gb_t7 42 #[.int .i64 ne,.bool nb]):=Lh (((t7.out.put 0 _).put 1 _).as (by simp));have BF_:Hid (Below W0.heap.size W0 (World.setCell (World.setCell wt4 ⟨gb_t7,0,none⟩ (.int .i64 ne)) ⟨gb_t7,1,none⟩ (.bool nb))):=Lh (Below.setCell (Below.setCell B1.out (p:=⟨gb_t7,0,none⟩) (t7_lo.out) _) (p:=⟨gb_t7,1,none⟩) (t7_lo.out) _);generalize hWF_:(World.setCell (World.setCell wt4 ⟨gb_t7,0,none⟩ (.int .i64 ne)) ⟨gb_t7,1,none⟩ (.bool nb))=wt5 at t7_f BF_ ⊢
     clear hWF_;have BF:=BF_;refine hK _ _ (SF.out _ BF.out) ?_;clear hK K;refine zI (i:=10) (v := ?_) rfl rfl (by kernel_rfl) (by kernel_rfl) (by kernel_rfl) rfl (λW hS => ?_) (SF.out _ BF.out) ?_;rotate_left
     ·conv=>lhs;simp[go_sem]
      first|done|exact rfl
     simp only[Act.put,List.getElem_toArray,List.getElem_cons_zero,List.getElem_cons_succ,lA,lZ,lS];refine yC (by kernel_rfl) ?_;go_wp2_with fail;go_meet;exact ⟨_,rfl,rfl,t7_f,BF,t7_lo.out⟩
    refine ⟨_,rfl,λK hK => ?_⟩;go_wp2;obtain ⟨wt6,hW⟩:∃ X,X=World.alloc wt2 (.cells #[.int .i64 0,.bool false] 42):=⟨_,rfl⟩
    have bt6:Hid (Below (wt2).heap.size (wt2) wt6):=Lh (by rw[hW];exact bx1 _ _ _);have t7_:Hid (Own wt6 (wt2).heap.size 42 #[.int .i64 0,.bool false]):=Lh (by rw[hW];exact Own.made _ _ _);have t7_lo:Hid (W0.heap.size<=(wt2).heap.size):=Lh B1.out.size;replace B1:=Lh (zF B1.out bt6.out B1.out.size);replace HW:=Lh (HW.out.below bt6.out);replace MW:=Lh (MW.out.keep (bt6.out.block _ MW.out.in_));rw[<- hW];obtain ⟨gb_t7,hg_t7⟩:∃ g,g=(wt2).heap.size:=⟨_,rfl⟩
    rw[<- hg_t7]at t7_ t7_lo  ⊢;clear hW hg_t7;have t7:=t7_;refine hK _ _ (SF.out _ B1.out) ?_;clear hK K;refine zR (i:=4) (by kernel_rfl) rfl ?_;refine ⟨_,rfl,λK hK => ?_⟩;have lk6:=LL.out _ MW.out;go_wp2;refine hK _ _ (SF.out _ B1.out) ?_;clear hK K;refine zI (i:=5) (v := ?_) rfl rfl (by kernel_rfl) (by kernel_rfl) (by kernel_rfl) rfl (λW hS => ?_) (SF.out _ B1.out) ?_;rotate_left
    ·conv=>lhs;simp[go_sem]
     first|done|exact rfl
    simp only[Act.put,List.getElem_toArray,List.getElem_cons_zero,List.getElem_cons_succ,lA,lZ,lS];refine zI (i:=6) (v := ?_) rfl rfl (by kernel_rfl) (by kernel_rfl) (by kernel_rfl) rfl (λW hS => ?_) (SF.out _ B1.out) ?_;rotate_left
    ·conv=>lhs;simp[go_sem]
     first|done|exact rfl
    simp only[Act.put,List.getElem_toArray,List.getElem_cons_zero,List.getElem_cons_succ,lA,lZ,lS];refine zI (i:=7) (v := ?_) rfl rfl (by kernel_rfl) (by kernel_rfl) (by kernel_rfl) rfl (λW hS => ?_) (SF.out _ B1.out) ?_;rotate_left
    ·conv=>lhs;simp[go_sem]
     first|done|exact rfl
    simp only[Act.put,List.getElem_toArray,List.getElem_cons_zero,List.getElem_cons_succ,lA,lZ,lS];refine zR (i:=9) (by kernel_rfl) rfl ?_;refine ⟨_,rfl,λK hK => ?_⟩;obtain ⟨fz1,fz2,fz3⟩:=t7.out.at_;go_wp2;clear fz1 fz2 fz3;have t7_f:Hid (Own (World.setCell (World.setCell wt6 ⟨gb_t7,0,none⟩ (.int .i64 ne)) ⟨gb_t7,1,none⟩ (.bool nb)) gb_t7 42 #[.int .i64 ne,.bool nb]):=Lh (((t7.out.put 0 _).put 1 _).as (by simp));have BF_:Hid (Below W0.heap.size W0 (World.setCell (World.setCell wt6 ⟨gb_t7,0,none⟩ (.int .i64 ne)) ⟨gb_t7,1,none⟩ (.bool nb))):=Lh (Below.setCell (Below.setCell B1.out (p:=⟨gb_t7,0,none⟩) (t7_lo.out) _) (p:=⟨gb_t7,1,none⟩) (t7_lo.out) _);generalize hWF_:(World.setCell (World.setCell wt6 ⟨gb_t7,0,none⟩ (.int .i64 ne)) ⟨gb_t7,1,none⟩ (.bool nb))=wt8 at t7_f BF_ ⊢
    clear hWF_;have BF:=BF_;refine hK _ _ (SF.out _ BF.out) ?_;clear hK K;refine zI (i:=10) (v := ?_) rfl rfl (by kernel_rfl) (by kernel_rfl) (by kernel_rfl) rfl (λW hS => ?_) (SF.out _ BF.out) ?_;rotate_left
    ·conv=>lhs;simp[go_sem]
     first|done|exact rfl
    simp only[Act.put,List.getElem_toArray,List.getElem_cons_zero,List.getElem_cons_succ,lA,lZ,lS];refine yC (by kernel_rfl) ?_;go_wp2_with fail;go_meet;exact ⟨_,rfl,rfl,t7_f,BF,t7_lo.out⟩
   refine ⟨_,rfl,λK hK => ?_⟩;go_wp2;obtain ⟨wt9,hW⟩:∃ X,X=World.alloc wt1 (.cells #[.int .i64 0,.bool false] 42):=⟨_,rfl⟩
   have bt9:Hid (Below (wt1).heap.size (wt1) wt9):=Lh (by rw[hW];exact bx1 _ _ _);have t7_:Hid (Own wt9 (wt1).heap.size 42 #[.int .i64 0,.bool false]):=Lh (by rw[hW];exact Own.made _ _ _);have t7_lo:Hid (W0.heap.size<=(wt1).heap.size):=Lh B1.out.size;replace B1:=Lh (zF B1.out bt9.out B1.out.size);replace HW:=Lh (HW.out.below bt9.out);rw[<- hW];obtain ⟨gb_t7,hg_t7⟩:∃ g,g=(wt1).heap.size:=⟨_,rfl⟩
   rw[<- hg_t7]at t7_ t7_lo  ⊢;clear hW hg_t7;have t7:=t7_;refine hK _ _ (SF.out _ B1.out) ?_;clear hK K;refine zR (i:=2) (by kernel_rfl) rfl ?_;refine ⟨_,rfl,λK hK => ?_⟩;go_wp2_with (go_at_call 36;refine (FO.out _ _ _ _ HW.out).mono ?_;rintro e wt10 ⟨mq,L,rfl,-,mw,fl,bt10⟩;replace bt10:=Lh bt10;have MW:=Lh mw;have LL:=Lh (LKG.out L fl mq);clear mw fl)
   replace B1:=Lh (zF B1.out bt10.out B1.out.size);replace HW:=Lh (HW.out.below bt10.out);replace t7:=Lh (t7.out.keep bt10.out);refine hK _ _ (SF.out _ B1.out) ?_;clear hK K;refine zR (i:=4) (by kernel_rfl) rfl ?_;refine ⟨_,rfl,λK hK => ?_⟩;have lk6:=LL.out _ MW.out;go_wp2;refine hK _ _ (SF.out _ B1.out) ?_;clear hK K;refine zI (i:=5) (v := ?_) rfl rfl (by kernel_rfl) (by kernel_rfl) (by kernel_rfl) rfl (λW hS => ?_) (SF.out _ B1.out) ?_;rotate_left
   ·conv=>lhs;simp[go_sem]
    first|done|exact rfl
   simp only[Act.put,List.getElem_toArray,List.getElem_cons_zero,List.getElem_cons_succ,lA,lZ,lS];refine zI (i:=6) (v := ?_) rfl rfl (by kernel_rfl) (by kernel_rfl) (by kernel_rfl) rfl (λW hS => ?_) (SF.out _ B1.out) ?_;rotate_left
   ·conv=>lhs;simp[go_sem]
    first|done|exact rfl
   simp only[Act.put,List.getElem_toArray,List.getElem_cons_zero,List.getElem_cons_succ,lA,lZ,lS];refine zI (i:=7) (v := ?_) rfl rfl (by kernel_rfl) (by kernel_rfl) (by kernel_rfl) rfl (λW hS => ?_) (SF.out _ B1.out) ?_;rotate_left
   ·conv=>lhs;simp[go_sem]
    first|done|exact rfl
   simp only[Act.put,List.getElem_toArray,List.getElem_cons_zero,List.getElem_cons_succ,lA,lZ,lS];refine zR (i:=9) (by kernel_rfl) rfl ?_;refine ⟨_,rfl,λK hK => ?_⟩;obtain ⟨fz1,fz2,fz3⟩:=t7.out.at_;go_wp2;clear fz1 fz2 fz3;have t7_f:Hid (Own (World.setCell (World.setCell wt10 ⟨gb_t7,0,none⟩ (.int .i64 ne)) ⟨gb_t7,1,none⟩ (.bool nb)) gb_t7 42 #[.int .i64 ne,.bool nb]):=Lh (((t7.out.put 0 _).put 1 _).as (by simp));have BF_:Hid (Below W0.heap.size W0 (World.setCell (World.setCell wt10 ⟨gb_t7,0,none⟩ (.int .i64 ne)) ⟨gb_t7,1,none⟩ (.bool nb))):=Lh (Below.setCell (Below.setCell B1.out (p:=⟨gb_t7,0,none⟩) (t7_lo.out) _) (p:=⟨gb_t7,1,none⟩) (t7_lo.out) _);generalize hWF_:(World.setCell (World.setCell wt10 ⟨gb_t7,0,none⟩ (.int .i64 ne)) ⟨gb_t7,1,none⟩ (.bool nb))=wt12 at t7_f BF_ ⊢
   clear hWF_;have BF:=BF_;refine hK _ _ (SF.out _ BF.out) ?_;clear hK K;refine zI (i:=10) (v := ?_) rfl rfl (by kernel_rfl) (by kernel_rfl) (by kernel_rfl) rfl (λW hS => ?_) (SF.out _ BF.out) ?_;rotate_left
   ·conv=>lhs;simp[go_sem]
    first|done|exact rfl
   simp only[Act.put,List.getElem_toArray,List.getElem_cons_zero,List.getElem_cons_succ,lA,lZ,lS];refine yC (by kernel_rfl) ?_;go_wp2_with fail;go_meet;exact ⟨_,rfl,rfl,t7_f,BF,t7_lo.out⟩
  refine ⟨_,rfl,λK hK => ?_⟩;go_wp2;obtain ⟨wt13,hW⟩:∃ X,X=World.alloc Wd0 (.cells #[.int .i64 0,.bool false] 42):=⟨_,rfl⟩
  have bt13:Hid (Below (Wd0).heap.size (Wd0) wt13):=Lh (by rw[hW];exact bx1 _ _ _);have t7_:Hid (Own wt13 (Wd0).heap.size 42 #[.int .i64 0,.bool false]):=Lh (by rw[hW];exact Own.made _ _ _);have t7_lo:Hid (W0.heap.size<=(Wd0).heap.size):=Lh B1.out.size;replace B1:=Lh (zF B1.out bt13.out B1.out.size);rw[<- hW];obtain ⟨gb_t7,hg_t7⟩:∃ g,g=(Wd0).heap.size:=⟨_,rfl⟩
  rw[<- hg_t7]at t7_ t7_lo  ⊢;clear hW hg_t7;have t7:=t7_;refine hK _ _ (SF.out _ B1.out) ?_;clear hK K;refine zR (i:=1) (by kernel_rfl) rfl ?_;refine ⟨_,rfl,λK hK => ?_⟩;go_wp2_with (go_at_call 35;refine (WV.out _ (zF BB.out B1.out BB.out.size)).mono ?_;rintro e wt14 ⟨p,Z,rfl,hw2,bt14⟩;replace bt14:=Lh bt14;have HW:=Lh hw2;clear hw2)
  replace B1:=Lh (zF B1.out bt14.out B1.out.size);replace t7:=Lh (t7.out.keep bt14.out);refine hK _ _ (SF.out _ B1.out) ?_;clear hK K;refine zR (i:=2) (by kernel_rfl) rfl ?_;refine ⟨_,rfl,λK hK => ?_⟩;go_wp2_with (go_at_call 36;refine (FO.out _ _ _ _ HW.out).mono ?_;rintro e wt15 ⟨mq,L,rfl,-,mw,fl,bt15⟩;replace bt15:=Lh bt15;have MW:=Lh mw;have LL:=Lh (LKG.out L fl mq);clear mw fl)
  replace B1:=Lh (zF B1.out bt15.out B1.out.size);replace t7:=Lh (t7.out.keep bt15.out);replace HW:=Lh (HW.out.below bt15.out);refine hK _ _ (SF.out _ B1.out) ?_;clear hK K;refine zR (i:=4) (by kernel_rfl) rfl ?_;refine ⟨_,rfl,λK hK => ?_⟩;have lk6:=LL.out _ MW.out;go_wp2;refine hK _ _ (SF.out _ B1.out) ?_;clear hK K;refine zI (i:=5) (v := ?_) rfl rfl (by kernel_rfl) (by kernel_rfl) (by kernel_rfl) rfl (λW hS => ?_) (SF.out _ B1.out) ?_;rotate_left
  ·conv=>lhs;simp[go_sem]
   first|done|exact rfl
  simp only[Act.put,List.getElem_toArray,List.getElem_cons_zero,List.getElem_cons_succ,lA,lZ,lS];refine zI (i:=6) (v := ?_) rfl rfl (by kernel_rfl) (by kernel_rfl) (by kernel_rfl) rfl (λW hS => ?_) (SF.out _ B1.out) ?_;rotate_left
  ·conv=>lhs;simp[go_sem]
   first|done|exact rfl
  simp only[Act.put,List.getElem_toArray,List.getElem_cons_zero,List.getElem_cons_succ,lA,lZ,lS];refine zI (i:=7) (v := ?_) rfl rfl (by kernel_rfl) (by kernel_rfl) (by kernel_rfl) rfl (λW hS => ?_) (SF.out _ B1.out) ?_;rotate_left
  ·conv=>lhs;simp[go_sem]
   first|done|exact rfl
  simp only[Act.put,List.getElem_toArray,List.getElem_cons_zero,List.getElem_cons_succ,lA,lZ,lS];refine zR (i:=9) (by kernel_rfl) rfl ?_;refine ⟨_,rfl,λK hK => ?_⟩;obtain ⟨fz1,fz2,fz3⟩:=t7.out.at_;go_wp2;clear fz1 fz2 fz3;have t7_f:Hid (Own (World.setCell (World.setCell wt15 ⟨gb_t7,0,none⟩ (.int .i64 ne)) ⟨gb_t7,1,none⟩ (.bool nb)) gb_t7 42 #[.int .i64 ne,.bool nb]):=Lh (((t7.out.put 0 _).put 1 _).as (by simp));have BF_:Hid (Below W0.heap.size W0 (World.setCell (World.setCell wt15 ⟨gb_t7,0,none⟩ (.int .i64 ne)) ⟨gb_t7,1,none⟩ (.bool nb))):=Lh (Below.setCell (Below.setCell B1.out (p:=⟨gb_t7,0,none⟩) (t7_lo.out) _) (p:=⟨gb_t7,1,none⟩) (t7_lo.out) _);generalize hWF_:(World.setCell (World.setCell wt15 ⟨gb_t7,0,none⟩ (.int .i64 ne)) ⟨gb_t7,1,none⟩ (.bool nb))=wt17 at t7_f BF_ ⊢
  clear hWF_;have BF:=BF_;refine hK _ _ (SF.out _ BF.out) ?_;clear hK K;refine zI (i:=10) (v := ?_) rfl rfl (by kernel_rfl) (by kernel_rfl) (by kernel_rfl) rfl (λW hS => ?_) (SF.out _ BF.out) ?_;rotate_left
  ·conv=>lhs;simp[go_sem]
   first|done|exact rfl
  simp only[Act.put,List.getElem_toArray,List.getElem_cons_zero,List.getElem_cons_succ,lA,lZ,lS];refine yC (by kernel_rfl) ?_;go_wp2_with fail;go_meet;exact ⟨_,rfl,rfl,t7_f,BF,t7_lo.out⟩
 case rest =>
  obtain ⟨g,rfl,rfl,H7,BF,hlo⟩:=hcut;have A4:=Lh (R4.out.keep BF.out);have HBF:=Lh (zF BB.out BF.out BB.out.size);clear BB PO HO R4 SF B1 BF LKG WV FO;obtain ⟨a1,a2,a3⟩:=A4.out.at_;obtain ⟨b1,b2⟩:=zM H7.out;have F4:Hid (Own ((wc.setCell ⟨w.heap.size+1+1,0,none⟩ (.int .i64 ne)).setCell ⟨w.heap.size+1+1,1,none⟩ (.bool nb)) (w.heap.size+1+1) 42 #[.int .i64 ne,.bool nb]):=Lh (((A4.out.put 0 _).put 1 _).as (by simp));have FB:Hid (Below w.heap.size w ((wc.setCell ⟨w.heap.size+1+1,0,none⟩ (.int .i64 ne)).setCell ⟨w.heap.size+1+1,1,none⟩ (.bool nb))):=Lh ((HBF.out.setCell (by show w.heap.size<=w.heap.size+1+1;omega) _).setCell (by show w.heap.size<=w.heap.size+1+1;omega) _);obtain ⟨k0,k1⟩:=zM F4.out;go_wp2;refine bodyPost_ret (by simp[results,Try.results15,go_sem,k0,k1]) rfl ⟨rfl,FB.out⟩
end
end Go.Proofs.Ytibnackmddigaaa.Pl
