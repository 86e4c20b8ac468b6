/- THE LAW SpinNext: what follows any half of any plan, and its ends, are the document's. No condition: whatever the plan and the half are. -/
import Derived.Test.YtibnackmddigaaaRows
import Derived.Test.YtibnackmddigaaaWideA
import Derived.Test.YtibnackmddigaaaSpnU
import Derived.Test.YtibnackmddigaaaSpnJ
import Derived.Test.YtibnackmddigaaaSpnAct
import Derived.Test.YtibnackmddigaaaPlnU
import Derived.Test.YtibnackmddigaaaTree
import Derived.WalkKit
import Derived.ProofKit
import Derived.OpenShut
import Derived.ShutString
import Derived.ChangeOld
import Derived.Below
import Derived.SliceStrings
namespace Go.Proofs.Ytibnackmddigaaa.spinNext
open Go.ChangeShapes Go.WideShapes Go.ChangeAt Go.RowKit
open Go.ChangeMaps (open_string shut_string)
set_option linter.unusedVariables false
set_option linter.unusedSimpArgs false
open Pl
set_option maxRecDepth 10000
set_option maxHeartbeats 8000000
theorem eqh0 (w : World) : (Op.equalIn 10000 42 (.agg #[.int .i64 0, .bool false]) (.agg #[.int .i64 0, .bool false])).run Try.prog w = .ok true w := by
  have := jV 0 0 false false w
  rwa [decide_eq_true ⟨rfl, rfl⟩] at this
theorem eq_Vx (a1 a2 a3 : Int) (w : World) : (Op.equalIn 10000 39 (.agg #[.int .i64 a1, .int .i64 a2, .int .i64 a3]) (.agg #[.int .i64 a1, .int .i64 a2, .int .i64 a3])).run Try.prog w = .ok true w := by
  have u3 := Try.underlying3
  have a3' := Try.isAgg3
  have z3 := Try.sizeOf3
  have a4 := Try.isAgg37
  have z4 := Try.sizeOf37
  rw [show (10000 : Nat) = 9999 + 1 from rfl, run_equalIn_struct w 9999 39 _ _ (by simp [Program.fieldsOf, Try.underlying39]) (by kernel_rfl)]
  simp only [Program.fieldsOf, Try.underlying39]
  simp [Op.eqFields, go_sem, part, u3, a3', z3, a4, z4]
theorem eqv0 (w : World) : (Op.equalIn 10000 39 (.agg #[.int .i64 0, .int .i64 0, .int .i64 0]) (.agg #[.int .i64 0, .int .i64 0, .int .i64 0])).run Try.prog w = .ok true w := eq_Vx 0 0 0 w
theorem vx_eq {vs : List Vx} {i : Int} (h : yJ vs i = true) : vx vs i = ⟨i, px vs i, py vs i⟩ := by
  have a := Zj h
  obtain ⟨b, c⟩ := fX vs i
  generalize vx vs i = v at *
  obtain ⟨p, q, r⟩ := v
  simp only at a b c
  rw [a, b, c]
theorem own : ownKnob Try.prog.godebug = none := by kernel_rfl
theorem laidOut : laidOutB Try.prog = true := by kernel_rfl
theorem walk (v e:Value) (vs:List Pl.Vx) (es:List Pl.Eg) (h1':Pl.Hf) (w:World) (hv:Pl.VIn w v vs) (he:Pl.EIn w e es) (w1:(Lit.int .i64 h1'.1).wf=true) :
 Calls Try.prog 5 #[.agg #[v,e],.agg #[.int .i64 h1'.1,.bool h1'.2]] w λe w'=>e=.returned (.bool true)∧Below w.heap.size w w':=by
 have FW:=Lh (λ(W:World) (hW:Below w.heap.size w W)=>Qr (TIn.below hv hW) (TIn.below he hW));have PL:=Lh (λ(W:World) (hW:Below w.heap.size w W)=>mE (TIn.below hv hW) (TIn.below he hW));have AW:=Lh fO;cases hf:Ye vs es with
 | false =>
  rw[hf]at FW;obtain ⟨a,c,rfl⟩:=hv.sl;obtain ⟨a',c',rfl⟩:=he.sl;clear hf hv he PL;generalize vs.length=n at *
  generalize es.length=m at *
  have BB:Hid (Below w.heap.size w ((w.alloc (.cells #[.slice a n c,.slice a' m c'] 25)).alloc (.cells #[.int .i64 h1'.1,.bool h1'.2] 42))):=Lh (by repeat' (first|(with_reducible exact Below.refl _ _)|(with_reducible assumption)|(with_reducible refine zX ?_ _)|(with_reducible refine Below.drew ?_)|(with_reducible refine Below.alloc ?_ ?_ _)|(with_reducible refine Below.setCell ?_ ?_ _)|(with_reducible refine zF ?_ (by with_reducible assumption) ?_)|(with_reducible exact Nat.le_refl _)|(with_reducible exact Nat.le_succ _)|(with_reducible exact Nat.le_succ_of_le (by with_reducible assumption))|omega|(simp;done)|(simp;omega)|(exact Nat.le_succ _)|(exact Nat.le_succ_of_le (by with_reducible assumption))));have PO:Hid (Own ((w.alloc (.cells #[.slice a n c,.slice a' m c'] 25)).alloc (.cells #[.int .i64 h1'.1,.bool h1'.2] 42)) w.heap.size 25 #[.slice a n c,.slice a' m c']):=Lh ((Own.made _ _ _).more _);obtain ⟨p1,p2⟩:=zM PO.out;go_enter Try.func5,Try.ntmps5;go_wp2_with (first
   | (go_at_call 8;refine (AW.out _).mono ?_;rintro e w3 ⟨rfl,b3⟩;have B3:=Lh (zF B2.out b3 B2.out.size);clear b3)
   | (go_at_call 9;refine (FW.out _ BB.out).mono ?_;rintro e w2 ⟨rfl,b2⟩;have B2:=Lh (zF BB.out b2 BB.out.size);clear b2))
  go_ret;exact ⟨rfl,B3.out⟩
 | true =>
  obtain ⟨n40,m40⟩:=Qs hf;rw[hf]at FW;have NX:=Lh (λ(W:World) (hW:Below w.heap.size w W)=>zBb (TIn.below hv hW) (TIn.below he hW) (by omega) (by omega) h1');have EN:=Lh (λ(W:World) (hW:Below w.heap.size w W)=>zBa (TIn.below hv hW) (TIn.below he hW) (by omega) (by omega) h1');have RR:=Lh (λ(W:World) (hW:Below w.heap.size w W)=>mC (TIn.below hv hW) (TIn.below he hW) (by omega) (by omega));have RE:=Lh (λ(W:World) (hW:Below w.heap.size w W)=>mT v e es h1'.1 W (TIn.below he hW) (by obtain ⟨a,c,h⟩:=hv.sl;exact ⟨_,_,_,h⟩) (by omega));have RT:=Lh (λ(W:World)=>gG h1' W);have DD:Hid ((decide (h1'∈hfs (pes vs es))=false∧(nxE vs es h1').1=0∧(nxE vs es h1').2=false∧(enA vs es h1').id=0∧(enA vs es h1').x=0∧(enA vs es h1').y=0∧(enB vs es h1').id=0∧(enB vs es h1').x=0∧(enB vs es h1').y=0∧(rtB vs es=false∨rtB vs es=true∧eIx es h1'.1 = -1))∨(decide (h1'∈hfs (pes vs es))=true∧rtB vs es=true∧¬ eIx es h1'.1<0∧(∀ W,Below w.heap.size w W→Calls Try.prog 21 #[.agg #[v,e],hV h1'] W λr w'=>r=.returned (hV (nxE vs es h1'))∧Below W.heap.size W w')∧(∀ W,Below w.heap.size w W→Calls Try.prog 22 #[.agg #[v,e],hV h1'] W λr w'=>r=.returned (.int .i64 (enA vs es h1').id)∧Below W.heap.size W w')∧(∀ W,Below w.heap.size w W→Calls Try.prog 22 #[.agg #[v,e],hV (tw h1')] W λr w'=>r=.returned (.int .i64 (enB vs es h1').id)∧Below W.heap.size W w')∧(∀ W,Below w.heap.size w W→Calls Try.prog 24 #[.agg #[v,e],.int .i64 (enA vs es h1').id] W λr w'=>r=.returned (.agg #[.int .i64 (enA vs es h1').x,.int .i64 (enA vs es h1').y])∧Below W.heap.size W w')∧(∀ W,Below w.heap.size w W→Calls Try.prog 24 #[.agg #[v,e],.int .i64 (enB vs es h1').id] W λr w'=>r=.returned (.agg #[.int .i64 (enB vs es h1').x,.int .i64 (enB vs es h1').y])∧Below W.heap.size W w'))):=by
   by_cases hh:h1'∈hfs (pes vs es)
   ·obtain ⟨hr,hE⟩:Rt vs es∧Ju es h1'.1=true:=by
     by_cases hr:Rt vs es
     ·rw[(xM hr).2]at hh;exact ⟨hr,uR.1 hh⟩
     rw[(qG hr).2]at hh;simp[hfs]at hh
    have hq:h1'∈hfs es:=uR.2 hE;have hq2:tw h1'∈hfs es:=uR.2 hE;obtain ⟨fv,fe⟩:=uE.1 hr;have i1:yJ vs (frm es h1')=true:=(vC fe hq).1;have i2:yJ vs (frm es (tw h1'))=true:=(vC fe hq).2.1;have z1:nxE vs es h1'=nx vs es h1':=by unfold nxE;rw[if_pos hh,(xM hr).1,(xM hr).2]
    have z2:enA vs es h1'=⟨frm es h1',px vs (frm es h1'),py vs (frm es h1')⟩:=by unfold enA;rw[if_pos hh,(xM hr).1,(xM hr).2];exact vx_eq i1
    have z3:enB vs es h1'=⟨frm es (tw h1'),px vs (frm es (tw h1')),py vs (frm es (tw h1'))⟩:=by unfold enB;rw[if_pos hh,(xM hr).1,(xM hr).2];exact vx_eq i2
    have K0:¬ eIx es h1'.1<0:=by
     obtain ⟨k,-,h,-⟩:=Xk hE;omega
    refine Lh (.inr ⟨decide_eq_true hh,uG.2 hr,K0,?_,?_,?_,?_,?_⟩)
    ·rw[z1];exact λW hW=>Jd (TIn.below hv hW) (TIn.below he hW) fv fe (by omega) (by omega) h1' hq
    ·rw[z2];exact λW hW=>qA (TIn.below hv hW) (TIn.below he hW) (by omega) h1' hq
    ·rw[z3];exact λW hW=>qA (TIn.below hv hW) (TIn.below he hW) (by omega) (tw h1') hq2
    ·rw[z2];exact λW hW=>fL v e vs (frm es h1') W (TIn.below hv hW) (by obtain ⟨a,c,h⟩:=he.sl;exact ⟨_,_,_,h⟩) (by omega) i1
    rw[z3];exact λW hW=>fL v e vs (frm es (tw h1')) W (TIn.below hv hW) (by obtain ⟨a,c,h⟩:=he.sl;exact ⟨_,_,_,h⟩) (by omega) i2
   have z1:nxE vs es h1'=(0,false):=by unfold nxE;rw[if_neg hh]
   have z2:enA vs es h1'=⟨0,0,0⟩:=by unfold enA;rw[if_neg hh]
   have z3:enB vs es h1'=⟨0,0,0⟩:=by unfold enB;rw[if_neg hh]
   refine Lh (.inl ?_);rw[z1,z2,z3];refine ⟨decide_eq_false hh,rfl,rfl,rfl,rfl,rfl,rfl,rfl,rfl,?_⟩;by_cases hr:Rt vs es
   ·refine .inr ⟨uG.2 hr,zDe ?_⟩;rw[(xM hr).2,uR]at hh;simpa using hh
   exact .inl (jZ hr)
  obtain ⟨a,c,rfl⟩:=hv.sl;obtain ⟨a',c',rfl⟩:=he.sl;clear hf hv he n40 m40;generalize decide (h1'∈hfs (pes vs es))=ok at *
  generalize rtB vs es=rt at *
  generalize eIx es h1'.1=kz at *
  generalize nxE vs es h1'=nn at *
  generalize enA vs es h1'=A1 at *
  generalize enB vs es h1'=A2 at *
  generalize tw h1'=th at *
  generalize vs.length=n at *
  generalize es.length=m at *
  obtain ⟨te,tb⟩:=th;obtain ⟨ne,nb⟩:=nn;obtain ⟨ui,ux,uy⟩:=A1;obtain ⟨qi,qx,qy⟩:=A2;obtain ⟨he,hb⟩:=h1';unfold hV at NX EN DD RT;simp only at NX EN RE DD RT ⊢;obtain ⟨W0,hW0⟩:∃ W0,W0=(w.alloc (.cells #[.slice a n c,.slice a' m c'] 25)).alloc (.cells #[.int .i64 he,.bool hb] 42):=⟨_,rfl⟩
  have BB:Hid (Below w.heap.size w W0):=Lh (by rw[hW0];repeat' (first|(with_reducible exact Below.refl _ _)|(with_reducible assumption)|(with_reducible refine zX ?_ _)|(with_reducible refine Below.drew ?_)|(with_reducible refine Below.alloc ?_ ?_ _)|(with_reducible refine Below.setCell ?_ ?_ _)|(with_reducible refine zF ?_ (by with_reducible assumption) ?_)|(with_reducible exact Nat.le_refl _)|(with_reducible exact Nat.le_succ _)|(with_reducible exact Nat.le_succ_of_le (by with_reducible assumption))|omega|(simp;done)|(simp;omega)|(exact Nat.le_succ _)|(exact Nat.le_succ_of_le (by with_reducible assumption))));have PO:Hid (Own W0 w.heap.size 25 #[.slice a n c,.slice a' m c']):=Lh (by rw[hW0];exact (Own.made _ _ _).more _);have HO:Hid (Own W0 (w.heap.size+1) 42 #[.int .i64 he,.bool hb]):=Lh (by rw[hW0];exact Own.made_at (by simp));go_enter Try.func5,Try.ntmps5;go_upto_region 1 with fail;rw[← hW0];clear hW0;obtain ⟨p1,p2⟩:=zM PO.out;go_upto_region 3 with (go_at_call 9;refine (FW.out _ BB.out).mono ?_;rintro e w2 ⟨rfl,b2⟩;have B2:=Lh (zF BB.out b2 BB.out.size);have P2:=Lh (PO.out.keep b2);have H2:=Lh (HO.out.keep b2);clear b2)
  clear p1 p2 BB PO HO FW;have SF:Hid (∀ W,Below w2.heap.size w2 W→Own W w.heap.size 25 #[.slice a n c,.slice a' m c']∧Own W (w.heap.size+1) 42 #[.int .i64 he,.bool hb]):=Lh λW hW=>⟨P2.out.keep hW,H2.out.keep hW⟩
  have B1:Hid (Below w2.heap.size w2 w2.drew):=Lh (Below.refl _ _).drew;go_cut [5,6] (λs5 s6 wx=>∃ g,s5=.pointer (some ⟨g,0,none⟩)∧s6=.bool ok∧Hid (Own wx g 42 #[.int .i64 ne,.bool nb])∧Hid (Below w2.heap.size w2 wx))
  case first =>
   go_upto_region 3 with fail;refine xY (λW=>Own W w.heap.size 25 #[.slice a n c,.slice a' m c']∧Own W (w.heap.size+1) 42 #[.int .i64 he,.bool hb]) [0,2,4,5,6,9] [0,2] 10 (by kernel_rfl) rfl ?_;generalize hD_:w2.drew=Wd0 at B1 ⊢
   clear hD_;refine zI (i:=0) (v := ?_) rfl rfl (by kernel_rfl) (by kernel_rfl) (by kernel_rfl) rfl (λW hS => ?_) (SF.out _ B1.out) ?_;rotate_left
   ·have hS:=hS rfl;obtain ⟨hp1,hp2⟩:=hS;obtain ⟨g1,g2⟩:=zM hp1;obtain ⟨g3,g4⟩:=zM hp2;conv=>lhs;simp[go_sem, *]
    first|done|exact rfl
   simp only[Act.put,List.getElem_toArray,List.getElem_cons_zero,List.getElem_cons_succ,lA,lZ,lS];refine zI (i:=2) (v := ?_) rfl rfl (by kernel_rfl) (by kernel_rfl) (by kernel_rfl) rfl (λW hS => ?_) (SF.out _ B1.out) ?_;rotate_left
   ·have hS:=hS rfl;obtain ⟨hp1,hp2⟩:=hS;obtain ⟨g1,g2⟩:=zM hp1;obtain ⟨g3,g4⟩:=zM hp2;conv=>lhs;simp[go_sem, *]
    first|done|exact rfl
   simp only[Act.put,List.getElem_toArray,List.getElem_cons_zero,List.getElem_cons_succ,lA,lZ,lS];refine yZ (i:=1) (k:=7) (by kernel_rfl) rfl rfl ?_ ?_
   ·refine ⟨_,rfl,λK hK => ?_⟩;go_wp2_with (go_at_call 11;refine (PL.out _ (zF B2.out B1.out B2.out.size)).mono ?_;rintro e wt1 ⟨rfl,bt1⟩;replace bt1:=Lh bt1)
    replace B1:=Lh (zF B1.out bt1.out B1.out.size);refine hK _ _ (SF.out _ B1.out) ?_;clear hK K;refine yZ (i:=3) (k:=7) (by kernel_rfl) rfl rfl ?_ ?_
    ·refine ⟨_,rfl,λK hK => ?_⟩;go_wp2_with (go_at_call 15;refine (NX.out _ (zF B2.out B1.out B2.out.size)).mono ?_;rintro e wt2 ⟨rfl,bt2⟩;replace bt2:=Lh bt2)
     replace B1:=Lh (zF B1.out bt2.out B1.out.size);refine hK _ _ (SF.out _ B1.out) ?_;clear hK K;refine zI (i:=4) (v := ?_) rfl rfl (by kernel_rfl) (by kernel_rfl) (by kernel_rfl) rfl (λW hS => ?_) (SF.out _ B1.out) ?_;rotate_left
     ·conv=>lhs;simp[go_sem]
      first|done|exact rfl
     simp only[Act.put,List.getElem_toArray,List.getElem_cons_zero,List.getElem_cons_succ,lA,lZ,lS];refine zI (i:=5) (v := ?_) rfl rfl (by kernel_rfl) (by kernel_rfl) (by kernel_rfl) rfl (λW hS => ?_) (SF.out _ B1.out) ?_;rotate_left
     ·conv=>lhs;simp[go_sem]
      first|done|exact rfl
     simp only[Act.put,List.getElem_toArray,List.getElem_cons_zero,List.getElem_cons_succ,lA,lZ,lS];refine zI (i:=6) (v := ?_) rfl rfl (by kernel_rfl) (by kernel_rfl) (by kernel_rfl) rfl (λW hS => ?_) (SF.out _ B1.out) ?_;rotate_left
     ·conv=>lhs;simp[go_sem]
      first|done|exact rfl
     simp only[Act.put,List.getElem_toArray,List.getElem_cons_zero,List.getElem_cons_succ,lA,lZ,lS];refine zR (i:=7) (by kernel_rfl) rfl ?_;refine ⟨_,rfl,λK hK => ?_⟩;go_wp2;obtain ⟨wt3,hW⟩:∃ X,X=World.alloc wt2 (.cells #[.int .i64 0,.bool false] 42):=⟨_,rfl⟩
     have bt3:Hid (Below (wt2).heap.size (wt2) wt3):=Lh (by rw[hW];exact bx1 _ _ _);have t5_:Hid (Own wt3 (wt2).heap.size 42 #[.int .i64 0,.bool false]):=Lh (by rw[hW];exact Own.made _ _ _);have t5_lo:Hid (w2.heap.size≤(wt2).heap.size):=Lh B1.out.size;replace B1:=Lh (zF B1.out bt3.out B1.out.size);rw[← hW];obtain ⟨gb_t5,hg_t5⟩:∃ g,g=(wt2).heap.size:=⟨_,rfl⟩
     rw[← hg_t5]at t5_ t5_lo  ⊢;clear hW hg_t5;have t5:=t5_;refine hK _ _ (SF.out _ B1.out) ?_;clear hK K;refine zR (i:=8) (by kernel_rfl) rfl ?_;refine ⟨_,rfl,λK hK => ?_⟩;obtain ⟨fz1,fz2,fz3⟩:=t5.out.at_;go_wp2;clear fz1 fz2 fz3;have t5_f:Hid (Own (World.setCell (World.setCell wt3 ⟨gb_t5,0,none⟩ (.int .i64 ne)) ⟨gb_t5,1,none⟩ (.bool nb)) gb_t5 42 #[.int .i64 ne,.bool nb]):=Lh (((t5.out.put 0 _).put 1 _).as (by simp));have BF_:Hid (Below w2.heap.size w2 (World.setCell (World.setCell wt3 ⟨gb_t5,0,none⟩ (.int .i64 ne)) ⟨gb_t5,1,none⟩ (.bool nb))):=Lh (Below.setCell (Below.setCell B1.out (p:=⟨gb_t5,0,none⟩) (t5_lo.out) _) (p:=⟨gb_t5,1,none⟩) (t5_lo.out) _);generalize hWF_:(World.setCell (World.setCell wt3 ⟨gb_t5,0,none⟩ (.int .i64 ne)) ⟨gb_t5,1,none⟩ (.bool nb))=wt4 at t5_f BF_ ⊢
     clear hWF_;have BF:=BF_;refine hK _ _ (SF.out _ BF.out) ?_;clear hK K;refine zI (i:=9) (v := ?_) rfl rfl (by kernel_rfl) (by kernel_rfl) (by kernel_rfl) rfl (λW hS => ?_) (SF.out _ BF.out) ?_;rotate_left
     ·conv=>lhs;simp[go_sem]
      first|done|exact rfl
     simp only[Act.put,List.getElem_toArray,List.getElem_cons_zero,List.getElem_cons_succ,lA,lZ,lS];refine yC (by kernel_rfl) ?_;go_wp2_with fail;go_meet;exact ⟨_,rfl,rfl,t5_f,BF⟩
    refine ⟨_,rfl,λK hK => ?_⟩;go_wp2;obtain ⟨wt5,hW⟩:∃ X,X=World.alloc wt1 (.cells #[.int .i64 0,.bool false] 42):=⟨_,rfl⟩
    have bt5:Hid (Below (wt1).heap.size (wt1) wt5):=Lh (by rw[hW];exact bx1 _ _ _);have t5_:Hid (Own wt5 (wt1).heap.size 42 #[.int .i64 0,.bool false]):=Lh (by rw[hW];exact Own.made _ _ _);have t5_lo:Hid (w2.heap.size≤(wt1).heap.size):=Lh B1.out.size;replace B1:=Lh (zF B1.out bt5.out B1.out.size);rw[← hW];obtain ⟨gb_t5,hg_t5⟩:∃ g,g=(wt1).heap.size:=⟨_,rfl⟩
    rw[← hg_t5]at t5_ t5_lo  ⊢;clear hW hg_t5;have t5:=t5_;refine hK _ _ (SF.out _ B1.out) ?_;clear hK K;refine zR (i:=3) (by kernel_rfl) rfl ?_;refine ⟨_,rfl,λK hK => ?_⟩;go_wp2_with (go_at_call 15;refine (NX.out _ (zF B2.out B1.out B2.out.size)).mono ?_;rintro e wt6 ⟨rfl,bt6⟩;replace bt6:=Lh bt6)
    replace B1:=Lh (zF B1.out bt6.out B1.out.size);replace t5:=Lh (t5.out.keep bt6.out);refine hK _ _ (SF.out _ B1.out) ?_;clear hK K;refine zI (i:=4) (v := ?_) rfl rfl (by kernel_rfl) (by kernel_rfl) (by kernel_rfl) rfl (λW hS => ?_) (SF.out _ B1.out) ?_;rotate_left
    ·conv=>lhs;simp[go_sem]
     first|done|exact rfl
    simp only[Act.put,List.getElem_toArray,List.getElem_cons_zero,List.getElem_cons_succ,lA,lZ,lS];refine zI (i:=5) (v := ?_) rfl rfl (by kernel_rfl) (by kernel_rfl) (by kernel_rfl) rfl (λW hS => ?_) (SF.out _ B1.out) ?_;rotate_left
    ·conv=>lhs;simp[go_sem]
     first|done|exact rfl
    simp only[Act.put,List.getElem_toArray,List.getElem_cons_zero,List.getElem_cons_succ,lA,lZ,lS];refine zI (i:=6) (v := ?_) rfl rfl (by kernel_rfl) (by kernel_rfl) (by kernel_rfl) rfl (λW hS => ?_) (SF.out _ B1.out) ?_;rotate_left
    ·conv=>lhs;simp[go_sem]
     first|done|exact rfl
    simp only[Act.put,List.getElem_toArray,List.getElem_cons_zero,List.getElem_cons_succ,lA,lZ,lS];refine zR (i:=8) (by kernel_rfl) rfl ?_;refine ⟨_,rfl,λK hK => ?_⟩;obtain ⟨fz1,fz2,fz3⟩:=t5.out.at_;go_wp2;clear fz1 fz2 fz3;have t5_f:Hid (Own (World.setCell (World.setCell wt6 ⟨gb_t5,0,none⟩ (.int .i64 ne)) ⟨gb_t5,1,none⟩ (.bool nb)) gb_t5 42 #[.int .i64 ne,.bool nb]):=Lh (((t5.out.put 0 _).put 1 _).as (by simp));have BF_:Hid (Below w2.heap.size w2 (World.setCell (World.setCell wt6 ⟨gb_t5,0,none⟩ (.int .i64 ne)) ⟨gb_t5,1,none⟩ (.bool nb))):=Lh (Below.setCell (Below.setCell B1.out (p:=⟨gb_t5,0,none⟩) (t5_lo.out) _) (p:=⟨gb_t5,1,none⟩) (t5_lo.out) _);generalize hWF_:(World.setCell (World.setCell wt6 ⟨gb_t5,0,none⟩ (.int .i64 ne)) ⟨gb_t5,1,none⟩ (.bool nb))=wt7 at t5_f BF_ ⊢
    clear hWF_;have BF:=BF_;refine hK _ _ (SF.out _ BF.out) ?_;clear hK K;refine zI (i:=9) (v := ?_) rfl rfl (by kernel_rfl) (by kernel_rfl) (by kernel_rfl) rfl (λW hS => ?_) (SF.out _ BF.out) ?_;rotate_left
    ·conv=>lhs;simp[go_sem]
     first|done|exact rfl
    simp only[Act.put,List.getElem_toArray,List.getElem_cons_zero,List.getElem_cons_succ,lA,lZ,lS];refine yC (by kernel_rfl) ?_;go_wp2_with fail;go_meet;exact ⟨_,rfl,rfl,t5_f,BF⟩
   refine ⟨_,rfl,λK hK => ?_⟩;go_wp2;obtain ⟨wt8,hW⟩:∃ X,X=World.alloc Wd0 (.cells #[.int .i64 0,.bool false] 42):=⟨_,rfl⟩
   have bt8:Hid (Below (Wd0).heap.size (Wd0) wt8):=Lh (by rw[hW];exact bx1 _ _ _);have t5_:Hid (Own wt8 (Wd0).heap.size 42 #[.int .i64 0,.bool false]):=Lh (by rw[hW];exact Own.made _ _ _);have t5_lo:Hid (w2.heap.size≤(Wd0).heap.size):=Lh B1.out.size;replace B1:=Lh (zF B1.out bt8.out B1.out.size);rw[← hW];obtain ⟨gb_t5,hg_t5⟩:∃ g,g=(Wd0).heap.size:=⟨_,rfl⟩
   rw[← hg_t5]at t5_ t5_lo  ⊢;clear hW hg_t5;have t5:=t5_;refine hK _ _ (SF.out _ B1.out) ?_;clear hK K;refine zR (i:=1) (by kernel_rfl) rfl ?_;refine ⟨_,rfl,λK hK => ?_⟩;go_wp2_with (go_at_call 11;refine (PL.out _ (zF B2.out B1.out B2.out.size)).mono ?_;rintro e wt9 ⟨rfl,bt9⟩;replace bt9:=Lh bt9)
   replace B1:=Lh (zF B1.out bt9.out B1.out.size);replace t5:=Lh (t5.out.keep bt9.out);refine hK _ _ (SF.out _ B1.out) ?_;clear hK K;refine zR (i:=3) (by kernel_rfl) rfl ?_;refine ⟨_,rfl,λK hK => ?_⟩;go_wp2_with (go_at_call 15;refine (NX.out _ (zF B2.out B1.out B2.out.size)).mono ?_;rintro e wt10 ⟨rfl,bt10⟩;replace bt10:=Lh bt10)
   replace B1:=Lh (zF B1.out bt10.out B1.out.size);replace t5:=Lh (t5.out.keep bt10.out);refine hK _ _ (SF.out _ B1.out) ?_;clear hK K;refine zI (i:=4) (v := ?_) rfl rfl (by kernel_rfl) (by kernel_rfl) (by kernel_rfl) rfl (λW hS => ?_) (SF.out _ B1.out) ?_;rotate_left
   ·conv=>lhs;simp[go_sem]
    first|done|exact rfl
   simp only[Act.put,List.getElem_toArray,List.getElem_cons_zero,List.getElem_cons_succ,lA,lZ,lS];refine zI (i:=5) (v := ?_) rfl rfl (by kernel_rfl) (by kernel_rfl) (by kernel_rfl) rfl (λW hS => ?_) (SF.out _ B1.out) ?_;rotate_left
   ·conv=>lhs;simp[go_sem]
    first|done|exact rfl
   simp only[Act.put,List.getElem_toArray,List.getElem_cons_zero,List.getElem_cons_succ,lA,lZ,lS];refine zI (i:=6) (v := ?_) rfl rfl (by kernel_rfl) (by kernel_rfl) (by kernel_rfl) rfl (λW hS => ?_) (SF.out _ B1.out) ?_;rotate_left
   ·conv=>lhs;simp[go_sem]
    first|done|exact rfl
   simp only[Act.put,List.getElem_toArray,List.getElem_cons_zero,List.getElem_cons_succ,lA,lZ,lS];refine zR (i:=8) (by kernel_rfl) rfl ?_;refine ⟨_,rfl,λK hK => ?_⟩;obtain ⟨fz1,fz2,fz3⟩:=t5.out.at_;go_wp2;clear fz1 fz2 fz3;have t5_f:Hid (Own (World.setCell (World.setCell wt10 ⟨gb_t5,0,none⟩ (.int .i64 ne)) ⟨gb_t5,1,none⟩ (.bool nb)) gb_t5 42 #[.int .i64 ne,.bool nb]):=Lh (((t5.out.put 0 _).put 1 _).as (by simp));have BF_:Hid (Below w2.heap.size w2 (World.setCell (World.setCell wt10 ⟨gb_t5,0,none⟩ (.int .i64 ne)) ⟨gb_t5,1,none⟩ (.bool nb))):=Lh (Below.setCell (Below.setCell B1.out (p:=⟨gb_t5,0,none⟩) (t5_lo.out) _) (p:=⟨gb_t5,1,none⟩) (t5_lo.out) _);generalize hWF_:(World.setCell (World.setCell wt10 ⟨gb_t5,0,none⟩ (.int .i64 ne)) ⟨gb_t5,1,none⟩ (.bool nb))=wt11 at t5_f BF_ ⊢
   clear hWF_;have BF:=BF_;refine hK _ _ (SF.out _ BF.out) ?_;clear hK K;refine zI (i:=9) (v := ?_) rfl rfl (by kernel_rfl) (by kernel_rfl) (by kernel_rfl) rfl (λW hS => ?_) (SF.out _ BF.out) ?_;rotate_left
   ·conv=>lhs;simp[go_sem]
    first|done|exact rfl
   simp only[Act.put,List.getElem_toArray,List.getElem_cons_zero,List.getElem_cons_succ,lA,lZ,lS];refine yC (by kernel_rfl) ?_;go_wp2_with fail;go_meet;exact ⟨_,rfl,rfl,t5_f,BF⟩
  case rest =>
   obtain ⟨g5,rfl,rfl,F5,BF5⟩:=hcut;have B5:=Lh (zF B2.out BF5.out B2.out.size);have P5:=Lh (P2.out.keep BF5.out);have H5:=Lh (H2.out.keep BF5.out);clear SF B1 B2 P2 H2 BF5 NX;have SF:Hid (∀ W,Below wc.heap.size wc W→Own W w.heap.size 25 #[.slice a n c,.slice a' m c']∧Own W (w.heap.size+1) 42 #[.int .i64 he,.bool hb]):=Lh λW hW=>⟨P5.out.keep hW,H5.out.keep hW⟩
   have B1:Hid (Below wc.heap.size wc wc.drew):=Lh (Below.refl _ _).drew;go_upto_region 4 with fail;go_cut [7,8,9] (λs7 s8 s9 wx=>∃ g7 g8,s7=.pointer (some ⟨g7,0,none⟩)∧s8=.pointer (some ⟨g8,0,none⟩)∧s9=.bool ok∧Hid (Own wx g7 39 #[.int .i64 ui,.int .i64 ux,.int .i64 uy])∧Hid (Own wx g8 39 #[.int .i64 qi,.int .i64 qx,.int .i64 qy])∧Hid (Below wc.heap.size wc wx))
   case first =>
    go_upto_region 4 with fail;refine xY (λW=>Own W w.heap.size 25 #[.slice a n c,.slice a' m c']∧Own W (w.heap.size+1) 42 #[.int .i64 he,.bool hb]) [0,2,4,5,6,7,12] [0,2] 13 (by kernel_rfl) rfl ?_;generalize hD_:wc.drew=Wd0 at B1 ⊢
    clear hD_;refine zI (i:=0) (v := ?_) rfl rfl (by kernel_rfl) (by kernel_rfl) (by kernel_rfl) rfl (λW hS => ?_) (SF.out _ B1.out) ?_;rotate_left
    ·have hS:=hS rfl;obtain ⟨hp1,hp2⟩:=hS;obtain ⟨g1,g2⟩:=zM hp1;obtain ⟨g3,g4⟩:=zM hp2;conv=>lhs;simp[go_sem, *]
     first|done|exact rfl
    simp only[Act.put,List.getElem_toArray,List.getElem_cons_zero,List.getElem_cons_succ,lA,lZ,lS];refine zI (i:=2) (v := ?_) rfl rfl (by kernel_rfl) (by kernel_rfl) (by kernel_rfl) rfl (λW hS => ?_) (SF.out _ B1.out) ?_;rotate_left
    ·have hS:=hS rfl;obtain ⟨hp1,hp2⟩:=hS;obtain ⟨g1,g2⟩:=zM hp1;obtain ⟨g3,g4⟩:=zM hp2;conv=>lhs;simp[go_sem, *]
     first|done|exact rfl
    simp only[Act.put,List.getElem_toArray,List.getElem_cons_zero,List.getElem_cons_succ,lA,lZ,lS];refine mF (i:=1) (k:=8) (m:=9) (by kernel_rfl) rfl rfl rfl ?_ ?_ ?_
    ·refine ⟨_,rfl,λK hK => ?_⟩;go_wp2_with (go_at_call 11;refine (PL.out _ (zF B5.out B1.out B5.out.size)).mono ?_;rintro e wt1 ⟨rfl,bt1⟩;replace bt1:=Lh bt1)
     replace B1:=Lh (zF B1.out bt1.out B1.out.size);refine hK _ _ (SF.out _ B1.out) ?_;clear hK K;refine mF (i:=3) (k:=8) (m:=9) (by kernel_rfl) rfl rfl rfl ?_ ?_ ?_
     ·refine ⟨_,rfl,λK hK => ?_⟩;go_wp2_with (go_at_call 16;refine (EN.out _ (zF B5.out B1.out B5.out.size)).mono ?_;rintro e wt2 ⟨rfl,bt2⟩;replace bt2:=Lh bt2)
      replace B1:=Lh (zF B1.out bt2.out B1.out.size);refine hK _ _ (SF.out _ B1.out) ?_;clear hK K;refine zI (i:=4) (v := ?_) rfl rfl (by kernel_rfl) (by kernel_rfl) (by kernel_rfl) rfl (λW hS => ?_) (SF.out _ B1.out) ?_;rotate_left
      ·conv=>lhs;simp[go_sem]
       first|done|exact rfl
      simp only[Act.put,List.getElem_toArray,List.getElem_cons_zero,List.getElem_cons_succ,lA,lZ,lS];refine zI (i:=5) (v := ?_) rfl rfl (by kernel_rfl) (by kernel_rfl) (by kernel_rfl) rfl (λW hS => ?_) (SF.out _ B1.out) ?_;rotate_left
      ·conv=>lhs;simp[go_sem]
       first|done|exact rfl
      simp only[Act.put,List.getElem_toArray,List.getElem_cons_zero,List.getElem_cons_succ,lA,lZ,lS];refine zI (i:=6) (v := ?_) rfl rfl (by kernel_rfl) (by kernel_rfl) (by kernel_rfl) rfl (λW hS => ?_) (SF.out _ B1.out) ?_;rotate_left
      ·conv=>lhs;simp[go_sem]
       first|done|exact rfl
      simp only[Act.put,List.getElem_toArray,List.getElem_cons_zero,List.getElem_cons_succ,lA,lZ,lS];refine zI (i:=7) (v := ?_) rfl rfl (by kernel_rfl) (by kernel_rfl) (by kernel_rfl) rfl (λW hS => ?_) (SF.out _ B1.out) ?_;rotate_left
      ·conv=>lhs;simp[go_sem]
       first|done|exact rfl
      simp only[Act.put,List.getElem_toArray,List.getElem_cons_zero,List.getElem_cons_succ,lA,lZ,lS];refine yZ (i:=8) (k:=9) (by kernel_rfl) rfl rfl ?_ ?_
      ·refine ⟨_,rfl,λK hK => ?_⟩;go_wp2;obtain ⟨wt3,hW⟩:∃ X,X=World.alloc wt2 (.cells #[.int .i64 0,.int .i64 0,.int .i64 0] 39):=⟨_,rfl⟩
       have bt3:Hid (Below (wt2).heap.size (wt2) wt3):=Lh (by rw[hW];exact bx1 _ _ _);have t7_:Hid (Own wt3 (wt2).heap.size 39 #[.int .i64 0,.int .i64 0,.int .i64 0]):=Lh (by rw[hW];exact Own.made _ _ _);have t7_lo:Hid (wc.heap.size≤(wt2).heap.size):=Lh B1.out.size;replace B1:=Lh (zF B1.out bt3.out B1.out.size);rw[← hW];obtain ⟨gb_t7,hg_t7⟩:∃ g,g=(wt2).heap.size:=⟨_,rfl⟩
       rw[← hg_t7]at t7_ t7_lo  ⊢;clear hW hg_t7;have t7:=t7_;refine hK _ _ (SF.out _ B1.out) ?_;clear hK K;refine zR (i:=9) (by kernel_rfl) rfl ?_;refine ⟨_,rfl,λK hK => ?_⟩;go_wp2;obtain ⟨wt4,hW⟩:∃ X,X=World.alloc wt3 (.cells #[.int .i64 0,.int .i64 0,.int .i64 0] 39):=⟨_,rfl⟩
       have bt4:Hid (Below (wt3).heap.size (wt3) wt4):=Lh (by rw[hW];exact bx1 _ _ _);have t8_:Hid (Own wt4 (wt3).heap.size 39 #[.int .i64 0,.int .i64 0,.int .i64 0]):=Lh (by rw[hW];exact Own.made _ _ _);have t8_lo:Hid (wc.heap.size≤(wt3).heap.size):=Lh B1.out.size;have ne_t8_t7:(wt3).heap.size≠gb_t7:=λe=>by have:=t7.out.in_;omega
       replace B1:=Lh (zF B1.out bt4.out B1.out.size);replace t7:=Lh (t7.out.keep bt4.out);rw[← hW];obtain ⟨gb_t8,hg_t8⟩:∃ g,g=(wt3).heap.size:=⟨_,rfl⟩
       rw[← hg_t8]at t8_ t8_lo ne_t8_t7 ⊢;clear hW hg_t8;have ne_t7_t8:=Ne.symm ne_t8_t7;have t8:=t8_;refine hK _ _ (SF.out _ B1.out) ?_;clear hK K;refine zR (i:=10) (by kernel_rfl) rfl ?_;refine ⟨_,rfl,λK hK => ?_⟩;obtain ⟨fz1,fz2,fz3⟩:=t7.out.at_;go_wp2;clear fz1 fz2 fz3;have t7_f:Hid (Own (World.setCell (World.setCell (World.setCell wt4 ⟨gb_t7,0,none⟩ (.int .i64 ui)) ⟨gb_t7,1,none⟩ (.int .i64 ux)) ⟨gb_t7,2,none⟩ (.int .i64 uy)) gb_t7 39 #[.int .i64 ui,.int .i64 ux,.int .i64 uy]):=Lh ((((t7.out.put 0 _).put 1 _).put 2 _).as (by simp));have t8_g:Hid (Own (World.setCell (World.setCell (World.setCell wt4 ⟨gb_t7,0,none⟩ (.int .i64 ui)) ⟨gb_t7,1,none⟩ (.int .i64 ux)) ⟨gb_t7,2,none⟩ (.int .i64 uy)) gb_t8 39 #[.int .i64 0,.int .i64 0,.int .i64 0]):=Lh (((t8.out.apart ne_t8_t7 _ _).apart ne_t8_t7 _ _).apart ne_t8_t7 _ _);have BF_:Hid (Below wc.heap.size wc (World.setCell (World.setCell (World.setCell wt4 ⟨gb_t7,0,none⟩ (.int .i64 ui)) ⟨gb_t7,1,none⟩ (.int .i64 ux)) ⟨gb_t7,2,none⟩ (.int .i64 uy))):=Lh (Below.setCell (Below.setCell (Below.setCell B1.out (p:=⟨gb_t7,0,none⟩) (t7_lo.out) _) (p:=⟨gb_t7,1,none⟩) (t7_lo.out) _) (p:=⟨gb_t7,2,none⟩) (t7_lo.out) _);generalize hWF_:(World.setCell (World.setCell (World.setCell wt4 ⟨gb_t7,0,none⟩ (.int .i64 ui)) ⟨gb_t7,1,none⟩ (.int .i64 ux)) ⟨gb_t7,2,none⟩ (.int .i64 uy))=wt5 at t7_f BF_ t8_g ⊢
       clear hWF_;have BF:=BF_;have t8_f:=t8_g;refine hK _ _ (SF.out _ BF.out) ?_;clear hK K;refine zR (i:=11) (by kernel_rfl) rfl ?_;refine ⟨_,rfl,λK hK => ?_⟩;obtain ⟨fz1,fz2,fz3⟩:=t8_f.out.at_;go_wp2;clear fz1 fz2 fz3;have t8_f:Hid (Own (World.setCell (World.setCell (World.setCell wt5 ⟨gb_t8,0,none⟩ (.int .i64 qi)) ⟨gb_t8,1,none⟩ (.int .i64 qx)) ⟨gb_t8,2,none⟩ (.int .i64 qy)) gb_t8 39 #[.int .i64 qi,.int .i64 qx,.int .i64 qy]):=Lh ((((t8_f.out.put 0 _).put 1 _).put 2 _).as (by simp));have t7_g:Hid (Own (World.setCell (World.setCell (World.setCell wt5 ⟨gb_t8,0,none⟩ (.int .i64 qi)) ⟨gb_t8,1,none⟩ (.int .i64 qx)) ⟨gb_t8,2,none⟩ (.int .i64 qy)) gb_t7 39 #[.int .i64 ui,.int .i64 ux,.int .i64 uy]):=Lh (((t7_f.out.apart ne_t7_t8 _ _).apart ne_t7_t8 _ _).apart ne_t7_t8 _ _);have BF_:Hid (Below wc.heap.size wc (World.setCell (World.setCell (World.setCell wt5 ⟨gb_t8,0,none⟩ (.int .i64 qi)) ⟨gb_t8,1,none⟩ (.int .i64 qx)) ⟨gb_t8,2,none⟩ (.int .i64 qy))):=Lh (Below.setCell (Below.setCell (Below.setCell BF.out (p:=⟨gb_t8,0,none⟩) (t8_lo.out) _) (p:=⟨gb_t8,1,none⟩) (t8_lo.out) _) (p:=⟨gb_t8,2,none⟩) (t8_lo.out) _);generalize hWF_:(World.setCell (World.setCell (World.setCell wt5 ⟨gb_t8,0,none⟩ (.int .i64 qi)) ⟨gb_t8,1,none⟩ (.int .i64 qx)) ⟨gb_t8,2,none⟩ (.int .i64 qy))=wt6 at t8_f BF_ t7_g ⊢
       clear hWF_;have BF:=BF_;have t7_f:=t7_g;refine hK _ _ (SF.out _ BF.out) ?_;clear hK K;refine zI (i:=12) (v := ?_) rfl rfl (by kernel_rfl) (by kernel_rfl) (by kernel_rfl) rfl (λW hS => ?_) (SF.out _ BF.out) ?_;rotate_left
       ·conv=>lhs;simp[go_sem]
        first|done|exact rfl
       simp only[Act.put,List.getElem_toArray,List.getElem_cons_zero,List.getElem_cons_succ,lA,lZ,lS];refine yC (by kernel_rfl) ?_;go_wp2_with fail;go_meet;exact ⟨_,_,rfl,rfl,rfl,t7_f,t8_f,BF⟩
      refine ⟨_,rfl,λK hK => ?_⟩;go_wp2;obtain ⟨wt7,hW⟩:∃ X,X=World.alloc wt2 (.cells #[.int .i64 0,.int .i64 0,.int .i64 0] 39):=⟨_,rfl⟩
      have bt7:Hid (Below (wt2).heap.size (wt2) wt7):=Lh (by rw[hW];exact bx1 _ _ _);have t8_:Hid (Own wt7 (wt2).heap.size 39 #[.int .i64 0,.int .i64 0,.int .i64 0]):=Lh (by rw[hW];exact Own.made _ _ _);have t8_lo:Hid (wc.heap.size≤(wt2).heap.size):=Lh B1.out.size;replace B1:=Lh (zF B1.out bt7.out B1.out.size);rw[← hW];obtain ⟨gb_t8,hg_t8⟩:∃ g,g=(wt2).heap.size:=⟨_,rfl⟩
      rw[← hg_t8]at t8_ t8_lo  ⊢;clear hW hg_t8;have t8:=t8_;refine hK _ _ (SF.out _ B1.out) ?_;clear hK K;refine zR (i:=8) (by kernel_rfl) rfl ?_;refine ⟨_,rfl,λK hK => ?_⟩;go_wp2;obtain ⟨wt8,hW⟩:∃ X,X=World.alloc wt7 (.cells #[.int .i64 0,.int .i64 0,.int .i64 0] 39):=⟨_,rfl⟩
      have bt8:Hid (Below (wt7).heap.size (wt7) wt8):=Lh (by rw[hW];exact bx1 _ _ _);have t7_:Hid (Own wt8 (wt7).heap.size 39 #[.int .i64 0,.int .i64 0,.int .i64 0]):=Lh (by rw[hW];exact Own.made _ _ _);have t7_lo:Hid (wc.heap.size≤(wt7).heap.size):=Lh B1.out.size;have ne_t7_t8:(wt7).heap.size≠gb_t8:=λe=>by have:=t8.out.in_;omega
      replace B1:=Lh (zF B1.out bt8.out B1.out.size);replace t8:=Lh (t8.out.keep bt8.out);rw[← hW];obtain ⟨gb_t7,hg_t7⟩:∃ g,g=(wt7).heap.size:=⟨_,rfl⟩
      rw[← hg_t7]at t7_ t7_lo ne_t7_t8 ⊢;clear hW hg_t7;have ne_t8_t7:=Ne.symm ne_t7_t8;have t7:=t7_;refine hK _ _ (SF.out _ B1.out) ?_;clear hK K;refine zR (i:=10) (by kernel_rfl) rfl ?_;refine ⟨_,rfl,λK hK => ?_⟩;obtain ⟨fz1,fz2,fz3⟩:=t7.out.at_;go_wp2;clear fz1 fz2 fz3;have t7_f:Hid (Own (World.setCell (World.setCell (World.setCell wt8 ⟨gb_t7,0,none⟩ (.int .i64 ui)) ⟨gb_t7,1,none⟩ (.int .i64 ux)) ⟨gb_t7,2,none⟩ (.int .i64 uy)) gb_t7 39 #[.int .i64 ui,.int .i64 ux,.int .i64 uy]):=Lh ((((t7.out.put 0 _).put 1 _).put 2 _).as (by simp));have t8_g:Hid (Own (World.setCell (World.setCell (World.setCell wt8 ⟨gb_t7,0,none⟩ (.int .i64 ui)) ⟨gb_t7,1,none⟩ (.int .i64 ux)) ⟨gb_t7,2,none⟩ (.int .i64 uy)) gb_t8 39 #[.int .i64 0,.int .i64 0,.int .i64 0]):=Lh (((t8.out.apart ne_t8_t7 _ _).apart ne_t8_t7 _ _).apart ne_t8_t7 _ _);have BF_:Hid (Below wc.heap.size wc (World.setCell (World.setCell (World.setCell wt8 ⟨gb_t7,0,none⟩ (.int .i64 ui)) ⟨gb_t7,1,none⟩ (.int .i64 ux)) ⟨gb_t7,2,none⟩ (.int .i64 uy))):=Lh (Below.setCell (Below.setCell (Below.setCell B1.out (p:=⟨gb_t7,0,none⟩) (t7_lo.out) _) (p:=⟨gb_t7,1,none⟩) (t7_lo.out) _) (p:=⟨gb_t7,2,none⟩) (t7_lo.out) _);generalize hWF_:(World.setCell (World.setCell (World.setCell wt8 ⟨gb_t7,0,none⟩ (.int .i64 ui)) ⟨gb_t7,1,none⟩ (.int .i64 ux)) ⟨gb_t7,2,none⟩ (.int .i64 uy))=wt9 at t7_f BF_ t8_g ⊢
      clear hWF_;have BF:=BF_;have t8_f:=t8_g;refine hK _ _ (SF.out _ BF.out) ?_;clear hK K;refine zR (i:=11) (by kernel_rfl) rfl ?_;refine ⟨_,rfl,λK hK => ?_⟩;obtain ⟨fz1,fz2,fz3⟩:=t8_f.out.at_;go_wp2;clear fz1 fz2 fz3;have t8_f:Hid (Own (World.setCell (World.setCell (World.setCell wt9 ⟨gb_t8,0,none⟩ (.int .i64 qi)) ⟨gb_t8,1,none⟩ (.int .i64 qx)) ⟨gb_t8,2,none⟩ (.int .i64 qy)) gb_t8 39 #[.int .i64 qi,.int .i64 qx,.int .i64 qy]):=Lh ((((t8_f.out.put 0 _).put 1 _).put 2 _).as (by simp));have t7_g:Hid (Own (World.setCell (World.setCell (World.setCell wt9 ⟨gb_t8,0,none⟩ (.int .i64 qi)) ⟨gb_t8,1,none⟩ (.int .i64 qx)) ⟨gb_t8,2,none⟩ (.int .i64 qy)) gb_t7 39 #[.int .i64 ui,.int .i64 ux,.int .i64 uy]):=Lh (((t7_f.out.apart ne_t7_t8 _ _).apart ne_t7_t8 _ _).apart ne_t7_t8 _ _);have BF_:Hid (Below wc.heap.size wc (World.setCell (World.setCell (World.setCell wt9 ⟨gb_t8,0,none⟩ (.int .i64 qi)) ⟨gb_t8,1,none⟩ (.int .i64 qx)) ⟨gb_t8,2,none⟩ (.int .i64 qy))):=Lh (Below.setCell (Below.setCell (Below.setCell BF.out (p:=⟨gb_t8,0,none⟩) (t8_lo.out) _) (p:=⟨gb_t8,1,none⟩) (t8_lo.out) _) (p:=⟨gb_t8,2,none⟩) (t8_lo.out) _);generalize hWF_:(World.setCell (World.setCell (World.setCell wt9 ⟨gb_t8,0,none⟩ (.int .i64 qi)) ⟨gb_t8,1,none⟩ (.int .i64 qx)) ⟨gb_t8,2,none⟩ (.int .i64 qy))=wt10 at t8_f BF_ t7_g ⊢
      clear hWF_;have BF:=BF_;have t7_f:=t7_g;refine hK _ _ (SF.out _ BF.out) ?_;clear hK K;refine zI (i:=12) (v := ?_) rfl rfl (by kernel_rfl) (by kernel_rfl) (by kernel_rfl) rfl (λW hS => ?_) (SF.out _ BF.out) ?_;rotate_left
      ·conv=>lhs;simp[go_sem]
       first|done|exact rfl
      simp only[Act.put,List.getElem_toArray,List.getElem_cons_zero,List.getElem_cons_succ,lA,lZ,lS];refine yC (by kernel_rfl) ?_;go_wp2_with fail;go_meet;exact ⟨_,_,rfl,rfl,rfl,t7_f,t8_f,BF⟩
     ·refine ⟨_,rfl,λK hK => ?_⟩;go_wp2;obtain ⟨wt11,hW⟩:∃ X,X=World.alloc wt1 (.cells #[.int .i64 0,.int .i64 0,.int .i64 0] 39):=⟨_,rfl⟩
      have bt11:Hid (Below (wt1).heap.size (wt1) wt11):=Lh (by rw[hW];exact bx1 _ _ _);have t7_:Hid (Own wt11 (wt1).heap.size 39 #[.int .i64 0,.int .i64 0,.int .i64 0]):=Lh (by rw[hW];exact Own.made _ _ _);have t7_lo:Hid (wc.heap.size≤(wt1).heap.size):=Lh B1.out.size;replace B1:=Lh (zF B1.out bt11.out B1.out.size);rw[← hW];obtain ⟨gb_t7,hg_t7⟩:∃ g,g=(wt1).heap.size:=⟨_,rfl⟩
      rw[← hg_t7]at t7_ t7_lo  ⊢;clear hW hg_t7;have t7:=t7_;refine hK _ _ (SF.out _ B1.out) ?_;clear hK K;refine yZ (i:=3) (k:=9) (by kernel_rfl) rfl rfl ?_ ?_
      ·refine ⟨_,rfl,λK hK => ?_⟩;go_wp2_with (go_at_call 16;refine (EN.out _ (zF B5.out B1.out B5.out.size)).mono ?_;rintro e wt12 ⟨rfl,bt12⟩;replace bt12:=Lh bt12)
       replace B1:=Lh (zF B1.out bt12.out B1.out.size);replace t7:=Lh (t7.out.keep bt12.out);refine hK _ _ (SF.out _ B1.out) ?_;clear hK K;refine zI (i:=4) (v := ?_) rfl rfl (by kernel_rfl) (by kernel_rfl) (by kernel_rfl) rfl (λW hS => ?_) (SF.out _ B1.out) ?_;rotate_left
       ·conv=>lhs;simp[go_sem]
        first|done|exact rfl
       simp only[Act.put,List.getElem_toArray,List.getElem_cons_zero,List.getElem_cons_succ,lA,lZ,lS];refine zI (i:=5) (v := ?_) rfl rfl (by kernel_rfl) (by kernel_rfl) (by kernel_rfl) rfl (λW hS => ?_) (SF.out _ B1.out) ?_;rotate_left
       ·conv=>lhs;simp[go_sem]
        first|done|exact rfl
       simp only[Act.put,List.getElem_toArray,List.getElem_cons_zero,List.getElem_cons_succ,lA,lZ,lS];refine zI (i:=6) (v := ?_) rfl rfl (by kernel_rfl) (by kernel_rfl) (by kernel_rfl) rfl (λW hS => ?_) (SF.out _ B1.out) ?_;rotate_left
       ·conv=>lhs;simp[go_sem]
        first|done|exact rfl
       simp only[Act.put,List.getElem_toArray,List.getElem_cons_zero,List.getElem_cons_succ,lA,lZ,lS];refine zI (i:=7) (v := ?_) rfl rfl (by kernel_rfl) (by kernel_rfl) (by kernel_rfl) rfl (λW hS => ?_) (SF.out _ B1.out) ?_;rotate_left
       ·conv=>lhs;simp[go_sem]
        first|done|exact rfl
       simp only[Act.put,List.getElem_toArray,List.getElem_cons_zero,List.getElem_cons_succ,lA,lZ,lS];refine zR (i:=9) (by kernel_rfl) rfl ?_;refine ⟨_,rfl,λK hK => ?_⟩;go_wp2;obtain ⟨wt13,hW⟩:∃ X,X=World.alloc wt12 (.cells #[.int .i64 0,.int .i64 0,.int .i64 0] 39):=⟨_,rfl⟩
       have bt13:Hid (Below (wt12).heap.size (wt12) wt13):=Lh (by rw[hW];exact bx1 _ _ _);have t8_:Hid (Own wt13 (wt12).heap.size 39 #[.int .i64 0,.int .i64 0,.int .i64 0]):=Lh (by rw[hW];exact Own.made _ _ _);have t8_lo:Hid (wc.heap.size≤(wt12).heap.size):=Lh B1.out.size;have ne_t8_t7:(wt12).heap.size≠gb_t7:=λe=>by have:=t7.out.in_;omega
       replace B1:=Lh (zF B1.out bt13.out B1.out.size);replace t7:=Lh (t7.out.keep bt13.out);rw[← hW];obtain ⟨gb_t8,hg_t8⟩:∃ g,g=(wt12).heap.size:=⟨_,rfl⟩
       rw[← hg_t8]at t8_ t8_lo ne_t8_t7 ⊢;clear hW hg_t8;have ne_t7_t8:=Ne.symm ne_t8_t7;have t8:=t8_;refine hK _ _ (SF.out _ B1.out) ?_;clear hK K;refine zR (i:=10) (by kernel_rfl) rfl ?_;refine ⟨_,rfl,λK hK => ?_⟩;obtain ⟨fz1,fz2,fz3⟩:=t7.out.at_;go_wp2;clear fz1 fz2 fz3;have t7_f:Hid (Own (World.setCell (World.setCell (World.setCell wt13 ⟨gb_t7,0,none⟩ (.int .i64 ui)) ⟨gb_t7,1,none⟩ (.int .i64 ux)) ⟨gb_t7,2,none⟩ (.int .i64 uy)) gb_t7 39 #[.int .i64 ui,.int .i64 ux,.int .i64 uy]):=Lh ((((t7.out.put 0 _).put 1 _).put 2 _).as (by simp));have t8_g:Hid (Own (World.setCell (World.setCell (World.setCell wt13 ⟨gb_t7,0,none⟩ (.int .i64 ui)) ⟨gb_t7,1,none⟩ (.int .i64 ux)) ⟨gb_t7,2,none⟩ (.int .i64 uy)) gb_t8 39 #[.int .i64 0,.int .i64 0,.int .i64 0]):=Lh (((t8.out.apart ne_t8_t7 _ _).apart ne_t8_t7 _ _).apart ne_t8_t7 _ _);have BF_:Hid (Below wc.heap.size wc (World.setCell (World.setCell (World.setCell wt13 ⟨gb_t7,0,none⟩ (.int .i64 ui)) ⟨gb_t7,1,none⟩ (.int .i64 ux)) ⟨gb_t7,2,none⟩ (.int .i64 uy))):=Lh (Below.setCell (Below.setCell (Below.setCell B1.out (p:=⟨gb_t7,0,none⟩) (t7_lo.out) _) (p:=⟨gb_t7,1,none⟩) (t7_lo.out) _) (p:=⟨gb_t7,2,none⟩) (t7_lo.out) _);generalize hWF_:(World.setCell (World.setCell (World.setCell wt13 ⟨gb_t7,0,none⟩ (.int .i64 ui)) ⟨gb_t7,1,none⟩ (.int .i64 ux)) ⟨gb_t7,2,none⟩ (.int .i64 uy))=wt14 at t7_f BF_ t8_g ⊢
       clear hWF_;have BF:=BF_;have t8_f:=t8_g;refine hK _ _ (SF.out _ BF.out) ?_;clear hK K;refine zR (i:=11) (by kernel_rfl) rfl ?_;refine ⟨_,rfl,λK hK => ?_⟩;obtain ⟨fz1,fz2,fz3⟩:=t8_f.out.at_;go_wp2;clear fz1 fz2 fz3;have t8_f:Hid (Own (World.setCell (World.setCell (World.setCell wt14 ⟨gb_t8,0,none⟩ (.int .i64 qi)) ⟨gb_t8,1,none⟩ (.int .i64 qx)) ⟨gb_t8,2,none⟩ (.int .i64 qy)) gb_t8 39 #[.int .i64 qi,.int .i64 qx,.int .i64 qy]):=Lh ((((t8_f.out.put 0 _).put 1 _).put 2 _).as (by simp));have t7_g:Hid (Own (World.setCell (World.setCell (World.setCell wt14 ⟨gb_t8,0,none⟩ (.int .i64 qi)) ⟨gb_t8,1,none⟩ (.int .i64 qx)) ⟨gb_t8,2,none⟩ (.int .i64 qy)) gb_t7 39 #[.int .i64 ui,.int .i64 ux,.int .i64 uy]):=Lh (((t7_f.out.apart ne_t7_t8 _ _).apart ne_t7_t8 _ _).apart ne_t7_t8 _ _);have BF_:Hid (Below wc.heap.size wc (World.setCell (World.setCell (World.setCell wt14 ⟨gb_t8,0,none⟩ (.int .i64 qi)) ⟨gb_t8,1,none⟩ (.int .i64 qx)) ⟨gb_t8,2,none⟩ (.int .i64 qy))):=Lh (Below.setCell (Below.setCell (Below.setCell BF.out (p:=⟨gb_t8,0,none⟩) (t8_lo.out) _) (p:=⟨gb_t8,1,none⟩) (t8_lo.out) _) (p:=⟨gb_t8,2,none⟩) (t8_lo.out) _);generalize hWF_:(World.setCell (World.setCell (World.setCell wt14 ⟨gb_t8,0,none⟩ (.int .i64 qi)) ⟨gb_t8,1,none⟩ (.int .i64 qx)) ⟨gb_t8,2,none⟩ (.int .i64 qy))=wt15 at t8_f BF_ t7_g ⊢
       clear hWF_;have BF:=BF_;have t7_f:=t7_g;refine hK _ _ (SF.out _ BF.out) ?_;clear hK K;refine zI (i:=12) (v := ?_) rfl rfl (by kernel_rfl) (by kernel_rfl) (by kernel_rfl) rfl (λW hS => ?_) (SF.out _ BF.out) ?_;rotate_left
       ·conv=>lhs;simp[go_sem]
        first|done|exact rfl
       simp only[Act.put,List.getElem_toArray,List.getElem_cons_zero,List.getElem_cons_succ,lA,lZ,lS];refine yC (by kernel_rfl) ?_;go_wp2_with fail;go_meet;exact ⟨_,_,rfl,rfl,rfl,t7_f,t8_f,BF⟩
      refine ⟨_,rfl,λK hK => ?_⟩;go_wp2;obtain ⟨wt16,hW⟩:∃ X,X=World.alloc wt11 (.cells #[.int .i64 0,.int .i64 0,.int .i64 0] 39):=⟨_,rfl⟩
      have bt16:Hid (Below (wt11).heap.size (wt11) wt16):=Lh (by rw[hW];exact bx1 _ _ _);have t8_:Hid (Own wt16 (wt11).heap.size 39 #[.int .i64 0,.int .i64 0,.int .i64 0]):=Lh (by rw[hW];exact Own.made _ _ _);have t8_lo:Hid (wc.heap.size≤(wt11).heap.size):=Lh B1.out.size;have ne_t8_t7:(wt11).heap.size≠gb_t7:=λe=>by have:=t7.out.in_;omega
      replace B1:=Lh (zF B1.out bt16.out B1.out.size);replace t7:=Lh (t7.out.keep bt16.out);rw[← hW];obtain ⟨gb_t8,hg_t8⟩:∃ g,g=(wt11).heap.size:=⟨_,rfl⟩
      rw[← hg_t8]at t8_ t8_lo ne_t8_t7 ⊢;clear hW hg_t8;have ne_t7_t8:=Ne.symm ne_t8_t7;have t8:=t8_;refine hK _ _ (SF.out _ B1.out) ?_;clear hK K;refine zR (i:=3) (by kernel_rfl) rfl ?_;refine ⟨_,rfl,λK hK => ?_⟩;go_wp2_with (go_at_call 16;refine (EN.out _ (zF B5.out B1.out B5.out.size)).mono ?_;rintro e wt17 ⟨rfl,bt17⟩;replace bt17:=Lh bt17)
      replace B1:=Lh (zF B1.out bt17.out B1.out.size);replace t7:=Lh (t7.out.keep bt17.out);replace t8:=Lh (t8.out.keep bt17.out);refine hK _ _ (SF.out _ B1.out) ?_;clear hK K;refine zI (i:=4) (v := ?_) rfl rfl (by kernel_rfl) (by kernel_rfl) (by kernel_rfl) rfl (λW hS => ?_) (SF.out _ B1.out) ?_;rotate_left
      ·conv=>lhs;simp[go_sem]
       first|done|exact rfl
      simp only[Act.put,List.getElem_toArray,List.getElem_cons_zero,List.getElem_cons_succ,lA,lZ,lS];refine zI (i:=5) (v := ?_) rfl rfl (by kernel_rfl) (by kernel_rfl) (by kernel_rfl) rfl (λW hS => ?_) (SF.out _ B1.out) ?_;rotate_left
      ·conv=>lhs;simp[go_sem]
       first|done|exact rfl
      simp only[Act.put,List.getElem_toArray,List.getElem_cons_zero,List.getElem_cons_succ,lA,lZ,lS];refine zI (i:=6) (v := ?_) rfl rfl (by kernel_rfl) (by kernel_rfl) (by kernel_rfl) rfl (λW hS => ?_) (SF.out _ B1.out) ?_;rotate_left
      ·conv=>lhs;simp[go_sem]
       first|done|exact rfl
      simp only[Act.put,List.getElem_toArray,List.getElem_cons_zero,List.getElem_cons_succ,lA,lZ,lS];refine zI (i:=7) (v := ?_) rfl rfl (by kernel_rfl) (by kernel_rfl) (by kernel_rfl) rfl (λW hS => ?_) (SF.out _ B1.out) ?_;rotate_left
      ·conv=>lhs;simp[go_sem]
       first|done|exact rfl
      simp only[Act.put,List.getElem_toArray,List.getElem_cons_zero,List.getElem_cons_succ,lA,lZ,lS];refine zR (i:=10) (by kernel_rfl) rfl ?_;refine ⟨_,rfl,λK hK => ?_⟩;obtain ⟨fz1,fz2,fz3⟩:=t7.out.at_;go_wp2;clear fz1 fz2 fz3;have t7_f:Hid (Own (World.setCell (World.setCell (World.setCell wt17 ⟨gb_t7,0,none⟩ (.int .i64 ui)) ⟨gb_t7,1,none⟩ (.int .i64 ux)) ⟨gb_t7,2,none⟩ (.int .i64 uy)) gb_t7 39 #[.int .i64 ui,.int .i64 ux,.int .i64 uy]):=Lh ((((t7.out.put 0 _).put 1 _).put 2 _).as (by simp));have t8_g:Hid (Own (World.setCell (World.setCell (World.setCell wt17 ⟨gb_t7,0,none⟩ (.int .i64 ui)) ⟨gb_t7,1,none⟩ (.int .i64 ux)) ⟨gb_t7,2,none⟩ (.int .i64 uy)) gb_t8 39 #[.int .i64 0,.int .i64 0,.int .i64 0]):=Lh (((t8.out.apart ne_t8_t7 _ _).apart ne_t8_t7 _ _).apart ne_t8_t7 _ _);have BF_:Hid (Below wc.heap.size wc (World.setCell (World.setCell (World.setCell wt17 ⟨gb_t7,0,none⟩ (.int .i64 ui)) ⟨gb_t7,1,none⟩ (.int .i64 ux)) ⟨gb_t7,2,none⟩ (.int .i64 uy))):=Lh (Below.setCell (Below.setCell (Below.setCell B1.out (p:=⟨gb_t7,0,none⟩) (t7_lo.out) _) (p:=⟨gb_t7,1,none⟩) (t7_lo.out) _) (p:=⟨gb_t7,2,none⟩) (t7_lo.out) _);generalize hWF_:(World.setCell (World.setCell (World.setCell wt17 ⟨gb_t7,0,none⟩ (.int .i64 ui)) ⟨gb_t7,1,none⟩ (.int .i64 ux)) ⟨gb_t7,2,none⟩ (.int .i64 uy))=wt18 at t7_f BF_ t8_g ⊢
      clear hWF_;have BF:=BF_;have t8_f:=t8_g;refine hK _ _ (SF.out _ BF.out) ?_;clear hK K;refine zR (i:=11) (by kernel_rfl) rfl ?_;refine ⟨_,rfl,λK hK => ?_⟩;obtain ⟨fz1,fz2,fz3⟩:=t8_f.out.at_;go_wp2;clear fz1 fz2 fz3;have t8_f:Hid (Own (World.setCell (World.setCell (World.setCell wt18 ⟨gb_t8,0,none⟩ (.int .i64 qi)) ⟨gb_t8,1,none⟩ (.int .i64 qx)) ⟨gb_t8,2,none⟩ (.int .i64 qy)) gb_t8 39 #[.int .i64 qi,.int .i64 qx,.int .i64 qy]):=Lh ((((t8_f.out.put 0 _).put 1 _).put 2 _).as (by simp));have t7_g:Hid (Own (World.setCell (World.setCell (World.setCell wt18 ⟨gb_t8,0,none⟩ (.int .i64 qi)) ⟨gb_t8,1,none⟩ (.int .i64 qx)) ⟨gb_t8,2,none⟩ (.int .i64 qy)) gb_t7 39 #[.int .i64 ui,.int .i64 ux,.int .i64 uy]):=Lh (((t7_f.out.apart ne_t7_t8 _ _).apart ne_t7_t8 _ _).apart ne_t7_t8 _ _);have BF_:Hid (Below wc.heap.size wc (World.setCell (World.setCell (World.setCell wt18 ⟨gb_t8,0,none⟩ (.int .i64 qi)) ⟨gb_t8,1,none⟩ (.int .i64 qx)) ⟨gb_t8,2,none⟩ (.int .i64 qy))):=Lh (Below.setCell (Below.setCell (Below.setCell BF.out (p:=⟨gb_t8,0,none⟩) (t8_lo.out) _) (p:=⟨gb_t8,1,none⟩) (t8_lo.out) _) (p:=⟨gb_t8,2,none⟩) (t8_lo.out) _);generalize hWF_:(World.setCell (World.setCell (World.setCell wt18 ⟨gb_t8,0,none⟩ (.int .i64 qi)) ⟨gb_t8,1,none⟩ (.int .i64 qx)) ⟨gb_t8,2,none⟩ (.int .i64 qy))=wt19 at t8_f BF_ t7_g ⊢
      clear hWF_;have BF:=BF_;have t7_f:=t7_g;refine hK _ _ (SF.out _ BF.out) ?_;clear hK K;refine zI (i:=12) (v := ?_) rfl rfl (by kernel_rfl) (by kernel_rfl) (by kernel_rfl) rfl (λW hS => ?_) (SF.out _ BF.out) ?_;rotate_left
      ·conv=>lhs;simp[go_sem]
       first|done|exact rfl
      simp only[Act.put,List.getElem_toArray,List.getElem_cons_zero,List.getElem_cons_succ,lA,lZ,lS];refine yC (by kernel_rfl) ?_;go_wp2_with fail;go_meet;exact ⟨_,_,rfl,rfl,rfl,t7_f,t8_f,BF⟩
     refine ⟨_,rfl,λK hK => ?_⟩;go_wp2;obtain ⟨wt20,hW⟩:∃ X,X=World.alloc wt1 (.cells #[.int .i64 0,.int .i64 0,.int .i64 0] 39):=⟨_,rfl⟩
     have bt20:Hid (Below (wt1).heap.size (wt1) wt20):=Lh (by rw[hW];exact bx1 _ _ _);have t8_:Hid (Own wt20 (wt1).heap.size 39 #[.int .i64 0,.int .i64 0,.int .i64 0]):=Lh (by rw[hW];exact Own.made _ _ _);have t8_lo:Hid (wc.heap.size≤(wt1).heap.size):=Lh B1.out.size;replace B1:=Lh (zF B1.out bt20.out B1.out.size);rw[← hW];obtain ⟨gb_t8,hg_t8⟩:∃ g,g=(wt1).heap.size:=⟨_,rfl⟩
     rw[← hg_t8]at t8_ t8_lo  ⊢;clear hW hg_t8;have t8:=t8_;refine hK _ _ (SF.out _ B1.out) ?_;clear hK K;refine yZ (i:=3) (k:=8) (by kernel_rfl) rfl rfl ?_ ?_
     ·refine ⟨_,rfl,λK hK => ?_⟩;go_wp2_with (go_at_call 16;refine (EN.out _ (zF B5.out B1.out B5.out.size)).mono ?_;rintro e wt21 ⟨rfl,bt21⟩;replace bt21:=Lh bt21)
      replace B1:=Lh (zF B1.out bt21.out B1.out.size);replace t8:=Lh (t8.out.keep bt21.out);refine hK _ _ (SF.out _ B1.out) ?_;clear hK K;refine zI (i:=4) (v := ?_) rfl rfl (by kernel_rfl) (by kernel_rfl) (by kernel_rfl) rfl (λW hS => ?_) (SF.out _ B1.out) ?_;rotate_left
      ·conv=>lhs;simp[go_sem]
       first|done|exact rfl
      simp only[Act.put,List.getElem_toArray,List.getElem_cons_zero,List.getElem_cons_succ,lA,lZ,lS];refine zI (i:=5) (v := ?_) rfl rfl (by kernel_rfl) (by kernel_rfl) (by kernel_rfl) rfl (λW hS => ?_) (SF.out _ B1.out) ?_;rotate_left
      ·conv=>lhs;simp[go_sem]
       first|done|exact rfl
      simp only[Act.put,List.getElem_toArray,List.getElem_cons_zero,List.getElem_cons_succ,lA,lZ,lS];refine zI (i:=6) (v := ?_) rfl rfl (by kernel_rfl) (by kernel_rfl) (by kernel_rfl) rfl (λW hS => ?_) (SF.out _ B1.out) ?_;rotate_left
      ·conv=>lhs;simp[go_sem]
       first|done|exact rfl
      simp only[Act.put,List.getElem_toArray,List.getElem_cons_zero,List.getElem_cons_succ,lA,lZ,lS];refine zI (i:=7) (v := ?_) rfl rfl (by kernel_rfl) (by kernel_rfl) (by kernel_rfl) rfl (λW hS => ?_) (SF.out _ B1.out) ?_;rotate_left
      ·conv=>lhs;simp[go_sem]
       first|done|exact rfl
      simp only[Act.put,List.getElem_toArray,List.getElem_cons_zero,List.getElem_cons_succ,lA,lZ,lS];refine zR (i:=8) (by kernel_rfl) rfl ?_;refine ⟨_,rfl,λK hK => ?_⟩;go_wp2;obtain ⟨wt22,hW⟩:∃ X,X=World.alloc wt21 (.cells #[.int .i64 0,.int .i64 0,.int .i64 0] 39):=⟨_,rfl⟩
      have bt22:Hid (Below (wt21).heap.size (wt21) wt22):=Lh (by rw[hW];exact bx1 _ _ _);have t7_:Hid (Own wt22 (wt21).heap.size 39 #[.int .i64 0,.int .i64 0,.int .i64 0]):=Lh (by rw[hW];exact Own.made _ _ _);have t7_lo:Hid (wc.heap.size≤(wt21).heap.size):=Lh B1.out.size;have ne_t7_t8:(wt21).heap.size≠gb_t8:=λe=>by have:=t8.out.in_;omega
      replace B1:=Lh (zF B1.out bt22.out B1.out.size);replace t8:=Lh (t8.out.keep bt22.out);rw[← hW];obtain ⟨gb_t7,hg_t7⟩:∃ g,g=(wt21).heap.size:=⟨_,rfl⟩
      rw[← hg_t7]at t7_ t7_lo ne_t7_t8 ⊢;clear hW hg_t7;have ne_t8_t7:=Ne.symm ne_t7_t8;have t7:=t7_;refine hK _ _ (SF.out _ B1.out) ?_;clear hK K;refine zR (i:=10) (by kernel_rfl) rfl ?_;refine ⟨_,rfl,λK hK => ?_⟩;obtain ⟨fz1,fz2,fz3⟩:=t7.out.at_;go_wp2;clear fz1 fz2 fz3;have t7_f:Hid (Own (World.setCell (World.setCell (World.setCell wt22 ⟨gb_t7,0,none⟩ (.int .i64 ui)) ⟨gb_t7,1,none⟩ (.int .i64 ux)) ⟨gb_t7,2,none⟩ (.int .i64 uy)) gb_t7 39 #[.int .i64 ui,.int .i64 ux,.int .i64 uy]):=Lh ((((t7.out.put 0 _).put 1 _).put 2 _).as (by simp));have t8_g:Hid (Own (World.setCell (World.setCell (World.setCell wt22 ⟨gb_t7,0,none⟩ (.int .i64 ui)) ⟨gb_t7,1,none⟩ (.int .i64 ux)) ⟨gb_t7,2,none⟩ (.int .i64 uy)) gb_t8 39 #[.int .i64 0,.int .i64 0,.int .i64 0]):=Lh (((t8.out.apart ne_t8_t7 _ _).apart ne_t8_t7 _ _).apart ne_t8_t7 _ _);have BF_:Hid (Below wc.heap.size wc (World.setCell (World.setCell (World.setCell wt22 ⟨gb_t7,0,none⟩ (.int .i64 ui)) ⟨gb_t7,1,none⟩ (.int .i64 ux)) ⟨gb_t7,2,none⟩ (.int .i64 uy))):=Lh (Below.setCell (Below.setCell (Below.setCell B1.out (p:=⟨gb_t7,0,none⟩) (t7_lo.out) _) (p:=⟨gb_t7,1,none⟩) (t7_lo.out) _) (p:=⟨gb_t7,2,none⟩) (t7_lo.out) _);generalize hWF_:(World.setCell (World.setCell (World.setCell wt22 ⟨gb_t7,0,none⟩ (.int .i64 ui)) ⟨gb_t7,1,none⟩ (.int .i64 ux)) ⟨gb_t7,2,none⟩ (.int .i64 uy))=wt23 at t7_f BF_ t8_g ⊢
      clear hWF_;have BF:=BF_;have t8_f:=t8_g;refine hK _ _ (SF.out _ BF.out) ?_;clear hK K;refine zR (i:=11) (by kernel_rfl) rfl ?_;refine ⟨_,rfl,λK hK => ?_⟩;obtain ⟨fz1,fz2,fz3⟩:=t8_f.out.at_;go_wp2;clear fz1 fz2 fz3;have t8_f:Hid (Own (World.setCell (World.setCell (World.setCell wt23 ⟨gb_t8,0,none⟩ (.int .i64 qi)) ⟨gb_t8,1,none⟩ (.int .i64 qx)) ⟨gb_t8,2,none⟩ (.int .i64 qy)) gb_t8 39 #[.int .i64 qi,.int .i64 qx,.int .i64 qy]):=Lh ((((t8_f.out.put 0 _).put 1 _).put 2 _).as (by simp));have t7_g:Hid (Own (World.setCell (World.setCell (World.setCell wt23 ⟨gb_t8,0,none⟩ (.int .i64 qi)) ⟨gb_t8,1,none⟩ (.int .i64 qx)) ⟨gb_t8,2,none⟩ (.int .i64 qy)) gb_t7 39 #[.int .i64 ui,.int .i64 ux,.int .i64 uy]):=Lh (((t7_f.out.apart ne_t7_t8 _ _).apart ne_t7_t8 _ _).apart ne_t7_t8 _ _);have BF_:Hid (Below wc.heap.size wc (World.setCell (World.setCell (World.setCell wt23 ⟨gb_t8,0,none⟩ (.int .i64 qi)) ⟨gb_t8,1,none⟩ (.int .i64 qx)) ⟨gb_t8,2,none⟩ (.int .i64 qy))):=Lh (Below.setCell (Below.setCell (Below.setCell BF.out (p:=⟨gb_t8,0,none⟩) (t8_lo.out) _) (p:=⟨gb_t8,1,none⟩) (t8_lo.out) _) (p:=⟨gb_t8,2,none⟩) (t8_lo.out) _);generalize hWF_:(World.setCell (World.setCell (World.setCell wt23 ⟨gb_t8,0,none⟩ (.int .i64 qi)) ⟨gb_t8,1,none⟩ (.int .i64 qx)) ⟨gb_t8,2,none⟩ (.int .i64 qy))=wt24 at t8_f BF_ t7_g ⊢
      clear hWF_;have BF:=BF_;have t7_f:=t7_g;refine hK _ _ (SF.out _ BF.out) ?_;clear hK K;refine zI (i:=12) (v := ?_) rfl rfl (by kernel_rfl) (by kernel_rfl) (by kernel_rfl) rfl (λW hS => ?_) (SF.out _ BF.out) ?_;rotate_left
      ·conv=>lhs;simp[go_sem]
       first|done|exact rfl
      simp only[Act.put,List.getElem_toArray,List.getElem_cons_zero,List.getElem_cons_succ,lA,lZ,lS];refine yC (by kernel_rfl) ?_;go_wp2_with fail;go_meet;exact ⟨_,_,rfl,rfl,rfl,t7_f,t8_f,BF⟩
     refine ⟨_,rfl,λK hK => ?_⟩;go_wp2;obtain ⟨wt25,hW⟩:∃ X,X=World.alloc wt20 (.cells #[.int .i64 0,.int .i64 0,.int .i64 0] 39):=⟨_,rfl⟩
     have bt25:Hid (Below (wt20).heap.size (wt20) wt25):=Lh (by rw[hW];exact bx1 _ _ _);have t7_:Hid (Own wt25 (wt20).heap.size 39 #[.int .i64 0,.int .i64 0,.int .i64 0]):=Lh (by rw[hW];exact Own.made _ _ _);have t7_lo:Hid (wc.heap.size≤(wt20).heap.size):=Lh B1.out.size;have ne_t7_t8:(wt20).heap.size≠gb_t8:=λe=>by have:=t8.out.in_;omega
     replace B1:=Lh (zF B1.out bt25.out B1.out.size);replace t8:=Lh (t8.out.keep bt25.out);rw[← hW];obtain ⟨gb_t7,hg_t7⟩:∃ g,g=(wt20).heap.size:=⟨_,rfl⟩
     rw[← hg_t7]at t7_ t7_lo ne_t7_t8 ⊢;clear hW hg_t7;have ne_t8_t7:=Ne.symm ne_t7_t8;have t7:=t7_;refine hK _ _ (SF.out _ B1.out) ?_;clear hK K;refine zR (i:=3) (by kernel_rfl) rfl ?_;refine ⟨_,rfl,λK hK => ?_⟩;go_wp2_with (go_at_call 16;refine (EN.out _ (zF B5.out B1.out B5.out.size)).mono ?_;rintro e wt26 ⟨rfl,bt26⟩;replace bt26:=Lh bt26)
     replace B1:=Lh (zF B1.out bt26.out B1.out.size);replace t8:=Lh (t8.out.keep bt26.out);replace t7:=Lh (t7.out.keep bt26.out);refine hK _ _ (SF.out _ B1.out) ?_;clear hK K;refine zI (i:=4) (v := ?_) rfl rfl (by kernel_rfl) (by kernel_rfl) (by kernel_rfl) rfl (λW hS => ?_) (SF.out _ B1.out) ?_;rotate_left
     ·conv=>lhs;simp[go_sem]
      first|done|exact rfl
     simp only[Act.put,List.getElem_toArray,List.getElem_cons_zero,List.getElem_cons_succ,lA,lZ,lS];refine zI (i:=5) (v := ?_) rfl rfl (by kernel_rfl) (by kernel_rfl) (by kernel_rfl) rfl (λW hS => ?_) (SF.out _ B1.out) ?_;rotate_left
     ·conv=>lhs;simp[go_sem]
      first|done|exact rfl
     simp only[Act.put,List.getElem_toArray,List.getElem_cons_zero,List.getElem_cons_succ,lA,lZ,lS];refine zI (i:=6) (v := ?_) rfl rfl (by kernel_rfl) (by kernel_rfl) (by kernel_rfl) rfl (λW hS => ?_) (SF.out _ B1.out) ?_;rotate_left
     ·conv=>lhs;simp[go_sem]
      first|done|exact rfl
     simp only[Act.put,List.getElem_toArray,List.getElem_cons_zero,List.getElem_cons_succ,lA,lZ,lS];refine zI (i:=7) (v := ?_) rfl rfl (by kernel_rfl) (by kernel_rfl) (by kernel_rfl) rfl (λW hS => ?_) (SF.out _ B1.out) ?_;rotate_left
     ·conv=>lhs;simp[go_sem]
      first|done|exact rfl
     simp only[Act.put,List.getElem_toArray,List.getElem_cons_zero,List.getElem_cons_succ,lA,lZ,lS];refine zR (i:=10) (by kernel_rfl) rfl ?_;refine ⟨_,rfl,λK hK => ?_⟩;obtain ⟨fz1,fz2,fz3⟩:=t7.out.at_;go_wp2;clear fz1 fz2 fz3;have t7_f:Hid (Own (World.setCell (World.setCell (World.setCell wt26 ⟨gb_t7,0,none⟩ (.int .i64 ui)) ⟨gb_t7,1,none⟩ (.int .i64 ux)) ⟨gb_t7,2,none⟩ (.int .i64 uy)) gb_t7 39 #[.int .i64 ui,.int .i64 ux,.int .i64 uy]):=Lh ((((t7.out.put 0 _).put 1 _).put 2 _).as (by simp));have t8_g:Hid (Own (World.setCell (World.setCell (World.setCell wt26 ⟨gb_t7,0,none⟩ (.int .i64 ui)) ⟨gb_t7,1,none⟩ (.int .i64 ux)) ⟨gb_t7,2,none⟩ (.int .i64 uy)) gb_t8 39 #[.int .i64 0,.int .i64 0,.int .i64 0]):=Lh (((t8.out.apart ne_t8_t7 _ _).apart ne_t8_t7 _ _).apart ne_t8_t7 _ _);have BF_:Hid (Below wc.heap.size wc (World.setCell (World.setCell (World.setCell wt26 ⟨gb_t7,0,none⟩ (.int .i64 ui)) ⟨gb_t7,1,none⟩ (.int .i64 ux)) ⟨gb_t7,2,none⟩ (.int .i64 uy))):=Lh (Below.setCell (Below.setCell (Below.setCell B1.out (p:=⟨gb_t7,0,none⟩) (t7_lo.out) _) (p:=⟨gb_t7,1,none⟩) (t7_lo.out) _) (p:=⟨gb_t7,2,none⟩) (t7_lo.out) _);generalize hWF_:(World.setCell (World.setCell (World.setCell wt26 ⟨gb_t7,0,none⟩ (.int .i64 ui)) ⟨gb_t7,1,none⟩ (.int .i64 ux)) ⟨gb_t7,2,none⟩ (.int .i64 uy))=wt27 at t7_f BF_ t8_g ⊢
     clear hWF_;have BF:=BF_;have t8_f:=t8_g;refine hK _ _ (SF.out _ BF.out) ?_;clear hK K;refine zR (i:=11) (by kernel_rfl) rfl ?_;refine ⟨_,rfl,λK hK => ?_⟩;obtain ⟨fz1,fz2,fz3⟩:=t8_f.out.at_;go_wp2;clear fz1 fz2 fz3;have t8_f:Hid (Own (World.setCell (World.setCell (World.setCell wt27 ⟨gb_t8,0,none⟩ (.int .i64 qi)) ⟨gb_t8,1,none⟩ (.int .i64 qx)) ⟨gb_t8,2,none⟩ (.int .i64 qy)) gb_t8 39 #[.int .i64 qi,.int .i64 qx,.int .i64 qy]):=Lh ((((t8_f.out.put 0 _).put 1 _).put 2 _).as (by simp));have t7_g:Hid (Own (World.setCell (World.setCell (World.setCell wt27 ⟨gb_t8,0,none⟩ (.int .i64 qi)) ⟨gb_t8,1,none⟩ (.int .i64 qx)) ⟨gb_t8,2,none⟩ (.int .i64 qy)) gb_t7 39 #[.int .i64 ui,.int .i64 ux,.int .i64 uy]):=Lh (((t7_f.out.apart ne_t7_t8 _ _).apart ne_t7_t8 _ _).apart ne_t7_t8 _ _);have BF_:Hid (Below wc.heap.size wc (World.setCell (World.setCell (World.setCell wt27 ⟨gb_t8,0,none⟩ (.int .i64 qi)) ⟨gb_t8,1,none⟩ (.int .i64 qx)) ⟨gb_t8,2,none⟩ (.int .i64 qy))):=Lh (Below.setCell (Below.setCell (Below.setCell BF.out (p:=⟨gb_t8,0,none⟩) (t8_lo.out) _) (p:=⟨gb_t8,1,none⟩) (t8_lo.out) _) (p:=⟨gb_t8,2,none⟩) (t8_lo.out) _);generalize hWF_:(World.setCell (World.setCell (World.setCell wt27 ⟨gb_t8,0,none⟩ (.int .i64 qi)) ⟨gb_t8,1,none⟩ (.int .i64 qx)) ⟨gb_t8,2,none⟩ (.int .i64 qy))=wt28 at t8_f BF_ t7_g ⊢
     clear hWF_;have BF:=BF_;have t7_f:=t7_g;refine hK _ _ (SF.out _ BF.out) ?_;clear hK K;refine zI (i:=12) (v := ?_) rfl rfl (by kernel_rfl) (by kernel_rfl) (by kernel_rfl) rfl (λW hS => ?_) (SF.out _ BF.out) ?_;rotate_left
     ·conv=>lhs;simp[go_sem]
      first|done|exact rfl
     simp only[Act.put,List.getElem_toArray,List.getElem_cons_zero,List.getElem_cons_succ,lA,lZ,lS];refine yC (by kernel_rfl) ?_;go_wp2_with fail;go_meet;exact ⟨_,_,rfl,rfl,rfl,t7_f,t8_f,BF⟩
    ·refine ⟨_,rfl,λK hK => ?_⟩;go_wp2;obtain ⟨wt29,hW⟩:∃ X,X=World.alloc Wd0 (.cells #[.int .i64 0,.int .i64 0,.int .i64 0] 39):=⟨_,rfl⟩
     have bt29:Hid (Below (Wd0).heap.size (Wd0) wt29):=Lh (by rw[hW];exact bx1 _ _ _);have t7_:Hid (Own wt29 (Wd0).heap.size 39 #[.int .i64 0,.int .i64 0,.int .i64 0]):=Lh (by rw[hW];exact Own.made _ _ _);have t7_lo:Hid (wc.heap.size≤(Wd0).heap.size):=Lh B1.out.size;replace B1:=Lh (zF B1.out bt29.out B1.out.size);rw[← hW];obtain ⟨gb_t7,hg_t7⟩:∃ g,g=(Wd0).heap.size:=⟨_,rfl⟩
     rw[← hg_t7]at t7_ t7_lo  ⊢;clear hW hg_t7;have t7:=t7_;refine hK _ _ (SF.out _ B1.out) ?_;clear hK K;refine yZ (i:=1) (k:=9) (by kernel_rfl) rfl rfl ?_ ?_
     ·refine ⟨_,rfl,λK hK => ?_⟩;go_wp2_with (go_at_call 11;refine (PL.out _ (zF B5.out B1.out B5.out.size)).mono ?_;rintro e wt30 ⟨rfl,bt30⟩;replace bt30:=Lh bt30)
      replace B1:=Lh (zF B1.out bt30.out B1.out.size);replace t7:=Lh (t7.out.keep bt30.out);refine hK _ _ (SF.out _ B1.out) ?_;clear hK K;refine yZ (i:=3) (k:=9) (by kernel_rfl) rfl rfl ?_ ?_
      ·refine ⟨_,rfl,λK hK => ?_⟩;go_wp2_with (go_at_call 16;refine (EN.out _ (zF B5.out B1.out B5.out.size)).mono ?_;rintro e wt31 ⟨rfl,bt31⟩;replace bt31:=Lh bt31)
       replace B1:=Lh (zF B1.out bt31.out B1.out.size);replace t7:=Lh (t7.out.keep bt31.out);refine hK _ _ (SF.out _ B1.out) ?_;clear hK K;refine zI (i:=4) (v := ?_) rfl rfl (by kernel_rfl) (by kernel_rfl) (by kernel_rfl) rfl (λW hS => ?_) (SF.out _ B1.out) ?_;rotate_left
       ·conv=>lhs;simp[go_sem]
        first|done|exact rfl
       simp only[Act.put,List.getElem_toArray,List.getElem_cons_zero,List.getElem_cons_succ,lA,lZ,lS];refine zI (i:=5) (v := ?_) rfl rfl (by kernel_rfl) (by kernel_rfl) (by kernel_rfl) rfl (λW hS => ?_) (SF.out _ B1.out) ?_;rotate_left
       ·conv=>lhs;simp[go_sem]
        first|done|exact rfl
       simp only[Act.put,List.getElem_toArray,List.getElem_cons_zero,List.getElem_cons_succ,lA,lZ,lS];refine zI (i:=6) (v := ?_) rfl rfl (by kernel_rfl) (by kernel_rfl) (by kernel_rfl) rfl (λW hS => ?_) (SF.out _ B1.out) ?_;rotate_left
       ·conv=>lhs;simp[go_sem]
        first|done|exact rfl
       simp only[Act.put,List.getElem_toArray,List.getElem_cons_zero,List.getElem_cons_succ,lA,lZ,lS];refine zI (i:=7) (v := ?_) rfl rfl (by kernel_rfl) (by kernel_rfl) (by kernel_rfl) rfl (λW hS => ?_) (SF.out _ B1.out) ?_;rotate_left
       ·conv=>lhs;simp[go_sem]
        first|done|exact rfl
       simp only[Act.put,List.getElem_toArray,List.getElem_cons_zero,List.getElem_cons_succ,lA,lZ,lS];refine zR (i:=9) (by kernel_rfl) rfl ?_;refine ⟨_,rfl,λK hK => ?_⟩;go_wp2;obtain ⟨wt32,hW⟩:∃ X,X=World.alloc wt31 (.cells #[.int .i64 0,.int .i64 0,.int .i64 0] 39):=⟨_,rfl⟩
       have bt32:Hid (Below (wt31).heap.size (wt31) wt32):=Lh (by rw[hW];exact bx1 _ _ _);have t8_:Hid (Own wt32 (wt31).heap.size 39 #[.int .i64 0,.int .i64 0,.int .i64 0]):=Lh (by rw[hW];exact Own.made _ _ _);have t8_lo:Hid (wc.heap.size≤(wt31).heap.size):=Lh B1.out.size;have ne_t8_t7:(wt31).heap.size≠gb_t7:=λe=>by have:=t7.out.in_;omega
       replace B1:=Lh (zF B1.out bt32.out B1.out.size);replace t7:=Lh (t7.out.keep bt32.out);rw[← hW];obtain ⟨gb_t8,hg_t8⟩:∃ g,g=(wt31).heap.size:=⟨_,rfl⟩
       rw[← hg_t8]at t8_ t8_lo ne_t8_t7 ⊢;clear hW hg_t8;have ne_t7_t8:=Ne.symm ne_t8_t7;have t8:=t8_;refine hK _ _ (SF.out _ B1.out) ?_;clear hK K;refine zR (i:=10) (by kernel_rfl) rfl ?_;refine ⟨_,rfl,λK hK => ?_⟩;obtain ⟨fz1,fz2,fz3⟩:=t7.out.at_;go_wp2;clear fz1 fz2 fz3;have t7_f:Hid (Own (World.setCell (World.setCell (World.setCell wt32 ⟨gb_t7,0,none⟩ (.int .i64 ui)) ⟨gb_t7,1,none⟩ (.int .i64 ux)) ⟨gb_t7,2,none⟩ (.int .i64 uy)) gb_t7 39 #[.int .i64 ui,.int .i64 ux,.int .i64 uy]):=Lh ((((t7.out.put 0 _).put 1 _).put 2 _).as (by simp));have t8_g:Hid (Own (World.setCell (World.setCell (World.setCell wt32 ⟨gb_t7,0,none⟩ (.int .i64 ui)) ⟨gb_t7,1,none⟩ (.int .i64 ux)) ⟨gb_t7,2,none⟩ (.int .i64 uy)) gb_t8 39 #[.int .i64 0,.int .i64 0,.int .i64 0]):=Lh (((t8.out.apart ne_t8_t7 _ _).apart ne_t8_t7 _ _).apart ne_t8_t7 _ _);have BF_:Hid (Below wc.heap.size wc (World.setCell (World.setCell (World.setCell wt32 ⟨gb_t7,0,none⟩ (.int .i64 ui)) ⟨gb_t7,1,none⟩ (.int .i64 ux)) ⟨gb_t7,2,none⟩ (.int .i64 uy))):=Lh (Below.setCell (Below.setCell (Below.setCell B1.out (p:=⟨gb_t7,0,none⟩) (t7_lo.out) _) (p:=⟨gb_t7,1,none⟩) (t7_lo.out) _) (p:=⟨gb_t7,2,none⟩) (t7_lo.out) _);generalize hWF_:(World.setCell (World.setCell (World.setCell wt32 ⟨gb_t7,0,none⟩ (.int .i64 ui)) ⟨gb_t7,1,none⟩ (.int .i64 ux)) ⟨gb_t7,2,none⟩ (.int .i64 uy))=wt33 at t7_f BF_ t8_g ⊢
       clear hWF_;have BF:=BF_;have t8_f:=t8_g;refine hK _ _ (SF.out _ BF.out) ?_;clear hK K;refine zR (i:=11) (by kernel_rfl) rfl ?_;refine ⟨_,rfl,λK hK => ?_⟩;obtain ⟨fz1,fz2,fz3⟩:=t8_f.out.at_;go_wp2;clear fz1 fz2 fz3;have t8_f:Hid (Own (World.setCell (World.setCell (World.setCell wt33 ⟨gb_t8,0,none⟩ (.int .i64 qi)) ⟨gb_t8,1,none⟩ (.int .i64 qx)) ⟨gb_t8,2,none⟩ (.int .i64 qy)) gb_t8 39 #[.int .i64 qi,.int .i64 qx,.int .i64 qy]):=Lh ((((t8_f.out.put 0 _).put 1 _).put 2 _).as (by simp));have t7_g:Hid (Own (World.setCell (World.setCell (World.setCell wt33 ⟨gb_t8,0,none⟩ (.int .i64 qi)) ⟨gb_t8,1,none⟩ (.int .i64 qx)) ⟨gb_t8,2,none⟩ (.int .i64 qy)) gb_t7 39 #[.int .i64 ui,.int .i64 ux,.int .i64 uy]):=Lh (((t7_f.out.apart ne_t7_t8 _ _).apart ne_t7_t8 _ _).apart ne_t7_t8 _ _);have BF_:Hid (Below wc.heap.size wc (World.setCell (World.setCell (World.setCell wt33 ⟨gb_t8,0,none⟩ (.int .i64 qi)) ⟨gb_t8,1,none⟩ (.int .i64 qx)) ⟨gb_t8,2,none⟩ (.int .i64 qy))):=Lh (Below.setCell (Below.setCell (Below.setCell BF.out (p:=⟨gb_t8,0,none⟩) (t8_lo.out) _) (p:=⟨gb_t8,1,none⟩) (t8_lo.out) _) (p:=⟨gb_t8,2,none⟩) (t8_lo.out) _);generalize hWF_:(World.setCell (World.setCell (World.setCell wt33 ⟨gb_t8,0,none⟩ (.int .i64 qi)) ⟨gb_t8,1,none⟩ (.int .i64 qx)) ⟨gb_t8,2,none⟩ (.int .i64 qy))=wt34 at t8_f BF_ t7_g ⊢
       clear hWF_;have BF:=BF_;have t7_f:=t7_g;refine hK _ _ (SF.out _ BF.out) ?_;clear hK K;refine zI (i:=12) (v := ?_) rfl rfl (by kernel_rfl) (by kernel_rfl) (by kernel_rfl) rfl (λW hS => ?_) (SF.out _ BF.out) ?_;rotate_left
       ·conv=>lhs;simp[go_sem]
        first|done|exact rfl
       simp only[Act.put,List.getElem_toArray,List.getElem_cons_zero,List.getElem_cons_succ,lA,lZ,lS];refine yC (by kernel_rfl) ?_;go_wp2_with fail;go_meet;exact ⟨_,_,rfl,rfl,rfl,t7_f,t8_f,BF⟩
      refine ⟨_,rfl,λK hK => ?_⟩;go_wp2;obtain ⟨wt35,hW⟩:∃ X,X=World.alloc wt30 (.cells #[.int .i64 0,.int .i64 0,.int .i64 0] 39):=⟨_,rfl⟩
      have bt35:Hid (Below (wt30).heap.size (wt30) wt35):=Lh (by rw[hW];exact bx1 _ _ _);have t8_:Hid (Own wt35 (wt30).heap.size 39 #[.int .i64 0,.int .i64 0,.int .i64 0]):=Lh (by rw[hW];exact Own.made _ _ _);have t8_lo:Hid (wc.heap.size≤(wt30).heap.size):=Lh B1.out.size;have ne_t8_t7:(wt30).heap.size≠gb_t7:=λe=>by have:=t7.out.in_;omega
      replace B1:=Lh (zF B1.out bt35.out B1.out.size);replace t7:=Lh (t7.out.keep bt35.out);rw[← hW];obtain ⟨gb_t8,hg_t8⟩:∃ g,g=(wt30).heap.size:=⟨_,rfl⟩
      rw[← hg_t8]at t8_ t8_lo ne_t8_t7 ⊢;clear hW hg_t8;have ne_t7_t8:=Ne.symm ne_t8_t7;have t8:=t8_;refine hK _ _ (SF.out _ B1.out) ?_;clear hK K;refine zR (i:=3) (by kernel_rfl) rfl ?_;refine ⟨_,rfl,λK hK => ?_⟩;go_wp2_with (go_at_call 16;refine (EN.out _ (zF B5.out B1.out B5.out.size)).mono ?_;rintro e wt36 ⟨rfl,bt36⟩;replace bt36:=Lh bt36)
      replace B1:=Lh (zF B1.out bt36.out B1.out.size);replace t7:=Lh (t7.out.keep bt36.out);replace t8:=Lh (t8.out.keep bt36.out);refine hK _ _ (SF.out _ B1.out) ?_;clear hK K;refine zI (i:=4) (v := ?_) rfl rfl (by kernel_rfl) (by kernel_rfl) (by kernel_rfl) rfl (λW hS => ?_) (SF.out _ B1.out) ?_;rotate_left
      ·conv=>lhs;simp[go_sem]
       first|done|exact rfl
      simp only[Act.put,List.getElem_toArray,List.getElem_cons_zero,List.getElem_cons_succ,lA,lZ,lS];refine zI (i:=5) (v := ?_) rfl rfl (by kernel_rfl) (by kernel_rfl) (by kernel_rfl) rfl (λW hS => ?_) (SF.out _ B1.out) ?_;rotate_left
      ·conv=>lhs;simp[go_sem]
       first|done|exact rfl
      simp only[Act.put,List.getElem_toArray,List.getElem_cons_zero,List.getElem_cons_succ,lA,lZ,lS];refine zI (i:=6) (v := ?_) rfl rfl (by kernel_rfl) (by kernel_rfl) (by kernel_rfl) rfl (λW hS => ?_) (SF.out _ B1.out) ?_;rotate_left
      ·conv=>lhs;simp[go_sem]
       first|done|exact rfl
      simp only[Act.put,List.getElem_toArray,List.getElem_cons_zero,List.getElem_cons_succ,lA,lZ,lS];refine zI (i:=7) (v := ?_) rfl rfl (by kernel_rfl) (by kernel_rfl) (by kernel_rfl) rfl (λW hS => ?_) (SF.out _ B1.out) ?_;rotate_left
      ·conv=>lhs;simp[go_sem]
       first|done|exact rfl
      simp only[Act.put,List.getElem_toArray,List.getElem_cons_zero,List.getElem_cons_succ,lA,lZ,lS];refine zR (i:=10) (by kernel_rfl) rfl ?_;refine ⟨_,rfl,λK hK => ?_⟩;obtain ⟨fz1,fz2,fz3⟩:=t7.out.at_;go_wp2;clear fz1 fz2 fz3;have t7_f:Hid (Own (World.setCell (World.setCell (World.setCell wt36 ⟨gb_t7,0,none⟩ (.int .i64 ui)) ⟨gb_t7,1,none⟩ (.int .i64 ux)) ⟨gb_t7,2,none⟩ (.int .i64 uy)) gb_t7 39 #[.int .i64 ui,.int .i64 ux,.int .i64 uy]):=Lh ((((t7.out.put 0 _).put 1 _).put 2 _).as (by simp));have t8_g:Hid (Own (World.setCell (World.setCell (World.setCell wt36 ⟨gb_t7,0,none⟩ (.int .i64 ui)) ⟨gb_t7,1,none⟩ (.int .i64 ux)) ⟨gb_t7,2,none⟩ (.int .i64 uy)) gb_t8 39 #[.int .i64 0,.int .i64 0,.int .i64 0]):=Lh (((t8.out.apart ne_t8_t7 _ _).apart ne_t8_t7 _ _).apart ne_t8_t7 _ _);have BF_:Hid (Below wc.heap.size wc (World.setCell (World.setCell (World.setCell wt36 ⟨gb_t7,0,none⟩ (.int .i64 ui)) ⟨gb_t7,1,none⟩ (.int .i64 ux)) ⟨gb_t7,2,none⟩ (.int .i64 uy))):=Lh (Below.setCell (Below.setCell (Below.setCell B1.out (p:=⟨gb_t7,0,none⟩) (t7_lo.out) _) (p:=⟨gb_t7,1,none⟩) (t7_lo.out) _) (p:=⟨gb_t7,2,none⟩) (t7_lo.out) _);generalize hWF_:(World.setCell (World.setCell (World.setCell wt36 ⟨gb_t7,0,none⟩ (.int .i64 ui)) ⟨gb_t7,1,none⟩ (.int .i64 ux)) ⟨gb_t7,2,none⟩ (.int .i64 uy))=wt37 at t7_f BF_ t8_g ⊢
      clear hWF_;have BF:=BF_;have t8_f:=t8_g;refine hK _ _ (SF.out _ BF.out) ?_;clear hK K;refine zR (i:=11) (by kernel_rfl) rfl ?_;refine ⟨_,rfl,λK hK => ?_⟩;obtain ⟨fz1,fz2,fz3⟩:=t8_f.out.at_;go_wp2;clear fz1 fz2 fz3;have t8_f:Hid (Own (World.setCell (World.setCell (World.setCell wt37 ⟨gb_t8,0,none⟩ (.int .i64 qi)) ⟨gb_t8,1,none⟩ (.int .i64 qx)) ⟨gb_t8,2,none⟩ (.int .i64 qy)) gb_t8 39 #[.int .i64 qi,.int .i64 qx,.int .i64 qy]):=Lh ((((t8_f.out.put 0 _).put 1 _).put 2 _).as (by simp));have t7_g:Hid (Own (World.setCell (World.setCell (World.setCell wt37 ⟨gb_t8,0,none⟩ (.int .i64 qi)) ⟨gb_t8,1,none⟩ (.int .i64 qx)) ⟨gb_t8,2,none⟩ (.int .i64 qy)) gb_t7 39 #[.int .i64 ui,.int .i64 ux,.int .i64 uy]):=Lh (((t7_f.out.apart ne_t7_t8 _ _).apart ne_t7_t8 _ _).apart ne_t7_t8 _ _);have BF_:Hid (Below wc.heap.size wc (World.setCell (World.setCell (World.setCell wt37 ⟨gb_t8,0,none⟩ (.int .i64 qi)) ⟨gb_t8,1,none⟩ (.int .i64 qx)) ⟨gb_t8,2,none⟩ (.int .i64 qy))):=Lh (Below.setCell (Below.setCell (Below.setCell BF.out (p:=⟨gb_t8,0,none⟩) (t8_lo.out) _) (p:=⟨gb_t8,1,none⟩) (t8_lo.out) _) (p:=⟨gb_t8,2,none⟩) (t8_lo.out) _);generalize hWF_:(World.setCell (World.setCell (World.setCell wt37 ⟨gb_t8,0,none⟩ (.int .i64 qi)) ⟨gb_t8,1,none⟩ (.int .i64 qx)) ⟨gb_t8,2,none⟩ (.int .i64 qy))=wt38 at t8_f BF_ t7_g ⊢
      clear hWF_;have BF:=BF_;have t7_f:=t7_g;refine hK _ _ (SF.out _ BF.out) ?_;clear hK K;refine zI (i:=12) (v := ?_) rfl rfl (by kernel_rfl) (by kernel_rfl) (by kernel_rfl) rfl (λW hS => ?_) (SF.out _ BF.out) ?_;rotate_left
      ·conv=>lhs;simp[go_sem]
       first|done|exact rfl
      simp only[Act.put,List.getElem_toArray,List.getElem_cons_zero,List.getElem_cons_succ,lA,lZ,lS];refine yC (by kernel_rfl) ?_;go_wp2_with fail;go_meet;exact ⟨_,_,rfl,rfl,rfl,t7_f,t8_f,BF⟩
     refine ⟨_,rfl,λK hK => ?_⟩;go_wp2;obtain ⟨wt39,hW⟩:∃ X,X=World.alloc wt29 (.cells #[.int .i64 0,.int .i64 0,.int .i64 0] 39):=⟨_,rfl⟩
     have bt39:Hid (Below (wt29).heap.size (wt29) wt39):=Lh (by rw[hW];exact bx1 _ _ _);have t8_:Hid (Own wt39 (wt29).heap.size 39 #[.int .i64 0,.int .i64 0,.int .i64 0]):=Lh (by rw[hW];exact Own.made _ _ _);have t8_lo:Hid (wc.heap.size≤(wt29).heap.size):=Lh B1.out.size;have ne_t8_t7:(wt29).heap.size≠gb_t7:=λe=>by have:=t7.out.in_;omega
     replace B1:=Lh (zF B1.out bt39.out B1.out.size);replace t7:=Lh (t7.out.keep bt39.out);rw[← hW];obtain ⟨gb_t8,hg_t8⟩:∃ g,g=(wt29).heap.size:=⟨_,rfl⟩
     rw[← hg_t8]at t8_ t8_lo ne_t8_t7 ⊢;clear hW hg_t8;have ne_t7_t8:=Ne.symm ne_t8_t7;have t8:=t8_;refine hK _ _ (SF.out _ B1.out) ?_;clear hK K;refine zR (i:=1) (by kernel_rfl) rfl ?_;refine ⟨_,rfl,λK hK => ?_⟩;go_wp2_with (go_at_call 11;refine (PL.out _ (zF B5.out B1.out B5.out.size)).mono ?_;rintro e wt40 ⟨rfl,bt40⟩;replace bt40:=Lh bt40)
     replace B1:=Lh (zF B1.out bt40.out B1.out.size);replace t7:=Lh (t7.out.keep bt40.out);replace t8:=Lh (t8.out.keep bt40.out);refine hK _ _ (SF.out _ B1.out) ?_;clear hK K;refine zR (i:=3) (by kernel_rfl) rfl ?_;refine ⟨_,rfl,λK hK => ?_⟩;go_wp2_with (go_at_call 16;refine (EN.out _ (zF B5.out B1.out B5.out.size)).mono ?_;rintro e wt41 ⟨rfl,bt41⟩;replace bt41:=Lh bt41)
     replace B1:=Lh (zF B1.out bt41.out B1.out.size);replace t7:=Lh (t7.out.keep bt41.out);replace t8:=Lh (t8.out.keep bt41.out);refine hK _ _ (SF.out _ B1.out) ?_;clear hK K;refine zI (i:=4) (v := ?_) rfl rfl (by kernel_rfl) (by kernel_rfl) (by kernel_rfl) rfl (λW hS => ?_) (SF.out _ B1.out) ?_;rotate_left
     ·conv=>lhs;simp[go_sem]
      first|done|exact rfl
     simp only[Act.put,List.getElem_toArray,List.getElem_cons_zero,List.getElem_cons_succ,lA,lZ,lS];refine zI (i:=5) (v := ?_) rfl rfl (by kernel_rfl) (by kernel_rfl) (by kernel_rfl) rfl (λW hS => ?_) (SF.out _ B1.out) ?_;rotate_left
     ·conv=>lhs;simp[go_sem]
      first|done|exact rfl
     simp only[Act.put,List.getElem_toArray,List.getElem_cons_zero,List.getElem_cons_succ,lA,lZ,lS];refine zI (i:=6) (v := ?_) rfl rfl (by kernel_rfl) (by kernel_rfl) (by kernel_rfl) rfl (λW hS => ?_) (SF.out _ B1.out) ?_;rotate_left
     ·conv=>lhs;simp[go_sem]
      first|done|exact rfl
     simp only[Act.put,List.getElem_toArray,List.getElem_cons_zero,List.getElem_cons_succ,lA,lZ,lS];refine zI (i:=7) (v := ?_) rfl rfl (by kernel_rfl) (by kernel_rfl) (by kernel_rfl) rfl (λW hS => ?_) (SF.out _ B1.out) ?_;rotate_left
     ·conv=>lhs;simp[go_sem]
      first|done|exact rfl
     simp only[Act.put,List.getElem_toArray,List.getElem_cons_zero,List.getElem_cons_succ,lA,lZ,lS];refine zR (i:=10) (by kernel_rfl) rfl ?_;refine ⟨_,rfl,λK hK => ?_⟩;obtain ⟨fz1,fz2,fz3⟩:=t7.out.at_;go_wp2;clear fz1 fz2 fz3;have t7_f:Hid (Own (World.setCell (World.setCell (World.setCell wt41 ⟨gb_t7,0,none⟩ (.int .i64 ui)) ⟨gb_t7,1,none⟩ (.int .i64 ux)) ⟨gb_t7,2,none⟩ (.int .i64 uy)) gb_t7 39 #[.int .i64 ui,.int .i64 ux,.int .i64 uy]):=Lh ((((t7.out.put 0 _).put 1 _).put 2 _).as (by simp));have t8_g:Hid (Own (World.setCell (World.setCell (World.setCell wt41 ⟨gb_t7,0,none⟩ (.int .i64 ui)) ⟨gb_t7,1,none⟩ (.int .i64 ux)) ⟨gb_t7,2,none⟩ (.int .i64 uy)) gb_t8 39 #[.int .i64 0,.int .i64 0,.int .i64 0]):=Lh (((t8.out.apart ne_t8_t7 _ _).apart ne_t8_t7 _ _).apart ne_t8_t7 _ _);have BF_:Hid (Below wc.heap.size wc (World.setCell (World.setCell (World.setCell wt41 ⟨gb_t7,0,none⟩ (.int .i64 ui)) ⟨gb_t7,1,none⟩ (.int .i64 ux)) ⟨gb_t7,2,none⟩ (.int .i64 uy))):=Lh (Below.setCell (Below.setCell (Below.setCell B1.out (p:=⟨gb_t7,0,none⟩) (t7_lo.out) _) (p:=⟨gb_t7,1,none⟩) (t7_lo.out) _) (p:=⟨gb_t7,2,none⟩) (t7_lo.out) _);generalize hWF_:(World.setCell (World.setCell (World.setCell wt41 ⟨gb_t7,0,none⟩ (.int .i64 ui)) ⟨gb_t7,1,none⟩ (.int .i64 ux)) ⟨gb_t7,2,none⟩ (.int .i64 uy))=wt42 at t7_f BF_ t8_g ⊢
     clear hWF_;have BF:=BF_;have t8_f:=t8_g;refine hK _ _ (SF.out _ BF.out) ?_;clear hK K;refine zR (i:=11) (by kernel_rfl) rfl ?_;refine ⟨_,rfl,λK hK => ?_⟩;obtain ⟨fz1,fz2,fz3⟩:=t8_f.out.at_;go_wp2;clear fz1 fz2 fz3;have t8_f:Hid (Own (World.setCell (World.setCell (World.setCell wt42 ⟨gb_t8,0,none⟩ (.int .i64 qi)) ⟨gb_t8,1,none⟩ (.int .i64 qx)) ⟨gb_t8,2,none⟩ (.int .i64 qy)) gb_t8 39 #[.int .i64 qi,.int .i64 qx,.int .i64 qy]):=Lh ((((t8_f.out.put 0 _).put 1 _).put 2 _).as (by simp));have t7_g:Hid (Own (World.setCell (World.setCell (World.setCell wt42 ⟨gb_t8,0,none⟩ (.int .i64 qi)) ⟨gb_t8,1,none⟩ (.int .i64 qx)) ⟨gb_t8,2,none⟩ (.int .i64 qy)) gb_t7 39 #[.int .i64 ui,.int .i64 ux,.int .i64 uy]):=Lh (((t7_f.out.apart ne_t7_t8 _ _).apart ne_t7_t8 _ _).apart ne_t7_t8 _ _);have BF_:Hid (Below wc.heap.size wc (World.setCell (World.setCell (World.setCell wt42 ⟨gb_t8,0,none⟩ (.int .i64 qi)) ⟨gb_t8,1,none⟩ (.int .i64 qx)) ⟨gb_t8,2,none⟩ (.int .i64 qy))):=Lh (Below.setCell (Below.setCell (Below.setCell BF.out (p:=⟨gb_t8,0,none⟩) (t8_lo.out) _) (p:=⟨gb_t8,1,none⟩) (t8_lo.out) _) (p:=⟨gb_t8,2,none⟩) (t8_lo.out) _);generalize hWF_:(World.setCell (World.setCell (World.setCell wt42 ⟨gb_t8,0,none⟩ (.int .i64 qi)) ⟨gb_t8,1,none⟩ (.int .i64 qx)) ⟨gb_t8,2,none⟩ (.int .i64 qy))=wt43 at t8_f BF_ t7_g ⊢
     clear hWF_;have BF:=BF_;have t7_f:=t7_g;refine hK _ _ (SF.out _ BF.out) ?_;clear hK K;refine zI (i:=12) (v := ?_) rfl rfl (by kernel_rfl) (by kernel_rfl) (by kernel_rfl) rfl (λW hS => ?_) (SF.out _ BF.out) ?_;rotate_left
     ·conv=>lhs;simp[go_sem]
      first|done|exact rfl
     simp only[Act.put,List.getElem_toArray,List.getElem_cons_zero,List.getElem_cons_succ,lA,lZ,lS];refine yC (by kernel_rfl) ?_;go_wp2_with fail;go_meet;exact ⟨_,_,rfl,rfl,rfl,t7_f,t8_f,BF⟩
    refine ⟨_,rfl,λK hK => ?_⟩;go_wp2;obtain ⟨wt44,hW⟩:∃ X,X=World.alloc Wd0 (.cells #[.int .i64 0,.int .i64 0,.int .i64 0] 39):=⟨_,rfl⟩
    have bt44:Hid (Below (Wd0).heap.size (Wd0) wt44):=Lh (by rw[hW];exact bx1 _ _ _);have t8_:Hid (Own wt44 (Wd0).heap.size 39 #[.int .i64 0,.int .i64 0,.int .i64 0]):=Lh (by rw[hW];exact Own.made _ _ _);have t8_lo:Hid (wc.heap.size≤(Wd0).heap.size):=Lh B1.out.size;replace B1:=Lh (zF B1.out bt44.out B1.out.size);rw[← hW];obtain ⟨gb_t8,hg_t8⟩:∃ g,g=(Wd0).heap.size:=⟨_,rfl⟩
    rw[← hg_t8]at t8_ t8_lo  ⊢;clear hW hg_t8;have t8:=t8_;refine hK _ _ (SF.out _ B1.out) ?_;clear hK K;refine yZ (i:=1) (k:=8) (by kernel_rfl) rfl rfl ?_ ?_
    ·refine ⟨_,rfl,λK hK => ?_⟩;go_wp2_with (go_at_call 11;refine (PL.out _ (zF B5.out B1.out B5.out.size)).mono ?_;rintro e wt45 ⟨rfl,bt45⟩;replace bt45:=Lh bt45)
     replace B1:=Lh (zF B1.out bt45.out B1.out.size);replace t8:=Lh (t8.out.keep bt45.out);refine hK _ _ (SF.out _ B1.out) ?_;clear hK K;refine yZ (i:=3) (k:=8) (by kernel_rfl) rfl rfl ?_ ?_
     ·refine ⟨_,rfl,λK hK => ?_⟩;go_wp2_with (go_at_call 16;refine (EN.out _ (zF B5.out B1.out B5.out.size)).mono ?_;rintro e wt46 ⟨rfl,bt46⟩;replace bt46:=Lh bt46)
      replace B1:=Lh (zF B1.out bt46.out B1.out.size);replace t8:=Lh (t8.out.keep bt46.out);refine hK _ _ (SF.out _ B1.out) ?_;clear hK K;refine zI (i:=4) (v := ?_) rfl rfl (by kernel_rfl) (by kernel_rfl) (by kernel_rfl) rfl (λW hS => ?_) (SF.out _ B1.out) ?_;rotate_left
      ·conv=>lhs;simp[go_sem]
       first|done|exact rfl
      simp only[Act.put,List.getElem_toArray,List.getElem_cons_zero,List.getElem_cons_succ,lA,lZ,lS];refine zI (i:=5) (v := ?_) rfl rfl (by kernel_rfl) (by kernel_rfl) (by kernel_rfl) rfl (λW hS => ?_) (SF.out _ B1.out) ?_;rotate_left
      ·conv=>lhs;simp[go_sem]
       first|done|exact rfl
      simp only[Act.put,List.getElem_toArray,List.getElem_cons_zero,List.getElem_cons_succ,lA,lZ,lS];refine zI (i:=6) (v := ?_) rfl rfl (by kernel_rfl) (by kernel_rfl) (by kernel_rfl) rfl (λW hS => ?_) (SF.out _ B1.out) ?_;rotate_left
      ·conv=>lhs;simp[go_sem]
       first|done|exact rfl
      simp only[Act.put,List.getElem_toArray,List.getElem_cons_zero,List.getElem_cons_succ,lA,lZ,lS];refine zI (i:=7) (v := ?_) rfl rfl (by kernel_rfl) (by kernel_rfl) (by kernel_rfl) rfl (λW hS => ?_) (SF.out _ B1.out) ?_;rotate_left
      ·conv=>lhs;simp[go_sem]
       first|done|exact rfl
      simp only[Act.put,List.getElem_toArray,List.getElem_cons_zero,List.getElem_cons_succ,lA,lZ,lS];refine zR (i:=8) (by kernel_rfl) rfl ?_;refine ⟨_,rfl,λK hK => ?_⟩;go_wp2;obtain ⟨wt47,hW⟩:∃ X,X=World.alloc wt46 (.cells #[.int .i64 0,.int .i64 0,.int .i64 0] 39):=⟨_,rfl⟩
      have bt47:Hid (Below (wt46).heap.size (wt46) wt47):=Lh (by rw[hW];exact bx1 _ _ _);have t7_:Hid (Own wt47 (wt46).heap.size 39 #[.int .i64 0,.int .i64 0,.int .i64 0]):=Lh (by rw[hW];exact Own.made _ _ _);have t7_lo:Hid (wc.heap.size≤(wt46).heap.size):=Lh B1.out.size;have ne_t7_t8:(wt46).heap.size≠gb_t8:=λe=>by have:=t8.out.in_;omega
      replace B1:=Lh (zF B1.out bt47.out B1.out.size);replace t8:=Lh (t8.out.keep bt47.out);rw[← hW];obtain ⟨gb_t7,hg_t7⟩:∃ g,g=(wt46).heap.size:=⟨_,rfl⟩
      rw[← hg_t7]at t7_ t7_lo ne_t7_t8 ⊢;clear hW hg_t7;have ne_t8_t7:=Ne.symm ne_t7_t8;have t7:=t7_;refine hK _ _ (SF.out _ B1.out) ?_;clear hK K;refine zR (i:=10) (by kernel_rfl) rfl ?_;refine ⟨_,rfl,λK hK => ?_⟩;obtain ⟨fz1,fz2,fz3⟩:=t7.out.at_;go_wp2;clear fz1 fz2 fz3;have t7_f:Hid (Own (World.setCell (World.setCell (World.setCell wt47 ⟨gb_t7,0,none⟩ (.int .i64 ui)) ⟨gb_t7,1,none⟩ (.int .i64 ux)) ⟨gb_t7,2,none⟩ (.int .i64 uy)) gb_t7 39 #[.int .i64 ui,.int .i64 ux,.int .i64 uy]):=Lh ((((t7.out.put 0 _).put 1 _).put 2 _).as (by simp));have t8_g:Hid (Own (World.setCell (World.setCell (World.setCell wt47 ⟨gb_t7,0,none⟩ (.int .i64 ui)) ⟨gb_t7,1,none⟩ (.int .i64 ux)) ⟨gb_t7,2,none⟩ (.int .i64 uy)) gb_t8 39 #[.int .i64 0,.int .i64 0,.int .i64 0]):=Lh (((t8.out.apart ne_t8_t7 _ _).apart ne_t8_t7 _ _).apart ne_t8_t7 _ _);have BF_:Hid (Below wc.heap.size wc (World.setCell (World.setCell (World.setCell wt47 ⟨gb_t7,0,none⟩ (.int .i64 ui)) ⟨gb_t7,1,none⟩ (.int .i64 ux)) ⟨gb_t7,2,none⟩ (.int .i64 uy))):=Lh (Below.setCell (Below.setCell (Below.setCell B1.out (p:=⟨gb_t7,0,none⟩) (t7_lo.out) _) (p:=⟨gb_t7,1,none⟩) (t7_lo.out) _) (p:=⟨gb_t7,2,none⟩) (t7_lo.out) _);generalize hWF_:(World.setCell (World.setCell (World.setCell wt47 ⟨gb_t7,0,none⟩ (.int .i64 ui)) ⟨gb_t7,1,none⟩ (.int .i64 ux)) ⟨gb_t7,2,none⟩ (.int .i64 uy))=wt48 at t7_f BF_ t8_g ⊢
      clear hWF_;have BF:=BF_;have t8_f:=t8_g;refine hK _ _ (SF.out _ BF.out) ?_;clear hK K;refine zR (i:=11) (by kernel_rfl) rfl ?_;refine ⟨_,rfl,λK hK => ?_⟩;obtain ⟨fz1,fz2,fz3⟩:=t8_f.out.at_;go_wp2;clear fz1 fz2 fz3;have t8_f:Hid (Own (World.setCell (World.setCell (World.setCell wt48 ⟨gb_t8,0,none⟩ (.int .i64 qi)) ⟨gb_t8,1,none⟩ (.int .i64 qx)) ⟨gb_t8,2,none⟩ (.int .i64 qy)) gb_t8 39 #[.int .i64 qi,.int .i64 qx,.int .i64 qy]):=Lh ((((t8_f.out.put 0 _).put 1 _).put 2 _).as (by simp));have t7_g:Hid (Own (World.setCell (World.setCell (World.setCell wt48 ⟨gb_t8,0,none⟩ (.int .i64 qi)) ⟨gb_t8,1,none⟩ (.int .i64 qx)) ⟨gb_t8,2,none⟩ (.int .i64 qy)) gb_t7 39 #[.int .i64 ui,.int .i64 ux,.int .i64 uy]):=Lh (((t7_f.out.apart ne_t7_t8 _ _).apart ne_t7_t8 _ _).apart ne_t7_t8 _ _);have BF_:Hid (Below wc.heap.size wc (World.setCell (World.setCell (World.setCell wt48 ⟨gb_t8,0,none⟩ (.int .i64 qi)) ⟨gb_t8,1,none⟩ (.int .i64 qx)) ⟨gb_t8,2,none⟩ (.int .i64 qy))):=Lh (Below.setCell (Below.setCell (Below.setCell BF.out (p:=⟨gb_t8,0,none⟩) (t8_lo.out) _) (p:=⟨gb_t8,1,none⟩) (t8_lo.out) _) (p:=⟨gb_t8,2,none⟩) (t8_lo.out) _);generalize hWF_:(World.setCell (World.setCell (World.setCell wt48 ⟨gb_t8,0,none⟩ (.int .i64 qi)) ⟨gb_t8,1,none⟩ (.int .i64 qx)) ⟨gb_t8,2,none⟩ (.int .i64 qy))=wt49 at t8_f BF_ t7_g ⊢
      clear hWF_;have BF:=BF_;have t7_f:=t7_g;refine hK _ _ (SF.out _ BF.out) ?_;clear hK K;refine zI (i:=12) (v := ?_) rfl rfl (by kernel_rfl) (by kernel_rfl) (by kernel_rfl) rfl (λW hS => ?_) (SF.out _ BF.out) ?_;rotate_left
      ·conv=>lhs;simp[go_sem]
       first|done|exact rfl
      simp only[Act.put,List.getElem_toArray,List.getElem_cons_zero,List.getElem_cons_succ,lA,lZ,lS];refine yC (by kernel_rfl) ?_;go_wp2_with fail;go_meet;exact ⟨_,_,rfl,rfl,rfl,t7_f,t8_f,BF⟩
     refine ⟨_,rfl,λK hK => ?_⟩;go_wp2;obtain ⟨wt50,hW⟩:∃ X,X=World.alloc wt45 (.cells #[.int .i64 0,.int .i64 0,.int .i64 0] 39):=⟨_,rfl⟩
     have bt50:Hid (Below (wt45).heap.size (wt45) wt50):=Lh (by rw[hW];exact bx1 _ _ _);have t7_:Hid (Own wt50 (wt45).heap.size 39 #[.int .i64 0,.int .i64 0,.int .i64 0]):=Lh (by rw[hW];exact Own.made _ _ _);have t7_lo:Hid (wc.heap.size≤(wt45).heap.size):=Lh B1.out.size;have ne_t7_t8:(wt45).heap.size≠gb_t8:=λe=>by have:=t8.out.in_;omega
     replace B1:=Lh (zF B1.out bt50.out B1.out.size);replace t8:=Lh (t8.out.keep bt50.out);rw[← hW];obtain ⟨gb_t7,hg_t7⟩:∃ g,g=(wt45).heap.size:=⟨_,rfl⟩
     rw[← hg_t7]at t7_ t7_lo ne_t7_t8 ⊢;clear hW hg_t7;have ne_t8_t7:=Ne.symm ne_t7_t8;have t7:=t7_;refine hK _ _ (SF.out _ B1.out) ?_;clear hK K;refine zR (i:=3) (by kernel_rfl) rfl ?_;refine ⟨_,rfl,λK hK => ?_⟩;go_wp2_with (go_at_call 16;refine (EN.out _ (zF B5.out B1.out B5.out.size)).mono ?_;rintro e wt51 ⟨rfl,bt51⟩;replace bt51:=Lh bt51)
     replace B1:=Lh (zF B1.out bt51.out B1.out.size);replace t8:=Lh (t8.out.keep bt51.out);replace t7:=Lh (t7.out.keep bt51.out);refine hK _ _ (SF.out _ B1.out) ?_;clear hK K;refine zI (i:=4) (v := ?_) rfl rfl (by kernel_rfl) (by kernel_rfl) (by kernel_rfl) rfl (λW hS => ?_) (SF.out _ B1.out) ?_;rotate_left
     ·conv=>lhs;simp[go_sem]
      first|done|exact rfl
     simp only[Act.put,List.getElem_toArray,List.getElem_cons_zero,List.getElem_cons_succ,lA,lZ,lS];refine zI (i:=5) (v := ?_) rfl rfl (by kernel_rfl) (by kernel_rfl) (by kernel_rfl) rfl (λW hS => ?_) (SF.out _ B1.out) ?_;rotate_left
     ·conv=>lhs;simp[go_sem]
      first|done|exact rfl
     simp only[Act.put,List.getElem_toArray,List.getElem_cons_zero,List.getElem_cons_succ,lA,lZ,lS];refine zI (i:=6) (v := ?_) rfl rfl (by kernel_rfl) (by kernel_rfl) (by kernel_rfl) rfl (λW hS => ?_) (SF.out _ B1.out) ?_;rotate_left
     ·conv=>lhs;simp[go_sem]
      first|done|exact rfl
     simp only[Act.put,List.getElem_toArray,List.getElem_cons_zero,List.getElem_cons_succ,lA,lZ,lS];refine zI (i:=7) (v := ?_) rfl rfl (by kernel_rfl) (by kernel_rfl) (by kernel_rfl) rfl (λW hS => ?_) (SF.out _ B1.out) ?_;rotate_left
     ·conv=>lhs;simp[go_sem]
      first|done|exact rfl
     simp only[Act.put,List.getElem_toArray,List.getElem_cons_zero,List.getElem_cons_succ,lA,lZ,lS];refine zR (i:=10) (by kernel_rfl) rfl ?_;refine ⟨_,rfl,λK hK => ?_⟩;obtain ⟨fz1,fz2,fz3⟩:=t7.out.at_;go_wp2;clear fz1 fz2 fz3;have t7_f:Hid (Own (World.setCell (World.setCell (World.setCell wt51 ⟨gb_t7,0,none⟩ (.int .i64 ui)) ⟨gb_t7,1,none⟩ (.int .i64 ux)) ⟨gb_t7,2,none⟩ (.int .i64 uy)) gb_t7 39 #[.int .i64 ui,.int .i64 ux,.int .i64 uy]):=Lh ((((t7.out.put 0 _).put 1 _).put 2 _).as (by simp));have t8_g:Hid (Own (World.setCell (World.setCell (World.setCell wt51 ⟨gb_t7,0,none⟩ (.int .i64 ui)) ⟨gb_t7,1,none⟩ (.int .i64 ux)) ⟨gb_t7,2,none⟩ (.int .i64 uy)) gb_t8 39 #[.int .i64 0,.int .i64 0,.int .i64 0]):=Lh (((t8.out.apart ne_t8_t7 _ _).apart ne_t8_t7 _ _).apart ne_t8_t7 _ _);have BF_:Hid (Below wc.heap.size wc (World.setCell (World.setCell (World.setCell wt51 ⟨gb_t7,0,none⟩ (.int .i64 ui)) ⟨gb_t7,1,none⟩ (.int .i64 ux)) ⟨gb_t7,2,none⟩ (.int .i64 uy))):=Lh (Below.setCell (Below.setCell (Below.setCell B1.out (p:=⟨gb_t7,0,none⟩) (t7_lo.out) _) (p:=⟨gb_t7,1,none⟩) (t7_lo.out) _) (p:=⟨gb_t7,2,none⟩) (t7_lo.out) _);generalize hWF_:(World.setCell (World.setCell (World.setCell wt51 ⟨gb_t7,0,none⟩ (.int .i64 ui)) ⟨gb_t7,1,none⟩ (.int .i64 ux)) ⟨gb_t7,2,none⟩ (.int .i64 uy))=wt52 at t7_f BF_ t8_g ⊢
     clear hWF_;have BF:=BF_;have t8_f:=t8_g;refine hK _ _ (SF.out _ BF.out) ?_;clear hK K;refine zR (i:=11) (by kernel_rfl) rfl ?_;refine ⟨_,rfl,λK hK => ?_⟩;obtain ⟨fz1,fz2,fz3⟩:=t8_f.out.at_;go_wp2;clear fz1 fz2 fz3;have t8_f:Hid (Own (World.setCell (World.setCell (World.setCell wt52 ⟨gb_t8,0,none⟩ (.int .i64 qi)) ⟨gb_t8,1,none⟩ (.int .i64 qx)) ⟨gb_t8,2,none⟩ (.int .i64 qy)) gb_t8 39 #[.int .i64 qi,.int .i64 qx,.int .i64 qy]):=Lh ((((t8_f.out.put 0 _).put 1 _).put 2 _).as (by simp));have t7_g:Hid (Own (World.setCell (World.setCell (World.setCell wt52 ⟨gb_t8,0,none⟩ (.int .i64 qi)) ⟨gb_t8,1,none⟩ (.int .i64 qx)) ⟨gb_t8,2,none⟩ (.int .i64 qy)) gb_t7 39 #[.int .i64 ui,.int .i64 ux,.int .i64 uy]):=Lh (((t7_f.out.apart ne_t7_t8 _ _).apart ne_t7_t8 _ _).apart ne_t7_t8 _ _);have BF_:Hid (Below wc.heap.size wc (World.setCell (World.setCell (World.setCell wt52 ⟨gb_t8,0,none⟩ (.int .i64 qi)) ⟨gb_t8,1,none⟩ (.int .i64 qx)) ⟨gb_t8,2,none⟩ (.int .i64 qy))):=Lh (Below.setCell (Below.setCell (Below.setCell BF.out (p:=⟨gb_t8,0,none⟩) (t8_lo.out) _) (p:=⟨gb_t8,1,none⟩) (t8_lo.out) _) (p:=⟨gb_t8,2,none⟩) (t8_lo.out) _);generalize hWF_:(World.setCell (World.setCell (World.setCell wt52 ⟨gb_t8,0,none⟩ (.int .i64 qi)) ⟨gb_t8,1,none⟩ (.int .i64 qx)) ⟨gb_t8,2,none⟩ (.int .i64 qy))=wt53 at t8_f BF_ t7_g ⊢
     clear hWF_;have BF:=BF_;have t7_f:=t7_g;refine hK _ _ (SF.out _ BF.out) ?_;clear hK K;refine zI (i:=12) (v := ?_) rfl rfl (by kernel_rfl) (by kernel_rfl) (by kernel_rfl) rfl (λW hS => ?_) (SF.out _ BF.out) ?_;rotate_left
     ·conv=>lhs;simp[go_sem]
      first|done|exact rfl
     simp only[Act.put,List.getElem_toArray,List.getElem_cons_zero,List.getElem_cons_succ,lA,lZ,lS];refine yC (by kernel_rfl) ?_;go_wp2_with fail;go_meet;exact ⟨_,_,rfl,rfl,rfl,t7_f,t8_f,BF⟩
    refine ⟨_,rfl,λK hK => ?_⟩;go_wp2;obtain ⟨wt54,hW⟩:∃ X,X=World.alloc wt44 (.cells #[.int .i64 0,.int .i64 0,.int .i64 0] 39):=⟨_,rfl⟩
    have bt54:Hid (Below (wt44).heap.size (wt44) wt54):=Lh (by rw[hW];exact bx1 _ _ _);have t7_:Hid (Own wt54 (wt44).heap.size 39 #[.int .i64 0,.int .i64 0,.int .i64 0]):=Lh (by rw[hW];exact Own.made _ _ _);have t7_lo:Hid (wc.heap.size≤(wt44).heap.size):=Lh B1.out.size;have ne_t7_t8:(wt44).heap.size≠gb_t8:=λe=>by have:=t8.out.in_;omega
    replace B1:=Lh (zF B1.out bt54.out B1.out.size);replace t8:=Lh (t8.out.keep bt54.out);rw[← hW];obtain ⟨gb_t7,hg_t7⟩:∃ g,g=(wt44).heap.size:=⟨_,rfl⟩
    rw[← hg_t7]at t7_ t7_lo ne_t7_t8 ⊢;clear hW hg_t7;have ne_t8_t7:=Ne.symm ne_t7_t8;have t7:=t7_;refine hK _ _ (SF.out _ B1.out) ?_;clear hK K;refine zR (i:=1) (by kernel_rfl) rfl ?_;refine ⟨_,rfl,λK hK => ?_⟩;go_wp2_with (go_at_call 11;refine (PL.out _ (zF B5.out B1.out B5.out.size)).mono ?_;rintro e wt55 ⟨rfl,bt55⟩;replace bt55:=Lh bt55)
    replace B1:=Lh (zF B1.out bt55.out B1.out.size);replace t8:=Lh (t8.out.keep bt55.out);replace t7:=Lh (t7.out.keep bt55.out);refine hK _ _ (SF.out _ B1.out) ?_;clear hK K;refine zR (i:=3) (by kernel_rfl) rfl ?_;refine ⟨_,rfl,λK hK => ?_⟩;go_wp2_with (go_at_call 16;refine (EN.out _ (zF B5.out B1.out B5.out.size)).mono ?_;rintro e wt56 ⟨rfl,bt56⟩;replace bt56:=Lh bt56)
    replace B1:=Lh (zF B1.out bt56.out B1.out.size);replace t8:=Lh (t8.out.keep bt56.out);replace t7:=Lh (t7.out.keep bt56.out);refine hK _ _ (SF.out _ B1.out) ?_;clear hK K;refine zI (i:=4) (v := ?_) rfl rfl (by kernel_rfl) (by kernel_rfl) (by kernel_rfl) rfl (λW hS => ?_) (SF.out _ B1.out) ?_;rotate_left
    ·conv=>lhs;simp[go_sem]
     first|done|exact rfl
    simp only[Act.put,List.getElem_toArray,List.getElem_cons_zero,List.getElem_cons_succ,lA,lZ,lS];refine zI (i:=5) (v := ?_) rfl rfl (by kernel_rfl) (by kernel_rfl) (by kernel_rfl) rfl (λW hS => ?_) (SF.out _ B1.out) ?_;rotate_left
    ·conv=>lhs;simp[go_sem]
     first|done|exact rfl
    simp only[Act.put,List.getElem_toArray,List.getElem_cons_zero,List.getElem_cons_succ,lA,lZ,lS];refine zI (i:=6) (v := ?_) rfl rfl (by kernel_rfl) (by kernel_rfl) (by kernel_rfl) rfl (λW hS => ?_) (SF.out _ B1.out) ?_;rotate_left
    ·conv=>lhs;simp[go_sem]
     first|done|exact rfl
    simp only[Act.put,List.getElem_toArray,List.getElem_cons_zero,List.getElem_cons_succ,lA,lZ,lS];refine zI (i:=7) (v := ?_) rfl rfl (by kernel_rfl) (by kernel_rfl) (by kernel_rfl) rfl (λW hS => ?_) (SF.out _ B1.out) ?_;rotate_left
    ·conv=>lhs;simp[go_sem]
     first|done|exact rfl
    simp only[Act.put,List.getElem_toArray,List.getElem_cons_zero,List.getElem_cons_succ,lA,lZ,lS];refine zR (i:=10) (by kernel_rfl) rfl ?_;refine ⟨_,rfl,λK hK => ?_⟩;obtain ⟨fz1,fz2,fz3⟩:=t7.out.at_;go_wp2;clear fz1 fz2 fz3;have t7_f:Hid (Own (World.setCell (World.setCell (World.setCell wt56 ⟨gb_t7,0,none⟩ (.int .i64 ui)) ⟨gb_t7,1,none⟩ (.int .i64 ux)) ⟨gb_t7,2,none⟩ (.int .i64 uy)) gb_t7 39 #[.int .i64 ui,.int .i64 ux,.int .i64 uy]):=Lh ((((t7.out.put 0 _).put 1 _).put 2 _).as (by simp));have t8_g:Hid (Own (World.setCell (World.setCell (World.setCell wt56 ⟨gb_t7,0,none⟩ (.int .i64 ui)) ⟨gb_t7,1,none⟩ (.int .i64 ux)) ⟨gb_t7,2,none⟩ (.int .i64 uy)) gb_t8 39 #[.int .i64 0,.int .i64 0,.int .i64 0]):=Lh (((t8.out.apart ne_t8_t7 _ _).apart ne_t8_t7 _ _).apart ne_t8_t7 _ _);have BF_:Hid (Below wc.heap.size wc (World.setCell (World.setCell (World.setCell wt56 ⟨gb_t7,0,none⟩ (.int .i64 ui)) ⟨gb_t7,1,none⟩ (.int .i64 ux)) ⟨gb_t7,2,none⟩ (.int .i64 uy))):=Lh (Below.setCell (Below.setCell (Below.setCell B1.out (p:=⟨gb_t7,0,none⟩) (t7_lo.out) _) (p:=⟨gb_t7,1,none⟩) (t7_lo.out) _) (p:=⟨gb_t7,2,none⟩) (t7_lo.out) _);generalize hWF_:(World.setCell (World.setCell (World.setCell wt56 ⟨gb_t7,0,none⟩ (.int .i64 ui)) ⟨gb_t7,1,none⟩ (.int .i64 ux)) ⟨gb_t7,2,none⟩ (.int .i64 uy))=wt57 at t7_f BF_ t8_g ⊢
    clear hWF_;have BF:=BF_;have t8_f:=t8_g;refine hK _ _ (SF.out _ BF.out) ?_;clear hK K;refine zR (i:=11) (by kernel_rfl) rfl ?_;refine ⟨_,rfl,λK hK => ?_⟩;obtain ⟨fz1,fz2,fz3⟩:=t8_f.out.at_;go_wp2;clear fz1 fz2 fz3;have t8_f:Hid (Own (World.setCell (World.setCell (World.setCell wt57 ⟨gb_t8,0,none⟩ (.int .i64 qi)) ⟨gb_t8,1,none⟩ (.int .i64 qx)) ⟨gb_t8,2,none⟩ (.int .i64 qy)) gb_t8 39 #[.int .i64 qi,.int .i64 qx,.int .i64 qy]):=Lh ((((t8_f.out.put 0 _).put 1 _).put 2 _).as (by simp));have t7_g:Hid (Own (World.setCell (World.setCell (World.setCell wt57 ⟨gb_t8,0,none⟩ (.int .i64 qi)) ⟨gb_t8,1,none⟩ (.int .i64 qx)) ⟨gb_t8,2,none⟩ (.int .i64 qy)) gb_t7 39 #[.int .i64 ui,.int .i64 ux,.int .i64 uy]):=Lh (((t7_f.out.apart ne_t7_t8 _ _).apart ne_t7_t8 _ _).apart ne_t7_t8 _ _);have BF_:Hid (Below wc.heap.size wc (World.setCell (World.setCell (World.setCell wt57 ⟨gb_t8,0,none⟩ (.int .i64 qi)) ⟨gb_t8,1,none⟩ (.int .i64 qx)) ⟨gb_t8,2,none⟩ (.int .i64 qy))):=Lh (Below.setCell (Below.setCell (Below.setCell BF.out (p:=⟨gb_t8,0,none⟩) (t8_lo.out) _) (p:=⟨gb_t8,1,none⟩) (t8_lo.out) _) (p:=⟨gb_t8,2,none⟩) (t8_lo.out) _);generalize hWF_:(World.setCell (World.setCell (World.setCell wt57 ⟨gb_t8,0,none⟩ (.int .i64 qi)) ⟨gb_t8,1,none⟩ (.int .i64 qx)) ⟨gb_t8,2,none⟩ (.int .i64 qy))=wt58 at t8_f BF_ t7_g ⊢
    clear hWF_;have BF:=BF_;have t7_f:=t7_g;refine hK _ _ (SF.out _ BF.out) ?_;clear hK K;refine zI (i:=12) (v := ?_) rfl rfl (by kernel_rfl) (by kernel_rfl) (by kernel_rfl) rfl (λW hS => ?_) (SF.out _ BF.out) ?_;rotate_left
    ·conv=>lhs;simp[go_sem]
     first|done|exact rfl
    simp only[Act.put,List.getElem_toArray,List.getElem_cons_zero,List.getElem_cons_succ,lA,lZ,lS];refine yC (by kernel_rfl) ?_;go_wp2_with fail;go_meet;exact ⟨_,_,rfl,rfl,rfl,t7_f,t8_f,BF⟩
   case rest =>
    obtain ⟨g7,g8,rfl,rfl,rfl,F7,F8,BF8⟩:=hcut;have B8:=Lh (zF B5.out BF8.out B5.out.size);have P8:=Lh (P5.out.keep BF8.out);have H8:=Lh (H5.out.keep BF8.out);have G5:=Lh (F5.out.keep BF8.out);clear SF B1 B5 P5 H5 F5 BF8 EN PL;obtain ⟨p1,p2⟩:=zM P8.out;rcases DD.out with ⟨rfl,rfl,rfl,rfl,rfl,rfl,rfl,rfl,rfl,hTT⟩|⟨rfl,rfl,K0,RN,RF,RG,AT,AU⟩
    ·clear DD RT;rcases hTT with rfl|⟨rfl,rfl⟩
     ·clear RE;go_upto_region 6 with (first
       | (go_at_call 19;refine (RR.out _ B8.out).mono ?_;rintro e w9 ⟨rfl,b9⟩;have B9:=Lh (zF B8.out b9 B8.out.size);have P9:=Lh (P8.out.keep b9);have H9:=Lh (H8.out.keep b9);have K5:=Lh (G5.out.keep b9);have K7:=Lh (F7.out.keep b9);have K8:=Lh (F8.out.keep b9);obtain ⟨q1,q2⟩:=zM P9.out;obtain ⟨q3,q4⟩:=zM H9.out;clear b9)
       | (go_at_call 20;refine (RE.out _ B9.out).mono ?_;rintro e w10 ⟨rfl,b10⟩;replace B9:=Lh (zF B9.out b10 B9.out.size);replace K5:=Lh (K5.out.keep b10);replace K7:=Lh (K7.out.keep b10);replace K8:=Lh (K8.out.keep b10);clear b10))
      have E5:=eqh0;have E7:=eqv0;go_wp2_with (go_at_call 8;refine (AW.out _).mono ?_;rintro e w11 ⟨rfl,b11⟩;have B11:=Lh (zF B9.out b11 B9.out.size);obtain ⟨u1,u2⟩:=zM (K5.out.keep b11);obtain ⟨u3,u4,u5⟩:=zK (K7.out.keep b11);obtain ⟨u6,u7,u8⟩:=zK (K8.out.keep b11);clear b11)
      go_ret;exact ⟨rfl,B11.out⟩
     skip;go_upto_region 6 with (first
      | (go_at_call 19;refine (RR.out _ B8.out).mono ?_;rintro e w9 ⟨rfl,b9⟩;have B9:=Lh (zF B8.out b9 B8.out.size);have P9:=Lh (P8.out.keep b9);have H9:=Lh (H8.out.keep b9);have K5:=Lh (G5.out.keep b9);have K7:=Lh (F7.out.keep b9);have K8:=Lh (F8.out.keep b9);obtain ⟨q1,q2⟩:=zM P9.out;obtain ⟨q3,q4⟩:=zM H9.out;clear b9)
      | (go_at_call 20;refine (RE.out _ B9.out).mono ?_;rintro e w10 ⟨rfl,b10⟩;replace B9:=Lh (zF B9.out b10 B9.out.size);replace K5:=Lh (K5.out.keep b10);replace K7:=Lh (K7.out.keep b10);replace K8:=Lh (K8.out.keep b10);clear b10))
     have E5:=eqh0;have E7:=eqv0;go_wp2_with (go_at_call 8;refine (AW.out _).mono ?_;rintro e w11 ⟨rfl,b11⟩;have B11:=Lh (zF B9.out b11 B9.out.size);obtain ⟨u1,u2⟩:=zM (K5.out.keep b11);obtain ⟨u3,u4,u5⟩:=zK (K7.out.keep b11);obtain ⟨u6,u7,u8⟩:=zK (K8.out.keep b11);clear b11)
     go_ret;exact ⟨rfl,B11.out⟩
    clear DD;replace RN:=Lh RN;replace RF:=Lh RF;replace RG:=Lh RG;replace AT:=Lh AT;replace AU:=Lh AU;go_upto_region 7 with (first
     | (go_at_call 19;refine (RR.out _ B8.out).mono ?_;rintro e w9 ⟨rfl,b9⟩;have B9:=Lh (zF B8.out b9 B8.out.size);have P9:=Lh (P8.out.keep b9);have H9:=Lh (H8.out.keep b9);have K5:=Lh (G5.out.keep b9);have K7:=Lh (F7.out.keep b9);have K8:=Lh (F8.out.keep b9);obtain ⟨p1,p2⟩:=zM P9.out;obtain ⟨q1,q2⟩:=zM H9.out;clear b9)
     | (go_at_call 20;refine (RE.out _ B9.out).mono ?_;rintro e w10 ⟨rfl,b10⟩;replace B9:=Lh (zF B9.out b10 B9.out.size);replace P9:=Lh (P9.out.keep b10);replace H9:=Lh (H9.out.keep b10);replace K5:=Lh (K5.out.keep b10);replace K7:=Lh (K7.out.keep b10);replace K8:=Lh (K8.out.keep b10);clear b10))
    clear p1 p2 q1 q2 F7 F8 G5 P8 H8 RR RE K0 B8;have EH:∀ W,(Op.equalIn 10000 42 (.agg #[.int .i64 ne,.bool nb]) (.agg #[.int .i64 ne,.bool nb])).run Try.prog W=.ok true W:=λW=>by
     have:=jV ne ne nb nb W;rwa [decide_eq_true ⟨rfl,rfl⟩]at this
    have EP:∀ W,(Op.equalIn 10000 37 (.agg #[.int .i64 ux,.int .i64 uy]) (.agg #[.int .i64 ux,.int .i64 uy])).run Try.prog W=.ok true W:=λW=>by
     have:=zO ux uy ux uy W;rwa [decide_eq_true ⟨rfl,rfl⟩]at this
    have EQ:∀ W,(Op.equalIn 10000 37 (.agg #[.int .i64 qx,.int .i64 qy]) (.agg #[.int .i64 qx,.int .i64 qy])).run Try.prog W=.ok true W:=λW=>by
     have:=zO qx qy qx qy W;rwa [decide_eq_true ⟨rfl,rfl⟩]at this
    have Y0:Hid (Below w10.heap.size w10 w10.drew):=Lh (Below.refl _ _).drew;refine zL (λW=>Below w10.heap.size w10 W) (1::2::3::4::5::6::7::8::9::10::12::13::14::15::16::17::18::20::21::22::23::24::25::26::29::30::31::32::33::34::35::36::38::39::40::41::42::43::44::45::47::48::49::[]) (8::9::10::16::17::18::24::25::26::33::34::36::42::43::45::[]) (0::1::2::3::4::5::6::7::8::9::10::11::12::13::14::15::16::17::18::19::20::21::22::23::24::25::26::27::28::29::30::31::32::33::34::35::36::37::38::39::40::41::42::43::44::45::46::47::48::49::[]) (by kernel_rfl) (by kernel_rfl) rfl (by kernel_rfl) rfl (Y0.out) (by simp only[xJ,List.filterMap_cons,List.filterMap_nil,List.getElem?_cons_zero,List.getElem?_cons_succ,Option.map_some];exact rfl) ?_;refine zQ rfl rfl λK hK => ?_
    go_wp2_with (go_at_call 8;refine (AW.out _).mono ?_;rintro e y1' ⟨rfl,c1⟩)
    have Y1:=Lh (zF Y0.out c1 Y0.out.size);have Z1:=Lh (zF B9.out Y1.out B9.out.size);refine hK _ _ Y1.out ?_;clear hK K c1;iterate 10
     refine zH (v := ?_) rfl rfl (λW hS => ?_) ?_;rotate_left
     ·first
       | (
        conv=>lhs;simp[go_sem,EH,EP,EQ]
        first|done|exact rfl)
       | (
        have hS:=hS rfl;obtain ⟨p1,p2⟩:=zM (P9.out.keep hS);obtain ⟨q1,q2⟩:=zM (H9.out.keep hS);obtain ⟨r1,r2⟩:=zM (K5.out.keep hS);obtain ⟨u1,u2,u3⟩:=zK (K7.out.keep hS);obtain ⟨v1,v2,v3⟩:=zK (K8.out.keep hS);conv=>lhs;simp[go_sem, *,EH,EP,EQ]
        first|done|exact rfl)
     simp only[Act.put,lA,lZ,lS]
    refine zQ rfl rfl λK hK => ?_
    go_wp2_with (go_at_call 21;refine (RN.out _ Z1.out).mono ?_;rintro e y2' ⟨rfl,c2⟩)
    have Y2:=Lh (zF Y1.out c2 Y1.out.size);have Z2:=Lh (zF B9.out Y2.out B9.out.size);refine hK _ _ Y2.out ?_;clear hK K c2;iterate 7
     refine zH (v := ?_) rfl rfl (λW hS => ?_) ?_;rotate_left
     ·first
       | (
        conv=>lhs;simp[go_sem,EH,EP,EQ]
        first|done|exact rfl)
       | (
        have hS:=hS rfl;obtain ⟨p1,p2⟩:=zM (P9.out.keep hS);obtain ⟨q1,q2⟩:=zM (H9.out.keep hS);obtain ⟨r1,r2⟩:=zM (K5.out.keep hS);obtain ⟨u1,u2,u3⟩:=zK (K7.out.keep hS);obtain ⟨v1,v2,v3⟩:=zK (K8.out.keep hS);conv=>lhs;simp[go_sem, *,EH,EP,EQ]
        first|done|exact rfl)
     simp only[Act.put,lA,lZ,lS]
    refine zQ rfl rfl λK hK => ?_
    go_wp2_with (go_at_call 22;refine (RF.out _ Z2.out).mono ?_;rintro e y3' ⟨rfl,c3⟩)
    have Y3:=Lh (zF Y2.out c3 Y2.out.size);have Z3:=Lh (zF B9.out Y3.out B9.out.size);refine hK _ _ Y3.out ?_;clear hK K c3;iterate 7
     refine zH (v := ?_) rfl rfl (λW hS => ?_) ?_;rotate_left
     ·first
       | (
        conv=>lhs;simp[go_sem,EH,EP,EQ]
        first|done|exact rfl)
       | (
        have hS:=hS rfl;obtain ⟨p1,p2⟩:=zM (P9.out.keep hS);obtain ⟨q1,q2⟩:=zM (H9.out.keep hS);obtain ⟨r1,r2⟩:=zM (K5.out.keep hS);obtain ⟨u1,u2,u3⟩:=zK (K7.out.keep hS);obtain ⟨v1,v2,v3⟩:=zK (K8.out.keep hS);conv=>lhs;simp[go_sem, *,EH,EP,EQ]
        first|done|exact rfl)
     simp only[Act.put,lA,lZ,lS]
    refine zQ rfl rfl λK hK => ?_
    go_wp2_with (go_at_call 23;refine (RT.out _).mono ?_;rintro e y4' ⟨rfl,c4⟩)
    have Y4:=Lh (zF Y3.out c4 Y3.out.size);have Z4:=Lh (zF B9.out Y4.out B9.out.size);refine hK _ _ Y4.out ?_;clear hK K c4;refine zQ rfl rfl λK hK => ?_
    go_wp2_with (go_at_call 22;refine (RG.out _ Z4.out).mono ?_;rintro e y5' ⟨rfl,c5⟩)
    have Y5:=Lh (zF Y4.out c5 Y4.out.size);have Z5:=Lh (zF B9.out Y5.out B9.out.size);refine hK _ _ Y5.out ?_;clear hK K c5;iterate 8
     refine zH (v := ?_) rfl rfl (λW hS => ?_) ?_;rotate_left
     ·first
       | (
        conv=>lhs;simp[go_sem,EH,EP,EQ]
        first|done|exact rfl)
       | (
        have hS:=hS rfl;obtain ⟨p1,p2⟩:=zM (P9.out.keep hS);obtain ⟨q1,q2⟩:=zM (H9.out.keep hS);obtain ⟨r1,r2⟩:=zM (K5.out.keep hS);obtain ⟨u1,u2,u3⟩:=zK (K7.out.keep hS);obtain ⟨v1,v2,v3⟩:=zK (K8.out.keep hS);conv=>lhs;simp[go_sem, *,EH,EP,EQ]
        first|done|exact rfl)
     simp only[Act.put,lA,lZ,lS]
    refine zQ rfl rfl λK hK => ?_
    go_wp2_with (go_at_call 24;refine (AT.out _ Z5.out).mono ?_;rintro e y6' ⟨rfl,c6⟩)
    have Y6:=Lh (zF Y5.out c6 Y5.out.size);have Z6:=Lh (zF B9.out Y6.out B9.out.size);refine hK _ _ Y6.out ?_;clear hK K c6;iterate 8
     refine zH (v := ?_) rfl rfl (λW hS => ?_) ?_;rotate_left
     ·first
       | (
        conv=>lhs;simp[go_sem,EH,EP,EQ]
        first|done|exact rfl)
       | (
        have hS:=hS rfl;obtain ⟨p1,p2⟩:=zM (P9.out.keep hS);obtain ⟨q1,q2⟩:=zM (H9.out.keep hS);obtain ⟨r1,r2⟩:=zM (K5.out.keep hS);obtain ⟨u1,u2,u3⟩:=zK (K7.out.keep hS);obtain ⟨v1,v2,v3⟩:=zK (K8.out.keep hS);conv=>lhs;simp[go_sem, *,EH,EP,EQ]
        first|done|exact rfl)
     simp only[Act.put,lA,lZ,lS]
    refine zQ rfl rfl λK hK => ?_
    go_wp2_with (go_at_call 24;refine (AU.out _ Z6.out).mono ?_;rintro e y7' ⟨rfl,c7⟩)
    have Y7:=Lh (zF Y6.out c7 Y6.out.size);have Z7:=Lh (zF B9.out Y7.out B9.out.size);refine hK _ _ Y7.out ?_;clear hK K c7;iterate 3
     refine zH (v := ?_) rfl rfl (λW hS => ?_) ?_;rotate_left
     ·first
       | (
        conv=>lhs;simp[go_sem,EH,EP,EQ]
        first|done|exact rfl)
       | (
        have hS:=hS rfl;obtain ⟨p1,p2⟩:=zM (P9.out.keep hS);obtain ⟨q1,q2⟩:=zM (H9.out.keep hS);obtain ⟨r1,r2⟩:=zM (K5.out.keep hS);obtain ⟨u1,u2,u3⟩:=zK (K7.out.keep hS);obtain ⟨v1,v2,v3⟩:=zK (K8.out.keep hS);conv=>lhs;simp[go_sem, *,EH,EP,EQ]
        first|done|exact rfl)
     simp only[Act.put,lA,lZ,lS]
    refine zT ?_;go_wp2;go_ret;exact ⟨rfl,Z7.out⟩
set_option maxRecDepth 100000 in
theorem lifted (os : Os) (started : os.Started) (H : Type) (enc : TypeId × Value → H) :
    ReturnsInHanded {} Try.checked os 5 .any (Rows.spinNextSpec.pre6 enc Try.prog Try.f5 Rows.spinNextRow.domain false) (Rows.spinNextSpec.post enc Try.prog Try.f5 false true false false) := by
  refine returnsInHanded_of_change (C := Try.checked) own started (by kernel_rfl) Try.func5
    (ChangeSpec.witness6 (enc := enc) (C := Try.checked) false ⟨#[], #[.agg #[.slice none 0 0, .slice none 0 0], .agg #[.int .i64 0, .bool false]], []⟩ 8 (by kernel_rfl) (by kernel_rfl) (by kernel_rfl) (by kernel_rfl)) ?_
  intro W base args ds gs before hval0 hW hcnd _
  have hval : ∀ (j : Nat) t v, Try.f5.params[j]? = some t → args[j]? = some v → Value.okWide Try.prog W .any base t v := hval0
  have hW' := hW
  obtain ⟨p, q, hA0, hV, rfl, hfz, hnd⟩ := hW
  have hA : DataW.TrodAll enc Try.prog W 0 (fun _ => true) true Try.f5.params.toList args.toList ds p := hA0
  rw [Try.params5] at hA hval
  obtain ⟨v0, vs0, d0, ds0, p0, q0, hargs, rfl, rfl, h0, r0⟩ := trodAll_cons hA
  obtain ⟨v1, vs1, d1, ds1, p1, q1, rfl, rfl, rfl, h1, r1⟩ := trodAll_cons r0
  obtain ⟨rfl, rfl, rfl⟩ := trodAll_nil r1
  obtain rfl : args = #[v0, v1] := by cases args; simp_all
  obtain ⟨rfl, rfl⟩ := trodVars_none hV
  have k0 := h0
  have lt0 : ∀ x ∈ p0, x.block < W.heap.size := by obtain ⟨m, hm⟩ := k0; exact DataW.trod_lt m _ _ _ hm
  obtain ⟨v, e, vs, es, rfl, hv, he⟩ := Pl.open_plan (hval 0 25 v0 rfl rfl) h0
  obtain ⟨g1, rfl, rfl, w1⟩ := Pl.open_half (hval 1 42 v1 rfl rfl) h1
  clear hA0 hval0
  refine (walk v e vs es g1 W hv he w1).mono fun e W' ⟨he, bel⟩ => ?_
  subst he
  exact ⟨_, rfl, _, _, _, [], _, [], hW', trodAll_mk1 (shut_bool Try.underlying4 _), (trodAll_cons_mk (Below.trod laidOut (by kernel_rfl) (of_decide_eq_true (by kernel_rfl)) k0 bel lt0) (trodAll_cons_mk (Below.trod laidOut (by kernel_rfl) (of_decide_eq_true (by kernel_rfl)) h1 bel (fun x hx => by cases hx)) trodAll_mk0)), rfl, bel.frame _, fun h => by cases h⟩
theorem over : Rows.spinNextRow.holds Try.pinned (OpenSpec.ofChange Rows.spinNextSpec) :=
  OpenClaim.holds_of_wide 5 Try.f5 rfl rfl rfl rfl rfl rfl rfl ⟨rfl, rfl, rfl, rfl, rfl⟩ rfl rfl rfl rfl rfl (by kernel_rfl) Try.func5 (by kernel_rfl)
    (of_decide_eq_true (by kernel_rfl)) (by unfold Func.isWrapper; first | (rw [if_pos (by decide +kernel)]; kernel_rfl) | (rw [if_neg (by decide +kernel)]; exact ⟨rfl, rfl⟩))
    (fun os started H enc _ => lifted os started H enc)
/-- THE STATEMENT -/
theorem proved : Rows.SpinNextSaid := over
#print axioms proved
end Go.Proofs.Ytibnackmddigaaa.spinNext
