import Derived.Test.YtibnackmddigaaaSpnK
import Derived.Test.YtibnackmddigaaaPlnS
import Derived.Test.YtibnackmddigaaaGeoR
set_option linter.unusedVariables false
set_option linter.unusedSimpArgs false
set_option linter.unusedSectionVars false
section
namespace Go.Proofs.Ytibnackmddigaaa.Pl
open Go.ChangeShapes Go.WideShapes Go.ChangeAt Go.RowKit Go.Proofs.Ytibnackmddigaaa.Mp
theorem Ze (W:World) (T:TypeId) (x y z u:Value) (j:Nat) {t:Value} (hu:[x,y,z,u][j]?=some t):(W.alloc (.cells #[x,y,z,u] T)).cell? ((⟨W.heap.size,0,none⟩:Addr).add j)=some t:=by
 have e:(⟨W.heap.size,0,none⟩:Addr).add j=⟨W.heap.size,j,none⟩:=by unfold Addr.add;split<;>simp_all
 rw[e];have:=(Own.made W T #[x,y,z,u]).at_.1 j;exact this.trans (by simpa using hu)
theorem Zc (es:List Eg) (x:Eg):hfs (es++[x])=hfs es++[(x.id,false),(x.id,true)]:=by simp[hfs]
section
variable {v e : Value} {es : List Eg} {w : World}
set_option maxRecDepth 10000 in
set_option maxHeartbeats 1000000 in
theorem gP (hv:∃ a l c,v=.slice a l c) (he:EIn w e es) (hm:es.length<=30000):Calls Try.prog 45 #[.agg #[v,e]] w λr w'=>∃ u,r=.returned u/\zY w' w.heap.size u (hfs es)/\Below w.heap.size w w':=by
 obtain ⟨a,n,c,rfl⟩:=hv;obtain ⟨a',c',rfl,hc1,hc2,-,hcl⟩:=he.open_;have HE:=Lh hcl;obtain ⟨i0,hi0,hz0,hz1,hz2⟩:=vW uL;clear he hcl;obtain ⟨m,hmm⟩:∃ m,m=es.length:=⟨_,rfl⟩
 rw[<- hmm]at hc1 hm ⊢;have HM:=Lh hmm;clear hmm;have PO:=Lh (Own.made w 25 #[.slice a n c,.slice a' m c']);have BB:=Lh (bx1 w 25 #[.slice a n c,.slice a' m c']);have SZ:Hid (w.heap.size+1=(w.alloc (.cells #[.slice a n c,.slice a' m c'] 25)).heap.size):=Lh (by simp);go_enter Try.func45,Try.ntmps45;go_wp2;go_loopw [3,4] (λu j wr=>∃ k:Nat,k<=m/\j=.int .i64 (k:Int)/\Hid (∃ a c,u=.slice a (2*k) c)/\Hid (zY wr (w.heap.size+1) u (hfs (es.take k)))/\Hid (Own wr w.heap.size 25 #[.slice a n c,.slice a' m c'])/\Hid (Below w.heap.size w wr)) (λu j wr=>m - (intOf j).toNat)
 case atStart=>exact ⟨0,by omega,rfl,Lh ⟨none,0,rfl⟩,Lh (zY.nil _ _),PO,BB⟩
 case round =>
  clear PO BB;obtain ⟨k,hk,rfl,HSH,HO,HP,HB⟩:=hrel;obtain ⟨q1,q2⟩:=zM HP.out;obtain ⟨au,cu,hsh⟩:=HSH.out;subst hsh;by_cases hlt:k<m
  ·have hkl:k<es.length:=by rw[<- HM.out];exact hlt
   obtain ⟨b,o,rfl,hb,hc⟩:=HE.out k hkl;obtain ⟨c1,c2,c3⟩:=hc wr HB.out;have TS:=Lh (vU es k hkl);obtain ⟨x,hx⟩:∃ x,x=es[k]'hkl:=⟨_,rfl⟩
   rw[<- hx]at c1 c2 c3 TS;have HCC:Hid (∀ W,Below w.heap.size w W->W.cell? ⟨b,o+k*3,none⟩=some (.int .i64 x.id)):=Lh λW hW=>by rw[hx];exact (hc W hW).1
   clear hx hc HE;obtain ⟨x1,x2,x3⟩:=x;simp only at c1 c2 c3 HCC;have hki:(k:Int)<(m:Int):=by omega
   have HLN:Hid ((hfs (es.take k)).length=2*k):=Lh (by rw[vV,List.length_take];have:=HM.out;omega);have BX:Hid (Below wr.heap.size wr (wr.alloc (.cells #[.int .i64 x1,.bool false,.int .i64 x1,.bool true] 42)).drew):=Lh ((bx1 _ _ _).drew);have RW:Hid (∀ W,Below wr.heap.size wr W->W.ownsRow (w.heap.size+1) 42 2 (.slice au (2*k) cu) (2*k) (hC (hfs (es.take k)))):=Lh λW hW=>by
    have:=HO.out.below hW;unfold zY at this;rwa [HLN.out]at this
   have HBS:Hid (w.heap.size+1<=wr.heap.size):=Lh HP.out.in_;have h63:2*k+2<=maxLen:=by unfold maxLen;omega
   have KS:Hid (∀ w9,(wr.alloc (.cells #[.int .i64 x1,.bool false,.int .i64 x1,.bool true] 42)).drew.grownBy w9 (Value.slice au (2*k) cu).ownBlock->Below w.heap.size w w9/\Own w9 w.heap.size 25 #[.slice a n c,.slice (some ⟨b,o,none⟩) m c']):=Lh λw9 hg=>by
    have hc:Chg (λq=>(Value.slice au (2*k) cu).ownBlock=some q) _ w9:=(Chg.refl _ _).grown hg λk hk=>.inl hk
    have hH:=HO.out.below BX.out;exact ⟨((zF HB.out BX.out HB.out.size).trans (hc.below (zF HB.out BX.out HB.out.size).size λq k=>by have:=(hH.own k).1;omega)),hc.own (HP.out.keep BX.out) λk=>(yV hH k).1 (HP.out.keep BX.out) (by decide) rfl⟩
   have hnn:((2*k:Nat):Int)=2*(k:Int):=by omega
   obtain ⟨n2,hn2⟩:∃ n2,n2=2*k:=⟨_,rfl⟩
   rw[<- hn2]at RW KS HLN h63 ⊢;have HN2:=Lh hn2;clear hnn hn2;go_upto_region 5 with fail;refine zL (λW=>Below wr.heap.size wr W\/Below w.heap.size w W/\Own W w.heap.size 25 #[.slice a n c,.slice (some ⟨b,o,none⟩) m c']) (0::1::2::3::4::5::6::7::8::9::10::11::12::13::14::17::[]) (2::6::9::13::[]) (0::1::2::3::4::5::6::7::8::9::10::11::12::13::14::15::16::17::[]) (by kernel_rfl) (by kernel_rfl) rfl (by kernel_rfl) rfl ((.inl (Below.refl _ _).drew)) (by simp only[xJ,List.filterMap_cons,List.filterMap_nil,List.getElem?_cons_zero,List.getElem?_cons_succ,Option.map_some];exact rfl) ?_;iterate 15
    refine zH (v := ?_) rfl rfl (λW hS => ?_) ?_;rotate_left
    ·first
      | (
       conv=>lhs;simp[go_sem,hki]
       first|done|exact rfl)
      | (
       have hS:=hS rfl;obtain ⟨q1,q2⟩:W.cell? ⟨w.heap.size,0,none⟩=some (.slice a n c)/\W.cell? ⟨w.heap.size,1,none⟩=some (.slice (some ⟨b,o,none⟩) m c'):=hS.elim (λh=>zM (HP.out.keep h)) (λh=>zM h.2);have d1:W.cell? ⟨b,o+k*3,none⟩=some (.int .i64 x1):=hS.elim (λh=>keep h c1) (λh=>HCC.out W h.1);conv=>lhs;simp[go_sem, *,hki]
       first|done|exact rfl)
    simp only[Act.put,lA,lZ,lS]
   refine zQ rfl rfl λK hK => ?_
   go_wp2;refine hK _ _ (.inl BX.out) ?_;clear hK K;refine zQ rfl rfl λK hK => ?_
   go_wp2_with (at_builtin;refine wpList_append_own_at _ rfl _ _ 40 rfl (w.heap.size+1) 42 i0 (.agg #[.int .i64 0,.bool false]) 2 16 Try.underlying40 hi0 hz0 hz1 hz2 rfl (by decide) (.slice au n2 cu) n2 (hC (hfs (es.take k))) rfl (RW.out _ BX.out) ⟨wr.heap.size,0,none⟩ 2 2 [.int .i64 x1,.bool false,.int .i64 x1,.bool true] rfl rfl (λj u hu=>Ze wr _ _ _ _ _ j hu) (by intro u hu;simp at hu;rcases hu with rfl|rfl|rfl|rfl<;>rfl) h63 (by have:=HN2.out;omega) (by have:=BX.out.size;have:=HBS.out;omega) ?_;intro v9 w9 hown hgrow hnil hloc;obtain ⟨ya,yc,rfl⟩:=yG hown;have HO9:=Lh hown;have HG9:=Lh hgrow;clear hown hgrow hnil hloc)
   have S9:=Lh (KS.out _ HG9.out);refine hK _ _ (.inr S9.out) ?_;clear hK K;iterate 1
    refine zH (v := ?_) rfl rfl (λW hS => ?_) ?_;rotate_left
    ·first
      | (
       conv=>lhs;simp[go_sem,hki]
       first|done|exact rfl)
      | (
       have hS:=hS rfl;obtain ⟨q1,q2⟩:W.cell? ⟨w.heap.size,0,none⟩=some (.slice a n c)/\W.cell? ⟨w.heap.size,1,none⟩=some (.slice (some ⟨b,o,none⟩) m c'):=hS.elim (λh=>zM (HP.out.keep h)) (λh=>zM h.2);have d1:W.cell? ⟨b,o+k*3,none⟩=some (.int .i64 x1):=hS.elim (λh=>keep h c1) (λh=>HCC.out W h.1);conv=>lhs;simp[go_sem, *,hki]
       first|done|exact rfl)
    simp only[Act.put,lA,lZ,lS]
   refine zT ?_;have HN9:Hid (zY w9 (w.heap.size+1) (.slice ya (n2+2) yc) (hfs (es.take (k+1)))):=Lh (by
    rw[TS.out,Zc];have:=HO9.out;unfold zY;rw[uC,List.length_append,HLN.out];exact this)
   have HS9:Hid (∃ a c,Value.slice ya (n2+2) yc=.slice a (2*(k+1)) c):=Lh ⟨ya,yc,by rw[HN2.out];rfl⟩;go_wp2;go_roundw
   case rel=>exact ⟨k+1,by omega,by go_num,HS9,HN9,Lh S9.out.2,Lh S9.out.1⟩
   case measure=>simp[intOf]<;>omega
  obtain rfl:k=m:=by omega
  have FIN:Hid (zY wr (w.heap.size+1) (.slice au (2*k) cu) (hfs es)):=Lh (by have:=HO.out;rwa [List.take_of_length_le (by rw[HM.out];exact Nat.le_refl _)]at this);obtain ⟨n2,hn2⟩:∃ n2,n2=2*k:=⟨_,rfl⟩
  rw[<- hn2]at FIN ⊢;clear hn2;go_wp2;go_ret;exact ⟨_,rfl,⟨FIN.out.1,FIN.out.2.imp id λ⟨g,cap,cur,e1,e2,e3⟩=>⟨g,cap,cur,e1,Nat.le_of_succ_le e2,e3⟩⟩,HB.out⟩
end
end Go.Proofs.Ytibnackmddigaaa.Pl
end
section
namespace Go.Proofs.Ytibnackmddigaaa.Pl
open Go.ChangeShapes Go.WideShapes Go.ChangeAt Go.RowKit Go.Proofs.Ytibnackmddigaaa.Mp
theorem Ja {α:Type} {lt:α->α->Bool} {x:α}:∀ {l:List α},l.any (lt x)=false->uF lt x l=l++[x]
 | [],_=>rfl
 | y::l,h=>by
  rw[List.any_cons,Bool.or_eq_false_iff]at h;rw[uF,h.1];simp only[Bool.false_eq_true,if_false,List.cons_append];rw[Ja h.2]
theorem Un {α:Type} {lt:α->α->Bool} {x:α}:∀ {l r:List α},l.any (lt x)=true->uF lt x (l++r)=uF lt x l++r
 | [],_,h=>by cases h
 | y::l,r,h=>by
  rw[List.cons_append,uF,uF];cases k:lt x y with
  | true=>simp
  | false =>
   rw[List.any_cons,k,Bool.false_or]at h;simp only[Bool.false_eq_true,if_false,List.cons_append];rw[Un h]
theorem fQ {α:Type} {lt:α->α->Bool} {x y:α}:∀ {l:List α},l.any (lt x)=false->lt x y=true->uF lt x (l++[y])=l++[x,y]
 | [],_,k=>by simp[uF,k]
 | z::l,h,k=>by
  rw[List.any_cons,Bool.or_eq_false_iff]at h;rw[List.cons_append,uF,h.1];simp only[Bool.false_eq_true,if_false,List.cons_append];rw[fQ h.2 k]
def fY {α:Type} (lt:α->α->Bool) (x:α) (l:List α):List α:=if l.any (lt x) then uF lt x l else l
theorem Yt {α:Type} (lt:α->α->Bool) (x y:α) (l:List α):fY lt x (l++[y])=if (!(l.any (lt x))&&lt x y)=true then fY lt x l++[x]++[y] else fY lt x l++[y]:=by
 unfold fY;rw[List.any_append];cases h:l.any (lt x) with
 | true=>simp[Un h]
 | false =>
  cases k:lt x y with
  | true=>simp[k,fQ h k]
  | false=>simp[k]
theorem zAi {α:Type} (lt:α->α->Bool) (x:α) (l:List α):uF lt x l=if l.any (lt x) then fY lt x l else fY lt x l++[x]:=by
 unfold fY;cases h:l.any (lt x) with
 | true=>simp
 | false=>simp[Ja h]
def oin (vs:List Vx) (es:List Eg) (i:Int) (l:List Hf):List Hf:=(l.filter λh=>frm es h==i).foldl (λout x=>uF (ltH vs es i) x out) []
theorem zAt {vs:List Vx} {es:List Eg} {i:Int} {l:List Hf} {x:Hf} (h:frm es x≠i):oin vs es i (l++[x])=oin vs es i l:=by
 unfold oin;rw[List.filter_append];simp[h]
theorem zAn {vs:List Vx} {es:List Eg} {i:Int} {l:List Hf} {x:Hf} (h:frm es x=i):oin vs es i (l++[x])=uF (ltH vs es i) x (oin vs es i l):=by
 unfold oin;rw[List.filter_append,List.foldl_append];simp[h]
theorem zBr (vs:List Vx) (es:List Eg) (i:Int):oin vs es i (hfs es)=ot vs es i:=rfl
theorem zB3 {vs:List Vx} {es:List Eg} {i:Int} {l:List Hf} {x:Hf} (h:x∈oin vs es i l):x∈l/\frm es x=i:=by
 unfold oin at h;have hp:=gL (ltH vs es i) (l.filter λh=>frm es h==i) [];have:=hp.mem_iff.1 h;simpa using this
structure gX (w:World) (q:Nat) (pc:Array Value) (B:Nat) (av:Value) (H:List Hf) (ov:Value) (o:List Hf):Prop where
 plan:Own w q 25 pc
 all:zY w q av H
 out:zY w q ov o
 lt:q<B/\(∀ g,av.ownBlock=some g->g<B)/\∀ g,ov.ownBlock=some g->g<B
section
variable {w w' : World} {q B : Nat} {pc : Array Value} {av ov : Value} {H o : List Hf}
theorem gX.keep {S:Nat->Prop} (h:gX w q pc B av H ov o) (hc:Chg S w w') (hS:∀ k,S k->B<=k):gX w' q pc B av H ov o :=
 ⟨hc.own h.plan λk=>by have:=hS _ k;have:=h.lt.1;omega,h.all.keep hc λg hg k=>by have:=hS _ k;have:=h.lt.2.1 g hg;omega,h.out.keep hc λg hg k=>by have:=hS _ k;have:=h.lt.2.2 g hg;omega,h.lt⟩
theorem gX.below (h:gX w q pc B av H ov o) (hb:Below w.heap.size w w'):gX w' q pc B av H ov o:=h.keep (Chg.of (S:=λ_=>False) hb) λ_ k=>k.elim
end
theorem zC7 {o1 o2 a1 a2 b1 b2:Int} (rq:Rng o1 o2) (ra:Rng a1 a2) (rb:Rng b1 b2) (w:World):Calls Try.prog 63 #[.agg #[.int .i64 o1,.int .i64 o2],.agg #[.int .i64 a1,.int .i64 a2],.agg #[.int .i64 b1,.int .i64 b2]] w λe w'=>e=.returned (.int .i64 (Ub o1 o2 a1 a2 b1 b2))/\Below w.heap.size w w' :=
 (Go.Proofs.Ytibnackmddigaaa.RAround_in rq ra rb w).mono λ_ _ h=>⟨h.1,h.2.base⟩
theorem zC2 {vs:List Vx} {es:List Eg} (fV':FlV vs) (hE:FlE vs es) {i:Int} {x y:Hf} (hx:x∈lv es i) (hy:y∈lv es i) (w:World) :
 Calls Try.prog 63 #[.agg #[.int .i64 (px vs i),.int .i64 (py vs i)],.agg #[.int .i64 (px vs (dst es x)),.int .i64 (py vs (dst es x))],.agg #[.int .i64 (px vs (dst es y)),.int .i64 (py vs (dst es y))]] w λe w'=>e=.returned (.int .i64 (cmH vs es i x y))/\Below w.heap.size w w':=by
 obtain ⟨hx1,hx2⟩:=uD.1 hx;obtain ⟨hy1,hy2⟩:=uD.1 hy;obtain ⟨f1,f2,f3⟩:=vC hE hx1;obtain ⟨g1,g2,g3⟩:=vC hE hy1;rw[hx2]at f1 f3;rw[hy2]at g1 g3;have e:cmH vs es i x y=Ub (px vs i) (py vs i) (px vs (dst es x)) (py vs (dst es x)) (px vs (dst es y)) (py vs (dst es y)):=zC0 (jN fV' f1 f2 f3) (jN fV' g1 g2 g3);rw[e];exact zC7 (jJ fV' f1) (jJ fV' f2) (jJ fV' g2) w
end Go.Proofs.Ytibnackmddigaaa.Pl
end
