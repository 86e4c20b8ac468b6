import Derived.Test.YtibnackmddigaaaPlnD
import Derived.Laws.OwnMore
import Derived.Test.YtibnackmddigaaaMapM
import Derived.Test.YtibnackmddigaaaSpnM
set_option linter.unusedVariables false
set_option linter.unusedSimpArgs false
set_option linter.unusedSectionVars false
section
namespace Go.Proofs.Ytibnackmddigaaa.Pl
open Go.ChangeShapes Go.WideShapes Go.ChangeAt Go.RowKit
def DT (w:World) (B q:Nat):Prop:=B<=q/\((∃ es ck,w.heap[q]?=some (.map es ck))\/∃ T cs,Own w q T cs/\(T=124\/T=37\/T=148))
section
variable {w w' : World} {B d m1 m2 m3 : Nat} {pv lv : Value} {L : List (Nat × Sg)} {vs : List Vx} {es : List Eg}
theorem xO {p q:Nat} {T U:TypeId} {cs ds:Array Value} (h:Own w p T cs) (k:Own w q U ds) (hT:T≠U):p≠q:=by
 rintro rfl;unfold Own at h k;rw[h]at k;injection k with k;injection k with _ e;exact hT e
theorem yL {T:TypeId} {k n:Nat} {v:Value} {xs:List Value} (h:w.ownsRow B T k v n xs) {g:Nat} (hg:v.ownBlock=some g):B<=g/\∃ cur,Own w g T cur:=by
 rcases h.2 with ⟨rfl,_⟩|⟨g',cap,cur,rfl,r1,r2,_⟩
 ·cases hg
 injection hg with hg;have hg:g'=g:=hg;subst hg;exact ⟨r1,cur,r2⟩
theorem xI {T:TypeId} {k n:Nat} {v:Value} {xs:List Value} {Z:Nat->Prop} (hc:Chg Z w w') (h:w.ownsRow B T k v n xs) (hz:∀ g,v.ownBlock=some g->¬ Z g):w'.ownsRow B T k v n xs:=by
 have hlt:=World.ownsRow.lt h;refine ⟨h.1,?_⟩;rcases h.2 with h2|⟨g,cap,cur,rfl,r1,r2,r3⟩
 ·exact .inl h2
 exact .inr ⟨g,cap,cur,rfl,r1,(hc.block g (hlt g rfl).2 (hz g rfl)).trans r2,r3⟩
theorem yG {T:TypeId} {k n:Nat} {v:Value} {xs:List Value} (h:w.ownsRow B T k v n xs):∃ a c,v=.slice a n c:=by
 rcases h.2 with ⟨rfl,h2⟩|⟨g,cap,cur,rfl,_⟩
 ·exact ⟨none,0,by rw[h2]⟩
 exact ⟨_,_,rfl⟩
theorem Vc:(Try.prog.info? 37).map (λi=>(i.zero,i.size,i.bytes))=some (some (.agg #[.int .i64 0,.int .i64 0]),2,16):=by kernel_rfl
theorem Zu:(Try.prog.info? 148).map (λi=>(i.zero,i.size,i.bytes))=some (some (.pointer none),1,8):=by kernel_rfl
theorem vW {T:TypeId} {z:Value} {s b:Nat} (h:(Try.prog.info? T).map (λi=>(i.zero,i.size,i.bytes))=some (some z,s,b)):∃ i,Try.prog.info? T=some i/\i.zero=some z/\i.size=s/\i.bytes=b:=by
 cases e:Try.prog.info? T with
 | none=>rw[e]at h;cases h
 | some i =>
  rw[e]at h;simp only[Option.map_some,Option.some.injEq,Prod.mk.injEq]at h;exact ⟨i,rfl,h.1,h.2.1,h.2.2⟩
theorem vX (W:World) (T:TypeId) (x y:Value) (j:Nat) {t:Value} (hu:[x,y][j]?=some t):(W.alloc (.cells #[x,y] T)).cell? ((⟨W.heap.size,0,none⟩:Addr).add j)=some t:=by
 have e:(⟨W.heap.size,0,none⟩:Addr).add j=⟨W.heap.size,j,none⟩:=by unfold Addr.add;split<;>simp_all
 rw[e];have:=(Own.made W T #[x,y]).at_.1 j;exact this.trans (by simpa using hu)
structure Dr5 (w:World) (B d m1 m2 m3:Nat) (pv lv:Value) (L:List (Nat × Sg)) (V1 V2 V3:List Vx) (E1:List Eg):Prop where
 own:Own w d 124 #[.map (some m1),.map (some m2),.map (some m3),pv,lv]
 base:B<=d/\B<=m1/\B<=m2/\B<=m3
 apart:m1≠m2/\m1≠m3/\m2≠m3
 places:xD w m1 .i64 (plF V1)
 met:yX w m2 k2 (mtF V2)
 joined:yX w m3 k2 (jnF E1)
 points:w.ownsRow B 37 2 pv V3.length (ptC V3)
 lines:w.ownsRow B 148 1 lv L.length (lpC L)
 each:∀ x∈L,B<=x.1/\jI w x.1 x.2
theorem Drw.five (h:Drw w B d m1 m2 m3 pv lv L vs es):Dr5 w B d m1 m2 m3 pv lv L vs vs vs es:=⟨h.own,h.base,h.apart,h.places,h.met,h.joined,h.points,h.lines,h.each⟩
variable {V1 V2 V3 : List Vx} {E1 : List Eg}
theorem Dr5.all (h:Dr5 w B d m1 m2 m3 pv lv L vs vs vs es) (hs:L.map (·.2)=es.map λe=>xX vs e.a e.b):Drw w B d m1 m2 m3 pv lv L vs es:=⟨h.own,h.base,h.apart,h.places,h.met,h.joined,h.points,h.lines,hs,h.each⟩
theorem Dr5.below (h:Dr5 w B d m1 m2 m3 pv lv L V1 V2 V3 E1) (hb:Below w.heap.size w w'):Dr5 w' B d m1 m2 m3 pv lv L V1 V2 V3 E1 :=
 ⟨h.own.keep hb,h.base,h.apart,h.places.keep (hb.block _ h.places.in_),h.met.keep (hb.block _ h.met.in_),h.joined.keep (hb.block _ h.joined.in_),uK h.points hb,uK h.lines hb,λx hx=>⟨(h.each x hx).1,Own.keep (h.each x hx).2 hb⟩⟩
theorem Dr5.put1 (h:Dr5 w B d m1 m2 m3 pv lv L V1 V2 V3 E1) (hc:Chg (·=m1) w w') {U:List Vx} (hf:xD w' m1 .i64 (plF U)):Dr5 w' B d m1 m2 m3 pv lv L U V2 V3 E1 :=
 ⟨hc.own h.own λk=>(h.places.ne h.own) k.symm,h.base,h.apart,hf,h.met.keep (hc.block _ h.met.in_ λk=>h.apart.1 k.symm),h.joined.keep (hc.block _ h.joined.in_ λk=>h.apart.2.1 k.symm),
  xI hc h.points λg hg k=>by obtain ⟨_,cur,ho⟩:=yL h.points hg;exact (h.places.ne ho) k.symm,
  xI hc h.lines λg hg k=>by obtain ⟨_,cur,ho⟩:=yL h.lines hg;exact (h.places.ne ho) k.symm,
  λx hx=>⟨(h.each x hx).1,hc.own (h.each x hx).2 λk=>(h.places.ne (h.each x hx).2) k.symm⟩⟩
theorem Dr5.put2 (h:Dr5 w B d m1 m2 m3 pv lv L V1 V2 V3 E1) (hc:Chg (·=m2) w w') {U:List Vx} (hf:yX w' m2 k2 (mtF U)):Dr5 w' B d m1 m2 m3 pv lv L V1 U V3 E1 :=
 ⟨hc.own h.own λk=>(h.met.ne h.own) k.symm,h.base,h.apart,h.places.keep (hc.block _ h.places.in_ λk=>h.apart.1 k),hf,h.joined.keep (hc.block _ h.joined.in_ λk=>h.apart.2.2 k.symm),
  xI hc h.points λg hg k=>by obtain ⟨_,cur,ho⟩:=yL h.points hg;exact (h.met.ne ho) k.symm,
  xI hc h.lines λg hg k=>by obtain ⟨_,cur,ho⟩:=yL h.lines hg;exact (h.met.ne ho) k.symm,
  λx hx=>⟨(h.each x hx).1,hc.own (h.each x hx).2 λk=>(h.met.ne (h.each x hx).2) k.symm⟩⟩
theorem Dr5.put3 (h:Dr5 w B d m1 m2 m3 pv lv L V1 V2 V3 E1) (hc:Chg (·=m3) w w') {U:List Eg} (hf:yX w' m3 k2 (jnF U)):Dr5 w' B d m1 m2 m3 pv lv L V1 V2 V3 U :=
 ⟨hc.own h.own λk=>(h.joined.ne h.own) k.symm,h.base,h.apart,h.places.keep (hc.block _ h.places.in_ λk=>h.apart.2.1 k),h.met.keep (hc.block _ h.met.in_ λk=>h.apart.2.2 k),hf,
  xI hc h.points λg hg k=>by obtain ⟨_,cur,ho⟩:=yL h.points hg;exact (h.joined.ne ho) k.symm,
  xI hc h.lines λg hg k=>by obtain ⟨_,cur,ho⟩:=yL h.lines hg;exact (h.joined.ne ho) k.symm,
  λx hx=>⟨(h.each x hx).1,hc.own (h.each x hx).2 λk=>(h.joined.ne (h.each x hx).2) k.symm⟩⟩
theorem Dr5.pts (h:Dr5 w B d m1 m2 m3 pv lv L V1 V2 V3 E1) {n c:Nat} {a:Option Addr} {U:List Vx} (hg:w.grownBy w' pv.ownBlock) (hr:w'.ownsRow B 37 2 (.slice a n c) U.length (ptC U)) :
 Dr5 (w'.setCell ⟨d,3,none⟩ (.slice a n c)) B d m1 m2 m3 (.slice a n c) lv L V1 V2 U E1/\Chg (DT w B) w (w'.setCell ⟨d,3,none⟩ (.slice a n c)):=by
 have c1:Chg (λq=>pv.ownBlock=some q) w w':=(Chg.refl _ _).grown hg λk hk=>.inl hk
 have key:∀ {q:Nat} {T:TypeId} {cs:Array Value},Own w q T cs->T≠37->¬ pv.ownBlock=some q:=λho hT e=>by
  obtain ⟨_,cur,ho2⟩:=yL h.points e;exact xO ho ho2 hT rfl
 have keym:∀ {q:Nat},(∃ es ck,w.heap[q]?=some (.map es ck))->¬ pv.ownBlock=some q:=λho e=>by
  obtain ⟨_,cur,ho2⟩:=yL h.points e;obtain ⟨es,ck,e2⟩:=ho;unfold Own at ho2;rw[ho2]at e2;cases e2
 have od:=c1.own h.own (key h.own (by decide));have c2:Chg (λq=>q=d) w' (w'.setCell ⟨d,3,none⟩ (.slice a n c)):=(Chg.refl (λq=>q=d) w').set ⟨d,3,none⟩ (.inl rfl) _;have p1:=h.places.keep (c1.block _ h.places.in_ (keym (by obtain ⟨es,ck,e,_⟩:=h.places;exact ⟨es,ck,e⟩)));have p2:=h.met.keep (c1.block _ h.met.in_ (keym (by obtain ⟨es,ck,e,_⟩:=h.met;exact ⟨es,ck,e⟩)));have p3:=h.joined.keep (c1.block _ h.joined.in_ (keym (by obtain ⟨es,ck,e,_⟩:=h.joined;exact ⟨es,ck,e⟩)));have p4:=xI c1 h.lines λg hg k=>by obtain ⟨_,cur,ho⟩:=yL h.lines hg;exact key ho (by decide) k
 have p5:∀ x∈L,B<=x.1/\jI w' x.1 x.2:=λx hx=>⟨(h.each x hx).1,c1.own (h.each x hx).2 (key (h.each x hx).2 (by decide))⟩
 refine ⟨⟨(od.put 3 _).as (by simp),h.base,h.apart,p1.keep (c2.block _ p1.in_ (p1.ne od)),p2.keep (c2.block _ p2.in_ (p2.ne od)),p3.keep (c2.block _ p3.in_ (p3.ne od)),
  xI c2 hr λg hg k=>by obtain ⟨_,cur,ho⟩:=yL hr hg;exact xO ho od (by decide) k,
  xI c2 p4 λg hg k=>by obtain ⟨_,cur,ho⟩:=yL p4 hg;exact xO ho od (by decide) k,
  λx hx=>⟨(p5 x hx).1,c2.own (p5 x hx).2 (xO (p5 x hx).2 od (by decide))⟩⟩,?_⟩
 refine Chg.same (c1.mono λq _ e => ?_) ((c2.mono (T:=DT w B) λq _ e => ?_))
 ·obtain ⟨hb,cur,ho⟩:=yL h.points e;exact ⟨hb,.inr ⟨_,cur,ho,.inr (.inl rfl)⟩⟩
 subst e;exact ⟨h.base.1,.inr ⟨_,_,h.own,.inl rfl⟩⟩
theorem Dr5.lns (h:Dr5 w B d m1 m2 m3 pv lv L V1 V2 V3 E1) {n c:Nat} {a:Option Addr} {U:List (Nat × Sg)} (hg:w.grownBy w' lv.ownBlock) (hr:w'.ownsRow B 148 1 (.slice a n c) U.length (lpC U)) (hU:∀ x∈U,B<=x.1/\jI w x.1 x.2) :
 Dr5 (w'.setCell ⟨d,4,none⟩ (.slice a n c)) B d m1 m2 m3 pv (.slice a n c) U V1 V2 V3 E1/\Chg (DT w B) w (w'.setCell ⟨d,4,none⟩ (.slice a n c)):=by
 have c1:Chg (λq=>lv.ownBlock=some q) w w':=(Chg.refl _ _).grown hg λk hk=>.inl hk
 have key:∀ {q:Nat} {T:TypeId} {cs:Array Value},Own w q T cs->T≠148->¬ lv.ownBlock=some q:=λho hT e=>by
  obtain ⟨_,cur,ho2⟩:=yL h.lines e;exact xO ho ho2 hT rfl
 have keym:∀ {q:Nat},(∃ es ck,w.heap[q]?=some (.map es ck))->¬ lv.ownBlock=some q:=λho e=>by
  obtain ⟨_,cur,ho2⟩:=yL h.lines e;obtain ⟨es,ck,e2⟩:=ho;unfold Own at ho2;rw[ho2]at e2;cases e2
 have od:=c1.own h.own (key h.own (by decide));have c2:Chg (λq=>q=d) w' (w'.setCell ⟨d,4,none⟩ (.slice a n c)):=(Chg.refl (λq=>q=d) w').set ⟨d,4,none⟩ (.inl rfl) _;have p1:=h.places.keep (c1.block _ h.places.in_ (keym (by obtain ⟨es,ck,e,_⟩:=h.places;exact ⟨es,ck,e⟩)));have p2:=h.met.keep (c1.block _ h.met.in_ (keym (by obtain ⟨es,ck,e,_⟩:=h.met;exact ⟨es,ck,e⟩)));have p3:=h.joined.keep (c1.block _ h.joined.in_ (keym (by obtain ⟨es,ck,e,_⟩:=h.joined;exact ⟨es,ck,e⟩)));have p4:=xI c1 h.points λg hg k=>by obtain ⟨_,cur,ho⟩:=yL h.points hg;exact key ho (by decide) k
 have p5:∀ x∈U,B<=x.1/\jI w' x.1 x.2:=λx hx=>⟨(hU x hx).1,c1.own (hU x hx).2 (key (hU x hx).2 (by decide))⟩
 refine ⟨⟨(od.put 4 _).as (by simp),h.base,h.apart,p1.keep (c2.block _ p1.in_ (p1.ne od)),p2.keep (c2.block _ p2.in_ (p2.ne od)),p3.keep (c2.block _ p3.in_ (p3.ne od)),
  xI c2 p4 λg hg k=>by obtain ⟨_,cur,ho⟩:=yL p4 hg;exact xO ho od (by decide) k,
  xI c2 hr λg hg k=>by obtain ⟨_,cur,ho⟩:=yL hr hg;exact xO ho od (by decide) k,
  λx hx=>⟨(p5 x hx).1,c2.own (p5 x hx).2 (xO (p5 x hx).2 od (by decide))⟩⟩,?_⟩
 refine Chg.same (c1.mono λq _ e => ?_) ((c2.mono (T:=DT w B) λq _ e => ?_))
 ·obtain ⟨hb,cur,ho⟩:=yL h.lines e;exact ⟨hb,.inr ⟨_,cur,ho,.inr (.inr rfl)⟩⟩
 subst e;exact ⟨h.base.1,.inr ⟨_,_,h.own,.inl rfl⟩⟩
theorem Zd (vs:List Vx) (v:Vx) (h:yJ vs v.id=false):(λj=>if j=v.id then some (k2 (v.x,v.y)) else plF vs j)=plF (vs++[v]):=by
 funext j
 unfold plF fV;rw[List.find?_append];by_cases e:j=v.id
 ·subst e;have:vs.find? (λu=>u.id==v.id)=none:=by
   rw[List.find?_eq_none];intro u hu;simpa using fA.1 h u hu
  rw[if_pos rfl,this];simp
 have:(v.id==j)=false:=by simpa using λk=>e k.symm
 rw[if_neg e];simp[this]
theorem Zo (vs:List Vx) (v:Vx):mtF vs++[((v.x,v.y),.int .i64 v.id)]=mtF (vs++[v]):=by simp[mtF]
theorem zBc (es:List Eg) (v:Eg):jnF es++[((min v.a v.b,max v.a v.b),.int .i64 v.id)]=jnF (es++[v]):=by simp[jnF]
theorem zAq (vs:List Vx) (v:Vx):ptC vs++[.int .i64 v.x,.int .i64 v.y]=ptC (vs++[v]):=by simp[ptC]
theorem zBe (L:List (Nat × Sg)) (q:Nat × Sg):lpC L++[.pointer (some ⟨q.1,0,none⟩)]=lpC (L++[q]):=by simp[lpC]
end
end Go.Proofs.Ytibnackmddigaaa.Pl
end
section
namespace Go.Proofs.Ytibnackmddigaaa.Mp
open Go.ChangeShapes Go.WideShapes Go.ChangeAt Go.RowKit
section
variable {P : Program} {w : World} {t e : TypeId} {k : IntKind} {l : List (Int × Value)} {b : Nat} {kt : TypeId}
theorem Ud {α:Type}:∀ (L:List α) (j:Nat) (e e':α),L[j]?=some e->(L.set j e').Perm (e'::L.eraseIdx j)
 | [],j,e,e',h=>by simp at h
 | x::L,0,e,e',h=>by simp
 | x::L,j+1,e,e',h=>by
  have ih:=Ud L j e e' (by simpa using h);rw[List.set_cons_succ,List.eraseIdx_cons_succ];exact (ih.cons x).trans (List.Perm.swap e' x _)
theorem yM.up (h:yM w b k l) (ht:P.underlying t=some (.map kt e)) (hk:P.underlying kt=some (.int k)) (i:Int) (v:Value) :
 ∃ w',(Instr.mapUpdate t (.map (some b)) (.int k i) v).run P w=.ok () w'/\yM w' b k ((i,v)::l.filter λp=>p.1 != i)/\Chg (·=b) w w'/\w'.heap.size=w.heap.size:=by
 by_cases hp:∀ u,(i,u)∉l
 ·obtain ⟨w',h1,h2,h3,h4⟩:=h.put ht hk v hp;refine ⟨w',h1,?_,h3,h4⟩;rw[gH hp];exact h2.perm (List.perm_append_singleton _ _)
 obtain ⟨u,hu⟩:∃ u,(i,u)∈l:=by simpa using hp
 have hlt:=h.in_;obtain ⟨es,ck,j,e0,hb,E,h1,h2,h3,h4⟩:=h.find_some hu;have hst:(Instr.keyThatStays (.int k i) (.int k i)).run P w=.ok (.int k i) w:=by
  have:Instr.sameBits 10000 (.int k i) (.int k i)=true:=by unfold Instr.sameBits;simp
  simp[Instr.keyThatStays,this]
 have h5:es.toList[j]?=some e0:=by simpa using h1
 have hlist:(es.modify j (λe'=>{ e' with key:=.int k i,val:=v })).toList=es.toList.set j { e0 with key:=.int k i,val:=v }:=by
  rw[Array.toList_modify];refine List.ext_getElem? λn => ?_
  rw[List.getElem?_modify,List.getElem?_set];by_cases e:j=n
  ·subst e;have:=(List.getElem?_eq_some_iff.1 h5).1;simp only[h5,if_true,this];rfl
  simp[e]
 refine ⟨{ w with heap:=w.heap.setIfInBounds b (.map (es.modify j λe'=>{ e' with key:=.int k i,val:=v }) ck) },by simp[Instr.mapUpdate,run_underlying ht,MapKept.run_getObj_map hb,yR hk,Instr.findKey,run_underlying hk,h4,h1,h2,hst,MapKept.run_setObj_map _ hb,Result.andThen],⟨_,_,(fB hlt _).2,⟨?_,?_,?_,?_⟩⟩,(fB hlt _).1,by simp⟩
 ·rw[hlist];refine ((Ud es.toList j e0 _ h5).map kv).trans ?_;rw[List.map_cons,List.map_cons];exact (zAg kv E.perm E.nodup h5 h2).cons _
 ·rw[List.map_cons,List.nodup_cons];refine ⟨λhm => ?_,((List.filter_sublist (l:=l) (p:=λp=>p.1 != i)).map λp=>p.1).nodup E.nodup⟩;obtain ⟨q,hq,e⟩:=List.mem_map.1 hm;have:=(List.mem_filter.1 hq).2;simp at this;exact this e
 ·intro x hx;rw[hlist]at hx;rcases List.mem_or_eq_of_mem_set hx with hx|rfl
  ·exact E.born x hx
  exact E.born e0 (List.mem_of_getElem? h5)
 rw[hlist];have hm:(es.toList.set j { e0 with key:=.int k i,val:=v }).map (·.born)=es.toList.map (·.born):=by
  rw[List.map_set];have h6:(es.toList.map (·.born))[j]?=some e0.born:=by simp[h1]
  refine List.ext_getElem? λn => ?_
  rw[List.getElem?_set];by_cases e:j=n
  ·subst e;rw[h6];have:=(List.getElem?_eq_some_iff.1 h6).1;simp only[if_true,this]
  simp[e]
 rw[hm];exact E.once
end
end Go.Proofs.Ytibnackmddigaaa.Mp
end
section
namespace Go.Proofs.Ytibnackmddigaaa.Pl
open Go.ChangeShapes Go.WideShapes Go.ChangeAt Go.RowKit Go.Proofs.Ytibnackmddigaaa.Mp
def hV (h:Hf):Value:=.agg #[.int .i64 h.1,.bool h.2]
def hC (L:List Hf):List Value:=L.flatMap λh=>[.int .i64 h.1,.bool h.2]
theorem qP (L:List Hf):(hC L).length=L.length*2:=by
 induction L with
 | nil=>rfl
 | cons x l ih=>unfold hC at *;rw[List.flatMap_cons,List.length_append,ih];simp;omega
theorem uC (a b:List Hf):hC (a++b)=hC a++hC b:=by simp[hC]
theorem jG (h:Hf):hC [h]=[.int .i64 h.1,.bool h.2]:=rfl
theorem Uf:∀ (L:List Hf) (i:Nat) (hi:i<L.length),(hC L)[i*2]?=some (.int .i64 (L[i]'hi).1)/\(hC L)[i*2+1]?=some (.bool (L[i]'hi).2)
 | x::L,0,_=>⟨rfl,rfl⟩
 | x::L,i+1,hi=>by
  have h:=Uf L i (by simpa using hi);have e:hC (x::L)=[.int .i64 x.1,.bool x.2]++hC L:=uC [x] L;rw[e];rw[show (i+1)*2=i*2+2 by omega,show i*2+2+1=i*2+1+2 by omega];simpa using h
def zY (w:World) (B:Nat) (v:Value) (L:List Hf):Prop:=w.ownsRow B 42 2 v L.length (hC L)
def HIn (w:World) (v:Value) (L:List Hf):Prop :=
 ∃ a cap,v=.slice a L.length cap/\L.length<=cap/\cap<=maxLen /\
  (L=[]\/∃ b o,a=some ⟨b,o,none⟩/\b<w.heap.size/\∀ i (h:i<L.length),w.cell? ⟨b,o+i*2,none⟩=some (.int .i64 (L[i]'h).1)/\w.cell? ⟨b,o+i*2+1,none⟩=some (.bool (L[i]'h).2))
section
variable {w w' : World} {B : Nat} {v : Value} {L : List Hf}
theorem HIn.below (h:HIn w v L) (hb:Below w.heap.size w w'):HIn w' v L:=by
 obtain ⟨a,cap,h1,h2,h3,h5⟩:=h;refine ⟨a,cap,h1,h2,h3,?_⟩;rcases h5 with h5|⟨b,o,e,hb',hcl⟩
 ·exact .inl h5
 exact .inr ⟨b,o,e,Nat.lt_of_lt_of_le hb' hb.size,λi hi=>⟨keep hb (hcl i hi).1,keep hb (hcl i hi).2⟩⟩
theorem HIn.open_ (h:HIn w v L):∃ a cap,v=.slice a L.length cap/\L.length<=cap/\cap<=maxLen/\∀ i (hi:i<L.length),∃ b o,a=some ⟨b,o,none⟩/\b<w.heap.size/\∀ W,Below w.heap.size w W ->
 W.cell? ⟨b,o+i*2,none⟩=some (.int .i64 (L[i]'hi).1)/\W.cell? ⟨b,o+i*2+1,none⟩=some (.bool (L[i]'hi).2):=by
 obtain ⟨a,cap,h1,h2,h3,h5⟩:=h;refine ⟨a,cap,h1,h2,h3,λi hi => ?_⟩;rcases h5 with h5|⟨b,o,e,hb,hcl⟩
 ·subst h5;simp at hi
 exact ⟨b,o,e,hb,λW hW=>⟨keep hW (hcl i hi).1,keep hW (hcl i hi).2⟩⟩
theorem HIn.nil (w:World):HIn w (.slice none 0 0) []:=⟨none,0,rfl,Nat.le_refl _,Nat.zero_le _,.inl rfl⟩
theorem zY.nil (w:World) (B:Nat):zY w B (.slice none 0 0) []:=World.ownsRow_nil _ _ _ _
theorem zY.shape (h:zY w B v L):∃ a c,v=.slice a L.length c:=yG h
theorem zY.own (h:zY w B v L) {g:Nat} (hg:v.ownBlock=some g):B<=g/\∃ cur,Own w g 42 cur:=yL h hg
theorem zY.keep {Z:Nat->Prop} (h:zY w B v L) (hc:Chg Z w w') (hz:∀ g,v.ownBlock=some g->¬ Z g):zY w' B v L:=xI hc h hz
theorem zY.below (h:zY w B v L) (hb:Below w.heap.size w w'):zY w' B v L:=h.keep (Chg.of (S:=λ_=>False) hb) λ_ _ k=>k
theorem zY.lt (h:zY w B v L) {g:Nat} (hg:v.ownBlock=some g):g<w.heap.size:=(World.ownsRow.lt h g hg).2
theorem zY.in_ (h:zY w B v L):HIn w v L:=by
 rcases h.2 with ⟨rfl,h0⟩|⟨g,cap,cur,rfl,h1,h2,h3,h4,h5,h6⟩
 ·have:L=[]:=List.eq_nil_of_length_eq_zero h0;subst this;exact HIn.nil w
 have ho:Own w g 42 cur:=h2;refine ⟨_,cap,rfl,h3,h4,.inr ⟨g,0,rfl,ho.in_,λi hi => ?_⟩⟩;have k:=ho.at_.1;have key:∀ j,j<L.length*2->cur[j]?=(hC L)[j]?:=λj hj=>by
  rw[<- h6,List.getElem?_take_of_lt hj,Array.getElem?_toList]
 obtain ⟨c1,c2⟩:=Uf L i hi;rw[Nat.zero_add,k,k,key _ (by omega),key _ (by omega)];exact ⟨c1,c2⟩
end
theorem uL:(Try.prog.info? 42).map (λi=>(i.zero,i.size,i.bytes))=some (some (.agg #[.int .i64 0,.bool false]),2,16):=by kernel_rfl
theorem zM {w:World} {p:Nat} {T:TypeId} {x y:Value} (h:Own w p T #[x,y]):w.cell? ⟨p,0,none⟩=some x/\w.cell? ⟨p,1,none⟩=some y:=⟨(h.at_).1 0,(h.at_).1 1⟩
theorem jV (a1 b1:Int) (a2 b2:Bool) (w:World):(Op.equalIn 10000 42 (.agg #[.int .i64 a1,.bool a2]) (.agg #[.int .i64 b1,.bool b2])).run Try.prog w=.ok (decide (a1=b1/\a2=b2)) w:=by
 have u3:=Try.underlying3;have a3:=Try.isAgg3;have z3:=Try.sizeOf3;have u4:=Try.underlying4;have a4:=Try.isAgg4;have z4:=Try.sizeOf4;rw[show (10000:Nat)=9999+1 from rfl,run_equalIn_struct w 9999 42 _ _ (by simp[Program.fieldsOf,Try.underlying42]) (by kernel_rfl)];simp only[Program.fieldsOf,Try.underlying42];by_cases h0:a1=b1<;>cases a2<;>cases b2<;>simp[Op.eqFields,go_sem,part,u3,a3,z3,u4,a4,z4,h0]
theorem zA3 (em:Bool) (n:Nat) (z:Bool) (w:World):(Instr.checkKey em (n+1) 4 (.bool z)).run Try.prog w=.ok () w:=by
 simp[Instr.checkKey,run_underlying Try.underlying4,Result.andThen]
theorem vY:Vj Try.prog 42 hV where
 chk em p w:=by
  have u3:=Try.underlying3;have a3:=Try.isAgg3;have z3:=Try.sizeOf3;have u4:=Try.underlying4;have a4:=Try.isAgg4;have z4:=Try.sizeOf4;unfold hV;rw[show (10000:Nat)=9998+1+1 from rfl,Instr.checkKey];simp only[Sem.run_bind,run_underlying Try.underlying42,Result.andThen_ok];simp[Jn,zA3,go_sem,part,u3,a3,z3,u4,a4,z4]
 eq p q w:=by
  have h:=jV p.1 q.1 p.2 q.2 w;have e:decide (p=q)=decide (p.1=q.1/\p.2=q.2):=by
   obtain ⟨p1,p2⟩:=p;obtain ⟨q1,q2⟩:=q;simp
  rw[e];exact h
 wide:=by rw[Try.underlying42]
 kind:=⟨_,Try.underlying42⟩
set_option maxRecDepth 10000 in
theorem Qv (h:Hf) (w:World):Calls Try.prog 55 #[hV h] w λe w'=>e=.returned (hV (tw h))/\Below w.heap.size w w':=by
 obtain ⟨e,b⟩:=h;unfold hV tw;simp only;go_enter Try.func55,Try.ntmps55;go_wp2;refine bodyPost_ret (by simp[results,Try.results55,go_sem]) rfl ⟨rfl,?_⟩;repeat' (first|(with_reducible exact Below.refl _ _)|(with_reducible assumption)|(with_reducible refine zX ?_ _)|(with_reducible refine Below.drew ?_)|(with_reducible refine Below.alloc ?_ ?_ _)|(with_reducible refine Below.setCell ?_ ?_ _)|(with_reducible refine zF ?_ zW ?_)|(with_reducible exact Nat.le_refl _)|(with_reducible exact Nat.le_succ _)|(with_reducible exact Nat.le_succ_of_le zW)|omega|(simp;done)|(simp;omega)|(exact Nat.le_succ _)|(exact Nat.le_succ_of_le zW))
end Go.Proofs.Ytibnackmddigaaa.Pl
end
