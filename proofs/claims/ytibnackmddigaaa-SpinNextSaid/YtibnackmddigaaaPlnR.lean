import Derived.Test.YtibnackmddigaaaGeoD
import Derived.Test.YtibnackmddigaaaGeoJ
import Derived.Test.YtibnackmddigaaaPlnM
import Derived.Test.YtibnackmddigaaaSta
import Derived.Test.YtibnackmddigaaaTree
import Derived.Deep.OwnRows
import Derived.BigQuiet
set_option linter.unusedVariables false
set_option linter.unusedSimpArgs false
set_option linter.unusedSectionVars false
section
namespace Go.Proofs.Ytibnackmddigaaa.Pl
open Go.ChangeShapes Go.WideShapes Go.ChangeAt Go.RowKit
theorem On_any {p1 p2 a1 a2 b1 b2:Int} (w:World):Calls Try.prog 99 #[.agg #[.int .i64 p1,.int .i64 p2],.agg #[.int .i64 a1,.int .i64 a2],.agg #[.int .i64 b1,.int .i64 b2]] w λe w'=>e=.returned (.bool (onB p1 p2 a1 a2 b1 b2))/\Below w.heap.size w w' :=
 (Go.Proofs.Ytibnackmddigaaa.On_any w).mono λ_ _ h=>⟨h.1,h.2.base⟩
theorem Meet_any {a1 a2 b1 b2 c1 c2 d1 d2:Int} (w:World):Calls Try.prog 101 #[.agg #[.int .i64 a1,.int .i64 a2],.agg #[.int .i64 b1,.int .i64 b2],.agg #[.int .i64 c1,.int .i64 c2],.agg #[.int .i64 d1,.int .i64 d2]] w λe w'=>e=.returned (.bool (mtB a1 a2 b1 b2 c1 c2 d1 d2))/\Below w.heap.size w w' :=
 (Go.Proofs.Ytibnackmddigaaa.Meet_any w).mono λ_ _ h=>⟨h.1,h.2.base⟩
theorem In_any (x y:Int) (w:World):Calls Try.prog 75 #[.agg #[.int .i64 x,.int .i64 y]] w λe w'=>e=.returned (.bool (inB x y))/\Below w.heap.size w w' :=
 (Go.Proofs.Ytibnackmddigaaa.In_any x y w).mono λ_ _ h=>⟨h.1,h.2.base⟩
theorem ROn_in {p1 p2 a1 a2 b1 b2:Int} (rp:Rng p1 p2) (ra:Rng a1 a2) (rb:Rng b1 b2) (w:World):Calls Try.prog 61 #[.agg #[.int .i64 p1,.int .i64 p2],.agg #[.int .i64 a1,.int .i64 a2],.agg #[.int .i64 b1,.int .i64 b2]] w λe w'=>e=.returned (.bool (roB p1 p2 a1 a2 b1 b2))/\Below w.heap.size w w' :=
 (Go.Proofs.Ytibnackmddigaaa.ROn_in rp ra rb w).mono λ_ _ h=>⟨h.1,h.2.base⟩
theorem RMeet_in {a1 a2 b1 b2 c1 c2 d1 d2:Int} (ra:Rng a1 a2) (rb:Rng b1 b2) (rc:Rng c1 c2) (rd:Rng d1 d2) (w:World):Calls Try.prog 62 #[.agg #[.int .i64 a1,.int .i64 a2],.agg #[.int .i64 b1,.int .i64 b2],.agg #[.int .i64 c1,.int .i64 c2],.agg #[.int .i64 d1,.int .i64 d2]] w λe w'=>e=.returned (.bool (rmB a1 a2 b1 b2 c1 c2 d1 d2))/\Below w.heap.size w w' :=
 (Go.Proofs.Ytibnackmddigaaa.RMeet_in ra rb rc rd w).mono λ_ _ h=>⟨h.1,h.2.base⟩
theorem RIn_any (x y:Int) (w:World):Calls Try.prog 40 #[.agg #[.int .i64 x,.int .i64 y]] w λe w'=>e=.returned (.bool (inB x y))/\Below w.heap.size w w' :=
 (Go.Proofs.Ytibnackmddigaaa.RIn_any x y w).mono λ_ _ h=>⟨h.1,h.2.base⟩
end Go.Proofs.Ytibnackmddigaaa.Pl
end
section
namespace Go.Proofs.Ytibnackmddigaaa.Pl
open Go.ChangeShapes Go.WideShapes Go.ChangeAt Go.RowKit
theorem bx1 (w:World) (T:TypeId) (cs:Array Value):Below w.heap.size w (w.alloc (.cells cs T)):=(Below.refl _ _).alloc (Nat.le_refl _) _
def TIn {α:Type} (p q r:α->Int) (w:World) (v:Value) (L:List α):Prop :=
 ∃ a cap,v=.slice a L.length cap/\L.length<=cap/\cap<=maxLen /\
  (L=[]\/∃ b o,a=some ⟨b,o,none⟩/\b<w.heap.size/\∀ i (h:i<L.length),w.cell? ⟨b,o+i*3,none⟩=some (.int .i64 (p (L[i]'h)))/\w.cell? ⟨b,o+i*3+1,none⟩=some (.int .i64 (q (L[i]'h)))/\w.cell? ⟨b,o+i*3+2,none⟩=some (.int .i64 (r (L[i]'h))))
def VIn (w:World) (v:Value) (L:List Vx):Prop:=TIn Vx.id Vx.x Vx.y w v L
def EIn (w:World) (v:Value) (L:List Eg):Prop:=TIn Eg.id Eg.a Eg.b w v L
section
variable {α : Type} {p q r : α -> Int} {w w' : World} {v : Value} {L : List α}
theorem TIn.nil (w:World):TIn p q r w (.slice none 0 0) []:=⟨none,0,rfl,Nat.le_refl _,Nat.zero_le _,.inl rfl⟩
theorem TIn.below (h:TIn p q r w v L) (hb:Below w.heap.size w w'):TIn p q r w' v L:=by
 obtain ⟨a,cap,h1,h2,h3,h5⟩:=h;refine ⟨a,cap,h1,h2,h3,?_⟩;rcases h5 with h5|⟨b,o,e,hb',hcl⟩
 ·exact .inl h5
 refine .inr ⟨b,o,e,Nat.lt_of_lt_of_le hb' hb.size,λi hi => ?_⟩;obtain ⟨c1,c2,c3⟩:=hcl i hi;exact ⟨keep hb c1,keep hb c2,keep hb c3⟩
theorem TIn.drawn (h:TIn p q r w v L):TIn p q r w.drew v L:=h.below (Below.refl _ _).drew
theorem TIn.keep {S:Nat->Prop} (h:TIn p q r w v L) (hc:Chg S w w') (k:∀ b o n c,v=.slice (some ⟨b,o,none⟩) n c->¬ S b):TIn p q r w' v L:=by
 obtain ⟨a,cap,h1,h2,h3,h5⟩:=h;refine ⟨a,cap,h1,h2,h3,?_⟩;rcases h5 with h5|⟨b,o,e,hb',hcl⟩
 ·exact .inl h5
 refine .inr ⟨b,o,e,Nat.lt_of_lt_of_le hb' hc.size,λi hi => ?_⟩;obtain ⟨c1,c2,c3⟩:=hcl i hi;have kb:=k b o L.length cap (by rw[h1,e]);exact ⟨hc.cell c1 kb,hc.cell c2 kb,hc.cell c3 kb⟩
theorem TIn.old {B:Nat} (h:TIn p q r w v L) (hB:w.heap.size<=B) (hb:Below B w w'):TIn p q r w' v L:=by
 obtain ⟨a,cap,h1,h2,h3,h5⟩:=h;refine ⟨a,cap,h1,h2,h3,?_⟩;rcases h5 with h5|⟨b,o,e,hb',hcl⟩
 ·exact .inl h5
 refine .inr ⟨b,o,e,Nat.lt_of_lt_of_le hb' hb.size,λi hi => ?_⟩;have k:∀ o,w'.cell? ⟨b,o,none⟩=w.cell? ⟨b,o,none⟩:=λo=>hb.cell (p:=⟨b,o,none⟩) (Nat.lt_of_lt_of_le hb' hB)
 rw[k,k,k];exact hcl i hi
theorem TIn.open_ (h:TIn p q r w v L):∃ a cap,v=.slice a L.length cap/\L.length<=cap/\cap<=maxLen/\(∀ k,k<=L.length->TIn p q r w (.slice a k cap) (L.take k))/\∀ i (hi:i<L.length),∃ b o,a=some ⟨b,o,none⟩/\b<w.heap.size/\∀ W,Below w.heap.size w W ->
 W.cell? ⟨b,o+i*3,none⟩=some (.int .i64 (p (L[i]'hi)))/\W.cell? ⟨b,o+i*3+1,none⟩=some (.int .i64 (q (L[i]'hi)))/\W.cell? ⟨b,o+i*3+2,none⟩=some (.int .i64 (r (L[i]'hi))):=by
 obtain ⟨a,cap,h1,h2,h3,h5⟩:=h;refine ⟨a,cap,h1,h2,h3,λk hk => ?_,λi hi => ?_⟩
 ·refine ⟨a,cap,by rw[List.length_take,Nat.min_eq_left hk],by rw[List.length_take];omega,h3,?_⟩;rcases h5 with h5|⟨b,o,e,hb,hcl⟩
  ·left;rw[h5];simp
  refine .inr ⟨b,o,e,hb,λi hi => ?_⟩;rw[List.length_take]at hi;have:=hcl i (by omega);rw[List.getElem_take];exact this
 rcases h5 with h5|⟨b,o,e,hb,hcl⟩
 ·subst h5;simp at hi
 exact ⟨b,o,e,hb,λW hW=>⟨Go.Proofs.Ytibnackmddigaaa.keep hW (hcl i hi).1,Go.Proofs.Ytibnackmddigaaa.keep hW (hcl i hi).2.1,Go.Proofs.Ytibnackmddigaaa.keep hW (hcl i hi).2.2⟩⟩
end
theorem Jo {α:Type} {P:α->Bool}:∀ {L:List α} {k:Nat} (hk:k<L.length),(∀ i (h:i<L.length),i<k->P (L[i]'h)=false)->P (L[k]'hk)=true->L.find? P=some (L[k]'hk)
 | x::L,0,hk,_,h1=>by rw[List.find?_cons];have:P x=true:=h1;rw[this];rfl
 | x::L,k+1,hk,h0,h1=>by
  rw[List.find?_cons];have:P x=false:=h0 0 (by simp) (by omega);rw[this];exact Jo (by simpa using hk) (λi h hi=>h0 (i+1) (by simpa using h) (by omega)) h1
theorem fP {α:Type} {P:α->Bool} {L:List α} {k:Nat} (hk:k<L.length) (h1:P (L[k]'hk)=true):L.any P=true:=List.any_eq_true.2 ⟨_,List.getElem_mem hk,h1⟩
theorem gD {α:Type} {P:α->Bool} {L:List α} (h:∀ i (h:i<L.length),P (L[i]'h)=false):L.any P=false:=by
 rw[List.any_eq_false];intro x hx;obtain ⟨i,hi,rfl⟩:=List.mem_iff_getElem.1 hx;rw[h i hi];simp
theorem eqq (x y:Int):(x=y/\(x==y)=true)\/(¬ x=y/\(x==y)=false):=by by_cases h:x=y<;>simp[h]
theorem zK {w:World} {p:Nat} {T:TypeId} {x y z:Int} (h:Own w p T #[.int .i64 x,.int .i64 y,.int .i64 z]):w.cell? ⟨p,0,none⟩=some (.int .i64 x)/\w.cell? ⟨p,1,none⟩=some (.int .i64 y)/\w.cell? ⟨p,2,none⟩=some (.int .i64 z):=⟨(h.at_).1 0,(h.at_).1 1,(h.at_).1 2⟩
theorem VIn.sl {w:World} {v:Value} {vs:List Vx} (h:VIn w v vs):∃ a c,v=.slice a vs.length c:=by obtain ⟨a,c,e,_⟩:=h;exact ⟨a,c,e⟩
theorem EIn.sl {w:World} {e:Value} {es:List Eg} (h:EIn w e es):∃ a c,e=.slice a es.length c:=by obtain ⟨a,c,e,_⟩:=h;exact ⟨a,c,e⟩
end Go.Proofs.Ytibnackmddigaaa.Pl
end
section
namespace Go.Proofs.Ytibnackmddigaaa.Pl
open Go.ChangeShapes Go.WideShapes Go.ChangeAt Go.RowKit
def vIx (vs:List Vx) (i:Int):Int:=if yJ vs i=true then ((vs.findIdx λv=>v.id==i:Nat):Int) else -1
def eIx (es:List Eg) (i:Int):Int:=if Ju es i=true then ((es.findIdx λv=>v.id==i:Nat):Int) else -1
theorem zAa {α:Type} {P:α->Bool} {L:List α} {k:Nat} (hk:k<L.length) (h0:∀ i (h:i<L.length),i<k->P (L[i]'h)=false) (h1:P (L[k]'hk)=true):L.findIdx P=k:=by
 rw[List.findIdx_eq hk];exact ⟨h1,λj hj=>h0 j (by omega) hj⟩
theorem Xm {vs:List Vx} {i:Int} (h:yJ vs i=true):∃ k,∃ hk:k<vs.length,vIx vs i=(k:Int)/\fV vs i=some (vs[k]'hk):=by
 have hx:vs.findIdx (λv=>v.id==i)<vs.length:=by
  rw[List.findIdx_lt_length];obtain ⟨v,hv,hv2⟩:=qU.1 h;exact ⟨v,hv,by simpa using hv2⟩
 refine ⟨_,hx,by unfold vIx;rw[if_pos h],?_⟩;unfold fV;exact Jo hx (λj hj hlt=>by simpa using List.not_of_lt_findIdx hlt) (List.findIdx_getElem (w:=hx))
theorem Xk {vs:List Eg} {i:Int} (h:Ju vs i=true):∃ k,∃ hk:k<vs.length,eIx vs i=(k:Int)/\fE vs i=some (vs[k]'hk):=by
 have hx:vs.findIdx (λv=>v.id==i)<vs.length:=by
  rw[List.findIdx_lt_length];obtain ⟨v,hv,hv2⟩:=jQ.1 h;exact ⟨v,hv,by simpa using hv2⟩
 refine ⟨_,hx,by unfold eIx;rw[if_pos h],?_⟩;unfold fE;exact Jo hx (λj hj hlt=>by simpa using List.not_of_lt_findIdx hlt) (List.findIdx_getElem (w:=hx))
theorem zDd {vs:List Vx} {i:Int} (h:yJ vs i=false):vIx vs i = -1:=by unfold vIx;rw[h];rfl
theorem zDe {vs:List Eg} {i:Int} (h:Ju vs i=false):eIx vs i = -1:=by unfold eIx;rw[h];rfl
theorem Xi (vs:List Vx) (i:Int):decide (vIx vs i<0) = !yJ vs i:=by
 cases h:yJ vs i with
 | false=>rw[zDd h];rfl
 | true =>
  obtain ⟨k,hk,e,_⟩:=Xm h;rw[e];simp
set_option maxRecDepth 10000 in
theorem gU (v e:Value) (vs:List Vx) (i:Int) (w:World) (h:VIn w v vs) (he:∃ a l c,e=.slice a l c) (hn:vs.length<=100000) :
 Calls Try.prog 39 #[.agg #[v,e],.int .i64 i] w λx w'=>x=.returned (.int .i64 (vIx vs i))/\Below w.heap.size w w':=by
 obtain ⟨a,cap,rfl,hc1,hc2,-,hcl⟩:=h.open_;obtain ⟨ea,el,ec,rfl⟩:=he;have HIX:Hid (∀ z:Int,(∃ k,∃ hk:k<vs.length,z=(k:Int)/\(∀ m (hm:m<vs.length),m<k->((vs[m]'hm).id==i)=false)/\((vs[k]'hk).id==i)=true)->vIx vs i=z):=Lh (by
  rintro z ⟨k,hk,rfl,h0,h1⟩;have hh:yJ vs i=true:=qU.2 ⟨_,List.getElem_mem hk,by simpa using h1⟩;unfold vIx;rw[if_pos hh,zAa hk h0 h1])
 have HNO:Hid ((∀ m (hm:m<vs.length),((vs[m]'hm).id==i)=false)->vIx vs i = -1):=Lh λh0=>by
  have hh:yJ vs i=false:=by
   rw[<- Bool.not_eq_true,qU];rintro ⟨u,hu,hu2⟩;obtain ⟨m,hm,rfl⟩:=List.mem_iff_getElem.1 hu;have:=h0 m hm;simp at this;exact this hu2
  unfold vIx;rw[hh];rfl
 obtain ⟨R,hR⟩:∃ R,R=vIx vs i:=⟨_,rfl⟩
 rw[<- hR]at HIX HNO ⊢;clear hR h;obtain ⟨n,hnn⟩:∃ n,n=vs.length:=⟨_,rfl⟩
 rw[<- hnn]at hc1 hn ⊢;have HN:=Lh hnn;clear hnn;have OB:=Lh (Own.made w 25 #[.slice a n cap,.slice ea el ec]);have BB:=Lh (bx1 w 25 #[.slice a n cap,.slice ea el ec]);go_enter Try.func39,Try.ntmps39;go_upto_region 2 with fail;go_wp2;go_loopw [5] (λj wr=>∃ k:Nat,k<=n/\j=.int .i64 (k:Int)/\Hid (∀ m (hm:m<vs.length),m<k->((vs[m]'hm).id==i)=false)/\Hid (Below w.heap.size w wr)/\Hid (Own wr w.heap.size 25 #[.slice a n cap,.slice ea el ec])) (λj wr=>n - (intOf j).toNat)
 case atStart=>exact ⟨0,by omega,rfl,Lh λm hm h=>by omega,BB,OB⟩
 case round =>
  obtain ⟨k,hk,rfl,hno,HB,HO⟩:=hrel;obtain ⟨q1,q2,q3⟩:=HO.out.at_;by_cases hlt:k<n
  ·have hkl:k<vs.length:=by rw[<- HN.out];exact hlt
   obtain ⟨b,o,rfl,hb,hc⟩:=hcl k hkl;obtain ⟨c1,c2,c3⟩:=hc wr HB.out;obtain ⟨x,hx⟩:∃ x,x=vs[k]'hkl:=⟨_,rfl⟩
   rw[<- hx]at c1 c2 c3;have HX:=Lh hx;clear hx hcl hc;obtain ⟨x1,x2,x3⟩:=x;simp only at c1 c2 c3;rcases eqq x1 i with ⟨hi,ht⟩|⟨hi,ht⟩
   ·have e:=HIX.out (k:Int) ⟨k,hkl,rfl,λm hm hmk=>hno.out m hm hmk,by rw[<- HX.out];exact ht⟩;subst e;clear hi;go_wp2;go_ret;exact ⟨rfl,HB.out⟩
   clear hi;go_wp2;go_roundw
   case rel =>
    refine ⟨k+1,by omega,by go_num,Lh λm hm hmk => ?_,HB,HO⟩;rcases Nat.lt_succ_iff_lt_or_eq.1 hmk with hmk|rfl
    ·exact hno.out m hm hmk
    rw[<- HX.out];exact ht
   case measure=>simp[intOf]<;>omega
  have e:=HNO.out λm hm=>hno.out m hm (by rw[<- HN.out]at hm;omega)
  subst e;go_wp2;go_ret;exact ⟨rfl,HB.out⟩
set_option maxRecDepth 10000 in
theorem mT (v e:Value) (es:List Eg) (i:Int) (w:World) (h:EIn w e es) (he:∃ a l c,v=.slice a l c) (hn:es.length<=100000) :
 Calls Try.prog 20 #[.agg #[v,e],.int .i64 i] w λx w'=>x=.returned (.int .i64 (eIx es i))/\Below w.heap.size w w':=by
 obtain ⟨a,cap,rfl,hc1,hc2,-,hcl⟩:=h.open_;obtain ⟨ea,el,ec,rfl⟩:=he;have HIX:Hid (∀ z:Int,(∃ k,∃ hk:k<es.length,z=(k:Int)/\(∀ m (hm:m<es.length),m<k->((es[m]'hm).id==i)=false)/\((es[k]'hk).id==i)=true)->eIx es i=z):=Lh (by
  rintro z ⟨k,hk,rfl,h0,h1⟩;have hh:Ju es i=true:=jQ.2 ⟨_,List.getElem_mem hk,by simpa using h1⟩;unfold eIx;rw[if_pos hh,zAa hk h0 h1])
 have HNO:Hid ((∀ m (hm:m<es.length),((es[m]'hm).id==i)=false)->eIx es i = -1):=Lh λh0=>by
  have hh:Ju es i=false:=by
   rw[<- Bool.not_eq_true,jQ];rintro ⟨u,hu,hu2⟩;obtain ⟨m,hm,rfl⟩:=List.mem_iff_getElem.1 hu;have:=h0 m hm;simp at this;exact this hu2
  unfold eIx;rw[hh];rfl
 obtain ⟨R,hR⟩:∃ R,R=eIx es i:=⟨_,rfl⟩
 rw[<- hR]at HIX HNO ⊢;clear hR h;obtain ⟨n,hnn⟩:∃ n,n=es.length:=⟨_,rfl⟩
 rw[<- hnn]at hc1 hn ⊢;have HN:=Lh hnn;clear hnn;have OB:=Lh (Own.made w 25 #[.slice ea el ec,.slice a n cap]);have BB:=Lh (bx1 w 25 #[.slice ea el ec,.slice a n cap]);go_enter Try.func20,Try.ntmps20;go_upto_region 2 with fail;go_wp2;go_loopw [5] (λj wr=>∃ k:Nat,k<=n/\j=.int .i64 (k:Int)/\Hid (∀ m (hm:m<es.length),m<k->((es[m]'hm).id==i)=false)/\Hid (Below w.heap.size w wr)/\Hid (Own wr w.heap.size 25 #[.slice ea el ec,.slice a n cap])) (λj wr=>n - (intOf j).toNat)
 case atStart=>exact ⟨0,by omega,rfl,Lh λm hm h=>by omega,BB,OB⟩
 case round =>
  obtain ⟨k,hk,rfl,hno,HB,HO⟩:=hrel;obtain ⟨q1,q2,q3⟩:=HO.out.at_;by_cases hlt:k<n
  ·have hkl:k<es.length:=by rw[<- HN.out];exact hlt
   obtain ⟨b,o,rfl,hb,hc⟩:=hcl k hkl;obtain ⟨c1,c2,c3⟩:=hc wr HB.out;obtain ⟨x,hx⟩:∃ x,x=es[k]'hkl:=⟨_,rfl⟩
   rw[<- hx]at c1 c2 c3;have HX:=Lh hx;clear hx hcl hc;obtain ⟨x1,x2,x3⟩:=x;simp only at c1 c2 c3;rcases eqq x1 i with ⟨hi,ht⟩|⟨hi,ht⟩
   ·have e:=HIX.out (k:Int) ⟨k,hkl,rfl,λm hm hmk=>hno.out m hm hmk,by rw[<- HX.out];exact ht⟩;subst e;clear hi;go_wp2;go_ret;exact ⟨rfl,HB.out⟩
   clear hi;go_wp2;go_roundw
   case rel =>
    refine ⟨k+1,by omega,by go_num,Lh λm hm hmk => ?_,HB,HO⟩;rcases Nat.lt_succ_iff_lt_or_eq.1 hmk with hmk|rfl
    ·exact hno.out m hm hmk
    rw[<- HX.out];exact ht
   case measure=>simp[intOf]<;>omega
  have e:=HNO.out λm hm=>hno.out m hm (by rw[<- HN.out]at hm;omega)
  subst e;go_wp2;go_ret;exact ⟨rfl,HB.out⟩
end Go.Proofs.Ytibnackmddigaaa.Pl
end
