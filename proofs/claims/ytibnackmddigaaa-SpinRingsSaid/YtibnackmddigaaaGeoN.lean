import Derived.Test.YtibnackmddigaaaGeoM
set_option linter.unusedVariables false
set_option linter.unusedSimpArgs false
set_option linter.unusedSectionVars false
namespace Go.Proofs.Ytibnackmddigaaa
def gA (a1 a2 b1 b2 c1 c2 d1 d2:Int):Prop :=
 (a1=c1/\a2=c2/\b1=d1/\b2=d2)\/(a1=d1/\a2=d2/\b1=c1/\b2=c2)\/OnP a1 a2 c1 c2 d1 d2\/OnP b1 b2 c1 c2 d1 d2\/OnP c1 c2 a1 a2 b1 b2\/OnP d1 d2 a1 a2 b1 b2 \/
 (sg (ar a1 a2 b1 b2 c1 c2)*sg (ar a1 a2 b1 b2 d1 d2)<0/\sg (ar c1 c2 d1 d2 a1 a2)*sg (ar c1 c2 d1 d2 b1 b2)<0)
def qE (a1 a2 b1 b2 c1 c2 d1 d2:Int):Prop :=
 (sg (ar a1 a2 b1 b2 c1 c2)=0/\sg (ar a1 a2 b1 b2 d1 d2)=0/\(OnR a1 a2 c1 c2 d1 d2\/OnR b1 b2 c1 c2 d1 d2\/OnR c1 c2 a1 a2 b1 b2\/OnR d1 d2 a1 a2 b1 b2\/InR a1 a2 c1 c2 d1 d2/\InR b1 b2 c1 c2 d1 d2)) \/
 (¬ (sg (ar a1 a2 b1 b2 c1 c2)=0/\sg (ar a1 a2 b1 b2 d1 d2)=0)/\¬ (a1=c1/\a2=c2)/\¬ (a1=d1/\a2=d2)/\¬ (b1=c1/\b2=c2)/\¬ (b1=d1/\b2=d2) /\
  sg (ar a1 a2 b1 b2 c1 c2)≠sg (ar a1 a2 b1 b2 d1 d2)/\sg (ar c1 c2 d1 d2 a1 a2)≠sg (ar c1 c2 d1 d2 b1 b2))
theorem OnP.col {p1 p2 a1 a2 b1 b2:Int} (h:OnP p1 p2 a1 a2 b1 b2):ar a1 a2 b1 b2 p1 p2=0:=h.2
theorem OnP.ne {p1 p2 a1 a2 b1 b2:Int} (h:OnP p1 p2 a1 a2 b1 b2):¬ (p1=a1/\p2=a2)/\¬ (p1=b1/\p2=b2):=by
 have:=(gN.1 h).2;exact this
set_option maxHeartbeats 4000000 in
theorem zBi {a1 a2 b1 b2 c1 c2 d1 d2:Int} (hab:¬ (a1=b1/\a2=b2)) (hcd:¬ (c1=d1/\c2=d2)):gA a1 a2 b1 b2 c1 c2 d1 d2↔qE a1 a2 b1 b2 c1 c2 d1 d2:=by
 by_cases h1:ar a1 a2 b1 b2 c1 c2=0
 ·by_cases h2:ar a1 a2 b1 b2 d1 d2=0
  ·
   obtain ⟨h3,h4⟩:=both hab h1 h2;have z1:sg (ar a1 a2 b1 b2 c1 c2)=0:=xG.2 h1;have z2:sg (ar a1 a2 b1 b2 d1 d2)=0:=xG.2 h2;unfold gA qE;rw[gN,gN,gN,gN,z1,z2];constructor
   ·rintro (⟨rfl,rfl,rfl,rfl⟩|⟨rfl,rfl,rfl,rfl⟩|h|h|h|h|h)
    ·exact .inl ⟨rfl,rfl,.inr (.inr (.inr (.inr ⟨⟨h3,by omega,by omega⟩,⟨h4,by omega,by omega⟩⟩)))⟩
    ·exact .inl ⟨rfl,rfl,.inr (.inr (.inr (.inr ⟨⟨h3,by omega,by omega⟩,⟨h4,by omega,by omega⟩⟩)))⟩
    ·exact .inl ⟨rfl,rfl,.inl h⟩
    ·exact .inl ⟨rfl,rfl,.inr (.inl h)⟩
    ·exact .inl ⟨rfl,rfl,.inr (.inr (.inl h))⟩
    ·exact .inl ⟨rfl,rfl,.inr (.inr (.inr (.inl h)))⟩
    have:=h.1;simp at this
   rintro (⟨-,-,h⟩|h)
   ·by_cases k1:OnR a1 a2 c1 c2 d1 d2
    ·exact .inr (.inr (.inl k1))
    by_cases k2:OnR b1 b2 c1 c2 d1 d2
    ·exact .inr (.inr (.inr (.inl k2)))
    rcases h with h|h|h|h|⟨ha,hb⟩
    ·exact absurd h k1
    ·exact absurd h k2
    ·exact .inr (.inr (.inr (.inr (.inl h))))
    ·exact .inr (.inr (.inr (.inr (.inr (.inl h)))))
    have k1':(a1=c1/\a2=c2)\/(a1=d1/\a2=d2):=Decidable.byContradiction λhn=>k1 ⟨ha,λe=>hn (.inl e),λe=>hn (.inr e)⟩
    have k2':(b1=c1/\b2=c2)\/(b1=d1/\b2=d2):=Decidable.byContradiction λhn=>k2 ⟨hb,λe=>hn (.inl e),λe=>hn (.inr e)⟩
    omega
   exact absurd ⟨rfl,rfl⟩ h.1
  ·
   have z1:sg (ar a1 a2 b1 b2 c1 c2)=0:=xG.2 h1;have n2:sg (ar a1 a2 b1 b2 d1 d2)≠0:=λh=>h2 (xG.1 h)
   have nd:¬ OnP d1 d2 a1 a2 b1 b2:=λh=>h2 h.col
   have dd:¬ (a1=d1/\a2=d2)/\¬ (b1=d1/\b2=d2):=⟨by rintro ⟨rfl,rfl⟩;exact h2 (Jh _ _ _ _),by rintro ⟨rfl,rfl⟩;exact h2 (mD _ _ _ _)⟩
   by_cases hs:(c1=a1/\c2=a2)\/(c1=b1/\c2=b2)
   ·
    have nr:¬ qE a1 a2 b1 b2 c1 c2 d1 d2:=by
     rintro (h|h)
     ·exact n2 h.2.1
     rcases hs with ⟨rfl,rfl⟩|⟨rfl,rfl⟩
     ·exact h.2.1 ⟨rfl,rfl⟩
     exact h.2.2.2.1 ⟨rfl,rfl⟩
    refine ⟨λh=>absurd h ?_,λh=>absurd h nr⟩;clear nr;have nb:¬ OnP b1 b2 c1 c2 d1 d2:=λho=>by
     rcases hs with ⟨rfl,rfl⟩|⟨rfl,rfl⟩
     ·have:=ho.col;simp only[ar]at this h2;apply h2;grind
     exact ho.ne.1 ⟨rfl,rfl⟩
    have na:¬ OnP a1 a2 c1 c2 d1 d2:=λho=>by
     rcases hs with ⟨rfl,rfl⟩|⟨rfl,rfl⟩
     ·exact ho.ne.1 ⟨rfl,rfl⟩
     have:=ho.col;simp only[ar]at this h2;apply h2;grind
    have nc:¬ OnP c1 c2 a1 a2 b1 b2:=λh=>hs.elim h.ne.1 h.ne.2
    rintro (h|h|h|h|h|h|h)
    ·exact dd.2 ⟨h.2.2.1,h.2.2.2⟩
    ·exact dd.1 ⟨h.1,h.2.1⟩
    ·exact na h
    ·exact nb h
    ·exact nc h
    ·exact nd h
    rw[z1]at h;have:=h.1;simp at this
   obtain ⟨k1,k2,k3⟩:=cut hab (λh=>hs (.inl h)) (λh=>hs (.inr h)) h1 h2;have na:¬ OnP a1 a2 c1 c2 d1 d2:=λh=>k2 h.col
   have nb:¬ OnP b1 b2 c1 c2 d1 d2:=λh=>k3 h.col
   unfold gA qE;rw[<- k1,z1];constructor
   ·rintro (h|h|h|h|h|h|h)
    ·exact absurd (.inl ⟨h.1.symm,h.2.1.symm⟩) hs
    ·exact absurd (.inr ⟨h.2.2.1.symm,h.2.2.2.symm⟩) hs
    ·exact absurd h na
    ·exact absurd h nb
    ·exact .inr ⟨λh=>n2 h.2,λe=>hs (.inl ⟨e.1.symm,e.2.symm⟩),dd.1,λe=>hs (.inr ⟨e.1.symm,e.2.symm⟩),dd.2,λh=>n2 h.symm,h⟩
    ·exact absurd h nd
    have:=h.1;simp at this
   rintro (h|h)
   ·exact absurd h.2.1 n2
   exact .inr (.inr (.inr (.inr (.inl h.2.2.2.2.2.2))))
 have n1:sg (ar a1 a2 b1 b2 c1 c2)≠0:=λh=>h1 (xG.1 h)
 have nc:¬ OnP c1 c2 a1 a2 b1 b2:=λh=>h1 h.col
 have cc:¬ (a1=c1/\a2=c2)/\¬ (b1=c1/\b2=c2):=⟨by rintro ⟨rfl,rfl⟩;exact h1 (Jh _ _ _ _),by rintro ⟨rfl,rfl⟩;exact h1 (mD _ _ _ _)⟩
 by_cases h2:ar a1 a2 b1 b2 d1 d2=0
 ·
  have z2:sg (ar a1 a2 b1 b2 d1 d2)=0:=xG.2 h2;by_cases hs:(d1=a1/\d2=a2)\/(d1=b1/\d2=b2)
  ·have nr:¬ qE a1 a2 b1 b2 c1 c2 d1 d2:=by
    rintro (h|h)
    ·exact n1 h.1
    rcases hs with ⟨rfl,rfl⟩|⟨rfl,rfl⟩
    ·exact h.2.2.1 ⟨rfl,rfl⟩
    exact h.2.2.2.2.1 ⟨rfl,rfl⟩
   refine ⟨λh=>absurd h ?_,λh=>absurd h nr⟩;clear nr;have nb:¬ OnP b1 b2 c1 c2 d1 d2:=λho=>by
    rcases hs with ⟨rfl,rfl⟩|⟨rfl,rfl⟩
    ·have:=ho.col;simp only[ar]at this h1;apply h1;grind
    exact ho.ne.2 ⟨rfl,rfl⟩
   have na:¬ OnP a1 a2 c1 c2 d1 d2:=λho=>by
    rcases hs with ⟨rfl,rfl⟩|⟨rfl,rfl⟩
    ·exact ho.ne.2 ⟨rfl,rfl⟩
    have:=ho.col;simp only[ar]at this h1;apply h1;grind
   have nd:¬ OnP d1 d2 a1 a2 b1 b2:=λh=>hs.elim h.ne.1 h.ne.2
   rintro (h|h|h|h|h|h|h)
   ·exact cc.1 ⟨h.1,h.2.1⟩
   ·exact cc.2 ⟨h.2.2.1,h.2.2.2⟩
   ·exact na h
   ·exact nb h
   ·exact nc h
   ·exact nd h
   rw[z2]at h;have:=h.1;simp at this
  obtain ⟨k1,k2,k3⟩:=cut hab (λh=>hs (.inl h)) (λh=>hs (.inr h)) h2 h1;rw[uI c1 c2 d1 d2 a1 a2,uI c1 c2 d1 d2 b1 b2,vH,vH]at k1;rw[uI c1 c2 d1 d2 a1 a2]at k2;rw[uI c1 c2 d1 d2 b1 b2]at k3;have na:¬ OnP a1 a2 c1 c2 d1 d2:=λh=>k2 (by rw[h.col];rfl)
  have nb:¬ OnP b1 b2 c1 c2 d1 d2:=λh=>k3 (by rw[h.col];rfl)
  have k1':sg (ar c1 c2 d1 d2 a1 a2)≠sg (ar c1 c2 d1 d2 b1 b2)↔OnP d1 d2 a1 a2 b1 b2:=⟨λh=>k1.1 λe=>h (Int.neg_inj.1 e),λh e=>k1.2 h (by rw[e])⟩
  unfold gA qE;rw[<- k1',z2];constructor
  ·rintro (h|h|h|h|h|h|h)
   ·exact absurd ⟨h.1,h.2.1⟩ cc.1
   ·exact absurd ⟨h.2.2.1,h.2.2.2⟩ cc.2
   ·exact absurd h na
   ·exact absurd h nb
   ·exact absurd h nc
   ·exact .inr ⟨λh=>n1 h.1,cc.1,λe=>hs (.inl ⟨e.1.symm,e.2.symm⟩),cc.2,λe=>hs (.inr ⟨e.1.symm,e.2.symm⟩),n1,h⟩
   have:=h.1;simp at this
  rintro (h|h)
  ·exact absurd h.1 n1
  exact .inr (.inr (.inr (.inr (.inr (.inl h.2.2.2.2.2.2)))))
 have n2:sg (ar a1 a2 b1 b2 d1 d2)≠0:=λh=>h2 (xG.1 h)
 have nd:¬ OnP d1 d2 a1 a2 b1 b2:=λh=>h2 h.col
 have dd:¬ (a1=d1/\a2=d2)/\¬ (b1=d1/\b2=d2):=⟨by rintro ⟨rfl,rfl⟩;exact h2 (Jh _ _ _ _),by rintro ⟨rfl,rfl⟩;exact h2 (mD _ _ _ _)⟩
 have body:qE a1 a2 b1 b2 c1 c2 d1 d2↔sg (ar a1 a2 b1 b2 c1 c2)≠sg (ar a1 a2 b1 b2 d1 d2)/\sg (ar c1 c2 d1 d2 a1 a2)≠sg (ar c1 c2 d1 d2 b1 b2):=by
  unfold qE;exact ⟨λh=>h.elim (λh=>absurd h.1 n1) (λh=>h.2.2.2.2.2),λh=>.inr ⟨λh=>n1 h.1,cc.1,dd.1,cc.2,dd.2,h.1,h.2⟩⟩
 rw[body];have shape:gA a1 a2 b1 b2 c1 c2 d1 d2↔OnP a1 a2 c1 c2 d1 d2\/OnP b1 b2 c1 c2 d1 d2\/(sg (ar a1 a2 b1 b2 c1 c2)*sg (ar a1 a2 b1 b2 d1 d2)<0/\sg (ar c1 c2 d1 d2 a1 a2)*sg (ar c1 c2 d1 d2 b1 b2)<0):=by
  unfold gA;constructor
  ·rintro (h|h|h|h|h|h|h)
   ·exact absurd ⟨h.1,h.2.1⟩ cc.1
   ·exact absurd ⟨h.1,h.2.1⟩ dd.1
   ·exact .inl h
   ·exact .inr (.inl h)
   ·exact absurd h nc
   ·exact absurd h nd
   exact .inr (.inr h)
  rintro (h|h|h)
  ·exact .inr (.inr (.inl h))
  ·exact .inr (.inr (.inr (.inl h)))
  exact .inr (.inr (.inr (.inr (.inr (.inr h)))))
 rw[shape];by_cases h3:ar c1 c2 d1 d2 a1 a2=0
 ·have n4:ar c1 c2 d1 d2 b1 b2≠0:=λh4=>h1 (both hcd h3 h4).1
  obtain ⟨k1,k2,k3⟩:=cut hcd cc.1 dd.1 h3 n4;have z3:sg (ar c1 c2 d1 d2 a1 a2)=0:=xG.2 h3;have nb:¬ OnP b1 b2 c1 c2 d1 d2:=λh=>n4 h.col
  rw[k1,z3];have n4':sg (ar c1 c2 d1 d2 b1 b2)≠0:=λh=>n4 (xG.1 h)
  constructor
  ·rintro (h|h|h)
   ·exact ⟨h,λe=>n4' e.symm⟩
   ·exact absurd h nb
   have:=h.2;simp at this
  exact λh=>.inl h.1
 by_cases h4:ar c1 c2 d1 d2 b1 b2=0
 ·obtain ⟨k1,k2,k3⟩:=cut hcd cc.2 dd.2 h4 h3;rw[uI a1 a2 b1 b2 c1 c2,uI a1 a2 b1 b2 d1 d2,vH,vH]at k1;have k1':sg (ar a1 a2 b1 b2 c1 c2)≠sg (ar a1 a2 b1 b2 d1 d2)↔OnP b1 b2 c1 c2 d1 d2:=⟨λh=>k1.1 λe=>h (Int.neg_inj.1 e),λh e=>k1.2 h (by rw[e])⟩
  have z4:sg (ar c1 c2 d1 d2 b1 b2)=0:=xG.2 h4;have na:¬ OnP a1 a2 c1 c2 d1 d2:=λh=>h3 h.col
  have n3':sg (ar c1 c2 d1 d2 a1 a2)≠0:=λh=>h3 (xG.1 h)
  rw[k1',z4];constructor
  ·rintro (h|h|h)
   ·exact absurd h na
   ·exact ⟨h,n3'⟩
   have:=h.2;simp at this
  exact λh=>.inr (.inl h.1)
 have na:¬ OnP a1 a2 c1 c2 d1 d2:=λh=>h3 h.col
 have nb:¬ OnP b1 b2 c1 c2 d1 d2:=λh=>h4 h.col
 have n3':sg (ar c1 c2 d1 d2 a1 a2)≠0:=λh=>h3 (xG.1 h)
 have n4':sg (ar c1 c2 d1 d2 b1 b2)≠0:=λh=>h4 (xG.1 h)
 have q:∀ x y:Int,sg x≠0->sg y≠0->(sg x*sg y<0↔sg x≠sg y):=λx y hx hy=>by
  rcases sg3 x with ⟨_,e⟩|⟨_,e⟩|⟨_,e⟩<;>rcases sg3 y with ⟨_,f⟩|⟨_,f⟩|⟨_,f⟩<;>rw[e]at hx ⊢<;>rw[f]at hy ⊢<;>first|exact absurd rfl hx|exact absurd rfl hy|decide
 rw[q _ _ n1 n2,q _ _ n3' n4'];exact ⟨λh=>h.elim (λh=>absurd h na) λh=>h.elim (λh=>absurd h nb) id,λh=>.inr (.inr h)⟩
def uH (o1 o2 p1 p2:Int):Prop:=p2<o2\/p2=o2/\p1<o1
instance (o1 o2 p1 p2:Int):Decidable (uH o1 o2 p1 p2):=by unfold uH;infer_instance
def qB (o1 o2 a1 a2 b1 b2:Int):Int :=
 if ¬ uH o1 o2 a1 a2/\uH o1 o2 b1 b2 then -1 else if uH o1 o2 a1 a2/\¬ uH o1 o2 b1 b2 then 1 else -sg (ar o1 o2 a1 a2 b1 b2)
def wdg (x y:Int):Int :=
 if y=0 then (if 0<x then 0 else 4) else if 0<y then (if 0<x then 1 else if x=0 then 2 else 3) else if x<0 then 5 else if x=0 then 6 else 7
def Ub (o1 o2 a1 a2 b1 b2:Int):Int :=
 if wdg (a1 - o1) (a2 - o2)<wdg (b1 - o1) (b2 - o2) then -1 else if wdg (b1 - o1) (b2 - o2)<wdg (a1 - o1) (a2 - o2) then 1 else -sg (ar o1 o2 a1 a2 b1 b2)
theorem ar_o (o1 o2 a1 a2 b1 b2:Int):ar o1 o2 a1 a2 b1 b2=(a1 - o1)*(b2 - o2) - (a2 - o2)*(b1 - o1):=rfl
theorem Yo {x y:Int} (h:sg x<sg y):x - y<0:=by unfold sg at h;omega
theorem Uy {x y:Int} (h:sg y<sg x):0<x - y:=by unfold sg at h;omega
theorem zC0 {o1 o2 a1 a2 b1 b2:Int} (ha:¬ (a1=o1/\a2=o2)) (hb:¬ (b1=o1/\b2=o2)):qB o1 o2 a1 a2 b1 b2=Ub o1 o2 a1 a2 b1 b2:=by
 unfold qB Ub uH;rw[ar_o];have e1:a1=o1+(a1 - o1):=by omega
 have e2:a2=o2+(a2 - o2):=by omega
 have e3:b1=o1+(b1 - o1):=by omega
 have e4:b2=o2+(b2 - o2):=by omega
 generalize a1 - o1=x at *
 generalize a2 - o2=y at *
 generalize b1 - o1=u at *
 generalize b2 - o2=v at *
 subst e1 e2 e3 e4;have s1:=vL x v;have s2:=vL y u;have L:sg (x*v)<sg (y*u)->sg (x*v - y*u) = -1:=λh=>(Xy _).1 (Yo h)
 have G:sg (y*u)<sg (x*v)->sg (x*v - y*u)=1:=λh=>(gF _).1 (Uy h)
 generalize sg (x*v - y*u)=S at *
 generalize sg (x*v)=XV at *
 generalize sg (y*u)=YU at *
 unfold wdg;rcases sg3 x with ⟨hx,ex⟩|⟨hx,ex⟩|⟨hx,ex⟩<;>rcases sg3 y with ⟨hy,ey⟩|⟨hy,ey⟩|⟨hy,ey⟩<;>rw[ex]at s1<;>rw[ey]at s2 <;>
  rcases sg3 u with ⟨hu,eu⟩|⟨hu,eu⟩|⟨hu,eu⟩<;>rw[eu]at s2<;>rcases sg3 v with ⟨hv,ev⟩|⟨hv,ev⟩|⟨hv,ev⟩<;>rw[ev]at s1<;>clear ex ey eu ev<;>omega
theorem Qx (o1 o2 a1 a2 b1 b2:Int):qB o1 o2 b1 b2 a1 a2 = -qB o1 o2 a1 a2 b1 b2:=by
 have:sg (ar o1 o2 b1 b2 a1 a2) = -sg (ar o1 o2 a1 a2 b1 b2):=by rw[<- vH];congr 1;unfold ar;grind
 unfold qB;rw[this];generalize sg (ar o1 o2 a1 a2 b1 b2)=S
 by_cases h:uH o1 o2 a1 a2<;>by_cases k:uH o1 o2 b1 b2<;>simp[h,k]
theorem zAk {o1 o2 a1 a2 b1 b2:Int} (h:qB o1 o2 a1 a2 b1 b2=0):sg (ar o1 o2 a1 a2 b1 b2)=0:=by
 unfold qB at h;split at h
 ·omega
 split at h<;>omega
theorem fK {x y u v p q:Int} (hx:0<y\/y=0/\0<x) (hu:0<v\/v=0/\0<u) (hp:0<q\/q=0/\0<p) (h:0<=x*v - y*u) (k:0<=u*q - v*p):0<=x*q - y*p:=by
 have id1:v*(x*q - y*p)=q*(x*v - y*u)+y*(u*q - v*p):=by grind
 rcases hu with hv|⟨rfl,hu⟩
 ·have h1:0<=q*(x*v - y*u):=Int.mul_nonneg (by omega) h;have h2:0<=y*(u*q - v*p):=Int.mul_nonneg (by omega) k;have h3:0<=v*(x*q - y*p):=by omega
  have s:=vL v (x*q - y*p);have sv:sg v=1:=(gF _).1 hv;rw[sv]at s;have:sg (v*(x*q - y*p)) ≠ -1:=by unfold sg;omega
  have:sg (x*q - y*p) ≠ -1:=by omega
  unfold sg at this;omega
 have hy:y<=0:=by
  have s:=vL y u;have su:sg u=1:=(gF _).1 hu;rw[su]at s;simp only[Int.mul_zero,Int.zero_sub]at h;have:sg (y*u)≠1:=by unfold sg;omega
  have:sg y≠1:=by omega
  unfold sg at this;omega
 have hy0:y=0:=by omega
 subst hy0;have hx0:0<x:=by omega
 simp only[Int.zero_mul,Int.sub_zero];exact Int.mul_nonneg (by omega) (by omega)
theorem Xx {o1 o2 a1 a2 b1 b2 c1 c2:Int} (ha:¬ (a1=o1/\a2=o2)) (hb:¬ (b1=o1/\b2=o2)) (hc:¬ (c1=o1/\c2=o2))
 (h:qB o1 o2 a1 a2 b1 b2<=0) (k:qB o1 o2 b1 b2 c1 c2<=0):qB o1 o2 a1 a2 c1 c2<=0:=by
 unfold qB at *;have ne:∀ z:Int,0<=z ↔ -sg z<=0:=λz=>by unfold sg;omega
 by_cases la:uH o1 o2 a1 a2<;>by_cases lb:uH o1 o2 b1 b2<;>by_cases lc:uH o1 o2 c1 c2<;>simp[la,lb,lc]at h k ⊢
 ·rw[show (0<=sg (ar o1 o2 a1 a2 c1 c2))=(-sg (ar o1 o2 a1 a2 c1 c2)<=0) by simp,<- ne];rw[show (0<=sg (ar o1 o2 a1 a2 b1 b2))=(-sg (ar o1 o2 a1 a2 b1 b2)<=0) by simp,<- ne]at h;rw[show (0<=sg (ar o1 o2 b1 b2 c1 c2))=(-sg (ar o1 o2 b1 b2 c1 c2)<=0) by simp,<- ne]at k;unfold ar uH at *;have:=fK (x:=o1 - a1) (y:=o2 - a2) (u:=o1 - b1) (v:=o2 - b2) (p:=o1 - c1) (q:=o2 - c2) (by omega) (by omega) (by omega) (by grind) (by grind);grind
 rw[show (0<=sg (ar o1 o2 a1 a2 c1 c2))=(-sg (ar o1 o2 a1 a2 c1 c2)<=0) by simp,<- ne];rw[show (0<=sg (ar o1 o2 a1 a2 b1 b2))=(-sg (ar o1 o2 a1 a2 b1 b2)<=0) by simp,<- ne]at h;rw[show (0<=sg (ar o1 o2 b1 b2 c1 c2))=(-sg (ar o1 o2 b1 b2 c1 c2)<=0) by simp,<- ne]at k;unfold ar uH at *;exact fK (x:=a1 - o1) (y:=a2 - o2) (u:=b1 - o1) (v:=b2 - o2) (p:=c1 - o1) (q:=c2 - o2) (by omega) (by omega) (by omega) h k
end Go.Proofs.Ytibnackmddigaaa
