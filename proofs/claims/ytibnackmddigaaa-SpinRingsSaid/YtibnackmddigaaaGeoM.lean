import Derived.RowKit
set_option linter.unusedVariables false
set_option linter.unusedSimpArgs false
set_option linter.unusedSectionVars false
namespace Go.Proofs.Ytibnackmddigaaa
def sg (z:Int):Int:=if z<0 then -1 else if 0<z then 1 else 0
theorem sg3 (z:Int):(z<0/\sg z = -1)\/(z=0/\sg z=0)\/(0<z/\sg z=1):=by unfold sg;omega
theorem xG {z:Int}:sg z=0↔z=0:=by unfold sg;omega
theorem vH (z:Int):sg (-z) = -sg z:=by unfold sg;omega
theorem pp {a b:Int} (ha:0<a) (hb:0<b):0<a*b:=Int.mul_pos ha hb
theorem pn {a b:Int} (ha:0<a) (hb:b<0):a*b<0:=by
 have:=Int.mul_pos ha (show 0 < -b by omega);rw[Int.mul_neg]at this;omega
theorem np {a b:Int} (ha:a<0) (hb:0<b):a*b<0:=by rw[Int.mul_comm];exact pn hb ha
theorem nn {a b:Int} (ha:a<0) (hb:b<0):0<a*b:=by
 have:=Int.mul_pos (show 0 < -a by omega) (show 0 < -b by omega);rw[Int.neg_mul_neg]at this;exact this
theorem vL (a b:Int):sg (a*b)=sg a*sg b:=by
 rcases sg3 a with ⟨h,e⟩|⟨h,e⟩|⟨h,e⟩<;>rcases sg3 b with ⟨k,f⟩|⟨k,f⟩|⟨k,f⟩<;>rw[e,f]
 ·have:=nn h k;unfold sg;omega
 ·subst k;simp[sg]
 ·have:=np h k;unfold sg;omega
 ·subst h;simp[sg]
 ·subst h;simp[sg]
 ·subst h;simp[sg]
 ·have:=pn h k;unfold sg;omega
 ·subst k;simp[sg]
 have:=pp h k;unfold sg;omega
theorem Xy (z:Int):z<0↔sg z = -1:=by unfold sg;omega
theorem gF (z:Int):0<z↔sg z=1:=by unfold sg;omega
def ar (a1 a2 b1 b2 c1 c2:Int):Int:=(b1 - a1)*(c2 - a2) - (b2 - a2)*(c1 - a1)
theorem zDw (a1 a2 b1 b2 c1 c2:Int):a1*b2 - a2*b1+b1*c2 - b2*c1+c1*a2 - c2*a1=ar a1 a2 b1 b2 c1 c2:=by unfold ar;grind
theorem zCz (a1 a2 b1 b2 c1 c2:Int):ar b1 b2 c1 c2 a1 a2=ar a1 a2 b1 b2 c1 c2:=by unfold ar;grind
theorem uI (a1 a2 b1 b2 c1 c2:Int):ar b1 b2 a1 a2 c1 c2 = -ar a1 a2 b1 b2 c1 c2:=by unfold ar;grind
theorem fF (a1 a2 b1 b2 c1 c2:Int):ar a2 a1 b2 b1 c2 c1 = -ar a1 a2 b1 b2 c1 c2:=by unfold ar;grind
theorem Jh (a1 a2 b1 b2:Int):ar a1 a2 b1 b2 a1 a2=0:=by unfold ar;grind
theorem mD (a1 a2 b1 b2:Int):ar a1 a2 b1 b2 b1 b2=0:=by unfold ar;grind
def lsB (a1 a2 b1 b2:Int):Bool:=decide (a1<b1)||(decide (a1=b1)&&decide (a2<b2))
theorem zBg {a1 a2 b1 b2:Int}:lsB a1 a2 b1 b2=true↔a1<b1\/a1=b1/\a2<b2:=by unfold lsB;simp
def tn (a1 a2 b1 b2 c1 c2:Int):Int:=sg (ar a1 a2 b1 b2 c1 c2)
def OnP (p1 p2 a1 a2 b1 b2:Int):Prop :=
 ((a1<p1\/a1=p1/\a2<p2)/\(p1<b1\/p1=b1/\p2<b2)\/(b1<p1\/b1=p1/\b2<p2)/\(p1<a1\/p1=a1/\p2<a2))/\ar a1 a2 b1 b2 p1 p2=0
def InR (p1 p2 a1 a2 b1 b2:Int):Prop :=
 ar a1 a2 b1 b2 p1 p2=0/\(a1<=p1/\p1<=b1\/b1<=p1/\p1<=a1)/\(a2<=p2/\p2<=b2\/b2<=p2/\p2<=a2)
def OnR (p1 p2 a1 a2 b1 b2:Int):Prop:=InR p1 p2 a1 a2 b1 b2/\¬ (p1=a1/\p2=a2)/\¬ (p1=b1/\p2=b2)
theorem btw {D1 D2 P1 P2:Int} (hD:0<D1) (h0:0<=P1) (h1:P1<=D1) (e:D1*P2=D2*P1):(0<=P2/\P2<=D2)\/(D2<=P2/\P2<=0):=by
 have e2:D1*(D2 - P2)=D2*(D1 - P1):=by grind
 have s1:=vL D1 P2;have s2:=vL D1 (D2 - P2);rw[e,vL]at s1;rw[e2,vL]at s2;have hd:sg D1=1:=by unfold sg;omega
 rw[hd]at s1 s2;have p1:sg P1=0\/sg P1=1:=by unfold sg;omega
 have p2:sg (D1 - P1)=0\/sg (D1 - P1)=1:=by unfold sg;omega
 rcases sg3 D2 with ⟨k,f⟩|⟨k,f⟩|⟨k,f⟩<;>rw[f]at s1 s2
 ·right
  have a1:sg P2=0\/sg P2 = -1:=by omega
  have a2:sg (D2 - P2)=0\/sg (D2 - P2) = -1:=by omega
  unfold sg at a1 a2;omega
 ·left
  have a1:sg P2=0:=by omega
  have a2:sg (D2 - P2)=0:=by omega
  unfold sg at a1 a2;omega
 left
 have a1:sg P2=0\/sg P2=1:=by omega
 have a2:sg (D2 - P2)=0\/sg (D2 - P2)=1:=by omega
 unfold sg at a1 a2;omega
theorem Yu {k x y:Int} (hk:k≠0) (h:k*x=k*y):x=y:=Int.eq_of_mul_eq_mul_left hk h
theorem xF {k x:Int} (hk:k≠0) (h:k*x=0):x=0:=(Int.mul_eq_zero.1 h).resolve_left hk
theorem Vr {p1 p2 a1 a2 b1 b2:Int} (h:a1<p1\/a1=p1/\a2<p2) (k:p1<b1\/p1=b1/\p2<b2) (e:ar a1 a2 b1 b2 p1 p2=0):(a2<=p2/\p2<=b2\/b2<=p2/\p2<=a2):=by
 by_cases hab:a1=b1
 ·omega
 have:=btw (D1:=b1 - a1) (D2:=b2 - a2) (P1:=p1 - a1) (P2:=p2 - a2) (by omega) (by omega) (by omega) (by unfold ar at e;omega);omega
theorem gN {p1 p2 a1 a2 b1 b2:Int}:OnP p1 p2 a1 a2 b1 b2↔OnR p1 p2 a1 a2 b1 b2:=by
 constructor
 ·rintro ⟨h|h,e⟩
  ·have:=Vr h.1 h.2 e;exact ⟨⟨e,by omega,this⟩,by omega,by omega⟩
  have e':ar b1 b2 a1 a2 p1 p2=0:=by rw[uI];omega
  have:=Vr h.1 h.2 e';exact ⟨⟨e,by omega,by omega⟩,by omega,by omega⟩
 rintro ⟨⟨e,hx,hy⟩,na,nb⟩;refine ⟨?_,e⟩;by_cases hab:a1=b1
 ·omega
 have z1:p1=a1->p2=a2:=λh=>by
  unfold ar at e;subst h;have:(b1 - p1)*(p2 - a2)=0:=by simpa using e
  have:=xF (by omega) this;omega
 have z2:p1=b1->p2=b2:=λh=>by
  have e':ar b1 b2 a1 a2 p1 p2=0:=by rw[uI];omega
  unfold ar at e';subst h;have:(a1 - p1)*(p2 - b2)=0:=by simpa using e'
  have:=xF (by omega) this;omega
 omega
theorem zBy {p1 p2 a1 a2 b1 b2:Int}:OnP p1 p2 b1 b2 a1 a2↔OnP p1 p2 a1 a2 b1 b2:=by
 unfold OnP;rw[uI];omega
theorem Za {a1 a2 b1 b2 c1 c2 d1 d2:Int} (e:ar a1 a2 b1 b2 c1 c2=0) :
 (b1 - a1)*ar c1 c2 d1 d2 a1 a2=(c1 - a1)*ar a1 a2 b1 b2 d1 d2/\(b1 - a1)*ar c1 c2 d1 d2 b1 b2 = -((b1 - c1)*ar a1 a2 b1 b2 d1 d2):=by
 unfold ar at *;constructor<;>grind
theorem zAx {a1 a2 b1 b2 c1 c2 d1 d2:Int} (e:ar a1 a2 b1 b2 c1 c2=0) :
 (b2 - a2)*ar c1 c2 d1 d2 a1 a2=(c2 - a2)*ar a1 a2 b1 b2 d1 d2/\(b2 - a2)*ar c1 c2 d1 d2 b1 b2 = -((b2 - c2)*ar a1 a2 b1 b2 d1 d2):=by
 unfold ar at *;constructor<;>grind
theorem end_x {a1 a2 b1 b2 c1 c2:Int} (e:ar a1 a2 b1 b2 c1 c2=0) (h:b1≠a1):(c1=a1->c2=a2)/\(c1=b1->c2=b2):=by
 refine ⟨λk => ?_,λk => ?_⟩
 ·subst k;unfold ar at e;have:(b1 - c1)*(c2 - a2)=0:=by simpa using e
  have:=xF (by omega) this;omega
 subst k;rw[<- zCz]at e;unfold ar at e;have:(c1 - a1)*(c2 - b2)=0:=by grind
 have:=xF (by omega) this;omega
theorem cut {a1 a2 b1 b2 c1 c2 d1 d2:Int} (hab:¬ (a1=b1/\a2=b2)) (hca:¬ (c1=a1/\c2=a2)) (hcb:¬ (c1=b1/\c2=b2))
 (e:ar a1 a2 b1 b2 c1 c2=0) (hd:ar a1 a2 b1 b2 d1 d2≠0) :
 (sg (ar c1 c2 d1 d2 a1 a2)≠sg (ar c1 c2 d1 d2 b1 b2)↔OnP c1 c2 a1 a2 b1 b2)/\ar c1 c2 d1 d2 a1 a2≠0/\ar c1 c2 d1 d2 b1 b2≠0:=by
 have key:∀ k m n:Int,k≠0->n=k - m->m≠0->n≠0->k*ar c1 c2 d1 d2 a1 a2=m*ar a1 a2 b1 b2 d1 d2->k*ar c1 c2 d1 d2 b1 b2 = -(n*ar a1 a2 b1 b2 d1 d2) ->
  (sg (ar c1 c2 d1 d2 a1 a2)≠sg (ar c1 c2 d1 d2 b1 b2)↔(0<m/\m<k\/k<m/\m<0))/\ar c1 c2 d1 d2 a1 a2≠0/\ar c1 c2 d1 d2 b1 b2≠0:=λk m n hk hn hm hn0 h1 h2=>by
  have s1:=vL k (ar c1 c2 d1 d2 a1 a2);have s2:=vL k (ar c1 c2 d1 d2 b1 b2);rw[h1,vL]at s1;rw[h2,vH,vL]at s2;generalize ar c1 c2 d1 d2 a1 a2=A at *
  generalize ar c1 c2 d1 d2 b1 b2=B at *
  generalize ar a1 a2 b1 b2 d1 d2=D at *
  clear h1 h2 e;have nA:∀ z:Int,sg z≠0↔z≠0:=λz=>by rw[Ne,xG]
  rw[<- nA A,<- nA B];rcases sg3 D with ⟨_,d⟩|⟨d0,_⟩|⟨_,d⟩;rotate_left
  ·exact absurd d0 hd
  all_goals
   rw[d]at s1 s2;rcases sg3 k with ⟨_,k'⟩|⟨k0,_⟩|⟨_,k'⟩;rotate_left
   ·exact absurd k0 hk
   all_goals
    rw[k']at s1 s2;rcases sg3 m with ⟨_,m'⟩|⟨m0,_⟩|⟨_,m'⟩;rotate_left
    ·exact absurd m0 hm
    all_goals
     rw[m']at s1;rcases sg3 n with ⟨_,n'⟩|⟨n0,_⟩|⟨_,n'⟩;rotate_left
     ·exact absurd n0 hn0
     all_goals
      rw[n']at s2;omega
 by_cases hx:b1=a1
 ·have hy:b2≠a2:=by omega
  obtain ⟨h1,h2⟩:=zAx (d1:=d1) (d2:=d2) e;have hc:c1=a1:=by
   unfold ar at e;have:(b2 - a2)*(c1 - a1)=0:=by
    rw[hx]at e;have z:a1 - a1=0:=by omega
    rw[z]at e;omega
   have:=xF (by omega) this;omega
  have:=key _ _ _ (by omega) (by omega) (by omega) (by omega) h1 h2;refine ⟨this.1.trans ?_,this.2⟩;unfold OnP;have e':=e;generalize ar a1 a2 b1 b2 c1 c2=Z at *
  omega
 obtain ⟨h1,h2⟩:=Za (d1:=d1) (d2:=d2) e;obtain ⟨z1,z2⟩:=end_x e hx;have:=key _ _ _ (by omega) (by omega) (by omega) (by omega) h1 h2;refine ⟨this.1.trans ?_,this.2⟩;unfold OnP;generalize ar a1 a2 b1 b2 c1 c2=Z at *
 omega
theorem both {a1 a2 b1 b2 c1 c2 d1 d2:Int} (hcd:¬ (c1=d1/\c2=d2)) (h:ar c1 c2 d1 d2 a1 a2=0) (k:ar c1 c2 d1 d2 b1 b2=0):ar a1 a2 b1 b2 c1 c2=0/\ar a1 a2 b1 b2 d1 d2=0:=by
 have h1:=Za (d1:=b1) (d2:=b2) h;have h2:=zAx (d1:=b1) (d2:=b2) h;rw[k]at h1 h2;have r1:ar a1 a2 b1 b2 c1 c2=0:=by
  by_cases hx:d1=c1
  ·refine xF (k:=d2 - c2) (by omega) ?_;rw[h2.1];exact Int.mul_zero _
  refine xF (k:=d1 - c1) (by omega) ?_;rw[h1.1];exact Int.mul_zero _
 have r2:ar a1 a2 b1 b2 d1 d2=0:=by
  by_cases hx:d1=c1
  ·refine xF (k:=d2 - c2) (by omega) ?_;rw[h2.2,Int.mul_zero];rfl
  refine xF (k:=d1 - c1) (by omega) ?_;rw[h1.2,Int.mul_zero];rfl
 exact ⟨r1,r2⟩
end Go.Proofs.Ytibnackmddigaaa
