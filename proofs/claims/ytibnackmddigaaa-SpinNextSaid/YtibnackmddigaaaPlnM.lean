import Derived.Test.YtibnackmddigaaaGeoB
import Derived.Test.YtibnackmddigaaaSpnO
import Derived.Test.YtibnackmddigaaaGeoC
import Derived.Test.YtibnackmddigaaaGeoF
import Derived.Test.YtibnackmddigaaaGeoD
import Derived.Test.YtibnackmddigaaaGeoJ
set_option linter.unusedVariables false
set_option linter.unusedSimpArgs false
set_option linter.unusedSectionVars false
section
namespace Go.Proofs.Ytibnackmddigaaa
open Go.ChangeShapes Go.WideShapes Go.ChangeAt Go.RowKit
end Go.Proofs.Ytibnackmddigaaa
end
section
namespace Go.Proofs.Ytibnackmddigaaa
open Go.ChangeShapes Go.WideShapes Go.ChangeAt Go.RowKit
end Go.Proofs.Ytibnackmddigaaa
end
section
namespace Go.Proofs.Ytibnackmddigaaa
open Go.ChangeShapes Go.WideShapes Go.ChangeAt Go.RowKit
end Go.Proofs.Ytibnackmddigaaa
end
section
namespace Go.Proofs.Ytibnackmddigaaa
open Go.ChangeShapes Go.WideShapes Go.ChangeAt Go.RowKit
end Go.Proofs.Ytibnackmddigaaa
end
section
namespace Go.Proofs.Ytibnackmddigaaa
open Go.ChangeShapes Go.WideShapes Go.ChangeAt Go.RowKit
end Go.Proofs.Ytibnackmddigaaa
end
section
namespace Go.Proofs.Ytibnackmddigaaa
open Go.ChangeShapes Go.WideShapes Go.ChangeAt Go.RowKit
theorem Rng.flip {x y:Int} (h:Rng x y):Rng y x:=⟨h.2.2.1,h.2.2.2,h.1,h.2.1⟩
theorem fH {p1 p2 a1 a2 b1 b2:Int}:onB p1 p2 a1 a2 b1 b2=true↔(Rng p1 p2/\Rng a1 a2/\Rng b1 b2)/\OnP p1 p2 a1 a2 b1 b2:=by
 unfold onB OnP tn;simp only[Bool.and_eq_true,Bool.or_eq_true,zBg,zV,beq_iff_eq,xG];grind
theorem Qo {a b:Bool} (h:a=true↔b=true):a=b:=Bool.eq_iff_iff.2 h
end Go.Proofs.Ytibnackmddigaaa
end
section
namespace Go.Proofs.Ytibnackmddigaaa
open Go.ChangeShapes Go.WideShapes Go.ChangeAt Go.RowKit
theorem Xg {p1 p2 a1 a2 b1 b2:Int}:wiB p1 p2 a1 a2 b1 b2=true↔InR p1 p2 a1 a2 b1 b2:=by
 unfold wiB InR bxB tn;simp only[Bool.and_eq_true,Bool.or_eq_true,beq_iff_eq,xG,decide_eq_true_eq,and_assoc]
theorem Vo {p1 p2 a1 a2 b1 b2:Int}:roB p1 p2 a1 a2 b1 b2=true↔OnR p1 p2 a1 a2 b1 b2:=by
 unfold roB OnR;simp only[Bool.and_eq_true,Xg,Bool.not_eq_true',decide_eq_false_iff_not,and_assoc]
theorem on_in {p1 p2 a1 a2 b1 b2:Int} (h:in3 p1 p2 a1 a2 b1 b2=true):onB p1 p2 a1 a2 b1 b2=roB p1 p2 a1 a2 b1 b2 :=
 Qo (by rw[fH,Vo,gN];exact ⟨λk=>k.2,λk=>⟨zV.1 h,k⟩⟩)
end Go.Proofs.Ytibnackmddigaaa
end
section
namespace Go.Proofs.Ytibnackmddigaaa
open Go.ChangeShapes Go.WideShapes Go.ChangeAt Go.RowKit
theorem zCg {a1 a2 b1 b2 c1 c2 d1 d2:Int}:ptB a1 a2 b1 b2 c1 c2 d1 d2=true↔sg (ar a1 a2 b1 b2 c1 c2)*sg (ar a1 a2 b1 b2 d1 d2)<0:=by
 unfold ptB tn;rw[decide_eq_true_eq]
theorem Xj {a1 a2 b1 b2 c1 c2 d1 d2:Int}:mtB a1 a2 b1 b2 c1 c2 d1 d2=true↔(Rng a1 a2/\Rng b1 b2/\Rng c1 c2/\Rng d1 d2)/\¬ (a1=b1/\a2=b2)/\¬ (c1=d1/\c2=d2)/\gA a1 a2 b1 b2 c1 c2 d1 d2:=by
 unfold mtB gA;simp only[Bool.and_eq_true,Bool.or_eq_true,fH,zC,zCg,Bool.not_eq_true',decide_eq_false_iff_not,decide_eq_true_eq];generalize OnP a1 a2 c1 c2 d1 d2=O1
 generalize OnP b1 b2 c1 c2 d1 d2=O2
 generalize OnP c1 c2 a1 a2 b1 b2=O3
 generalize OnP d1 d2 a1 a2 b1 b2=O4
 generalize Rng a1 a2=R1
 generalize Rng b1 b2=R2
 generalize Rng c1 c2=R3
 generalize Rng d1 d2=R4
 grind
end Go.Proofs.Ytibnackmddigaaa
end
section
namespace Go.Proofs.Ytibnackmddigaaa
open Go.ChangeShapes Go.WideShapes Go.ChangeAt Go.RowKit
theorem zCi {a1 a2 b1 b2 c1 c2 d1 d2:Int}:rmB a1 a2 b1 b2 c1 c2 d1 d2=true↔qE a1 a2 b1 b2 c1 c2 d1 d2:=by
 unfold rmB qE tn;by_cases h:sg (ar a1 a2 b1 b2 c1 c2)=0/\sg (ar a1 a2 b1 b2 d1 d2)=0
 ·rw[if_pos (by simp[h.1,h.2])];simp only[Bool.or_eq_true,Bool.and_eq_true,Vo,Xg];constructor
  ·intro k;exact .inl ⟨h.1,h.2,by grind⟩
  rintro (k|k)
  ·have:=k.2.2;grind
  exact absurd h k.1
 rw[if_neg (by simpa using λk=>by simpa using λl=>h ⟨k,l⟩)];by_cases k:(a1=c1/\a2=c2)\/(a1=d1/\a2=d2)\/(b1=c1/\b2=c2)\/(b1=d1/\b2=d2)
 ·rw[if_pos (by simp only[Bool.or_eq_true,decide_eq_true_eq];grind)];constructor
  ·intro l;cases l
  rintro (l|l)
  ·exact absurd ⟨l.1,l.2.1⟩ h
  obtain ⟨_,l1,l2,l3,l4,_⟩:=l;grind
 rw[if_neg (by simp only[Bool.or_eq_true,decide_eq_true_eq];grind)];simp only[Bool.not_eq_true',Bool.or_eq_false_iff,beq_eq_false_iff_ne];constructor
 ·intro l;refine .inr ⟨h,λe=>k (.inl e),λe=>k (.inr (.inl e)),λe=>k (.inr (.inr (.inl e))),λe=>k (.inr (.inr (.inr e))),l.1,l.2⟩
 rintro (l|l)
 ·exact absurd ⟨l.1,l.2.1⟩ h
 exact ⟨l.2.2.2.2.2.1,l.2.2.2.2.2.2⟩
theorem mt_in {a1 a2 b1 b2 c1 c2 d1 d2:Int} (h:in4 a1 a2 b1 b2 c1 c2 d1 d2=true) (hab:decide (a1=b1/\a2=b2)=false) (hcd:decide (c1=d1/\c2=d2)=false):mtB a1 a2 b1 b2 c1 c2 d1 d2=rmB a1 a2 b1 b2 c1 c2 d1 d2:=by
 have hab':=of_decide_eq_false hab;have hcd':=of_decide_eq_false hcd;exact Qo (by rw[Xj,zCi,zBi hab' hcd'];exact ⟨λk=>k.2.2.2,λk=>⟨zC.1 h,hab',hcd',k⟩⟩)
end Go.Proofs.Ytibnackmddigaaa
end
section
namespace Go.Proofs.Ytibnackmddigaaa.Pl
open Go.ChangeShapes Go.WideShapes Go.ChangeAt Go.RowKit
structure Vx where
 id:Int
 x:Int
 y:Int
structure Eg where
 id:Int
 a:Int
 b:Int
def fV (vs:List Vx) (i:Int):Option Vx:=vs.find? λv=>v.id==i
def fE (es:List Eg) (i:Int):Option Eg:=es.find? λe=>e.id==i
def yJ (vs:List Vx) (i:Int):Bool:=(fV vs i).isSome
def Ju (es:List Eg) (i:Int):Bool:=(fE es i).isSome
def px (vs:List Vx) (i:Int):Int:=match fV vs i with
 | some v=>v.x
 | none=>0
def py (vs:List Vx) (i:Int):Int:=match fV vs i with
 | some v=>v.y
 | none=>0
def atV (vs:List Vx) (x y:Int):Bool:=vs.any λv=>decide (v.x=x/\v.y=y)
def onV (vs:List Vx) (p1 p2 q1 q2:Int):Bool:=vs.any λv=>onB v.x v.y p1 p2 q1 q2
def onL (vs:List Vx) (es:List Eg) (x y:Int):Bool:=es.any λe=>onB x y (px vs e.a) (py vs e.a) (px vs e.b) (py vs e.b)
def mtL (vs:List Vx) (es:List Eg) (p1 p2 q1 q2:Int):Bool:=es.any λe=>mtB p1 p2 q1 q2 (px vs e.a) (py vs e.a) (px vs e.b) (py vs e.b)
def jn (e:Eg) (a b:Int):Bool:=(e.a==a&&e.b==b)||(e.a==b&&e.b==a)
def jnL (es:List Eg) (a b:Int):Bool:=es.any λe=>jn e a b
def Qp (vs:List Vx) (es:List Eg) (x y:Int):Int :=
 if inB x y=false then 5 else if atV vs x y then 7 else if onL vs es x y then 14 else if 512<=vs.length then 18 else 0
def gM (vs:List Vx) (es:List Eg) (a b:Int):Int :=
 if a=b then 1 else if (yJ vs a&&yJ vs b)=false then 6 else if jnL es a b then 7 else if onV vs (px vs a) (py vs a) (px vs b) (py vs b) then 14
 else if mtL vs es (px vs a) (py vs a) (px vs b) (py vs b) then 15 else if 1024<=es.length then 18 else 0
def OkV (vs:List Vx) (n:Nat):Prop:=∀ v,vs[n]?=some v->0<v.id/\(∀ u∈vs.take n,u.id<v.id)/\Qp (vs.take n) [] v.x v.y=0
def OkE (vs:List Vx) (es:List Eg) (n:Nat):Prop:=∀ e,es[n]?=some e->0<e.id/\(∀ u∈es.take n,u.id<e.id)/\gM vs (es.take n) e.a e.b=0
def Rt (vs:List Vx) (es:List Eg):Prop:=(∀ n,OkV vs n)/\∀ n,OkE vs es n
noncomputable def rtB (vs:List Vx) (es:List Eg):Bool := @decide (Rt vs es) (Classical.propDecidable _)
theorem uG {vs:List Vx} {es:List Eg}:rtB vs es=true↔Rt vs es:=by unfold rtB;exact ⟨λh => @of_decide_eq_true _ (Classical.propDecidable _) h,λh => @decide_eq_true _ (Classical.propDecidable _) h⟩
theorem jZ {vs:List Vx} {es:List Eg} (h:¬ Rt vs es):rtB vs es=false:=by
 cases e:rtB vs es with
 | false=>rfl
 | true=>exact absurd (uG.1 e) h
theorem pw {α:Type} (R:α->α->Prop) (l:List α):(∀ (n:Nat) (v:α),l[n]?=some v->∀ u∈l.take n,R u v)↔l.Pairwise R:=by
 rw[List.pairwise_iff_getElem];constructor
 ·intro h i j hi hj hij;refine h j _ (List.getElem?_eq_getElem hj) _ ?_;rw[List.mem_take_iff_getElem];exact ⟨i,by omega,rfl⟩
 intro h n v hv u hu;obtain ⟨hn,rfl⟩:=List.getElem?_eq_some_iff.1 hv;rw[List.mem_take_iff_getElem]at hu;obtain ⟨i,hi,rfl⟩:=hu;exact h i n (by omega) hn (by omega)
theorem qF {α:Type} {P:α->Prop} (l:List α):(∀ (n:Nat) (v:α),l[n]?=some v->P v)↔∀ v∈l,P v :=
 ⟨λh v hv=>by obtain ⟨n,hn⟩:=List.mem_iff_getElem?.1 hv;exact h n v hn,λh n v hv=>h v (List.mem_of_getElem? hv)⟩
theorem Xa {α:Type} (l:List α) (k:Nat):(∀ (n:Nat) (v:α),l[n]?=some v->n<k)↔l.length<=k:=by
 constructor
 ·intro h;rcases Nat.lt_or_ge k l.length with hk|hk
  ·have:=h k _ (List.getElem?_eq_getElem hk);omega
  exact hk
 intro h n v hv;obtain ⟨hn,_⟩:=List.getElem?_eq_some_iff.1 hv;omega
theorem fI {vs:List Vx} {es:List Eg} {x y:Int}:Qp vs es x y=0↔inB x y=true/\atV vs x y=false/\onL vs es x y=false/\vs.length<512:=by
 unfold Qp;cases h1:inB x y<;>cases h2:atV vs x y<;>cases h3:onL vs es x y<;>simp
theorem jD {vs:List Vx} {es:List Eg} {a b:Int}:gM vs es a b=0↔a≠b/\yJ vs a=true/\yJ vs b=true/\jnL es a b=false/\onV vs (px vs a) (py vs a) (px vs b) (py vs b)=false/\mtL vs es (px vs a) (py vs a) (px vs b) (py vs b)=false/\es.length<1024:=by
 unfold gM;by_cases h0:a=b
 ·simp[h0]
 rw[if_neg h0];cases h1:yJ vs a<;>cases h2:yJ vs b<;>simp[h0]
 cases h3:jnL es a b<;>simp
 cases h4:onV vs (px vs a) (py vs a) (px vs b) (py vs b)<;>simp
 cases h5:mtL vs es (px vs a) (py vs a) (px vs b) (py vs b)<;>simp
structure FlV (vs:List Vx):Prop where
 rise:vs.Pairwise λu v=>u.id<v.id
 one:∀ v∈vs,0<v.id
 rng:∀ v∈vs,inB v.x v.y=true
 apart:vs.Pairwise λu v=>¬ (u.x=v.x/\u.y=v.y)
 few:vs.length<=512
structure FlE (vs:List Vx) (es:List Eg):Prop where
 rise:es.Pairwise λu v=>u.id<v.id
 one:∀ e∈es,0<e.id
 ends:∀ e∈es,e.a≠e.b/\yJ vs e.a=true/\yJ vs e.b=true
 apart:es.Pairwise λu e=>jn u e.a e.b=false
 off:∀ e∈es,onV vs (px vs e.a) (py vs e.a) (px vs e.b) (py vs e.b)=false
 free:es.Pairwise λu e=>mtB (px vs e.a) (py vs e.a) (px vs e.b) (py vs e.b) (px vs u.a) (py vs u.a) (px vs u.b) (py vs u.b)=false
 few:es.length<=1024
theorem qJ {α:Type} {l:List α} {p:α->Bool}:l.any p=false↔∀ x∈l,p x=false:=by rw[List.any_eq_false];simp
theorem Xf {vs:List Vx}:(∀ n,OkV vs n)↔FlV vs:=by
 unfold OkV;simp only[fI];constructor
 ·intro h;refine ⟨(pw _ _).1 λn v hv u hu=>(h n v hv).2.1 u hu,(qF _).1 λn v hv=>(h n v hv).1,(qF _).1 λn v hv=>(h n v hv).2.2.1,(pw _ _).1 λn v hv u hu => ?_,(Xa _ _).1 λn v hv => ?_⟩
  ·have:=qJ.1 (h n v hv).2.2.2.1 u hu;simpa using this
  have:=(h n v hv).2.2.2.2.2;obtain ⟨hn,_⟩:=List.getElem?_eq_some_iff.1 hv;rw[List.length_take]at this;omega
 rintro ⟨h1,h2,h3,h4,h5⟩ n v hv;have hn:=(Xa _ _).2 h5 n v hv;refine ⟨(qF _).2 h2 n v hv,(pw _ _).2 h1 n v hv,(qF _).2 h3 n v hv,qJ.2 λu hu => ?_,rfl,by rw[List.length_take];omega⟩;simpa using (pw _ _).2 h4 n v hv u hu
theorem Xe {vs:List Vx} {es:List Eg}:(∀ n,OkE vs es n)↔FlE vs es:=by
 unfold OkE;simp only[jD];constructor
 ·intro h;refine ⟨(pw _ _).1 λn v hv u hu=>(h n v hv).2.1 u hu,(qF _).1 λn v hv=>(h n v hv).1,(qF _).1 λn v hv=>⟨(h n v hv).2.2.1,(h n v hv).2.2.2.1,(h n v hv).2.2.2.2.1⟩,(pw _ _).1 λn v hv u hu => ?_,(qF _).1 λn v hv=>(h n v hv).2.2.2.2.2.2.1,(pw _ _).1 λn v hv u hu => ?_,(Xa _ _).1 λn v hv => ?_⟩
  ·exact qJ.1 (h n v hv).2.2.2.2.2.1 u hu
  ·exact qJ.1 (h n v hv).2.2.2.2.2.2.2.1 u hu
  have:=(h n v hv).2.2.2.2.2.2.2.2;obtain ⟨hn,_⟩:=List.getElem?_eq_some_iff.1 hv;rw[List.length_take]at this;omega
 rintro ⟨h1,h2,h3,h4,h5,h6,h7⟩ n v hv;have hn:=(Xa _ _).2 h7 n v hv;obtain ⟨e1,e2,e3⟩:=(qF _).2 h3 n v hv;exact ⟨(qF _).2 h2 n v hv,(pw _ _).2 h1 n v hv,e1,e2,e3,qJ.2 ((pw _ _).2 h4 n v hv),(qF _).2 h5 n v hv,qJ.2 ((pw _ _).2 h6 n v hv),by rw[List.length_take];omega⟩
theorem uE {vs:List Vx} {es:List Eg}:Rt vs es↔FlV vs/\FlE vs es:=by unfold Rt;rw[Xf,Xe]
theorem mH {vs:List Vx} {i:Int} {v:Vx} (h:fV vs i=some v):v∈vs/\v.id=i:=by
 unfold fV at h;exact ⟨List.mem_of_find?_eq_some h,by simpa using List.find?_some h⟩
theorem qU {vs:List Vx} {i:Int}:yJ vs i=true↔∃ v∈vs,v.id=i:=by
 unfold yJ fV;rw[List.find?_isSome];simp
theorem fA {vs:List Vx} {i:Int}:yJ vs i=false↔∀ v∈vs,v.id≠i:=by
 rw[<- Bool.not_eq_true,qU];simp
theorem jQ {es:List Eg} {i:Int}:Ju es i=true↔∃ v∈es,v.id=i:=by
 unfold Ju fE;rw[List.find?_isSome];simp
theorem qS {vs:List Vx} {i:Int} (h:yJ vs i=true):∃ v,fV vs i=some v:=by
 unfold yJ at h;exact Option.isSome_iff_exists.1 h
theorem uN {vs:List Vx} (h:∀ v∈vs,inB v.x v.y=true) {i:Int} (hi:yJ vs i=true):inB (px vs i) (py vs i)=true:=by
 obtain ⟨v,hv⟩:=qS hi;unfold px py;rw[hv];exact h v (mH hv).1
theorem qZ {vs:List Vx} (h:FlV vs) {i j:Int} (hi:yJ vs i=true) (hj:yJ vs j=true) (hij:i≠j):decide (px vs i=px vs j/\py vs i=py vs j)=false:=by
 obtain ⟨u,hu⟩:=qS hi;obtain ⟨v,hv⟩:=qS hj;unfold px py;rw[hu,hv];obtain ⟨hu1,hu2⟩:=mH hu;obtain ⟨hv1,hv2⟩:=mH hv;have hne:u≠v:=λe=>hij (by rw[<- hu2,<- hv2,e])
 have:=h.apart;rw[decide_eq_false_iff_not];rw[List.pairwise_iff_getElem]at this;obtain ⟨m,hm,rfl⟩:=List.mem_iff_getElem.1 hu1;obtain ⟨n,hn,rfl⟩:=List.mem_iff_getElem.1 hv1;rcases Nat.lt_trichotomy m n with k|k|k
 ·exact this m n hm hn k
 ·subst k;exact absurd rfl hne
 exact λe=>this n m hn hm k ⟨e.1.symm,e.2.symm⟩
end Go.Proofs.Ytibnackmddigaaa.Pl
end
