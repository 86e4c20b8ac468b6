import Derived.Test.YtibnackmddigaaaSta
import Derived.WideKeyRuns
import Derived.Test.YtibnackmddigaaaPlnR
import Derived.Laws.StructEq
import Derived.Laws.Tables
import Derived.Laws.Cover2
set_option linter.unusedVariables false
set_option linter.unusedSimpArgs false
set_option linter.unusedSectionVars false
section
namespace Go.Proofs.Ytibnackmddigaaa
open Go.ChangeShapes Go.WideShapes Go.ChangeAt Go.RowKit
structure Vj (P:Program) (kt:TypeId) {α:Type} [DecidableEq α] (K:α->Value):Prop where
 chk:∀ em a w,(Instr.checkKey em 10000 kt (K a)).run P w=.ok () w
 eq:∀ a b w,(Op.equal kt (K a) (K b)).run P w=.ok (decide (a=b)) w
 wide:(match P.underlying kt with|some (.array _ _)|some (.struct _)=>true|_=>false)=true
 kind:∃ k,P.underlying kt=some k
def yX (w:World) (b:Nat) {α:Type} (K:α->Value) (L:List (α × Value)):Prop :=
 ∃ es ck,w.heap[b]?=some (.map es ck)/\es.toList.map (λe=>(e.key,e.val))=L.map λp=>(K p.1,p.2)
def lkG {α:Type} [DecidableEq α] (L:List (α × Value)) (a:α):Option Value:=(L.find? λp=>decide (a=p.1)).map (·.2)
section
variable {α : Type} [DecidableEq α] {P : Program} {w w' : World} {t e kt : TypeId} {b : Nat} {K : α -> Value} {L : List (α × Value)}
theorem yX.in_ (h:yX w b K L):b<w.heap.size:=by
 obtain ⟨es,ck,hb,_⟩:=h;exact (Array.getElem?_eq_some_iff.1 hb).1
theorem yX.keep (h:yX w b K L) (e:w'.heap[b]?=w.heap[b]?):yX w' b K L:=by
 obtain ⟨es,ck,hb,r⟩:=h;exact ⟨es,ck,e.trans hb,r⟩
theorem yX.ne (h:yX w b K L) {p:Nat} {T:TypeId} {cs:Array Value} (ho:Own w p T cs):b≠p:=by
 rintro rfl;obtain ⟨es,ck,hb,_⟩:=h;unfold Own at ho;rw[ho]at hb;cases hb
theorem yX.made (w:World) (K:α->Value):yX (w.alloc (.map #[] 0)) w.heap.size K []:=⟨#[],0,by unfold World.alloc;simp,by simp⟩
theorem fG (hk:Vj P kt K) (a:α):∀ (L:List (α × Value)) (es:List MapEntry) (n:Nat),es.map (λe=>(e.key,e.val))=L.map (λp=>(K p.1,p.2)) ->
 ∃ r,(Instr.findAsking kt (K a) es n).run P w=.ok r w/\r.map (·.2)=lkG L a
 | [],es,n,h=>by
  obtain rfl:es=[]:=by simpa using h
  exact ⟨none,rfl,rfl⟩
 | p::L,[],n,h=>by simp at h
 | p::L,x::es,n,h=>by
  simp only[List.map_cons,List.cons.injEq,Prod.mk.injEq]at h;obtain ⟨⟨h1,h2⟩,h3⟩:=h;by_cases hp:a=p.1
  ·refine ⟨some (n,x.val),?_,?_⟩
   ·unfold Instr.findAsking;rw[h1];simp[Sem.run_bind,hk.eq,hp,Result.andThen]
   simp[lkG,hp,h2]
  obtain ⟨r,hr,hr2⟩:=fG hk a L es (n+1) h3;refine ⟨r,?_,?_⟩
  ·unfold Instr.findAsking;rw[h1];simp[Sem.run_bind,hk.eq,hp,Result.andThen,hr]
  rw[hr2];simp[lkG,hp]
theorem yX.look (h:yX w b K L) (ht:P.underlying t=some (.map kt e)) (hk:Vj P kt K) {z:Value} (hz:(zeroValue e).run P w=.ok z w) (a:α) :
 (Instr.lookup t (.map (some b)) (K a) true).run P w=.ok (.tuple #[(lkG L a).getD z,.bool (lkG L a).isSome]) w:=by
 obtain ⟨es,ck,hb,hL⟩:=h;obtain ⟨r,hr,hr2⟩:=fG (w:=w) hk a L es.toList 0 hL;have hf:(Instr.findKey kt (K a) es.toList).run P w=.ok r w:=by rw[run_findKey_eq w hk.wide];exact hr
 rw[<- hr2];cases r with
 | none=>simp[Instr.lookup,run_underlying ht,MapKept.run_getObj_map hb,hk.chk,hf,hz,Result.andThen]
 | some x=>simp[Instr.lookup,run_underlying ht,MapKept.run_getObj_map hb,hk.chk,hf,hz,Result.andThen]
theorem xD.look1 {k:IntKind} {f:Int->Option Value} (h:xD w b k f) (ht:P.underlying t=some (.map kt e)) (hk:P.underlying kt=some (.int k)) {z:Value} (hz:(zeroValue e).run P w=.ok z w) (i:Int) :
 (Instr.lookup t (.map (some b)) (.int k i) false).run P w=.ok ((f i).getD z) w:=by
 obtain ⟨es,ck,hb,hks,hf⟩:=h;rw[hf i];rcases vG k i es.toList 0 hks with ⟨h1,h2⟩|⟨j,e0,h1,h2,h3,h4,h5⟩
 ·simp[Instr.lookup,run_underlying ht,MapKept.run_getObj_map hb,yR hk,Instr.findKey,run_underlying hk,h1,h2,hz,Result.andThen]
 simp[Instr.lookup,run_underlying ht,MapKept.run_getObj_map hb,yR hk,Instr.findKey,run_underlying hk,h3,h5,hz,Result.andThen]
theorem yX.put (h:yX w b K L) (ht:P.underlying t=some (.map kt e)) (hk:Vj P kt K) (a:α) (v:Value) (hn:lkG L a=none) :
 ∃ w',(Instr.mapUpdate t (.map (some b)) (K a) v).run P w=.ok () w'/\yX w' b K (L++[(a,v)])/\Chg (·=b) w w'/\w'.heap.size=w.heap.size:=by
 obtain ⟨es,ck,hb,hL⟩:=h;have hlt:b<w.heap.size:=(Array.getElem?_eq_some_iff.1 hb).1;obtain ⟨r,hr,hr2⟩:=fG (w:=w) hk a L es.toList 0 hL;have hf:(Instr.findKey kt (K a) es.toList).run P w=.ok r w:=by rw[run_findKey_eq w hk.wide];exact hr
 rw[hn]at hr2;obtain rfl:r=none:=by simpa using hr2
 refine ⟨{ w with heap:=w.heap.setIfInBounds b (.map (es.push ⟨K a,v,ck⟩) (ck+1)) },by simp[Instr.mapUpdate,run_underlying ht,MapKept.run_getObj_map hb,hk.chk,hf,MapKept.run_setObj_map _ hb,Result.andThen],⟨_,_,(by simp[hlt];exact ⟨rfl,rfl⟩),by simp[hL]⟩,⟨rfl,rfl,rfl,by simp,λq _ hq=>by simp;rw[Array.getElem?_setIfInBounds_ne (Ne.symm hq)]⟩,by simp⟩
end
end Go.Proofs.Ytibnackmddigaaa
end
section
namespace Go.Proofs.Ytibnackmddigaaa.Pl
open Go.ChangeShapes Go.WideShapes Go.ChangeAt Go.RowKit
def k2 (p:Int × Int):Value:=.agg #[.int .i64 p.1,.int .i64 p.2]
theorem zC3 (a1 a2 b1 b2:Int) (w:World):(Op.equalIn 10000 151 (.agg #[.int .i64 a1,.int .i64 a2]) (.agg #[.int .i64 b1,.int .i64 b2])).run Try.prog w=.ok (decide (a1=b1/\a2=b2)) w:=by
 have u3:=Try.underlying3;have a3:=Try.isAgg3;have z3:=Try.sizeOf3;rw[show (10000:Nat)=9999+1 from rfl,Op.equalIn];simp only[Sem.run_bind,run_underlying Try.underlying151,Result.andThen_ok];simp only[Std.Legacy.Range.forIn_eq_forIn_range',Std.Legacy.Range.size,Nat.sub_zero,Nat.add_sub_cancel,Nat.div_one,List.range'_succ,List.range'_zero,List.forIn_cons,List.forIn_nil];go_simp
 by_cases h0:a1=b1<;>by_cases h1:a2=b2<;>simp[h0,h1]
theorem Jn (em:Bool) (n:Nat) (z:Int) (w:World):(Instr.checkKey em (n+1) 3 (.int .i64 z)).run Try.prog w=.ok () w:=by
 simp[Instr.checkKey,run_underlying Try.underlying3,Result.andThen]
theorem Xo:Vj Try.prog 151 k2 where
 chk em p w:=by
  have u3:=Try.underlying3;have a3:=Try.isAgg3;have z3:=Try.sizeOf3;unfold k2;rw[show (10000:Nat)=9998+1+1 from rfl,Instr.checkKey];simp only[Sem.run_bind,run_underlying Try.underlying151,Result.andThen_ok];simp only[Std.Legacy.Range.forIn_eq_forIn_range',Std.Legacy.Range.size,Nat.sub_zero,Nat.add_sub_cancel,Nat.div_one,List.range'_succ,List.range'_zero,List.forIn_cons,List.forIn_nil];go_simp
  simp[Jn]
 eq p q w:=by
  have h:=zC3 p.1 p.2 q.1 q.2 w;have e:decide (p=q)=decide (p.1=q.1/\p.2=q.2):=by
   obtain ⟨p1,p2⟩:=p;obtain ⟨q1,q2⟩:=q;simp
  rw[e];exact h
 wide:=by rw[Try.underlying151]
 kind:=⟨_,Try.underlying151⟩
theorem zAj:Vj Try.prog 37 k2 where
 chk em p w:=by
  have u3:=Try.underlying3;have a3:=Try.isAgg3;have z3:=Try.sizeOf3;unfold k2;rw[show (10000:Nat)=9998+1+1 from rfl,Instr.checkKey];simp only[Sem.run_bind,run_underlying Try.underlying37,Result.andThen_ok];simp[Jn,go_sem,part,u3,a3,z3]
 eq p q w:=by
  have h:=zO p.1 p.2 q.1 q.2 w;have e:decide (p=q)=decide (p.1=q.1/\p.2=q.2):=by
   obtain ⟨p1,p2⟩:=p;obtain ⟨q1,q2⟩:=q;simp
  rw[e];exact h
 wide:=by rw[Try.underlying37]
 kind:=⟨_,Try.underlying37⟩
set_option maxRecDepth 10000 in
theorem Ue (a b:Int) (w:World):Calls Try.prog 80 #[.int .i64 a,.int .i64 b] w λe w'=>e=.returned (k2 (min a b,max a b))/\Below w.heap.size w w':=by
 go_enter Try.func80,Try.ntmps80;go_wp2;refine bodyPost_ret (by simp[results,Try.results80,go_sem,k2]) rfl ⟨rfl,?_⟩;repeat' (first|(with_reducible exact Below.refl _ _)|(with_reducible assumption)|(with_reducible refine zX ?_ _)|(with_reducible refine Below.drew ?_)|(with_reducible refine Below.alloc ?_ ?_ _)|(with_reducible refine Below.setCell ?_ ?_ _)|(with_reducible refine zF ?_ zW ?_)|(with_reducible exact Nat.le_refl _)|(with_reducible exact Nat.le_succ _)|(with_reducible exact Nat.le_succ_of_le zW)|omega|(simp;done)|(simp;omega)|(exact Nat.le_succ _)|(exact Nat.le_succ_of_le zW))
def tcB (a1 a2 b1 b2 c1 c2 d1 d2:Int):Bool:=decide (a1<=d1)&&decide (c1<=b1)&&decide (a2<=d2)&&decide (c2<=b2)
set_option maxRecDepth 10000 in
theorem mR (a1 a2 b1 b2 c1 c2 d1 d2:Int) (w:World):Calls Try.prog 98 #[.agg #[.int .i64 a1,.int .i64 a2,.int .i64 b1,.int .i64 b2],.agg #[.int .i64 c1,.int .i64 c2,.int .i64 d1,.int .i64 d2]] w λe w'=>e=.returned (.bool (tcB a1 a2 b1 b2 c1 c2 d1 d2))/\Below w.heap.size w w':=by
 unfold tcB;have HB:Hid (Below w.heap.size w ((w.alloc (.cells #[.int .i64 a1,.int .i64 a2,.int .i64 b1,.int .i64 b2] 167)).alloc (.cells #[.int .i64 c1,.int .i64 c2,.int .i64 d1,.int .i64 d2] 167))):=Lh (by repeat' (first|(with_reducible exact Below.refl _ _)|(with_reducible assumption)|(with_reducible refine zX ?_ _)|(with_reducible refine Below.drew ?_)|(with_reducible refine Below.alloc ?_ ?_ _)|(with_reducible refine Below.setCell ?_ ?_ _)|(with_reducible refine zF ?_ zW ?_)|(with_reducible exact Nat.le_refl _)|(with_reducible exact Nat.le_succ _)|(with_reducible exact Nat.le_succ_of_le zW)|omega|(simp;done)|(simp;omega)|(exact Nat.le_succ _)|(exact Nat.le_succ_of_le zW)));by_cases h1:a1<=d1
 ·by_cases h2:c1<=b1
  ·by_cases h3:a2<=d2
   ·have t1:decide (a1<=d1)=true:=by simpa using h1
    have t2:decide (c1<=b1)=true:=by simpa using h2
    have t3:decide (a2<=d2)=true:=by simpa using h3
    rw[t1,t2,t3];clear h1 h2 h3;go_enter Try.func98,Try.ntmps98;go_wp2;go_ret;exact ⟨rfl,HB.out⟩
   have t1:decide (a1<=d1)=true:=by simpa using h1
   have t2:decide (c1<=b1)=true:=by simpa using h2
   have t3:decide (a2<=d2)=false:=by simpa using h3
   rw[t1,t2,t3];clear h1 h2 h3;go_enter Try.func98,Try.ntmps98;go_wp2;go_ret;exact ⟨rfl,HB.out⟩
  have t1:decide (a1<=d1)=true:=by simpa using h1
  have t2:decide (c1<=b1)=false:=by simpa using h2
  rw[t1,t2];clear h1 h2;go_enter Try.func98,Try.ntmps98;go_wp2;go_ret;exact ⟨rfl,HB.out⟩
 have t1:decide (a1<=d1)=false:=by simpa using h1
 rw[t1];clear h1;go_enter Try.func98,Try.ntmps98;go_wp2;go_ret;exact ⟨rfl,HB.out⟩
theorem zDf {x y a1 a2 b1 b2:Int} (h:onB x y a1 a2 b1 b2=true):tcB (min a1 b1) (min a2 b2) (max a1 b1) (max a2 b2) x y x y=true:=by
 obtain ⟨⟨_,hx,hy⟩,_⟩:=gN.1 (fH.1 h).2;unfold tcB;simp only[Bool.and_eq_true,decide_eq_true_eq];omega
theorem zDu (x y a1 a2 b1 b2:Int):(tcB (min a1 b1) (min a2 b2) (max a1 b1) (max a2 b2) x y x y&&onB x y a1 a2 b1 b2)=onB x y a1 a2 b1 b2:=by
 cases h:onB x y a1 a2 b1 b2 with
 | false=>simp
 | true=>rw[zDf h];rfl
theorem Jj {a1 a2 b1 b2 c1 c2 d1 d2:Int} (h:sg (ar a1 a2 b1 b2 c1 c2)*sg (ar a1 a2 b1 b2 d1 d2)<0) (k:sg (ar c1 c2 d1 d2 a1 a2)*sg (ar c1 c2 d1 d2 b1 b2)<0):¬ (a1<c1/\a1<d1/\b1<c1/\b1<d1):=by
 rintro ⟨h1,h2,h3,h4⟩;have e1:ar c1 c2 d1 d2 b1 b2 - ar c1 c2 d1 d2 a1 a2=ar a1 a2 b1 b2 c1 c2 - ar a1 a2 b1 b2 d1 d2:=by unfold ar;grind
 have e2:a1*ar c1 c2 d1 d2 b1 b2 - b1*ar c1 c2 d1 d2 a1 a2=d1*ar a1 a2 b1 b2 c1 c2 - c1*ar a1 a2 b1 b2 d1 d2:=by unfold ar;grind
 generalize ar a1 a2 b1 b2 c1 c2=u at *
 generalize ar a1 a2 b1 b2 d1 d2=v at *
 generalize ar c1 c2 d1 d2 a1 a2=s at *
 generalize ar c1 c2 d1 d2 b1 b2=t at *
 obtain ⟨m,hm⟩:∃ m,m=max a1 b1:=⟨_,rfl⟩
 obtain ⟨f,hf⟩:∃ f,f=min c1 d1:=⟨_,rfl⟩
 have ha:a1<=m:=by omega
 have hb:b1<=m:=by omega
 have hc:f<=c1:=by omega
 have hd:f<=d1:=by omega
 have hmf:m<f:=by omega
 clear hm hf h1 h2 h3 h4;rcases sg3 s with ⟨s1,s2⟩|⟨s1,s2⟩|⟨s1,s2⟩<;>rcases sg3 t with ⟨t1,t2⟩|⟨t1,t2⟩|⟨t1,t2⟩<;>rw[s2,t2]at k<;>simp at k <;>
  rcases sg3 u with ⟨u1,u2⟩|⟨u1,u2⟩|⟨u1,u2⟩<;>rcases sg3 v with ⟨v1,v2⟩|⟨v1,v2⟩|⟨v1,v2⟩<;>rw[u2,v2]at h<;>simp at h
 ·omega
 ·have p1:=Int.mul_le_mul_of_nonneg_right ha (show 0<=t by omega);have p2:=Int.mul_le_mul_of_nonneg_right hb (show 0 <= -s by omega);have p3:=Int.mul_le_mul_of_nonneg_right hd (show 0<=u by omega);have p4:=Int.mul_le_mul_of_nonneg_right hc (show 0 <= -v by omega);have p5:=Int.mul_lt_mul_of_pos_right hmf (show 0<t - s by omega);simp only[Int.mul_neg,Int.mul_sub]at *;have e3:f*t - f*s=f*u - f*v:=by rw[<- Int.mul_sub,<- Int.mul_sub,e1]
  omega
 ·have p1:=Int.mul_le_mul_of_nonneg_right ha (show 0 <= -t by omega);have p2:=Int.mul_le_mul_of_nonneg_right hb (show 0<=s by omega);have p3:=Int.mul_le_mul_of_nonneg_right hd (show 0 <= -u by omega);have p4:=Int.mul_le_mul_of_nonneg_right hc (show 0<=v by omega);have p5:=Int.mul_lt_mul_of_pos_right hmf (show 0<s - t by omega);simp only[Int.mul_neg,Int.mul_sub]at *;have e3:f*t - f*s=f*u - f*v:=by rw[<- Int.mul_sub,<- Int.mul_sub,e1]
  omega
 omega
theorem Xd {a1 a2 b1 b2 c1 c2 d1 d2:Int} (h:sg (ar a1 a2 b1 b2 c1 c2)*sg (ar a1 a2 b1 b2 d1 d2)<0) (k:sg (ar c1 c2 d1 d2 a1 a2)*sg (ar c1 c2 d1 d2 b1 b2)<0):¬ (a2<c2/\a2<d2/\b2<c2/\b2<d2):=by
 refine Jj (a1:=a2) (a2:=a1) (b1:=b2) (b2:=b1) (c1:=c2) (c2:=c1) (d1:=d2) (d2:=d1) ?_ ?_
 ·rw[fF a1 a2 b1 b2 c1 c2,fF a1 a2 b1 b2 d1 d2,vH,vH,Int.neg_mul_neg];exact h
 rw[fF c1 c2 d1 d2 a1 a2,fF c1 c2 d1 d2 b1 b2,vH,vH,Int.neg_mul_neg];exact k
theorem zCv {a1 a2 b1 b2 c1 c2 d1 d2:Int} (h:mtB a1 a2 b1 b2 c1 c2 d1 d2=true):tcB (min a1 b1) (min a2 b2) (max a1 b1) (max a2 b2) (min c1 d1) (min c2 d2) (max c1 d1) (max c2 d2)=true:=by
 obtain ⟨_,_,_,hm⟩:=Xj.1 h;unfold gA at hm;unfold tcB;simp only[Bool.and_eq_true,decide_eq_true_eq];have key:∀ {p1 p2 q1 q2 r1 r2:Int},OnP p1 p2 q1 q2 r1 r2->(q1<=p1/\p1<=r1\/r1<=p1/\p1<=q1)/\(q2<=p2/\p2<=r2\/r2<=p2/\p2<=q2):=λh=>(gN.1 h).1.2
 rcases hm with hm|hm|hm|hm|hm|hm|⟨hm,hk⟩
 ·omega
 ·omega
 ·have:=key hm;omega
 ·have:=key hm;omega
 ·have:=key hm;omega
 ·have:=key hm;omega
 have x1:=Jj hm hk;have x2:=Jj hk hm;have y1:=Xd hm hk;have y2:=Xd hk hm;omega
theorem zDa (a1 a2 b1 b2 c1 c2 d1 d2:Int):(tcB (min a1 b1) (min a2 b2) (max a1 b1) (max a2 b2) (min c1 d1) (min c2 d2) (max c1 d1) (max c2 d2)&&mtB a1 a2 b1 b2 c1 c2 d1 d2)=mtB a1 a2 b1 b2 c1 c2 d1 d2:=by
 cases h:mtB a1 a2 b1 b2 c1 c2 d1 d2 with
 | false=>simp
 | true=>rw[zCv h];rfl
end Go.Proofs.Ytibnackmddigaaa.Pl
end
