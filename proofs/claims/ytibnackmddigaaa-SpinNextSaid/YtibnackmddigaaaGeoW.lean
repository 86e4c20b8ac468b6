import Derived.Test.YtibnackmddigaaaGeoC
set_option linter.unusedVariables false
set_option linter.unusedSimpArgs false
set_option linter.unusedSectionVars false
namespace Go.Proofs.Ytibnackmddigaaa
open Go.ChangeShapes Go.WideShapes Go.ChangeAt Go.RowKit
theorem zDj {p:Prop} (h:p:=by first|(simp[results,Try.results85,go_sem];done)|(simp[results,Try.results85,go_sem];rfl)):p:=h
theorem Yq {x y:Int} (hx : -268435456<=x/\x<=268435456) (hy : -268435456<=y/\y<=268435456) : -72057594037927936<=x*y/\x*y<=72057594037927936:=by
 have h1:x.natAbs<=268435456:=by omega
 have h2:y.natAbs<=268435456:=by omega
 have key:(x*y).natAbs<=72057594037927936:=by
  rw[Int.natAbs_mul];exact Nat.le_trans (Nat.mul_le_mul h1 h2) (by decide)
 generalize x*y=z at *
 omega
def bxB (p a b:Int):Bool:=(decide (a<=p)&&decide (p<=b))||(decide (b<=p)&&decide (p<=a))
def wiB (p1 p2 a1 a2 b1 b2:Int):Bool:=(tn a1 a2 b1 b2 p1 p2==0)&&bxB p1 a1 b1&&bxB p2 a2 b2
set_option maxHeartbeats 4000000 in
set_option maxRecDepth 20000 in
theorem Jw {p1 p2 a1 a2 b1 b2:Int} (ht:tn a1 a2 b1 b2 p1 p2=0) (H0:∀ w,Calls Try.prog 86 #[.agg #[.int .i64 a1,.int .i64 a2],.agg #[.int .i64 b1,.int .i64 b2],.agg #[.int .i64 p1,.int .i64 p2]] w λe w'=>e=.returned (.int .i64 0)/\Bel w.heap.size w w') (w:World) :
 Calls Try.prog 85 #[.agg #[.int .i64 p1,.int .i64 p2],.agg #[.int .i64 a1,.int .i64 a2],.agg #[.int .i64 b1,.int .i64 b2]] w λe w'=>e=.returned (.bool (wiB p1 p2 a1 a2 b1 b2))/\Bel w.heap.size w w':=by
 have H:=Lh H0;have HT:=Lh ht;clear H0 ht;go_enter Try.func85,Try.ntmps85;go_upto_region 1 with fail;go_name_world W0 hW0e;have oa:Own W0 w.heap.size 37 #[.int .i64 p1,.int .i64 p2]:=hW0e▸bY2;have ob:Own W0 (w.heap.size+1) 37 #[.int .i64 a1,.int .i64 a2]:=hW0e▸bY2;have oc:Own W0 (w.heap.size+1+1) 37 #[.int .i64 b1,.int .i64 b2]:=hW0e▸bY2
 have hW0:Bel w.heap.size w W0:=hW0e▸bY1;clear hW0e;obtain ⟨a_,a__,_⟩:=oa.at_;obtain ⟨b_,b__,_⟩:=ob.at_;obtain ⟨c_,c__,_⟩:=oc.at_;go_upto_region 3 with (go_at_call 86;refine (H.out _).mono ?_;rintro e W1 ⟨rfl,hb⟩;replace oa:=oa.keepB hb;replace ob:=ob.keepB hb;replace oc:=oc.keepB hb;have hW1:=zJ hW0 hb hW0.size;clear a_ a__ b_ b__ c_ c__;obtain ⟨a_,a__,_⟩:=oa.at_;obtain ⟨b_,b__,_⟩:=ob.at_;obtain ⟨c_,c__,_⟩:=oc.at_;clear oa ob oc hW0 hb H)
 go_cut [7] (λs7 wx=>s7=.bool (bxB p1 a1 b1)/\wx=W1)
 case first =>
  go_wp2;all_goals
   go_meet;refine ⟨congrArg Value.bool ?_,rfl⟩;unfold bxB;first|(simp[*];done)|(simp[*]<;>omega)|(simp;omega)
 case rest =>
  obtain ⟨rfl,rfl⟩:=hcut;obtain ⟨X,hX⟩:∃ X,bxB p1 a1 b1=X:=⟨_,rfl⟩
  rw[hX];replace hX:=Lh hX;go_upto_region 4 with fail;go_cut [8] (λs8 wx=>s8=.bool (bxB p2 a2 b2)/\wx=wc)
  case first =>
   go_wp2;all_goals
    go_meet;refine ⟨congrArg Value.bool ?_,rfl⟩;unfold bxB;first|(simp[*];done)|(simp[*]<;>omega)|(simp;omega)
  case rest =>
   obtain ⟨rfl,rfl⟩:=hcut;cases X
   ·go_wp2;refine bodyPost_ret zDj rfl ⟨?_,hW1⟩;exact zP (by unfold wiB;rw[hX.out,HT.out];simp)
   go_wp2;refine bodyPost_ret zDj rfl ⟨?_,hW1⟩;exact zP (by unfold wiB;rw[hX.out,HT.out];simp)
set_option maxHeartbeats 4000000 in
set_option maxRecDepth 20000 in
theorem Ya {p1 p2 a1 a2 b1 b2 t:Int} (ht:tn a1 a2 b1 b2 p1 p2=t) (h0:t≠0) (H0:∀ w,Calls Try.prog 86 #[.agg #[.int .i64 a1,.int .i64 a2],.agg #[.int .i64 b1,.int .i64 b2],.agg #[.int .i64 p1,.int .i64 p2]] w λe w'=>e=.returned (.int .i64 t)/\Bel w.heap.size w w') (w:World) :
 Calls Try.prog 85 #[.agg #[.int .i64 p1,.int .i64 p2],.agg #[.int .i64 a1,.int .i64 a2],.agg #[.int .i64 b1,.int .i64 b2]] w λe w'=>e=.returned (.bool (wiB p1 p2 a1 a2 b1 b2))/\Bel w.heap.size w w':=by
 have H:=Lh H0;have t0:(t==0)=false:=by simpa using h0
 have HT:=Lh (show wiB p1 p2 a1 a2 b1 b2=false by unfold wiB;rw[ht,t0];simp);clear H0 ht h0;go_enter Try.func85,Try.ntmps85;go_wp2_with (go_at_call 86;refine (H.out _).mono ?_;rintro e W1 ⟨rfl,hb⟩;have hs:=hb.size)
 refine bodyPost_ret zDj rfl ⟨zP HT.out.symm,?_⟩;repeat' (first|(with_reducible exact Bel.refl _ _)|(with_reducible assumption)|(with_reducible refine yF ?_ _)|(with_reducible refine Bel.drew ?_)|(with_reducible refine Bel.alloc ?_ ?_ _)|(with_reducible refine Bel.setCell ?_ ?_ _)|(with_reducible refine zJ ?_ zW ?_)|(with_reducible exact Nat.le_refl _)|(with_reducible exact Nat.le_succ _)|(with_reducible exact Nat.le_succ_of_le zW)|omega|(simp;done)|(simp;omega)|(exact Nat.le_succ _)|(exact Nat.le_succ_of_le zW))
end Go.Proofs.Ytibnackmddigaaa
