import Derived.Test.YtibnackmddigaaaGeoF
set_option linter.unusedVariables false
set_option linter.unusedSimpArgs false
set_option linter.unusedSectionVars false
namespace Go.Proofs.Ytibnackmddigaaa
open Go.ChangeShapes Go.WideShapes Go.ChangeAt Go.RowKit
theorem Qd {p:Prop} (h:p:=by first|(simp[results,Try.results87,go_sem];done)|(simp[results,Try.results87,go_sem];rfl)):p:=h
theorem zDt {p:Prop} (h:p:=by first|(simp[results,Try.results63,go_sem];done)|(simp[results,Try.results63,go_sem];rfl)):p:=h
set_option maxHeartbeats 16000000 in
set_option maxRecDepth 20000 in
theorem mS (x y:Int) (w:World):Calls Try.prog 87 #[.int .i64 x,.int .i64 y] w λe w'=>e=.returned (.int .i64 (wdg x y))/\Bel w.heap.size w w':=by
 go_enter Try.func87,Try.ntmps87;go_upto_region 1 with fail;obtain ⟨W0,hW0e⟩:∃ W0,W0=w:=⟨w,rfl⟩
 have hW0:Bel w.heap.size w W0:=by rw[hW0e];exact Bel.refl _ _
 first|rw[<- hW0e]|skip
 rcases Bool.eq_false_or_eq_true ((y==0)) with t1|t1
 ·have t1_:=Lh t1;clear t1;go_upto_region 1 with fail;refine zA (B:=W0.heap.size) (L:=.val (.int .i64 y)::.val (.bool true)::[]) (by kernel_rfl) (Nat.le_refl _) ((by exact trivial))
   ⟨λa w R=>mv (R.slot 1 rfl),λa w R=>yT (R.val 0) (Try.underlying3) t1_.out,trivial⟩ (λact_ W1 I => ?_)
  rw[I.act [(5,.int .i64 y),(6,.bool true)]
   ⟨I.val 0,I.val 1,trivial⟩ rfl]
  have sW1:W0.heap.size<=W1.heap.size:=I.below.size;have hW1:Bel w.heap.size w W1:=zJ hW0 I.below hW0.size;clear I;simp only[List.foldl_cons,List.foldl_nil,lA,lZ,lS];rcases Bool.eq_false_or_eq_true (decide (0<x)) with t2|t2
  ·have t2_:=Lh t2;clear t2;go_upto_region 2 with fail;refine zA (B:=W1.heap.size) (L:=.val (.int .i64 x)::.val (.bool true)::[]) (by kernel_rfl) (Nat.le_refl _) ((by exact trivial))
    ⟨λa w R=>mv (R.slot 0 rfl),λa w R=>uB (R.val 0) (Try.underlying3) t2_.out,trivial⟩ (λact_ W2 I => ?_)
   rw[I.act [(7,.int .i64 x),(8,.bool true)]
    ⟨I.val 0,I.val 1,trivial⟩ rfl]
   have sW2:W1.heap.size<=W2.heap.size:=I.below.size;have hW2:Bel w.heap.size w W2:=zJ hW1 I.below hW1.size;clear I;simp only[List.foldl_cons,List.foldl_nil,lA,lZ,lS];go_upto_region 3 with fail;refine zA (B:=W2.heap.size) (L:=.val (.int .i64 0)::[]) (by kernel_rfl) (Nat.le_refl _) ((by exact trivial))
    ⟨λa w R=>asc,trivial⟩ (λact_ W3 I => ?_)
   rw[I.act [(4,.int .i64 0)]
    ⟨I.val 0,trivial⟩ rfl]
   have sW3:W2.heap.size<=W3.heap.size:=I.below.size;have hW3:Bel w.heap.size w W3:=zJ hW2 I.below hW2.size;clear I;simp only[List.foldl_cons,List.foldl_nil,lA,lZ,lS];go_wp2;try simp only[zD]
   refine bodyPost_ret Qd rfl ⟨?_,hW3⟩;refine yB ?_;unfold wdg;have e0:=t1_.out;have e1:=t2_.out;simp only[beq_iff_eq,beq_eq_false_iff_ne,decide_eq_true_eq,decide_eq_false_iff_not]at *;(repeat' split)<;>omega
  have t2_:=Lh t2;clear t2;go_upto_region 2 with fail;refine zA (B:=W1.heap.size) (L:=.val (.int .i64 x)::.val (.bool false)::[]) (by kernel_rfl) (Nat.le_refl _) ((by exact trivial))
   ⟨λa w R=>mv (R.slot 0 rfl),λa w R=>uB (R.val 0) (Try.underlying3) t2_.out,trivial⟩ (λact_ W2 I => ?_)
  rw[I.act [(7,.int .i64 x),(8,.bool false)]
   ⟨I.val 0,I.val 1,trivial⟩ rfl]
  have sW2:W1.heap.size<=W2.heap.size:=I.below.size;have hW2:Bel w.heap.size w W2:=zJ hW1 I.below hW1.size;clear I;simp only[List.foldl_cons,List.foldl_nil,lA,lZ,lS];go_upto_region 4 with fail;refine zA (B:=W2.heap.size) (L:=.val (.int .i64 4)::[]) (by kernel_rfl) (Nat.le_refl _) ((by exact trivial))
   ⟨λa w R=>asc,trivial⟩ (λact_ W3 I => ?_)
  rw[I.act [(4,.int .i64 4)]
   ⟨I.val 0,trivial⟩ rfl]
  have sW3:W2.heap.size<=W3.heap.size:=I.below.size;have hW3:Bel w.heap.size w W3:=zJ hW2 I.below hW2.size;clear I;simp only[List.foldl_cons,List.foldl_nil,lA,lZ,lS];go_wp2;try simp only[zD]
  refine bodyPost_ret Qd rfl ⟨?_,hW3⟩;refine yB ?_;unfold wdg;have e0:=t1_.out;have e1:=t2_.out;simp only[beq_iff_eq,beq_eq_false_iff_ne,decide_eq_true_eq,decide_eq_false_iff_not]at *;(repeat' split)<;>omega
 have t1_:=Lh t1;clear t1;go_upto_region 1 with fail;refine zA (B:=W0.heap.size) (L:=.val (.int .i64 y)::.val (.bool false)::[]) (by kernel_rfl) (Nat.le_refl _) ((by exact trivial))
  ⟨λa w R=>mv (R.slot 1 rfl),λa w R=>yT (R.val 0) (Try.underlying3) t1_.out,trivial⟩ (λact_ W1 I => ?_)
 rw[I.act [(5,.int .i64 y),(6,.bool false)]
  ⟨I.val 0,I.val 1,trivial⟩ rfl]
 have sW1:W0.heap.size<=W1.heap.size:=I.below.size;have hW1:Bel w.heap.size w W1:=zJ hW0 I.below hW0.size;clear I;simp only[List.foldl_cons,List.foldl_nil,lA,lZ,lS];rcases Bool.eq_false_or_eq_true (decide (0<y)) with t3|t3
 ·have t3_:=Lh t3;clear t3;go_upto_region 5 with fail;refine zA (B:=W1.heap.size) (L:=.val (.int .i64 y)::.val (.bool true)::[]) (by kernel_rfl) (Nat.le_refl _) ((by exact trivial))
   ⟨λa w R=>mv (R.slot 1 rfl),λa w R=>uB (R.val 0) (Try.underlying3) t3_.out,trivial⟩ (λact_ W2 I => ?_)
  rw[I.act [(9,.int .i64 y),(10,.bool true)]
   ⟨I.val 0,I.val 1,trivial⟩ rfl]
  have sW2:W1.heap.size<=W2.heap.size:=I.below.size;have hW2:Bel w.heap.size w W2:=zJ hW1 I.below hW1.size;clear I;simp only[List.foldl_cons,List.foldl_nil,lA,lZ,lS];rcases Bool.eq_false_or_eq_true (decide (0<x)) with t4|t4
  ·have t4_:=Lh t4;clear t4;go_upto_region 6 with fail;refine zA (B:=W2.heap.size) (L:=.val (.int .i64 x)::.val (.bool true)::[]) (by kernel_rfl) (Nat.le_refl _) ((by exact trivial))
    ⟨λa w R=>mv (R.slot 0 rfl),λa w R=>uB (R.val 0) (Try.underlying3) t4_.out,trivial⟩ (λact_ W3 I => ?_)
   rw[I.act [(11,.int .i64 x),(12,.bool true)]
    ⟨I.val 0,I.val 1,trivial⟩ rfl]
   have sW3:W2.heap.size<=W3.heap.size:=I.below.size;have hW3:Bel w.heap.size w W3:=zJ hW2 I.below hW2.size;clear I;simp only[List.foldl_cons,List.foldl_nil,lA,lZ,lS];go_upto_region 7 with fail;refine zA (B:=W3.heap.size) (L:=.val (.int .i64 1)::[]) (by kernel_rfl) (Nat.le_refl _) ((by exact trivial))
    ⟨λa w R=>asc,trivial⟩ (λact_ W4 I => ?_)
   rw[I.act [(4,.int .i64 1)]
    ⟨I.val 0,trivial⟩ rfl]
   have sW4:W3.heap.size<=W4.heap.size:=I.below.size;have hW4:Bel w.heap.size w W4:=zJ hW3 I.below hW3.size;clear I;simp only[List.foldl_cons,List.foldl_nil,lA,lZ,lS];go_wp2;try simp only[zD]
   refine bodyPost_ret Qd rfl ⟨?_,hW4⟩;refine yB ?_;unfold wdg;have e0:=t1_.out;have e1:=t3_.out;have e2:=t4_.out;simp only[beq_iff_eq,beq_eq_false_iff_ne,decide_eq_true_eq,decide_eq_false_iff_not]at *;(repeat' split)<;>omega
  have t4_:=Lh t4;clear t4;go_upto_region 6 with fail;refine zA (B:=W2.heap.size) (L:=.val (.int .i64 x)::.val (.bool false)::[]) (by kernel_rfl) (Nat.le_refl _) ((by exact trivial))
   ⟨λa w R=>mv (R.slot 0 rfl),λa w R=>uB (R.val 0) (Try.underlying3) t4_.out,trivial⟩ (λact_ W3 I => ?_)
  rw[I.act [(11,.int .i64 x),(12,.bool false)]
   ⟨I.val 0,I.val 1,trivial⟩ rfl]
  have sW3:W2.heap.size<=W3.heap.size:=I.below.size;have hW3:Bel w.heap.size w W3:=zJ hW2 I.below hW2.size;clear I;simp only[List.foldl_cons,List.foldl_nil,lA,lZ,lS];rcases Bool.eq_false_or_eq_true ((x==0)) with t5|t5
  ·have t5_:=Lh t5;clear t5;go_upto_region 8 with fail;refine zA (B:=W3.heap.size) (L:=.val (.int .i64 x)::.val (.bool true)::[]) (by kernel_rfl) (Nat.le_refl _) ((by exact trivial))
    ⟨λa w R=>mv (R.slot 0 rfl),λa w R=>yT (R.val 0) (Try.underlying3) t5_.out,trivial⟩ (λact_ W4 I => ?_)
   rw[I.act [(13,.int .i64 x),(14,.bool true)]
    ⟨I.val 0,I.val 1,trivial⟩ rfl]
   have sW4:W3.heap.size<=W4.heap.size:=I.below.size;have hW4:Bel w.heap.size w W4:=zJ hW3 I.below hW3.size;clear I;simp only[List.foldl_cons,List.foldl_nil,lA,lZ,lS];go_upto_region 9 with fail;refine zA (B:=W4.heap.size) (L:=.val (.int .i64 2)::[]) (by kernel_rfl) (Nat.le_refl _) ((by exact trivial))
    ⟨λa w R=>asc,trivial⟩ (λact_ W5 I => ?_)
   rw[I.act [(4,.int .i64 2)]
    ⟨I.val 0,trivial⟩ rfl]
   have sW5:W4.heap.size<=W5.heap.size:=I.below.size;have hW5:Bel w.heap.size w W5:=zJ hW4 I.below hW4.size;clear I;simp only[List.foldl_cons,List.foldl_nil,lA,lZ,lS];go_wp2;try simp only[zD]
   refine bodyPost_ret Qd rfl ⟨?_,hW5⟩;refine yB ?_;unfold wdg;have e0:=t1_.out;have e1:=t3_.out;have e2:=t4_.out;have e3:=t5_.out;simp only[beq_iff_eq,beq_eq_false_iff_ne,decide_eq_true_eq,decide_eq_false_iff_not]at *;(repeat' split)<;>omega
  have t5_:=Lh t5;clear t5;go_upto_region 8 with fail;refine zA (B:=W3.heap.size) (L:=.val (.int .i64 x)::.val (.bool false)::[]) (by kernel_rfl) (Nat.le_refl _) ((by exact trivial))
   ⟨λa w R=>mv (R.slot 0 rfl),λa w R=>yT (R.val 0) (Try.underlying3) t5_.out,trivial⟩ (λact_ W4 I => ?_)
  rw[I.act [(13,.int .i64 x),(14,.bool false)]
   ⟨I.val 0,I.val 1,trivial⟩ rfl]
  have sW4:W3.heap.size<=W4.heap.size:=I.below.size;have hW4:Bel w.heap.size w W4:=zJ hW3 I.below hW3.size;clear I;simp only[List.foldl_cons,List.foldl_nil,lA,lZ,lS];go_upto_region 10 with fail;refine zA (B:=W4.heap.size) (L:=.val (.int .i64 3)::[]) (by kernel_rfl) (Nat.le_refl _) ((by exact trivial))
   ⟨λa w R=>asc,trivial⟩ (λact_ W5 I => ?_)
  rw[I.act [(4,.int .i64 3)]
   ⟨I.val 0,trivial⟩ rfl]
  have sW5:W4.heap.size<=W5.heap.size:=I.below.size;have hW5:Bel w.heap.size w W5:=zJ hW4 I.below hW4.size;clear I;simp only[List.foldl_cons,List.foldl_nil,lA,lZ,lS];go_wp2;try simp only[zD]
  refine bodyPost_ret Qd rfl ⟨?_,hW5⟩;refine yB ?_;unfold wdg;have e0:=t1_.out;have e1:=t3_.out;have e2:=t4_.out;have e3:=t5_.out;simp only[beq_iff_eq,beq_eq_false_iff_ne,decide_eq_true_eq,decide_eq_false_iff_not]at *;(repeat' split)<;>omega
 have t3_:=Lh t3;clear t3;go_upto_region 5 with fail;refine zA (B:=W1.heap.size) (L:=.val (.int .i64 y)::.val (.bool false)::[]) (by kernel_rfl) (Nat.le_refl _) ((by exact trivial))
  ⟨λa w R=>mv (R.slot 1 rfl),λa w R=>uB (R.val 0) (Try.underlying3) t3_.out,trivial⟩ (λact_ W2 I => ?_)
 rw[I.act [(9,.int .i64 y),(10,.bool false)]
  ⟨I.val 0,I.val 1,trivial⟩ rfl]
 have sW2:W1.heap.size<=W2.heap.size:=I.below.size;have hW2:Bel w.heap.size w W2:=zJ hW1 I.below hW1.size;clear I;simp only[List.foldl_cons,List.foldl_nil,lA,lZ,lS];rcases Bool.eq_false_or_eq_true (decide (x<0)) with t6|t6
 ·have t6_:=Lh t6;clear t6;go_upto_region 11 with fail;refine zA (B:=W2.heap.size) (L:=.val (.int .i64 x)::.val (.bool true)::[]) (by kernel_rfl) (Nat.le_refl _) ((by exact trivial))
   ⟨λa w R=>mv (R.slot 0 rfl),λa w R=>jF (R.val 0) (Try.underlying3) t6_.out,trivial⟩ (λact_ W3 I => ?_)
  rw[I.act [(15,.int .i64 x),(16,.bool true)]
   ⟨I.val 0,I.val 1,trivial⟩ rfl]
  have sW3:W2.heap.size<=W3.heap.size:=I.below.size;have hW3:Bel w.heap.size w W3:=zJ hW2 I.below hW2.size;clear I;simp only[List.foldl_cons,List.foldl_nil,lA,lZ,lS];go_upto_region 12 with fail;refine zA (B:=W3.heap.size) (L:=.val (.int .i64 5)::[]) (by kernel_rfl) (Nat.le_refl _) ((by exact trivial))
   ⟨λa w R=>asc,trivial⟩ (λact_ W4 I => ?_)
  rw[I.act [(4,.int .i64 5)]
   ⟨I.val 0,trivial⟩ rfl]
  have sW4:W3.heap.size<=W4.heap.size:=I.below.size;have hW4:Bel w.heap.size w W4:=zJ hW3 I.below hW3.size;clear I;simp only[List.foldl_cons,List.foldl_nil,lA,lZ,lS];go_wp2;try simp only[zD]
  refine bodyPost_ret Qd rfl ⟨?_,hW4⟩;refine yB ?_;unfold wdg;have e0:=t1_.out;have e1:=t3_.out;have e2:=t6_.out;simp only[beq_iff_eq,beq_eq_false_iff_ne,decide_eq_true_eq,decide_eq_false_iff_not]at *;(repeat' split)<;>omega
 have t6_:=Lh t6;clear t6;go_upto_region 11 with fail;refine zA (B:=W2.heap.size) (L:=.val (.int .i64 x)::.val (.bool false)::[]) (by kernel_rfl) (Nat.le_refl _) ((by exact trivial))
  ⟨λa w R=>mv (R.slot 0 rfl),λa w R=>jF (R.val 0) (Try.underlying3) t6_.out,trivial⟩ (λact_ W3 I => ?_)
 rw[I.act [(15,.int .i64 x),(16,.bool false)]
  ⟨I.val 0,I.val 1,trivial⟩ rfl]
 have sW3:W2.heap.size<=W3.heap.size:=I.below.size;have hW3:Bel w.heap.size w W3:=zJ hW2 I.below hW2.size;clear I;simp only[List.foldl_cons,List.foldl_nil,lA,lZ,lS];rcases Bool.eq_false_or_eq_true ((x==0)) with t7|t7
 ·have t7_:=Lh t7;clear t7;go_upto_region 13 with fail;refine zA (B:=W3.heap.size) (L:=.val (.int .i64 x)::.val (.bool true)::[]) (by kernel_rfl) (Nat.le_refl _) ((by exact trivial))
   ⟨λa w R=>mv (R.slot 0 rfl),λa w R=>yT (R.val 0) (Try.underlying3) t7_.out,trivial⟩ (λact_ W4 I => ?_)
  rw[I.act [(17,.int .i64 x),(18,.bool true)]
   ⟨I.val 0,I.val 1,trivial⟩ rfl]
  have sW4:W3.heap.size<=W4.heap.size:=I.below.size;have hW4:Bel w.heap.size w W4:=zJ hW3 I.below hW3.size;clear I;simp only[List.foldl_cons,List.foldl_nil,lA,lZ,lS];go_upto_region 14 with fail;refine zA (B:=W4.heap.size) (L:=.val (.int .i64 6)::[]) (by kernel_rfl) (Nat.le_refl _) ((by exact trivial))
   ⟨λa w R=>asc,trivial⟩ (λact_ W5 I => ?_)
  rw[I.act [(4,.int .i64 6)]
   ⟨I.val 0,trivial⟩ rfl]
  have sW5:W4.heap.size<=W5.heap.size:=I.below.size;have hW5:Bel w.heap.size w W5:=zJ hW4 I.below hW4.size;clear I;simp only[List.foldl_cons,List.foldl_nil,lA,lZ,lS];go_wp2;try simp only[zD]
  refine bodyPost_ret Qd rfl ⟨?_,hW5⟩;refine yB ?_;unfold wdg;have e0:=t1_.out;have e1:=t3_.out;have e2:=t6_.out;have e3:=t7_.out;simp only[beq_iff_eq,beq_eq_false_iff_ne,decide_eq_true_eq,decide_eq_false_iff_not]at *;(repeat' split)<;>omega
 have t7_:=Lh t7;clear t7;go_upto_region 13 with fail;refine zA (B:=W3.heap.size) (L:=.val (.int .i64 x)::.val (.bool false)::[]) (by kernel_rfl) (Nat.le_refl _) ((by exact trivial))
  ⟨λa w R=>mv (R.slot 0 rfl),λa w R=>yT (R.val 0) (Try.underlying3) t7_.out,trivial⟩ (λact_ W4 I => ?_)
 rw[I.act [(17,.int .i64 x),(18,.bool false)]
  ⟨I.val 0,I.val 1,trivial⟩ rfl]
 have sW4:W3.heap.size<=W4.heap.size:=I.below.size;have hW4:Bel w.heap.size w W4:=zJ hW3 I.below hW3.size;clear I;simp only[List.foldl_cons,List.foldl_nil,lA,lZ,lS];go_upto_region 15 with fail;refine zA (B:=W4.heap.size) (L:=.val (.int .i64 7)::[]) (by kernel_rfl) (Nat.le_refl _) ((by exact trivial))
  ⟨λa w R=>asc,trivial⟩ (λact_ W5 I => ?_)
 rw[I.act [(4,.int .i64 7)]
  ⟨I.val 0,trivial⟩ rfl]
 have sW5:W4.heap.size<=W5.heap.size:=I.below.size;have hW5:Bel w.heap.size w W5:=zJ hW4 I.below hW4.size;clear I;simp only[List.foldl_cons,List.foldl_nil,lA,lZ,lS];go_wp2;try simp only[zD]
 refine bodyPost_ret Qd rfl ⟨?_,hW5⟩;refine yB ?_;unfold wdg;have e0:=t1_.out;have e1:=t3_.out;have e2:=t6_.out;have e3:=t7_.out;simp only[beq_iff_eq,beq_eq_false_iff_ne,decide_eq_true_eq,decide_eq_false_iff_not]at *;(repeat' split)<;>omega
set_option maxHeartbeats 16000000 in
set_option maxRecDepth 20000 in
theorem RAround_in {o1 o2 a1 a2 b1 b2:Int} (rq:Rng o1 o2) (ra:Rng a1 a2) (rb:Rng b1 b2) (w:World):Calls Try.prog 63 #[.agg #[.int .i64 o1,.int .i64 o2],.agg #[.int .i64 a1,.int .i64 a2],.agg #[.int .i64 b1,.int .i64 b2]] w λe w'=>e=.returned (.int .i64 (Ub o1 o2 a1 a2 b1 b2))/\Bel w.heap.size w w':=by
 have hin_:=Lh (zV.2 ⟨rq,ra,rb⟩);obtain ⟨u1,u2,u3,u4⟩:=rq;obtain ⟨u5,u6,u7,u8⟩:=ra;obtain ⟨u9,u10,u11,u12⟩:=rb;go_enter Try.func63,Try.ntmps63;go_upto_region 1 with fail;go_name_world W0 hW0e;have ow3:Own W0 w.heap.size 37 #[.int .i64 o1,.int .i64 o2]:=hW0e▸bY2;have ow4:Own W0 (w.heap.size+1) 37 #[.int .i64 a1,.int .i64 a2]:=hW0e▸bY2;have ow5:Own W0 (w.heap.size+1+1) 37 #[.int .i64 b1,.int .i64 b2]:=hW0e▸bY2
 have hW0:Bel w.heap.size w W0:=hW0e▸bY1;clear hW0e;have z0:=ow5.in_;go_upto_region 1 with fail;refine zA (B:=W0.heap.size) (L:=.val (.pointer (some ⟨(w.heap.size+1),0,none⟩))::.val (.int .i64 a1)::.val (.pointer (some ⟨w.heap.size,0,none⟩))::.val (.int .i64 o1)::.val (.int .i64 (a1 - o1))::.val (.pointer (some ⟨(w.heap.size+1),1,none⟩))::.val (.int .i64 a2)::.val (.pointer (some ⟨w.heap.size,1,none⟩))::.val (.int .i64 o2)::.val (.int .i64 (a2 - o2))::.val (.int .i64 (wdg (a1 - o1) (a2 - o2)))::.val (.int .i64 (wdg (a1 - o1) (a2 - o2)))::[]) (by kernel_rfl) (Nat.le_refl _) ((by exact trivial))
  ⟨λa w R=>vJ (R.slot 4 rfl),λa w R=>yO (R.val 0) (R.keep ow4 trivial) rfl,λa w R=>vJ (R.slot 3 rfl),λa w R=>yO (R.val 2) (R.keep ow3 trivial) rfl,λa w R=>uQ (R.val 1) (R.val 3) (by first|rfl|exact yU _ _|exact yW _|(simp only[IntKind.wrap_i64];omega)),λa w R=>vO (R.slot 4 rfl),λa w R=>yO (R.val 5) (R.keep ow4 trivial) rfl,λa w R=>vO (R.slot 3 rfl),λa w R=>yO (R.val 7) (R.keep ow3 trivial) rfl,λa w R=>uQ (R.val 6) (R.val 8) (by first|rfl|exact yU _ _|exact yW _|(simp only[IntKind.wrap_i64];omega)),λa w R=>yS (zG Try.func87) (R.val 4) (R.val 9) (mS _ _ _),λa w R=>asg (R.val 10),trivial⟩ (λact_ W1 I => ?_)
 rw[I.act [(9,.pointer (some ⟨(w.heap.size+1),0,none⟩)),(10,.int .i64 a1),(11,.pointer (some ⟨w.heap.size,0,none⟩)),(12,.int .i64 o1),(13,.int .i64 (a1 - o1)),(14,.pointer (some ⟨(w.heap.size+1),1,none⟩)),(15,.int .i64 a2),(16,.pointer (some ⟨w.heap.size,1,none⟩)),(17,.int .i64 o2),(18,.int .i64 (a2 - o2)),(19,.int .i64 (wdg (a1 - o1) (a2 - o2))),(7,.int .i64 (wdg (a1 - o1) (a2 - o2)))]
  ⟨I.val 0,I.val 1,I.val 2,I.val 3,I.val 4,I.val 5,I.val 6,I.val 7,I.val 8,I.val 9,I.val 10,I.val 11,trivial⟩ rfl]
 have sW1:W0.heap.size<=W1.heap.size:=I.below.size;replace ow3:=I.keep ow3 trivial;replace ow4:=I.keep ow4 trivial;replace ow5:=I.keep ow5 trivial;have hW1:Bel w.heap.size w W1:=zJ hW0 I.below hW0.size;clear I;simp only[List.foldl_cons,List.foldl_nil,lA,lZ,lS];go_upto_region 2 with fail;refine zA (B:=W1.heap.size) (L:=.val (.pointer (some ⟨(w.heap.size+1+1),0,none⟩))::.val (.int .i64 b1)::.val (.pointer (some ⟨w.heap.size,0,none⟩))::.val (.int .i64 o1)::.val (.int .i64 (b1 - o1))::.val (.pointer (some ⟨(w.heap.size+1+1),1,none⟩))::.val (.int .i64 b2)::.val (.pointer (some ⟨w.heap.size,1,none⟩))::.val (.int .i64 o2)::.val (.int .i64 (b2 - o2))::.val (.int .i64 (wdg (b1 - o1) (b2 - o2)))::.val (.int .i64 (wdg (b1 - o1) (b2 - o2)))::[]) (by kernel_rfl) (Nat.le_refl _) ((by exact trivial))
  ⟨λa w R=>vJ (R.slot 5 rfl),λa w R=>yO (R.val 0) (R.keep ow5 trivial) rfl,λa w R=>vJ (R.slot 3 rfl),λa w R=>yO (R.val 2) (R.keep ow3 trivial) rfl,λa w R=>uQ (R.val 1) (R.val 3) (by first|rfl|exact yU _ _|exact yW _|(simp only[IntKind.wrap_i64];omega)),λa w R=>vO (R.slot 5 rfl),λa w R=>yO (R.val 5) (R.keep ow5 trivial) rfl,λa w R=>vO (R.slot 3 rfl),λa w R=>yO (R.val 7) (R.keep ow3 trivial) rfl,λa w R=>uQ (R.val 6) (R.val 8) (by first|rfl|exact yU _ _|exact yW _|(simp only[IntKind.wrap_i64];omega)),λa w R=>yS (zG Try.func87) (R.val 4) (R.val 9) (mS _ _ _),λa w R=>asg (R.val 10),trivial⟩ (λact_ W2 I => ?_)
 rw[I.act [(20,.pointer (some ⟨(w.heap.size+1+1),0,none⟩)),(21,.int .i64 b1),(22,.pointer (some ⟨w.heap.size,0,none⟩)),(23,.int .i64 o1),(24,.int .i64 (b1 - o1)),(25,.pointer (some ⟨(w.heap.size+1+1),1,none⟩)),(26,.int .i64 b2),(27,.pointer (some ⟨w.heap.size,1,none⟩)),(28,.int .i64 o2),(29,.int .i64 (b2 - o2)),(30,.int .i64 (wdg (b1 - o1) (b2 - o2))),(8,.int .i64 (wdg (b1 - o1) (b2 - o2)))]
  ⟨I.val 0,I.val 1,I.val 2,I.val 3,I.val 4,I.val 5,I.val 6,I.val 7,I.val 8,I.val 9,I.val 10,I.val 11,trivial⟩ rfl]
 have sW2:W1.heap.size<=W2.heap.size:=I.below.size;replace ow3:=I.keep ow3 trivial;replace ow4:=I.keep ow4 trivial;replace ow5:=I.keep ow5 trivial;have hW2:Bel w.heap.size w W2:=zJ hW1 I.below hW1.size;clear I;simp only[List.foldl_cons,List.foldl_nil,lA,lZ,lS];rcases Bool.eq_false_or_eq_true (decide ((wdg (a1 - o1) (a2 - o2))<(wdg (b1 - o1) (b2 - o2)))) with t1|t1
 ·have t1_:=Lh t1;clear t1;go_upto_region 3 with fail;refine zA (B:=W2.heap.size) (L:=.val (.int .i64 (wdg (a1 - o1) (a2 - o2)))::.val (.int .i64 (wdg (b1 - o1) (b2 - o2)))::.val (.bool true)::[]) (by kernel_rfl) (Nat.le_refl _) ((by exact trivial))
   ⟨λa w R=>mv (R.slot 7 rfl),λa w R=>mv (R.slot 8 rfl),λa w R=>Qg (R.val 0) (R.val 1) (Try.underlying3) t1_.out,trivial⟩ (λact_ W3 I => ?_)
  rw[I.act [(31,.int .i64 (wdg (a1 - o1) (a2 - o2))),(32,.int .i64 (wdg (b1 - o1) (b2 - o2))),(33,.bool true)]
   ⟨I.val 0,I.val 1,I.val 2,trivial⟩ rfl]
  have sW3:W2.heap.size<=W3.heap.size:=I.below.size;replace ow3:=I.keep ow3 trivial;replace ow4:=I.keep ow4 trivial;replace ow5:=I.keep ow5 trivial;have hW3:Bel w.heap.size w W3:=zJ hW2 I.below hW2.size;clear I;simp only[List.foldl_cons,List.foldl_nil,lA,lZ,lS];go_upto_region 4 with fail;refine zA (B:=W3.heap.size) (L:=.val (.int .i64 (-1))::[]) (by kernel_rfl) (Nat.le_refl _) ((by exact trivial))
   ⟨λa w R=>asc,trivial⟩ (λact_ W4 I => ?_)
  rw[I.act [(6,.int .i64 (-1))]
   ⟨I.val 0,trivial⟩ rfl]
  have sW4:W3.heap.size<=W4.heap.size:=I.below.size;replace ow3:=I.keep ow3 trivial;replace ow4:=I.keep ow4 trivial;replace ow5:=I.keep ow5 trivial;have hW4:Bel w.heap.size w W4:=zJ hW3 I.below hW3.size;clear I;simp only[List.foldl_cons,List.foldl_nil,lA,lZ,lS];clear ow3 ow4 ow5;go_wp2;try simp only[zD]
  refine bodyPost_ret zDt rfl ⟨?_,hW4⟩;refine yB ?_;unfold Ub;have e0:=t1_.out;simp only[decide_eq_true_eq,decide_eq_false_iff_not]at *;(repeat' split)<;>first|rfl|omega
 have t1_:=Lh t1;clear t1;go_upto_region 3 with fail;refine zA (B:=W2.heap.size) (L:=.val (.int .i64 (wdg (a1 - o1) (a2 - o2)))::.val (.int .i64 (wdg (b1 - o1) (b2 - o2)))::.val (.bool false)::[]) (by kernel_rfl) (Nat.le_refl _) ((by exact trivial))
  ⟨λa w R=>mv (R.slot 7 rfl),λa w R=>mv (R.slot 8 rfl),λa w R=>Qg (R.val 0) (R.val 1) (Try.underlying3) t1_.out,trivial⟩ (λact_ W3 I => ?_)
 rw[I.act [(31,.int .i64 (wdg (a1 - o1) (a2 - o2))),(32,.int .i64 (wdg (b1 - o1) (b2 - o2))),(33,.bool false)]
  ⟨I.val 0,I.val 1,I.val 2,trivial⟩ rfl]
 have sW3:W2.heap.size<=W3.heap.size:=I.below.size;replace ow3:=I.keep ow3 trivial;replace ow4:=I.keep ow4 trivial;replace ow5:=I.keep ow5 trivial;have hW3:Bel w.heap.size w W3:=zJ hW2 I.below hW2.size;clear I;simp only[List.foldl_cons,List.foldl_nil,lA,lZ,lS];rcases Bool.eq_false_or_eq_true (decide ((wdg (b1 - o1) (b2 - o2))<(wdg (a1 - o1) (a2 - o2)))) with t2|t2
 ·have t2_:=Lh t2;clear t2;go_upto_region 5 with fail;refine zA (B:=W3.heap.size) (L:=.val (.int .i64 (wdg (a1 - o1) (a2 - o2)))::.val (.int .i64 (wdg (b1 - o1) (b2 - o2)))::.val (.bool true)::[]) (by kernel_rfl) (Nat.le_refl _) ((by exact trivial))
   ⟨λa w R=>mv (R.slot 7 rfl),λa w R=>mv (R.slot 8 rfl),λa w R=>Uh (R.val 0) (R.val 1) (Try.underlying3) t2_.out,trivial⟩ (λact_ W4 I => ?_)
  rw[I.act [(34,.int .i64 (wdg (a1 - o1) (a2 - o2))),(35,.int .i64 (wdg (b1 - o1) (b2 - o2))),(36,.bool true)]
   ⟨I.val 0,I.val 1,I.val 2,trivial⟩ rfl]
  have sW4:W3.heap.size<=W4.heap.size:=I.below.size;replace ow3:=I.keep ow3 trivial;replace ow4:=I.keep ow4 trivial;replace ow5:=I.keep ow5 trivial;have hW4:Bel w.heap.size w W4:=zJ hW3 I.below hW3.size;clear I;simp only[List.foldl_cons,List.foldl_nil,lA,lZ,lS];go_upto_region 6 with fail;refine zA (B:=W4.heap.size) (L:=.val (.int .i64 1)::[]) (by kernel_rfl) (Nat.le_refl _) ((by exact trivial))
   ⟨λa w R=>asc,trivial⟩ (λact_ W5 I => ?_)
  rw[I.act [(6,.int .i64 1)]
   ⟨I.val 0,trivial⟩ rfl]
  have sW5:W4.heap.size<=W5.heap.size:=I.below.size;replace ow3:=I.keep ow3 trivial;replace ow4:=I.keep ow4 trivial;replace ow5:=I.keep ow5 trivial;have hW5:Bel w.heap.size w W5:=zJ hW4 I.below hW4.size;clear I;simp only[List.foldl_cons,List.foldl_nil,lA,lZ,lS];clear ow3 ow4 ow5;go_wp2;try simp only[zD]
  refine bodyPost_ret zDt rfl ⟨?_,hW5⟩;refine yB ?_;unfold Ub;have e0:=t1_.out;have e1:=t2_.out;simp only[decide_eq_true_eq,decide_eq_false_iff_not]at *;(repeat' split)<;>first|rfl|omega
 have t2_:=Lh t2;clear t2;go_upto_region 5 with fail;refine zA (B:=W3.heap.size) (L:=.val (.int .i64 (wdg (a1 - o1) (a2 - o2)))::.val (.int .i64 (wdg (b1 - o1) (b2 - o2)))::.val (.bool false)::[]) (by kernel_rfl) (Nat.le_refl _) ((by exact trivial))
  ⟨λa w R=>mv (R.slot 7 rfl),λa w R=>mv (R.slot 8 rfl),λa w R=>Uh (R.val 0) (R.val 1) (Try.underlying3) t2_.out,trivial⟩ (λact_ W4 I => ?_)
 rw[I.act [(34,.int .i64 (wdg (a1 - o1) (a2 - o2))),(35,.int .i64 (wdg (b1 - o1) (b2 - o2))),(36,.bool false)]
  ⟨I.val 0,I.val 1,I.val 2,trivial⟩ rfl]
 have sW4:W3.heap.size<=W4.heap.size:=I.below.size;replace ow3:=I.keep ow3 trivial;replace ow4:=I.keep ow4 trivial;replace ow5:=I.keep ow5 trivial;have hW4:Bel w.heap.size w W4:=zJ hW3 I.below hW3.size;clear I;simp only[List.foldl_cons,List.foldl_nil,lA,lZ,lS];go_upto_region 7 with fail;refine zA (B:=W4.heap.size) (L:=.val (.agg #[.int .i64 o1,.int .i64 o2])::.val (.agg #[.int .i64 a1,.int .i64 a2])::.val (.agg #[.int .i64 b1,.int .i64 b2])::.val (.int .i64 (tn o1 o2 a1 a2 b1 b2))::.val (.int .i64 (-(tn o1 o2 a1 a2 b1 b2)))::.val (.int .i64 (-(tn o1 o2 a1 a2 b1 b2)))::[]) (by kernel_rfl) (Nat.le_refl _) ((by exact trivial))
  ⟨λa w R=>zE (R.slot 3 rfl) (R.keep ow3 trivial) rfl rfl,λa w R=>zE (R.slot 4 rfl) (R.keep ow4 trivial) rfl rfl,λa w R=>zE (R.slot 5 rfl) (R.keep ow5 trivial) rfl rfl,λa w R=>zS (zG Try.func86) (R.val 0) (R.val 1) (R.val 2) (zZ (zV.1 hin_.out).1 (zV.1 hin_.out).2.1 (zV.1 hin_.out).2.2 _),λa w R=>zDy (R.val 3) (by first|rfl|exact yU _ _|exact yW _|(simp only[IntKind.wrap_i64];omega)),λa w R=>asg (R.val 4),trivial⟩ (λact_ W5 I => ?_)
 rw[I.act [(37,.agg #[.int .i64 o1,.int .i64 o2]),(38,.agg #[.int .i64 a1,.int .i64 a2]),(39,.agg #[.int .i64 b1,.int .i64 b2]),(40,.int .i64 (tn o1 o2 a1 a2 b1 b2)),(41,.int .i64 (-(tn o1 o2 a1 a2 b1 b2))),(6,.int .i64 (-(tn o1 o2 a1 a2 b1 b2)))]
  ⟨I.val 0,I.val 1,I.val 2,I.val 3,I.val 4,I.val 5,trivial⟩ rfl]
 have sW5:W4.heap.size<=W5.heap.size:=I.below.size;replace ow3:=I.keep ow3 trivial;replace ow4:=I.keep ow4 trivial;replace ow5:=I.keep ow5 trivial;have hW5:Bel w.heap.size w W5:=zJ hW4 I.below hW4.size;clear I;simp only[List.foldl_cons,List.foldl_nil,lA,lZ,lS];clear ow3 ow4 ow5;go_wp2;try simp only[zD]
 refine bodyPost_ret zDt rfl ⟨?_,hW5⟩;refine yB ?_;unfold Ub;have e0:=t1_.out;have e1:=t2_.out;simp only[decide_eq_true_eq,decide_eq_false_iff_not]at *;(repeat' split)<;>first|rfl|omega
end Go.Proofs.Ytibnackmddigaaa
