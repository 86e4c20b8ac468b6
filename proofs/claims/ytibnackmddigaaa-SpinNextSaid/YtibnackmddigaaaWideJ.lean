import Derived.Test.YtibnackmddigaaaWideC
import Derived.Test.YtibnackmddigaaaWideA
import Derived.Test.YtibnackmddigaaaMemo
import Derived.Test.YtibnackmddigaaaWideG
import Derived.IntWalk
import Derived.Deep.LoopGhost
import Derived.Test.YtibnackmddigaaaWideP
import Derived.Lib.Walk
import Derived.Deep.DeepCutAuto
import Derived.Deep.RegionHeld3
import Derived.Lib.ItoaWalk
set_option linter.unusedVariables false
set_option linter.unusedSimpArgs false
set_option linter.unusedSectionVars false
namespace Go.Proofs.Ytibnackmddigaaa
open Go.ChangeShapes Go.WideShapes Go.ChangeAt Go.RowKit
section
section
variable {a : Act} {w w0 : World} {af : Array Edge} {pos : String} {t : TypeId} {gd : Option (Nat × Bool)}
theorem Qa {s p d:Nat} {x0 x1 x2 x3:Int} (h:a.tmps[s]?=some (.pointer (some ⟨p,0,none⟩))) (ho:Own w p 61 #[.int .u64 x0,.int .u64 x1,.int .u64 x2,.int .u64 x3]) :
 yY Try.prog w0 { dst:=some d,op:=.load 61 (.tmp s),type:=t,pos:=pos,after:=af,guard:=gd } (.val (.agg #[.int .u64 x0,.int .u64 x1,.int .u64 x2,.int .u64 x3])) a w:=by
 obtain ⟨h1,h2,h3⟩:=ho.at_;refine .inl ?_;simp[go_sem,execOp,h,h1]
theorem al65 {d:Nat}:yY Try.prog w0 { dst:=some d,op:=.alloc 189,type:=t,pos:=pos,after:=af,guard:=gd } (.blk 189 8) a w :=
 ⟨d,#[.int .u64 0,.int .u64 0,.int .u64 0,.int .u64 0,.int .u64 0,.int .u64 0,.int .u64 0,.int .u64 0],rfl,rfl,by simp[go_sem,execOp]⟩
theorem zC5 {p:Nat} {x0 x1 x2 x3 x4 x5 x6 x7:Int} {cs:Array Value} (ho:Own w p 189 cs) (hc:cs.size=8) :
 Own ((((((((w.setCell ⟨p,0,none⟩ (.int .u64 x0)).setCell ⟨p,1,none⟩ (.int .u64 x1)).setCell ⟨p,2,none⟩ (.int .u64 x2)).setCell ⟨p,3,none⟩ (.int .u64 x3)).setCell ⟨p,4,none⟩ (.int .u64 x4)).setCell ⟨p,5,none⟩ (.int .u64 x5)).setCell ⟨p,6,none⟩ (.int .u64 x6)).setCell ⟨p,7,none⟩ (.int .u64 x7)) p 189 #[.int .u64 x0,.int .u64 x1,.int .u64 x2,.int .u64 x3,.int .u64 x4,.int .u64 x5,.int .u64 x6,.int .u64 x7] /\
 uZ p w ((((((((w.setCell ⟨p,0,none⟩ (.int .u64 x0)).setCell ⟨p,1,none⟩ (.int .u64 x1)).setCell ⟨p,2,none⟩ (.int .u64 x2)).setCell ⟨p,3,none⟩ (.int .u64 x3)).setCell ⟨p,4,none⟩ (.int .u64 x4)).setCell ⟨p,5,none⟩ (.int .u64 x5)).setCell ⟨p,6,none⟩ (.int .u64 x6)).setCell ⟨p,7,none⟩ (.int .u64 x7)) /\
 (∀ B,B<=p->Bel B w0 w->Bel B w0 ((((((((w.setCell ⟨p,0,none⟩ (.int .u64 x0)).setCell ⟨p,1,none⟩ (.int .u64 x1)).setCell ⟨p,2,none⟩ (.int .u64 x2)).setCell ⟨p,3,none⟩ (.int .u64 x3)).setCell ⟨p,4,none⟩ (.int .u64 x4)).setCell ⟨p,5,none⟩ (.int .u64 x5)).setCell ⟨p,6,none⟩ (.int .u64 x6)).setCell ⟨p,7,none⟩ (.int .u64 x7))):=by
 refine ⟨?_,⟨by simp[World.setCell],λq hq => ?_⟩,λB hp hb => ?_⟩
 ·have h:=((((((((ho.put 0 (.int .u64 x0)).put 1 (.int .u64 x1)).put 2 (.int .u64 x2)).put 3 (.int .u64 x3)).put 4 (.int .u64 x4)).put 5 (.int .u64 x5)).put 6 (.int .u64 x6)).put 7 (.int .u64 x7))
  refine h.as ?_;obtain ⟨l⟩:=cs;have hl:l.length=8:=hc;obtain ⟨y0,l,rfl⟩:=List.exists_cons_of_length_eq_add_one hl;replace hl:l.length=7:=by simpa using hl
  obtain ⟨y1,l,rfl⟩:=List.exists_cons_of_length_eq_add_one hl;replace hl:l.length=6:=by simpa using hl
  obtain ⟨y2,l,rfl⟩:=List.exists_cons_of_length_eq_add_one hl;replace hl:l.length=5:=by simpa using hl
  obtain ⟨y3,l,rfl⟩:=List.exists_cons_of_length_eq_add_one hl;replace hl:l.length=4:=by simpa using hl
  obtain ⟨y4,l,rfl⟩:=List.exists_cons_of_length_eq_add_one hl;replace hl:l.length=3:=by simpa using hl
  obtain ⟨y5,l,rfl⟩:=List.exists_cons_of_length_eq_add_one hl;replace hl:l.length=2:=by simpa using hl
  obtain ⟨y6,l,rfl⟩:=List.exists_cons_of_length_eq_add_one hl;replace hl:l.length=1:=by simpa using hl
  obtain ⟨y7,l,rfl⟩:=List.exists_cons_of_length_eq_add_one hl;replace hl:l.length=0:=by simpa using hl
  obtain rfl:=List.length_eq_zero_iff.1 hl;simp only[lA,lZ,lS]
 ·rw[Bel.heap_setCell _ _ _ _ hq,Bel.heap_setCell _ _ _ _ hq,Bel.heap_setCell _ _ _ _ hq,Bel.heap_setCell _ _ _ _ hq,Bel.heap_setCell _ _ _ _ hq,Bel.heap_setCell _ _ _ _ hq,Bel.heap_setCell _ _ _ _ hq,Bel.heap_setCell _ _ _ _ hq]
 exact ((((((((hb.setCell hp _).setCell hp _).setCell hp _).setCell hp _).setCell hp _).setCell hp _).setCell hp _).setCell hp _)
theorem st65 {s s':Nat} {x0 x1 x2 x3 x4 x5 x6 x7:Int} {g:Nat} {cs0:Array Value} (h:a.tmps[s]?=some (.pointer (some ⟨g,0,none⟩))) (ho:Own w g 189 cs0) (hc:cs0.size=8) (h':a.tmps[s']?=some (.agg #[.int .u64 x0,.int .u64 x1,.int .u64 x2,.int .u64 x3,.int .u64 x4,.int .u64 x5,.int .u64 x6,.int .u64 x7])) :
 yY Try.prog w0 { dst:=none,op:=.store 189 (.tmp s) (.tmp s'),type:=t,pos:=pos,after:=af,guard:=gd } (.put s 189 #[.int .u64 x0,.int .u64 x1,.int .u64 x2,.int .u64 x3,.int .u64 x4,.int .u64 x5,.int .u64 x6,.int .u64 x7]) a w:=by
 refine ⟨rfl,((((((((w.setCell ⟨g,0,none⟩ (.int .u64 x0)).setCell ⟨g,1,none⟩ (.int .u64 x1)).setCell ⟨g,2,none⟩ (.int .u64 x2)).setCell ⟨g,3,none⟩ (.int .u64 x3)).setCell ⟨g,4,none⟩ (.int .u64 x4)).setCell ⟨g,5,none⟩ (.int .u64 x5)).setCell ⟨g,6,none⟩ (.int .u64 x6)).setCell ⟨g,7,none⟩ (.int .u64 x7)),.inl ?_,λp cs hp hop hcs => ?_⟩;rotate_left
 ·obtain rfl:g=p:=by rw[h]at hp;simpa using hp
  exact zC5 hop hcs
 obtain ⟨h1,h2,h3⟩:=ho.at_;have c0:cs0[0]?=some cs0[0]:=by simp[hc]
 have c1:cs0[1]?=some cs0[1]:=by simp[hc]
 have c2:cs0[2]?=some cs0[2]:=by simp[hc]
 have c3:cs0[3]?=some cs0[3]:=by simp[hc]
 have c4:cs0[4]?=some cs0[4]:=by simp[hc]
 have c5:cs0[5]?=some cs0[5]:=by simp[hc]
 have c6:cs0[6]?=some cs0[6]:=by simp[hc]
 have c7:cs0[7]?=some cs0[7]:=by simp[hc]
 simp[go_sem,execOp,h,h',h1,h2,c0,c1,c2,c3,c4,c5,c6,c7]
theorem sb65 {s s' n0:Nat} {x0 x1 x2 x3 x4 x5 x6 x7:Int} (h:Sat n0 (some s) (.blk 189 8) a w) (h':a.tmps[s']?=some (.agg #[.int .u64 x0,.int .u64 x1,.int .u64 x2,.int .u64 x3,.int .u64 x4,.int .u64 x5,.int .u64 x6,.int .u64 x7])) :
 yY Try.prog w0 { dst:=none,op:=.store 189 (.tmp s) (.tmp s'),type:=t,pos:=pos,after:=af,guard:=gd } (.put s 189 #[.int .u64 x0,.int .u64 x1,.int .u64 x2,.int .u64 x3,.int .u64 x4,.int .u64 x5,.int .u64 x6,.int .u64 x7]) a w:=by
 obtain ⟨d,g,cs,hd,ht,_,hc,ho⟩:=h;obtain rfl:s=d:=Option.some.inj hd;exact st65 ht ho hc h'
theorem qV {f:Nat} {fn:Func} (hf:Try.prog.funcs[f]?=some fn) (hn:(fn.name== "runtime.NumGoroutine")=false) (hb:fn.body.isNone=false) (args:Array Value) (w:World):(callFunc f args).run Try.prog w=.ok (.enter f args) w:=by
 simp only[callFunc];have h1:¬ fn.name= "runtime.NumGoroutine":=by simpa using hn
 have h2:¬ fn.body=none:=by intro e;rw[e]at hb;cases hb
 simp[go_sem,hf,h1,h2]
theorem cl1 {f s d t':Nat} {v u:Value} (E:∀ args w,(callFunc f args).run Try.prog w=.ok (.enter f args) w) (h:a.tmps[s]?=some v) (hc:Calls Try.prog f #[v] w λe w'=>e=.returned u/\Bel w.heap.size w w') :
 yY Try.prog w0 { dst:=some d,op:=.call { callee:=.value (.func f),args := #[.tmp s],argTypes := #[t'] },type:=t,pos:=pos,after:=af,guard:=gd } (.val u) a w :=
 .inr ⟨f,_,by simp[go_sem,execOp,h];exact E _ _,hc⟩
theorem cl2 {f s s' d t' t'':Nat} {v v' u:Value} (E:∀ args w,(callFunc f args).run Try.prog w=.ok (.enter f args) w) (h:a.tmps[s]?=some v) (h':a.tmps[s']?=some v') (hc:Calls Try.prog f #[v,v'] w λe w'=>e=.returned u/\Bel w.heap.size w w') :
 yY Try.prog w0 { dst:=some d,op:=.call { callee:=.value (.func f),args := #[.tmp s,.tmp s'],argTypes := #[t',t''] },type:=t,pos:=pos,after:=af,guard:=gd } (.val u) a w :=
 .inr ⟨f,_,by simp[go_sem,execOp,h,h'];exact E _ _,hc⟩
theorem asg {s d:Nat} {v:Value} (h:a.tmps[s]?=some v):yY Try.prog w0 { dst:=some d,op:=.assign (.tmp s),type:=t,pos:=pos,after:=af,guard:=gd } (.val v) a w :=
 .inl (by simp[go_sem,execOp,h])
theorem asc {d:Nat} {v:Value}:yY Try.prog w0 { dst:=some d,op:=.assign (.const v),type:=t,pos:=pos,after:=af,guard:=gd } (.val v) a w :=
 .inl (by simp[go_sem,execOp])
theorem muli {s s' d:Nat} {x y z:Int} (h:a.tmps[s]?=some (.int .i64 x)) (h':a.tmps[s']?=some (.int .i64 y)) (hz:IntKind.i64.wrap (x*y)=z) :
 yY Try.prog w0 { dst:=some d,op:=.binOp .mul 3 (.tmp s) (.tmp s') 3,type:=t,pos:=pos,after:=af,guard:=gd } (.val (.int .i64 z)) a w :=
 .inl (by simp[go_sem,execOp,h,h',<- hz])
theorem yD {c s d:Nat} {v k:Value} (h:a.tmps[c]?=some (.bool true)) (h':a.tmps[s]?=some v) :
 yY Try.prog w0 { dst:=some d,op:=.pick (.tmp c) (.tmp s) (.const k),type:=t,pos:=pos,after:=af,guard:=gd } (.val v) a w :=
 .inl (by simp[go_sem,execOp,h,h'])
theorem mv {s d:Nat} {v:Value} (h:a.tmps[s]?=some v):yY Try.prog w0 { dst:=some d,op:=.move (.tmp s),type:=t,pos:=pos,after:=af,guard:=gd } (.val v) a w :=
 .inl (by simp[go_sem,execOp,h])
end
end
section
def xK (z:Int):Int:=if z<0 then -1 else if z=0 then 0 else 1
set_option maxRecDepth 20000 in
theorem zA0 (z:Int) (h:Fit z) (w:World) :
 Calls Try.prog 32 #[.agg #[.int .u64 (L0 z),.int .u64 (L1 z),.int .u64 (L2 z),.int .u64 (L3 z)]] w λe w'=>e=.returned (.int .i64 (xK z))/\∃ c d,w'=w.alloc (.cells c 61)\/w'=(w.alloc (.cells c 61)).alloc (.cells d 61):=by
 have EQ:∀ w,(Op.equalIn 10000 61 (.agg #[.int .u64 (L0 z),.int .u64 (L1 z),.int .u64 (L2 z),.int .u64 (L3 z)]) (.agg #[.int .u64 0,.int .u64 0,.int .u64 0,.int .u64 0])).run Try.prog w=.ok (decide (z=0)) w:=λw=>zCx h fit0 w
 have hn:=Jr h;by_cases h0:z=0
 ·rw[decide_eq_true h0]at EQ;have e:xK z=0:=by rw[h0];rfl
  rw[e];clear h0 hn h e;generalize L0 z=x0 at *;generalize L1 z=x1 at *;generalize L2 z=x2 at *;generalize L3 z=x3 at *
  go_enter Try.func32,Try.ntmps32;go_wp2;go_ret;exact ⟨rfl,_,#[],.inl rfl⟩
 rw[decide_eq_false h0]at EQ;by_cases h1:z<0
 ·have e:xK z = -1:=by unfold xK;rw[if_pos h1]
  rw[decide_eq_true h1]at hn;have B:=Lh (λw=>gC hn w);rw[e];clear h0 hn h e h1;generalize L0 z=x0 at *;generalize L1 z=x1 at *;generalize L2 z=x2 at *;generalize L3 z=x3 at *
  go_enter Try.func32,Try.ntmps32;go_wp2_with (go_at_call 52;refine (B.out _).mono ?_;rintro e w1 ⟨rfl,c,rfl⟩)
  go_ret;exact ⟨rfl,_,_,.inr rfl⟩
 have e:xK z=1:=by unfold xK;rw[if_neg h1,if_neg h0]
 rw[decide_eq_false h1]at hn;have B:=Lh (λw=>gC hn w);rw[e];clear h0 hn h e h1;generalize L0 z=x0 at *;generalize L1 z=x1 at *;generalize L2 z=x2 at *;generalize L3 z=x3 at *
 go_enter Try.func32,Try.ntmps32;go_wp2_with (go_at_call 52;refine (B.out _).mono ?_;rintro e w1 ⟨rfl,c,rfl⟩)
 go_ret;exact ⟨rfl,_,_,.inr rfl⟩
theorem Ji (z:Int) (h:Fit z) (w:World) :
 Calls Try.prog 32 #[.agg #[.int .u64 (L0 z),.int .u64 (L1 z),.int .u64 (L2 z),.int .u64 (L3 z)]] w λe w'=>e=.returned (.int .i64 (xK z))/\Bel w.heap.size w w' :=
 (zA0 z h w).mono λe w' ⟨he,c,d,hw⟩=>⟨he,by rcases hw with hw|hw<;>rw[hw]<;>repeat' (first|(with_reducible exact Bel.refl _ _)|(with_reducible assumption)|(with_reducible refine yF ?_ _)|(with_reducible refine Bel.drew ?_)|(with_reducible refine Bel.alloc ?_ ?_ _)|(with_reducible refine Bel.setCell ?_ ?_ _)|(with_reducible refine zJ ?_ zW ?_)|(with_reducible exact Nat.le_refl _)|(with_reducible exact Nat.le_succ _)|(with_reducible exact Nat.le_succ_of_le zW)|omega|(simp;done)|(simp;omega)|(exact Nat.le_succ _)|(exact Nat.le_succ_of_le zW))⟩
def qL (a b:Int):Int:=if a<b then -1 else if b<a then 1 else 0
end
section
theorem of_b (n:Int) (h0 : -9223372036854775808<=n) (h1:n<=9223372036854775807) (w:World) :
 Calls Try.prog 46 #[.int .i64 n] w λe w'=>e=.returned (.agg #[.int .u64 (L0 n),.int .u64 (L1 n),.int .u64 (L2 n),.int .u64 (L3 n)])/\Bel w.heap.size w w' :=
 (zDk n h0 h1 w).mono λe w' ⟨he,c,hw⟩=>⟨he,by rw[hw];repeat' (first|(with_reducible exact Bel.refl _ _)|(with_reducible assumption)|(with_reducible refine yF ?_ _)|(with_reducible refine Bel.drew ?_)|(with_reducible refine Bel.alloc ?_ ?_ _)|(with_reducible refine Bel.setCell ?_ ?_ _)|(with_reducible refine zJ ?_ zW ?_)|(with_reducible exact Nat.le_refl _)|(with_reducible exact Nat.le_succ _)|(with_reducible exact Nat.le_succ_of_le zW)|omega|(simp;done)|(simp;omega)|(exact Nat.le_succ _)|(exact Nat.le_succ_of_le zW))⟩
end
section
end
section
end
section
theorem jS:∀ args w,(callFunc 122 args).run Try.prog w=.ok (.enter 122 args) w:=qV Try.func122 rfl rfl
theorem fD {a:Int} (ha:Fit a):Siz (a.natAbs:Int):=by
 obtain ⟨_,_⟩:=ha;exact ⟨by omega,by omega⟩
end
section
end
section
theorem mW {a:Int} (h:Siz a):a=L0 a+18446744073709551616*L1 a+340282366920938463463374607431768211456*L2 a+6277101735386680763835789423207666416102355444464034512896*L3 a:=by
 obtain ⟨_,_⟩:=h;unfold L0 L1 L2 L3;omega
theorem Yr (a b x0 x1 x2 x3 y0 y1 y2 y3:Int) (ea:a=x0+18446744073709551616*x1+340282366920938463463374607431768211456*x2+6277101735386680763835789423207666416102355444464034512896*x3) (eb:b=y0+18446744073709551616*y1+340282366920938463463374607431768211456*y2+6277101735386680763835789423207666416102355444464034512896*y3) :
 a*b=x0*y0+18446744073709551616*(x0*y1)+340282366920938463463374607431768211456*(x0*y2)+6277101735386680763835789423207666416102355444464034512896*(x0*y3)+18446744073709551616*(x1*y0)+340282366920938463463374607431768211456*(x1*y1)+6277101735386680763835789423207666416102355444464034512896*(x1*y2)+115792089237316195423570985008687907853269984665640564039457584007913129639936*(x1*y3)+340282366920938463463374607431768211456*(x2*y0)+6277101735386680763835789423207666416102355444464034512896*(x2*y1)+115792089237316195423570985008687907853269984665640564039457584007913129639936*(x2*y2)+2135987035920910082395021706169552114602704522356652769947041607822219725780640550022962086936576*(x2*y3)+6277101735386680763835789423207666416102355444464034512896*(x3*y0)+115792089237316195423570985008687907853269984665640564039457584007913129639936*(x3*y1)+2135987035920910082395021706169552114602704522356652769947041607822219725780640550022962086936576*(x3*y2)+39402006196394479212279040100143613805079739270465446667948293404245721771497210611414266254884915640806627990306816*(x3*y3):=by
 have ha:a*b=x0*b+18446744073709551616*(x1*b)+340282366920938463463374607431768211456*(x2*b)+6277101735386680763835789423207666416102355444464034512896*(x3*b):=by
  rw[ea,Int.add_mul,Int.add_mul,Int.add_mul,Int.mul_assoc,Int.mul_assoc,Int.mul_assoc]
 have hx:∀ x:Int,x*b=x*y0+18446744073709551616*(x*y1)+340282366920938463463374607431768211456*(x*y2)+6277101735386680763835789423207666416102355444464034512896*(x*y3):=λx=>by
  rw[eb,Int.mul_add,Int.mul_add,Int.mul_add,Int.mul_left_comm x 18446744073709551616 y1,Int.mul_left_comm x 340282366920938463463374607431768211456 y2,Int.mul_left_comm x 6277101735386680763835789423207666416102355444464034512896 y3]
 rw[ha,hx x0,hx x1,hx x2,hx x3];omega
theorem mY (a b n:Int) (ha:Siz a) (hb:Siz b) (hn:n=a*b) (w:World):Calls Try.prog 121 #[.agg #[.int .u64 (L0 a),.int .u64 (L1 a),.int .u64 (L2 a),.int .u64 (L3 a)],.agg #[.int .u64 (L0 b),.int .u64 (L1 b),.int .u64 (L2 b),.int .u64 (L3 b)]] w λe w'=>e=.returned (.agg #[.int .u64 (L0 n),.int .u64 (L1 n),.int .u64 (L2 n),.int .u64 (L3 n),.int .u64 (L0 (n / 115792089237316195423570985008687907853269984665640564039457584007913129639936)),.int .u64 (L1 (n / 115792089237316195423570985008687907853269984665640564039457584007913129639936)),.int .u64 (L2 (n / 115792089237316195423570985008687907853269984665640564039457584007913129639936)),.int .u64 (L3 (n / 115792089237316195423570985008687907853269984665640564039457584007913129639936))])/\Bel w.heap.size w w':=by
 refine (Qf _ _ _ _ _ _ _ _ (W4.of a) (W4.of b) w).mono ?_;rintro e w' ⟨p0,p1,p2,p3,p4,p5,p6,p7,hp,hq,hs,rfl,c1,c2,c3,c4,hw⟩;obtain ⟨e0,e1,e2,e3⟩:=Yz hp;obtain ⟨e4,e5,e6,e7⟩:=Yz hq;have hm:=Yr a b _ _ _ _ _ _ _ _ (mW ha) (mW hb);rw[<- hs,<- hn]at hm;have q1:n / 115792089237316195423570985008687907853269984665640564039457584007913129639936=mA p4 p5 p6 p7:=by
  obtain ⟨_,_,_,_,_,_,_,_⟩:=hp;obtain ⟨_,_,_,_,_,_,_,_⟩:=hq;unfold mA;omega
 have q2:n % 115792089237316195423570985008687907853269984665640564039457584007913129639936=mA p0 p1 p2 p3:=by
  obtain ⟨_,_,_,_,_,_,_,_⟩:=hp;obtain ⟨_,_,_,_,_,_,_,_⟩:=hq;unfold mA;omega
 have l:∀ z:Int,L0 z=L0 (z % 115792089237316195423570985008687907853269984665640564039457584007913129639936)/\L1 z=L1 (z % 115792089237316195423570985008687907853269984665640564039457584007913129639936)/\L2 z=L2 (z % 115792089237316195423570985008687907853269984665640564039457584007913129639936)/\L3 z=L3 (z % 115792089237316195423570985008687907853269984665640564039457584007913129639936):=λz=>by unfold L0 L1 L2 L3;omega
 obtain ⟨l0,l1,l2,l3⟩:=l n;rw[l0,l1,l2,l3,q1,q2,e0,e1,e2,e3,e4,e5,e6,e7];exact ⟨rfl,by rw[hw];repeat' (first|(with_reducible exact Bel.refl _ _)|(with_reducible assumption)|(with_reducible refine yF ?_ _)|(with_reducible refine Bel.drew ?_)|(with_reducible refine Bel.alloc ?_ ?_ _)|(with_reducible refine Bel.setCell ?_ ?_ _)|(with_reducible refine zJ ?_ zW ?_)|(with_reducible exact Nat.le_refl _)|(with_reducible exact Nat.le_succ _)|(with_reducible exact Nat.le_succ_of_le zW)|omega|(simp;done)|(simp;omega)|(exact Nat.le_succ _)|(exact Nat.le_succ_of_le zW))⟩
theorem Yj (a b:Int) (ha:Fit a) (hb:Fit b):Siz (((a.natAbs:Int)*b.natAbs) / 115792089237316195423570985008687907853269984665640564039457584007913129639936):=by
 have h1:=Int.mul_le_mul (show (a.natAbs:Int)<=57896044618658097711785492504343953926634992332820282019728792003956564819968 by have:=ha.lo;have:=ha.hi;omega) (show (b.natAbs:Int)<=57896044618658097711785492504343953926634992332820282019728792003956564819968 by have:=hb.lo;have:=hb.hi;omega) (by omega) (by decide);have h0:(0:Int)<=(a.natAbs:Int)*b.natAbs:=Int.mul_nonneg (by omega) (by omega);generalize (a.natAbs:Int)*b.natAbs=n at *
 constructor<;>omega
theorem natAbs_mul (a b:Int):a*b=if (!(decide (a<0)==decide (b<0)))=true then 0 - (a.natAbs:Int)*b.natAbs else (a.natAbs:Int)*b.natAbs:=by
 by_cases h1:a<0<;>by_cases h2:b<0
 ·have e1:(a.natAbs:Int) = -a:=by omega
  have e2:(b.natAbs:Int) = -b:=by omega
  simp only[h1,h2,decide_true,beq_self_eq_true,Bool.not_true,Bool.false_eq_true,if_false];rw[e1,e2,Int.neg_mul_neg]
 ·have e1:(a.natAbs:Int) = -a:=by omega
  have e2:(b.natAbs:Int)=b:=by omega
  have d:(!(decide (a<0)==decide (b<0)))=true:=by simp[h1,h2]
  rw[if_pos d,e1,e2,Int.neg_mul];omega
 ·have e1:(a.natAbs:Int)=a:=by omega
  have e2:(b.natAbs:Int) = -b:=by omega
  have d:(!(decide (a<0)==decide (b<0)))=true:=by simp[h1,h2]
  rw[if_pos d,e1,e2,Int.mul_neg];omega
 have e1:(a.natAbs:Int)=a:=by omega
 have e2:(b.natAbs:Int)=b:=by omega
 have d:(!(decide (a<0)==decide (b<0)))=false:=by simp[h1,h2]
 rw[if_neg (by rw[d];decide),e1,e2]
end
end Go.Proofs.Ytibnackmddigaaa
