import Derived.Test.YtibnackmddigaaaWideG
import Derived.Test.YtibnackmddigaaaWideJ
import Derived.Test.YtibnackmddigaaaWideR
import Derived.Laws.StructEq
set_option linter.unusedVariables false
set_option linter.unusedSimpArgs false
set_option linter.unusedSectionVars false
namespace Go.Proofs.Ytibnackmddigaaa
open Go.ChangeShapes Go.WideShapes Go.ChangeAt Go.RowKit
section
end
section
section
variable {a : Act} {w w0 : World} {af : Array Edge} {pos : String} {t : TypeId} {gd : Option (Nat × Bool)}
theorem uP {s d:Nat} {b:Bool} (h:a.tmps[s]?=some (.bool b)) :
 yY Try.prog w0 { dst:=some d,op:=.unOp .not 4 (.tmp s),type:=t,pos:=pos,after:=af,guard:=gd } (.val (.bool (!b))) a w :=
 .inl (by simp[go_sem,execOp,h])
theorem yE {c s d:Nat} {v k:Value} (h:a.tmps[c]?=some (.bool false)) (h':a.tmps[s]?=some v) :
 yY Try.prog w0 { dst:=some d,op:=.pick (.tmp c) (.const k) (.tmp s),type:=t,pos:=pos,after:=af,guard:=gd } (.val v) a w :=
 .inl (by simp[go_sem,execOp,h,h'])
theorem xT {c s d:Nat} {k:Value} (h:a.tmps[c]?=some (.bool true)) (hs:a.tmps[s]?=some undef) :
 yY Try.prog w0 { dst:=some d,op:=.pick (.tmp c) (.const k) (.tmp s),type:=t,pos:=pos,after:=af,guard:=gd } (.val k) a w :=
 .inl (by simp[go_sem,execOp,h,hs])
theorem xC {c s d:Nat} {k:Value} (h:a.tmps[c]?=some (.bool false)) (hs:a.tmps[s]?=some undef) :
 yY Try.prog w0 { dst:=some d,op:=.pick (.tmp c) (.tmp s) (.const k),type:=t,pos:=pos,after:=af,guard:=gd } (.val k) a w :=
 .inl (by simp[go_sem,execOp,h,hs])
end
theorem vS.goneS {B:Nat} {w0:World} {a0:Act} {L:List Sp} {l:List Oper} {o:Oper} {me:Nat} {a:Act} {w:World} (R:vS l.toArray (xN L) B w0 a0 o me a w) (k:Nat) {ok:Oper} {d:Nat} (hk:l[k]?=some ok:=by exact rfl) (hd:ok.dst=some d:=by exact rfl) (hv:xN L k=.skip:=by exact rfl)
 (h:(o.after.any λe=>Region.binds .any e&&e.on==k)=true:=by kernel_rfl):a.tmps[d]?=some undef:=by
 have:=R.dep k hk h;rw[hv]at this;exact this d hd
def Qt (F:Nat) (x y z:Int) (r er:Int):Prop :=
 (∀ w,Calls Try.prog F #[.agg #[.int .u64 (L0 x),.int .u64 (L1 x),.int .u64 (L2 x),.int .u64 (L3 x)],.agg #[.int .u64 (L0 y),.int .u64 (L1 y),.int .u64 (L2 y),.int .u64 (L3 y)]] w λe w'=>e=.returned (.tuple #[.agg #[.int .u64 (L0 r),.int .u64 (L1 r),.int .u64 (L2 r),.int .u64 (L3 r)],.int .i64 er])/\Bel w.heap.size w w')/\Fit r/\(er=0/\r=z/\Fit z\/er=3/\r=0/\¬ Fit z)
theorem Qt.same {F:Nat} {x y z r er r' er':Int} (h:Qt F x y z r er) {F':Nat} {x' y':Int} (h':Qt F' x' y' z r' er'):r'=r/\er'=er:=by
 rcases h.2.2 with ⟨h1,h2,h3⟩|⟨h1,h2,h3⟩<;>rcases h'.2.2 with ⟨k1,k2,k3⟩|⟨k1,k2,k3⟩
 ·exact ⟨k2.trans h2.symm,k1.trans h1.symm⟩
 ·exact absurd h3 k3
 ·exact absurd k3 h3
 exact ⟨k2.trans h2.symm,k1.trans h1.symm⟩
theorem Qt.is {F:Nat} {x y z r er:Int} (h:Qt F x y z r er) (e:er=0):r=z:=by
 rcases h.2.2 with ⟨_,h2,_⟩|⟨h1,_⟩
 ·exact h2
 omega
end
section
section
variable {a : Act} {w w0 : World} {af : Array Edge} {pos : String} {t : TypeId} {gd : Option (Nat × Bool)}
end
end
section
section
variable {a : Act} {w w0 : World} {af : Array Edge} {pos : String} {t : TypeId} {gd : Option (Nat × Bool)}
end
end
section
theorem zG {f:Nat} {fn:Func} (hf:Try.prog.funcs[f]?=some fn) (hn:(fn.name== "runtime.NumGoroutine")=false:=by exact rfl) (hb:fn.body.isNone=false:=by exact rfl):∀ (args:Array Value) (w:World),(callFunc f args).run Try.prog w=.ok (.enter f args) w:=λargs w=>qV hf hn hb args w
section
variable {a : Act} {w w0 : World} {af : Array Edge} {pos : String} {t : TypeId} {gd : Option (Nat × Bool)}
theorem zDy {s d:Nat} {x z:Int} (h:a.tmps[s]?=some (.int .i64 x)) (hz:IntKind.i64.wrap (-x)=z):yY Try.prog w0 { dst:=some d,op:=.unOp .neg 3 (.tmp s),type:=t,pos:=pos,after:=af,guard:=gd } (.val (.int .i64 z)) a w :=
 .inl (by simp[go_sem,execOp,h,<- hz])
theorem vD {s s' d T:Nat} {k:IntKind} {x y:Int} {b:Bool} (h:a.tmps[s]?=some (.int k x)) (h':a.tmps[s']?=some (.int k y)) (hT:Try.prog.underlying T=some (.int k)) (hb:(x==y)=b):yY Try.prog w0 { dst:=some d,op:=.binOp .eql T (.tmp s) (.tmp s') T,type:=t,pos:=pos,after:=af,guard:=gd } (.val (.bool b)) a w :=
 .inl (by subst hb;simp[go_sem,execOp,hT,bne,h,h'])
theorem yT {s d T:Nat} {k:IntKind} {x y:Int} {b:Bool} (h:a.tmps[s]?=some (.int k x)) (hT:Try.prog.underlying T=some (.int k)) (hb:(x==y)=b):yY Try.prog w0 { dst:=some d,op:=.binOp .eql T (.tmp s) (.const (.int k y)) T,type:=t,pos:=pos,after:=af,guard:=gd } (.val (.bool b)) a w :=
 .inl (by subst hb;simp[go_sem,execOp,hT,bne,h])
theorem Qg {s s' d T:Nat} {k:IntKind} {x y:Int} {b:Bool} (h:a.tmps[s]?=some (.int k x)) (h':a.tmps[s']?=some (.int k y)) (hT:Try.prog.underlying T=some (.int k)) (hb:decide (x<y)=b):yY Try.prog w0 { dst:=some d,op:=.binOp .lss T (.tmp s) (.tmp s') T,type:=t,pos:=pos,after:=af,guard:=gd } (.val (.bool b)) a w :=
 .inl (by subst hb;simp[go_sem,execOp,hT,bne,h,h'])
theorem jF {s d T:Nat} {k:IntKind} {x y:Int} {b:Bool} (h:a.tmps[s]?=some (.int k x)) (hT:Try.prog.underlying T=some (.int k)) (hb:decide (x<y)=b):yY Try.prog w0 { dst:=some d,op:=.binOp .lss T (.tmp s) (.const (.int k y)) T,type:=t,pos:=pos,after:=af,guard:=gd } (.val (.bool b)) a w :=
 .inl (by subst hb;simp[go_sem,execOp,hT,bne,h])
theorem Uh {s s' d T:Nat} {k:IntKind} {x y:Int} {b:Bool} (h:a.tmps[s]?=some (.int k x)) (h':a.tmps[s']?=some (.int k y)) (hT:Try.prog.underlying T=some (.int k)) (hb:decide (y<x)=b):yY Try.prog w0 { dst:=some d,op:=.binOp .gtr T (.tmp s) (.tmp s') T,type:=t,pos:=pos,after:=af,guard:=gd } (.val (.bool b)) a w :=
 .inl (by subst hb;simp[go_sem,execOp,hT,bne,h,h'])
theorem uB {s d T:Nat} {k:IntKind} {x y:Int} {b:Bool} (h:a.tmps[s]?=some (.int k x)) (hT:Try.prog.underlying T=some (.int k)) (hb:decide (y<x)=b):yY Try.prog w0 { dst:=some d,op:=.binOp .gtr T (.tmp s) (.const (.int k y)) T,type:=t,pos:=pos,after:=af,guard:=gd } (.val (.bool b)) a w :=
 .inl (by subst hb;simp[go_sem,execOp,hT,bne,h])
theorem Ua {s s' d:Nat} {x y z:Int} (h:a.tmps[s]?=some (.int .i64 x)) (h':a.tmps[s']?=some (.int .i64 y)) (hz:IntKind.i64.wrap (x+y)=z):yY Try.prog w0 { dst:=some d,op:=.binOp .add 3 (.tmp s) (.tmp s') 3,type:=t,pos:=pos,after:=af,guard:=gd } (.val (.int .i64 z)) a w :=
 .inl (by simp[go_sem,execOp,<- hz,h,h'])
theorem uQ {s s' d:Nat} {x y z:Int} (h:a.tmps[s]?=some (.int .i64 x)) (h':a.tmps[s']?=some (.int .i64 y)) (hz:IntKind.i64.wrap (x - y)=z):yY Try.prog w0 { dst:=some d,op:=.binOp .sub 3 (.tmp s) (.tmp s') 3,type:=t,pos:=pos,after:=af,guard:=gd } (.val (.int .i64 z)) a w :=
 .inl (by simp[go_sem,execOp,<- hz,h,h'])
theorem vZ {s s' d:Nat} {x y z:Int} (h:a.tmps[s]?=some (.int .i64 x)) (h':a.tmps[s']?=some (.int .i64 y)) (hz:IntKind.i64.wrap (x*y)=z):yY Try.prog w0 { dst:=some d,op:=.binOp .mul 3 (.tmp s) (.tmp s') 3,type:=t,pos:=pos,after:=af,guard:=gd } (.val (.int .i64 z)) a w :=
 .inl (by simp[go_sem,execOp,<- hz,h,h'])
theorem zE {s p o d:Nat} {T':TypeId} {cs:Array Value} {v0 v1:Value} (h:a.tmps[s]?=some (.pointer (some ⟨p,o,none⟩))) (ho:Own w p T' cs) (c0:cs[o]?=some v0) (c1:cs[o+1]?=some v1):yY Try.prog w0 { dst:=some d,op:=.load 37 (.tmp s),type:=t,pos:=pos,after:=af,guard:=gd } (.val (.agg #[v0,v1])) a w :=
 by
 obtain ⟨h1,h2,h3⟩:=ho.at_;refine .inl ?_;simp[go_sem,execOp,h,h1,Nat.add_assoc,c0,c1]
theorem al_P {d:Nat}:yY Try.prog w0 { dst:=some d,op:=.alloc 37,type:=t,pos:=pos,after:=af,guard:=gd } (.blk 37 2) a w :=
 ⟨d,#[.int .i64 0,.int .i64 0],rfl,rfl,by simp[go_sem,execOp]⟩
theorem zDm {p:Nat} {v0 v1:Value} {cs:Array Value} (ho:Own w p 37 cs) (hc:cs.size=2) :
 Own ((w.setCell ⟨p,0,none⟩ v0).setCell ⟨p,1,none⟩ v1) p 37 #[v0,v1]/\uZ p w ((w.setCell ⟨p,0,none⟩ v0).setCell ⟨p,1,none⟩ v1)/\(∀ B,B<=p->Bel B w0 w->Bel B w0 ((w.setCell ⟨p,0,none⟩ v0).setCell ⟨p,1,none⟩ v1)):=by
 refine ⟨?_,⟨by simp[World.setCell],λq hq => ?_⟩,λB hp hb => ?_⟩
 ·have h:=((ho.put 0 v0).put 1 v1)
  refine h.as ?_;obtain ⟨l⟩:=cs;have hl:l.length=2:=hc;obtain ⟨y0,l,rfl⟩:=List.exists_cons_of_length_eq_add_one hl;replace hl:l.length=1:=by simpa using hl
  obtain ⟨y1,l,rfl⟩:=List.exists_cons_of_length_eq_add_one hl;replace hl:l.length=0:=by simpa using hl
  obtain rfl:=List.length_eq_zero_iff.1 hl;simp only[lA,lZ,lS]
 ·rw[Bel.heap_setCell _ _ _ _ hq,Bel.heap_setCell _ _ _ _ hq]
 exact ((hb.setCell hp _).setCell hp _)
theorem st_P {s s':Nat} {v0 v1:Int} {g:Nat} {cs0:Array Value} (h:a.tmps[s]?=some (.pointer (some ⟨g,0,none⟩))) (ho:Own w g 37 cs0) (hc:cs0.size=2) (h':a.tmps[s']?=some (.agg #[.int .i64 v0,.int .i64 v1])):yY Try.prog w0 { dst:=none,op:=.store 37 (.tmp s) (.tmp s'),type:=t,pos:=pos,after:=af,guard:=gd } (.put s 37 #[.int .i64 v0,.int .i64 v1]) a w :=
 by
 refine ⟨rfl,((w.setCell ⟨g,0,none⟩ (.int .i64 v0)).setCell ⟨g,1,none⟩ (.int .i64 v1)),.inl ?_,λp cs hp hop hcs => ?_⟩;rotate_left
 ·obtain rfl:g=p:=by rw[h]at hp;simpa using hp
  exact zDm hop hcs
 obtain ⟨h1,h2,h3⟩:=ho.at_;have c0:cs0[0]?=some cs0[0]:=by simp[hc]
 have c1:cs0[1]?=some cs0[1]:=by simp[hc]
 simp[go_sem,execOp,h,h',h1,h2,c0,c1]
theorem sb_P {s s' n0:Nat} {v0 v1:Int} (h:Sat n0 (some s) (.blk 37 2) a w) (h':a.tmps[s']?=some (.agg #[.int .i64 v0,.int .i64 v1])):yY Try.prog w0 { dst:=none,op:=.store 37 (.tmp s) (.tmp s'),type:=t,pos:=pos,after:=af,guard:=gd } (.put s 37 #[.int .i64 v0,.int .i64 v1]) a w :=
 by
 obtain ⟨d,g,cs,hd,ht,_,hc,ho⟩:=h;obtain rfl:s=d:=Option.some.inj hd;exact st_P ht ho hc h'
theorem zU {s s' d:Nat} {v0 v1 u0 u1:Value} {b:Bool} (h:a.tmps[s]?=some (.agg #[v0,v1])) (h':a.tmps[s']?=some (.agg #[u0,u1])) (E:∀ w,(Op.equalIn 10000 37 (.agg #[v0,v1]) (.agg #[u0,u1])).run Try.prog w=.ok b w):yY Try.prog w0 { dst:=some d,op:=.binOp .eql 37 (.tmp s) (.tmp s') 37,type:=t,pos:=pos,after:=af,guard:=gd } (.val (.bool b)) a w :=
 .inl (by simp[go_sem,execOp,h,h',E])
theorem qR {s s' d:Nat} {v0 v1 u0 u1:Value} {b:Bool} (h:a.tmps[s]?=some (.agg #[v0,v1])) (h':a.tmps[s']?=some (.agg #[u0,u1])) (E:∀ w,(Op.equalIn 10000 37 (.agg #[v0,v1]) (.agg #[u0,u1])).run Try.prog w=.ok b w):yY Try.prog w0 { dst:=some d,op:=.binOp .neq 37 (.tmp s) (.tmp s') 37,type:=t,pos:=pos,after:=af,guard:=gd } (.val (.bool (!b))) a w :=
 .inl (by simp[go_sem,execOp,h,h',E])
theorem vJ {s p o d:Nat} (h:a.tmps[s]?=some (.pointer (some ⟨p,o,none⟩))):yY Try.prog w0 { dst:=some d,op:=.fieldAddr 37 (.tmp s) 0,type:=t,pos:=pos,after:=af,guard:=gd } (.val (.pointer (some ⟨p,o,none⟩))) a w :=
 .inl (by simp[go_sem,execOp,h])
theorem vO {s p o d:Nat} (h:a.tmps[s]?=some (.pointer (some ⟨p,o,none⟩))):yY Try.prog w0 { dst:=some d,op:=.fieldAddr 37 (.tmp s) 1,type:=t,pos:=pos,after:=af,guard:=gd } (.val (.pointer (some ⟨p,o+1,none⟩))) a w :=
 .inl (by simp[go_sem,execOp,h])
theorem yO {s p o d:Nat} {T':TypeId} {cs:Array Value} {v:Value} (h:a.tmps[s]?=some (.pointer (some ⟨p,o,none⟩))) (ho:Own w p T' cs) (c0:cs[o]?=some v):yY Try.prog w0 { dst:=some d,op:=.load 3 (.tmp s),type:=t,pos:=pos,after:=af,guard:=gd } (.val v) a w :=
 by
 obtain ⟨h1,h2,h3⟩:=ho.at_;refine .inl ?_;simp[go_sem,execOp,h,h1,c0]
theorem vT {s0 s1 s2 d:Nat} {x0 y0 x1 y1 x2 y2:Int} (h0:a.tmps[s0]?=some (.agg #[.int .i64 x0,.int .i64 y0])) (h1:a.tmps[s1]?=some (.agg #[.int .i64 x1,.int .i64 y1])) (h2:a.tmps[s2]?=some (.agg #[.int .i64 x2,.int .i64 y2])):yY Try.prog w0 { dst:=some d,op:=.buildSlice 121 3 #[(0,.tmp s0),(1,.tmp s1),(2,.tmp s2)],type:=t,pos:=pos,after:=af,guard:=gd } (.new 37 #[.int .i64 x0,.int .i64 y0,.int .i64 x1,.int .i64 y1,.int .i64 x2,.int .i64 y2] (some (3,3))) a w :=
 ⟨d,rfl,by simp[go_sem,execOp,mkv,h0,h1,h2]⟩
theorem zCs {s0 s1 s2 s3 d:Nat} {x0 y0 x1 y1 x2 y2 x3 y3:Int} (h0:a.tmps[s0]?=some (.agg #[.int .i64 x0,.int .i64 y0])) (h1:a.tmps[s1]?=some (.agg #[.int .i64 x1,.int .i64 y1])) (h2:a.tmps[s2]?=some (.agg #[.int .i64 x2,.int .i64 y2])) (h3:a.tmps[s3]?=some (.agg #[.int .i64 x3,.int .i64 y3])):yY Try.prog w0 { dst:=some d,op:=.buildSlice 121 4 #[(0,.tmp s0),(1,.tmp s1),(2,.tmp s2),(3,.tmp s3)],type:=t,pos:=pos,after:=af,guard:=gd } (.new 37 #[.int .i64 x0,.int .i64 y0,.int .i64 x1,.int .i64 y1,.int .i64 x2,.int .i64 y2,.int .i64 x3,.int .i64 y3] (some (4,4))) a w :=
 ⟨d,rfl,by simp[go_sem,execOp,mkv,h0,h1,h2,h3]⟩
theorem yS {f d:Nat} {r0 r1 s0 s1:Nat} {u:Value} {v0 v1:Value} (E:∀ args w,(callFunc f args).run Try.prog w=.ok (.enter f args) w) (h0:a.tmps[s0]?=some v0) (h1:a.tmps[s1]?=some v1) (hc:Calls Try.prog f #[v0,v1] w λe w'=>e=.returned u/\Bel w.heap.size w w'):yY Try.prog w0 { dst:=some d,op:=.call { callee:=.value (.func f),args := #[.tmp s0,.tmp s1],argTypes := #[r0,r1] },type:=t,pos:=pos,after:=af,guard:=gd } (.val u) a w :=
 .inr ⟨f,_,by simp[go_sem,execOp,h0,h1];exact E _ _,hc⟩
theorem zS {f d:Nat} {r0 r1 r2 s0 s1 s2:Nat} {u:Value} {v0 v1 v2:Value} (E:∀ args w,(callFunc f args).run Try.prog w=.ok (.enter f args) w) (h0:a.tmps[s0]?=some v0) (h1:a.tmps[s1]?=some v1) (h2:a.tmps[s2]?=some v2) (hc:Calls Try.prog f #[v0,v1,v2] w λe w'=>e=.returned u/\Bel w.heap.size w w'):yY Try.prog w0 { dst:=some d,op:=.call { callee:=.value (.func f),args := #[.tmp s0,.tmp s1,.tmp s2],argTypes := #[r0,r1,r2] },type:=t,pos:=pos,after:=af,guard:=gd } (.val u) a w :=
 .inr ⟨f,_,by simp[go_sem,execOp,h0,h1,h2];exact E _ _,hc⟩
theorem yP {f d:Nat} {r0 r1 r2 r3 s0 s1 s2 s3:Nat} {u:Value} {v0 v1 v2 v3:Value} (E:∀ args w,(callFunc f args).run Try.prog w=.ok (.enter f args) w) (h0:a.tmps[s0]?=some v0) (h1:a.tmps[s1]?=some v1) (h2:a.tmps[s2]?=some v2) (h3:a.tmps[s3]?=some v3) (hc:Calls Try.prog f #[v0,v1,v2,v3] w λe w'=>e=.returned u/\Bel w.heap.size w w'):yY Try.prog w0 { dst:=some d,op:=.call { callee:=.value (.func f),args := #[.tmp s0,.tmp s1,.tmp s2,.tmp s3],argTypes := #[r0,r1,r2,r3] },type:=t,pos:=pos,after:=af,guard:=gd } (.val u) a w :=
 .inr ⟨f,_,by simp[go_sem,execOp,h0,h1,h2,h3];exact E _ _,hc⟩
theorem jE {f d:Nat} {r0 s0:Nat} {u:Value} (E:∀ args w,(callFunc f args).run Try.prog w=.ok (.enter f args) w) {T:TypeId} {cs:Array Value} {q:Option (Nat × Nat)} {n0:Nat} (h0:Sat n0 (some s0) (.new T cs q) a w) (hc:∀ g,Own w g T cs->Calls Try.prog f #[mkv q g] w λe w'=>e=.returned u/\Bel w.heap.size w w'):yY Try.prog w0 { dst:=some d,op:=.call { callee:=.value (.func f),args := #[.tmp s0],argTypes := #[r0] },type:=t,pos:=pos,after:=af,guard:=gd } (.val u) a w :=
 by
 obtain ⟨d',g,hd,ht,_,ho⟩:=h0;obtain rfl:=Option.some.inj hd;exact .inr ⟨f,_,by simp[go_sem,execOp,ht];exact E _ _,hc g ho⟩
end
end
section
section
variable {a : Act} {w w0 : World} {af : Array Edge} {pos : String} {t : TypeId} {gd : Option (Nat × Bool)}
theorem al_V {d:Nat}:yY Try.prog w0 { dst:=some d,op:=.alloc 39,type:=t,pos:=pos,after:=af,guard:=gd } (.blk 39 3) a w :=
 ⟨d,#[.int .i64 0,.int .i64 0,.int .i64 0],rfl,rfl,by simp[go_sem,execOp]⟩
theorem zC9 {p:Nat} {v0 v1 v2:Value} {cs:Array Value} (ho:Own w p 39 cs) (hc:cs.size=3) :
 Own (((w.setCell ⟨p,0,none⟩ v0).setCell ⟨p,1,none⟩ v1).setCell ⟨p,2,none⟩ v2) p 39 #[v0,v1,v2]/\uZ p w (((w.setCell ⟨p,0,none⟩ v0).setCell ⟨p,1,none⟩ v1).setCell ⟨p,2,none⟩ v2)/\(∀ B,B<=p->Bel B w0 w->Bel B w0 (((w.setCell ⟨p,0,none⟩ v0).setCell ⟨p,1,none⟩ v1).setCell ⟨p,2,none⟩ v2)):=by
 refine ⟨?_,⟨by simp[World.setCell],λq hq => ?_⟩,λB hp hb => ?_⟩
 ·have h:=(((ho.put 0 v0).put 1 v1).put 2 v2)
  refine h.as ?_;obtain ⟨l⟩:=cs;have hl:l.length=3:=hc;obtain ⟨y0,l,rfl⟩:=List.exists_cons_of_length_eq_add_one hl;replace hl:l.length=2:=by simpa using hl
  obtain ⟨y1,l,rfl⟩:=List.exists_cons_of_length_eq_add_one hl;replace hl:l.length=1:=by simpa using hl
  obtain ⟨y2,l,rfl⟩:=List.exists_cons_of_length_eq_add_one hl;replace hl:l.length=0:=by simpa using hl
  obtain rfl:=List.length_eq_zero_iff.1 hl;simp only[lA,lZ,lS]
 ·rw[Bel.heap_setCell _ _ _ _ hq,Bel.heap_setCell _ _ _ _ hq,Bel.heap_setCell _ _ _ _ hq]
 exact (((hb.setCell hp _).setCell hp _).setCell hp _)
theorem st_V {s s':Nat} {v0:Int} {v1:Int} {v2:Int} {g:Nat} {cs0:Array Value} (h:a.tmps[s]?=some (.pointer (some ⟨g,0,none⟩))) (ho:Own w g 39 cs0) (hc:cs0.size=3) (h':a.tmps[s']?=some (.agg #[.int .i64 v0,.int .i64 v1,.int .i64 v2])):yY Try.prog w0 { dst:=none,op:=.store 39 (.tmp s) (.tmp s'),type:=t,pos:=pos,after:=af,guard:=gd } (.put s 39 #[.int .i64 v0,.int .i64 v1,.int .i64 v2]) a w :=
 by
 refine ⟨rfl,(((w.setCell ⟨g,0,none⟩ (.int .i64 v0)).setCell ⟨g,1,none⟩ (.int .i64 v1)).setCell ⟨g,2,none⟩ (.int .i64 v2)),.inl ?_,λp cs hp hop hcs => ?_⟩;rotate_left
 ·obtain rfl:g=p:=by rw[h]at hp;simpa using hp
  exact zC9 hop hcs
 obtain ⟨h1,h2,h3⟩:=ho.at_;have c0:cs0[0]?=some cs0[0]:=by simp[hc]
 have c1:cs0[1]?=some cs0[1]:=by simp[hc]
 have c2:cs0[2]?=some cs0[2]:=by simp[hc]
 simp[go_sem,execOp,h,h',h1,h2,c0,c1,c2]
theorem sb_V {s s' n0:Nat} {v0:Int} {v1:Int} {v2:Int} (h:Sat n0 (some s) (.blk 39 3) a w) (h':a.tmps[s']?=some (.agg #[.int .i64 v0,.int .i64 v1,.int .i64 v2])):yY Try.prog w0 { dst:=none,op:=.store 39 (.tmp s) (.tmp s'),type:=t,pos:=pos,after:=af,guard:=gd } (.put s 39 #[.int .i64 v0,.int .i64 v1,.int .i64 v2]) a w :=
 by
 obtain ⟨d,g,cs,hd,ht,_,hc,ho⟩:=h;obtain rfl:s=d:=Option.some.inj hd;exact st_V ht ho hc h'
theorem al_Y {d:Nat}:yY Try.prog w0 { dst:=some d,op:=.alloc 88,type:=t,pos:=pos,after:=af,guard:=gd } (.blk 88 6) a w :=
 ⟨d,#[.int .i64 0,.int .i64 0,.int .i64 0,.int .i64 0,.int .i64 0,.int .i64 0],rfl,rfl,by simp[go_sem,execOp]⟩
theorem zC4 {p:Nat} {v0 v1 v2 v3 v4 v5:Value} {cs:Array Value} (ho:Own w p 88 cs) (hc:cs.size=6) :
 Own ((((((w.setCell ⟨p,0,none⟩ v0).setCell ⟨p,1,none⟩ v1).setCell ⟨p,2,none⟩ v2).setCell ⟨p,3,none⟩ v3).setCell ⟨p,4,none⟩ v4).setCell ⟨p,5,none⟩ v5) p 88 #[v0,v1,v2,v3,v4,v5]/\uZ p w ((((((w.setCell ⟨p,0,none⟩ v0).setCell ⟨p,1,none⟩ v1).setCell ⟨p,2,none⟩ v2).setCell ⟨p,3,none⟩ v3).setCell ⟨p,4,none⟩ v4).setCell ⟨p,5,none⟩ v5)/\(∀ B,B<=p->Bel B w0 w->Bel B w0 ((((((w.setCell ⟨p,0,none⟩ v0).setCell ⟨p,1,none⟩ v1).setCell ⟨p,2,none⟩ v2).setCell ⟨p,3,none⟩ v3).setCell ⟨p,4,none⟩ v4).setCell ⟨p,5,none⟩ v5)):=by
 refine ⟨?_,⟨by simp[World.setCell],λq hq => ?_⟩,λB hp hb => ?_⟩
 ·have h:=((((((ho.put 0 v0).put 1 v1).put 2 v2).put 3 v3).put 4 v4).put 5 v5)
  refine h.as ?_;obtain ⟨l⟩:=cs;have hl:l.length=6:=hc;obtain ⟨y0,l,rfl⟩:=List.exists_cons_of_length_eq_add_one hl;replace hl:l.length=5:=by simpa using hl
  obtain ⟨y1,l,rfl⟩:=List.exists_cons_of_length_eq_add_one hl;replace hl:l.length=4:=by simpa using hl
  obtain ⟨y2,l,rfl⟩:=List.exists_cons_of_length_eq_add_one hl;replace hl:l.length=3:=by simpa using hl
  obtain ⟨y3,l,rfl⟩:=List.exists_cons_of_length_eq_add_one hl;replace hl:l.length=2:=by simpa using hl
  obtain ⟨y4,l,rfl⟩:=List.exists_cons_of_length_eq_add_one hl;replace hl:l.length=1:=by simpa using hl
  obtain ⟨y5,l,rfl⟩:=List.exists_cons_of_length_eq_add_one hl;replace hl:l.length=0:=by simpa using hl
  obtain rfl:=List.length_eq_zero_iff.1 hl;simp only[lA,lZ,lS]
 ·rw[Bel.heap_setCell _ _ _ _ hq,Bel.heap_setCell _ _ _ _ hq,Bel.heap_setCell _ _ _ _ hq,Bel.heap_setCell _ _ _ _ hq,Bel.heap_setCell _ _ _ _ hq,Bel.heap_setCell _ _ _ _ hq]
 exact ((((((hb.setCell hp _).setCell hp _).setCell hp _).setCell hp _).setCell hp _).setCell hp _)
theorem st_Y {s s':Nat} {v0:Int} {v1:Int} {v2:Int} {v3:Int} {v4:Int} {v5:Int} {g:Nat} {cs0:Array Value} (h:a.tmps[s]?=some (.pointer (some ⟨g,0,none⟩))) (ho:Own w g 88 cs0) (hc:cs0.size=6) (h':a.tmps[s']?=some (.agg #[.int .i64 v0,.int .i64 v1,.int .i64 v2,.int .i64 v3,.int .i64 v4,.int .i64 v5])):yY Try.prog w0 { dst:=none,op:=.store 88 (.tmp s) (.tmp s'),type:=t,pos:=pos,after:=af,guard:=gd } (.put s 88 #[.int .i64 v0,.int .i64 v1,.int .i64 v2,.int .i64 v3,.int .i64 v4,.int .i64 v5]) a w :=
 by
 refine ⟨rfl,((((((w.setCell ⟨g,0,none⟩ (.int .i64 v0)).setCell ⟨g,1,none⟩ (.int .i64 v1)).setCell ⟨g,2,none⟩ (.int .i64 v2)).setCell ⟨g,3,none⟩ (.int .i64 v3)).setCell ⟨g,4,none⟩ (.int .i64 v4)).setCell ⟨g,5,none⟩ (.int .i64 v5)),.inl ?_,λp cs hp hop hcs => ?_⟩;rotate_left
 ·obtain rfl:g=p:=by rw[h]at hp;simpa using hp
  exact zC4 hop hcs
 obtain ⟨h1,h2,h3⟩:=ho.at_;have c0:cs0[0]?=some cs0[0]:=by simp[hc]
 have c1:cs0[1]?=some cs0[1]:=by simp[hc]
 have c2:cs0[2]?=some cs0[2]:=by simp[hc]
 have c3:cs0[3]?=some cs0[3]:=by simp[hc]
 have c4:cs0[4]?=some cs0[4]:=by simp[hc]
 have c5:cs0[5]?=some cs0[5]:=by simp[hc]
 simp[go_sem,execOp,h,h',h1,h2,c0,c1,c2,c3,c4,c5]
theorem sb_Y {s s' n0:Nat} {v0:Int} {v1:Int} {v2:Int} {v3:Int} {v4:Int} {v5:Int} (h:Sat n0 (some s) (.blk 88 6) a w) (h':a.tmps[s']?=some (.agg #[.int .i64 v0,.int .i64 v1,.int .i64 v2,.int .i64 v3,.int .i64 v4,.int .i64 v5])):yY Try.prog w0 { dst:=none,op:=.store 88 (.tmp s) (.tmp s'),type:=t,pos:=pos,after:=af,guard:=gd } (.put s 88 #[.int .i64 v0,.int .i64 v1,.int .i64 v2,.int .i64 v3,.int .i64 v4,.int .i64 v5]) a w :=
 by
 obtain ⟨d,g,cs,hd,ht,_,hc,ho⟩:=h;obtain rfl:s=d:=Option.some.inj hd;exact st_Y ht ho hc h'
end
end
end Go.Proofs.Ytibnackmddigaaa
