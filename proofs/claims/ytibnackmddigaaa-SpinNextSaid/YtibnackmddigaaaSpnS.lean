import Derived.Test.YtibnackmddigaaaSpnC
import Derived.Test.YtibnackmddigaaaGeoV
import Derived.Test.YtibnackmddigaaaShelS
import Derived.Shelf.SlSortCmp.NoneTotal
set_option linter.unusedVariables false
set_option linter.unusedSimpArgs false
set_option linter.unusedSectionVars false
section
namespace Go.Proofs.Ytibnackmddigaaa.Pl
open Go.ChangeShapes Go.WideShapes Go.ChangeAt Go.RowKit Go.Proofs.Ytibnackmddigaaa.Mp
section
variable {α : Type} [DecidableEq α] {Q : Program} {w : World} {t e kt : TypeId} {b : Nat} {K : α -> Value} {L : List (α × Value)}
theorem Qk (h:yX w b K L) (ht:Q.underlying t=some (.map kt e)) (hk:Vj Q kt K) {z:Value} (hz:(zeroValue e).run Q w=.ok z w) (a:α) :
 (Instr.lookup t (.map (some b)) (K a) false).run Q w=.ok ((lkG L a).getD z) w:=by
 obtain ⟨es,ck,hb,hL⟩:=h;obtain ⟨r,hr,hr2⟩:=fG (w:=w) hk a L es.toList 0 hL;have hf:(Instr.findKey kt (K a) es.toList).run Q w=.ok r w:=by rw[run_findKey_eq w hk.wide];exact hr
 rw[<- hr2];cases r with
 | none=>simp[Instr.lookup,run_underlying ht,MapKept.run_getObj_map hb,hk.chk,hf,hz,Result.andThen]
 | some x=>simp[Instr.lookup,run_underlying ht,MapKept.run_getObj_map hb,hk.chk,hf,hz,Result.andThen]
end
theorem Vn (w:World):(zeroValue 88).run Try.prog w=.ok (.agg #[.int .i64 0,.int .i64 0,.int .i64 0,.int .i64 0,.int .i64 0,.int .i64 0]) w:=by kernel_rfl
set_option maxRecDepth 10000 in
set_option maxHeartbeats 2000000 in
theorem zAv {w:World} {bx p m2 m3:Nat} {hv:Value} {P:List Wy} (x y:Hf) (a b c d:Vx) (hx:lkG (wyP P) x=some (wV (a,b))) (hy:lkG (wyP P) y=some (wV (c,d)))
 (OB:Own w bx 72 #[.pointer (some ⟨p,0,none⟩)]) (OW:Own w p 83 #[hv,.map (some m2),.map (some m3)]) (MW:yX w m2 hV (wyP P)) :
 Calls Try.prog 73 #[hV x,hV y,.pointer (some ⟨bx,0,none⟩)] w λe w'=>e=.returned (.int .i64 (rdV a.x a.y b.x b.y d.x d.y))/\Bel w.heap.size w w':=by
 have LK:=Lh (λ(h:Hf) (W:World) (hW:Bel w.heap.size w W)=>Qk (MW.keep (hW.block _ MW.in_)) (t:=80) Try.underlying80 vY (Vn W) h);have LA:=Lh (LK.out x);have LB:=Lh (LK.out y);rw[hx]at LA;rw[hy]at LB;simp only[Option.getD_some]at LA LB;unfold hV wV at LA LB;clear LK hx hy MW;obtain ⟨a1,a2,a3⟩:=a;obtain ⟨b1,b2,b3⟩:=b;obtain ⟨c1,c2,c3⟩:=c;obtain ⟨d1,d2,d3⟩:=d;obtain ⟨xe,xb⟩:=x;obtain ⟨ye,yb⟩:=y;unfold hV;simp only at LA LB ⊢;have AR:=Lh (λ(W:World)=>Go.Proofs.Ytibnackmddigaaa.Around_any (o1:=a2) (o2:=a3) (a1:=b2) (a2:=b3) (b1:=d2) (b2:=d3) W);generalize rdV a2 a3 b2 b3 d2 d3=z at *
 obtain ⟨W0,hW0⟩:∃ W0,W0=(w.alloc (.cells #[.int .i64 xe,.bool xb] 42)).alloc (.cells #[.int .i64 ye,.bool yb] 42):=⟨_,rfl⟩
 have HB0:Bel w.heap.size w W0:=by rw[hW0];repeat' (first|(with_reducible exact Bel.refl _ _)|(with_reducible assumption)|(with_reducible refine yF ?_ _)|(with_reducible refine Bel.drew ?_)|(with_reducible refine Bel.alloc ?_ ?_ _)|(with_reducible refine Bel.setCell ?_ ?_ _)|(with_reducible refine zJ ?_ zW ?_)|(with_reducible exact Nat.le_refl _)|(with_reducible exact Nat.le_succ _)|(with_reducible exact Nat.le_succ_of_le zW)|omega|(simp;done)|(simp;omega)|(exact Nat.le_succ _)|(exact Nat.le_succ_of_le zW))
 have OB0:Own W0 bx 72 #[.pointer (some ⟨p,0,none⟩)]:=Own.keepB OB HB0;have OW0:Own W0 p 83 #[hv,.map (some m2),.map (some m3)]:=Own.keepB OW HB0;have OX0:Own W0 w.heap.size 42 #[.int .i64 xe,.bool xb]:=by rw[hW0];exact (Own.made _ _ _).more _
 have OY0:Own W0 (w.heap.size+1) 42 #[.int .i64 ye,.bool yb]:=by rw[hW0];exact Own.made_at (by simp)
 clear OB OW;go_enter Try.func73,Try.ntmps73;go_upto_region 1 with fail;rw[<- hW0];clear hW0;refine yA (B:=W0.heap.size) (L:=.val (.pointer (some ⟨p,0,none⟩))::.val (.pointer (some ⟨p,0,none⟩))::.val (.pointer (some ⟨p,1,none⟩))::.val (.map (some m2))::.val (.agg #[.int .i64 xe,.bool xb])::.val (.agg #[.int .i64 a1,.int .i64 a2,.int .i64 a3,.int .i64 b1,.int .i64 b2,.int .i64 b3])::.val (.pointer (some ⟨p,0,none⟩))::.val (.pointer (some ⟨p,0,none⟩))::.val (.pointer (some ⟨p,1,none⟩))::.val (.map (some m2))::.val (.agg #[.int .i64 ye,.bool yb])::.val (.agg #[.int .i64 c1,.int .i64 c2,.int .i64 c3,.int .i64 d1,.int .i64 d2,.int .i64 d3])::.blk 88 6::.blk 88 6::.put 6 88 #[.int .i64 a1,.int .i64 a2,.int .i64 a3,.int .i64 b1,.int .i64 b2,.int .i64 b3]::.put 7 88 #[.int .i64 c1,.int .i64 c2,.int .i64 c3,.int .i64 d1,.int .i64 d2,.int .i64 d3]::[]) (by kernel_rfl) (by kernel_rfl) (Nat.le_refl _) (by exact trivial)
  ⟨λa wv R=>(by have h2:a.tmps[2]?=some (.pointer (some ⟨bx,0,none⟩)):=R.slot 2 rfl;have oc_:=(R.keep OB0.drawn trivial).at_.1 0;simp at oc_;refine .inl ?_;first|(simp[go_sem,execOp,h2,oc_];done)|(simp[go_sem,execOp,h2,oc_];rfl)),
  λa wv R=>(by have h8:a.tmps[8]?=some (.pointer (some ⟨p,0,none⟩)):=R.val 0;refine .inl ?_;first|(simp[go_sem,execOp,h8];done)|(simp[go_sem,execOp,h8];rfl)),
  λa wv R=>(by have h9:a.tmps[9]?=some (.pointer (some ⟨p,0,none⟩)):=R.val 1;refine .inl ?_;first|(simp[go_sem,execOp,h9];done)|(simp[go_sem,execOp,h9];rfl)),
  λa wv R=>(by have h10:a.tmps[10]?=some (.pointer (some ⟨p,1,none⟩)):=R.val 2;have oc_:=(R.keep OW0.drawn trivial).at_.1 1;simp at oc_;refine .inl ?_;first|(simp[go_sem,execOp,h10,oc_];done)|(simp[go_sem,execOp,h10,oc_];rfl)),
  λa wv R=>(by have h3:a.tmps[3]?=some (.pointer (some ⟨w.heap.size,0,none⟩)):=R.slot 3 rfl;obtain ⟨k0,k1⟩:=zM (R.keep OX0.drawn trivial);refine .inl ?_;simp[go_sem,execOp,h3,k0,k1]),
  λa wv R=>(by have h11:a.tmps[11]?=some (.map (some m2)):=R.val 3;have h12:a.tmps[12]?=some (.agg #[.int .i64 xe,.bool xb]):=R.val 4;refine .inl ?_;have hl:=LA.out _ (zJ HB0.drew R.below HB0.size);simp[go_sem,execOp,h11,h12,hl]),
  λa wv R=>(by have h2:a.tmps[2]?=some (.pointer (some ⟨bx,0,none⟩)):=R.slot 2 rfl;have oc_:=(R.keep OB0.drawn trivial).at_.1 0;simp at oc_;refine .inl ?_;first|(simp[go_sem,execOp,h2,oc_];done)|(simp[go_sem,execOp,h2,oc_];rfl)),
  λa wv R=>(by have h14:a.tmps[14]?=some (.pointer (some ⟨p,0,none⟩)):=R.val 6;refine .inl ?_;first|(simp[go_sem,execOp,h14];done)|(simp[go_sem,execOp,h14];rfl)),
  λa wv R=>(by have h15:a.tmps[15]?=some (.pointer (some ⟨p,0,none⟩)):=R.val 7;refine .inl ?_;first|(simp[go_sem,execOp,h15];done)|(simp[go_sem,execOp,h15];rfl)),
  λa wv R=>(by have h16:a.tmps[16]?=some (.pointer (some ⟨p,1,none⟩)):=R.val 8;have oc_:=(R.keep OW0.drawn trivial).at_.1 1;simp at oc_;refine .inl ?_;first|(simp[go_sem,execOp,h16,oc_];done)|(simp[go_sem,execOp,h16,oc_];rfl)),
  λa wv R=>(by have h4:a.tmps[4]?=some (.pointer (some ⟨w.heap.size+1,0,none⟩)):=R.slot 4 rfl;obtain ⟨k0,k1⟩:=zM (R.keep OY0.drawn trivial);refine .inl ?_;simp[go_sem,execOp,h4,k0,k1]),
  λa wv R=>(by have h17:a.tmps[17]?=some (.map (some m2)):=R.val 9;have h18:a.tmps[18]?=some (.agg #[.int .i64 ye,.bool yb]):=R.val 10;refine .inl ?_;have hl:=LB.out _ (zJ HB0.drew R.below HB0.size);simp[go_sem,execOp,h17,h18,hl]),
  λa wv R=>al_Y,
  λa wv R=>al_Y,
  λa wv R=>(by have h13:a.tmps[13]?=some (.agg #[.int .i64 a1,.int .i64 a2,.int .i64 a3,.int .i64 b1,.int .i64 b2,.int .i64 b3]):=R.val 5;exact sb_Y (R.dep 12) h13),
  λa wv R=>(by have h19:a.tmps[19]?=some (.agg #[.int .i64 c1,.int .i64 c2,.int .i64 c3,.int .i64 d1,.int .i64 d2,.int .i64 d3]):=R.val 11;exact sb_Y (R.dep 13) h19),trivial⟩ (λact_ W5 I => ?_)
 obtain ⟨gb6,ew6,lw6,ow6⟩:=I.put 14 rfl rfl;obtain ⟨gb7,ew7,lw7,ow7⟩:=I.put 15 rfl rfl;rw[I.act [(8,.pointer (some ⟨p,0,none⟩)),(9,.pointer (some ⟨p,0,none⟩)),(10,.pointer (some ⟨p,1,none⟩)),(11,.map (some m2)),(12,.agg #[.int .i64 xe,.bool xb]),(13,.agg #[.int .i64 a1,.int .i64 a2,.int .i64 a3,.int .i64 b1,.int .i64 b2,.int .i64 b3]),(14,.pointer (some ⟨p,0,none⟩)),(15,.pointer (some ⟨p,0,none⟩)),(16,.pointer (some ⟨p,1,none⟩)),(17,.map (some m2)),(18,.agg #[.int .i64 ye,.bool yb]),(19,.agg #[.int .i64 c1,.int .i64 c2,.int .i64 c3,.int .i64 d1,.int .i64 d2,.int .i64 d3]),(6,.pointer (some ⟨gb6,0,none⟩)),(7,.pointer (some ⟨gb7,0,none⟩))]
  ⟨I.val 0,I.val 1,I.val 2,I.val 3,I.val 4,I.val 5,I.val 6,I.val 7,I.val 8,I.val 9,I.val 10,I.val 11,ew6,ew7,trivial⟩ rfl]
 change W0.heap.size<=gb6 at lw6;change W0.heap.size<=gb7 at lw7;have hW5:Bel w.heap.size w W5:=zJ HB0.drew I.below HB0.size;clear ew6 ew7;clear I;simp only[List.foldl_cons,List.foldl_nil,lA,lZ,lS];obtain ⟨f0,f1,f2,f3,f4,f5⟩:=gJ ow6;obtain ⟨g0,g1,g2,g3,g4,g5⟩:=gJ ow7;have HW5:=Lh hW5;clear hW5 HB0 OB0 OW0 OX0 OY0 ow6 ow7;go_wp2_with (go_at_call 74;refine (AR.out _).mono ?_;rintro e w2 ⟨rfl,b2⟩;have B2:=Lh b2;clear b2)
 go_ret;exact ⟨rfl,zJ HW5.out B2.out HW5.out.size⟩
end Go.Proofs.Ytibnackmddigaaa.Pl
end
section
namespace Go.Proofs.Ytibnackmddigaaa.Pl
open Go.ChangeShapes Go.WideShapes Go.ChangeAt Go.RowKit Go.Sort Go.Lib Go.Proofs.Ytibnackmddigaaa.Mp
theorem Zr {w w':World} (h:Bel w.heap.size w w'):∃ q os',w'=grow (w.drewN q) os':=by
 obtain ⟨hb,hd⟩:=h;refine ⟨w'.drawn - w.drawn,w'.heap.extract w.heap.size w'.heap.size,?_⟩;obtain ⟨h1,t1,d1,o1,u1⟩:=w';have e1:=hb.os;have e2:=hb.tape;have e3:=hb.output;simp only at e1 e2 e3 hd;subst e1 e2 e3;have e4:h1=w.heap++h1.extract w.heap.size h1.size:=by
  apply Array.ext_getElem?
  intro i;by_cases hi:i<w.heap.size
  ·rw[Array.getElem?_append_left hi];exact hb.block i hi
  have hs:=hb.size;simp only at hs;rw[Array.getElem?_append_right (by omega),Array.getElem?_extract];by_cases h2:i<h1.size
  ·rw[if_pos (by omega)];congr 1
   omega
  rw[if_neg (by omega)];exact Array.getElem?_eq_none (by omega)
 have e5:d1=w.drawn+(d1 - w.drawn):=by omega
 unfold grow World.drewN;simp only;rw[<- e4,<- e5]
theorem zAe {w:World} {g:Nat} {cur:Array Value} {e:TypeId} {ss:List Value} (hb:w.heap[g]?=some (.cells cur e (0,0))) (ht:cur.toList.take ss.length=ss):Holds id w g 0 ss.toArray:=by
 intro j hj;have hj':j<ss.length:=by simpa using hj
 refine ⟨?_,by simp[World.frozen?,hb]⟩;have h1:(cur.toList.take ss.length)[j]?=ss[j]?:=by rw[ht]
 rw[List.getElem?_take_of_lt hj']at h1;simp only[World.cell?,hb,Nat.zero_add];simp only[Option.isSome_none,Bool.false_eq_true,if_false];rw[<- Array.getElem?_toList,h1];simp[hj']
theorem zBv {w:World} {g n:Nat} {os:Array Obj} {cur:Array Value} {e:TypeId} {fr:Nat × Nat} (d:Array Value) (hb:w.heap[g]?=some (.cells cur e fr)) :
 (grow (putRow id (Sort.ahead w n) g 0 d) os).heap[g]?=some (.cells (Sort.putCells id 0 d cur) e fr):=by
 have hg:g<w.heap.size:=(Array.getElem?_eq_some_iff.1 hb).1;rw[heap_grow_old _ _ (by simpa using hg)];simp[putRow,mapBlock,Sort.ahead,Array.getElem?_modify,hb,onCells]
theorem Zg {w:World} {g n:Nat} {os:Array Obj} (d:Array Value):w.grownBy (grow (putRow id (Sort.ahead w n) g 0 d) os) (some g):=by
 refine ⟨rfl,rfl,rfl,by simp,λk hk hne => ?_⟩;rw[heap_grow_old _ _ (by simpa using hk)];have:g≠k:=λe=>hne (by rw[e])
 simp[putRow,mapBlock,Sort.ahead,Array.getElem?_modify,this]
theorem zCj (cur:Array Value) (ts:List Value) (h:ts.length<=cur.size):(Sort.putCells id 0 ts.toArray cur).toList.take ts.length=ts:=by
 apply List.ext_getElem?
 intro j;by_cases hj:j<ts.length
 ·rw[List.getElem?_take_of_lt hj,Array.getElem?_toList];simp[Sort.putCells,hj,show j<cur.size by omega]
 rw[List.getElem?_take_eq_none (by omega),List.getElem?_eq_none (by omega)]
theorem Qu {α:Type} [Inhabited α] (enc:α->List Value) (k:Nat) (w:World) (g n:Nat) (d:Array α) (os:Array Obj):Chg (·=g) w (sortWorldK enc k w g 0 n d os):=by
 unfold sortWorldK putRowK;exact (Chg.refl _ w).grown (Zg _) λk hk=>.inl (by cases hk;rfl)
def fZ {vs:List Vx} {es:List Eg} {i:Int} (x:{h:Hf // h∈lv es i}):List Value:=[.int .i64 x.1.1,.bool x.1.2]
def cfH (vs:List Vx) (es:List Eg) (i:Int) (x y:{h:Hf // h∈lv es i}):Int:=cmH vs es i x.1 y.1
theorem ltO (vs:List Vx) (es:List Eg) (i:Int) (x y:{h:Hf // h∈lv es i}):ltOf (cfH vs es i) x y=ltH vs es i x.1 y.1:=rfl
theorem swoH {vs:List Vx} {es:List Eg} (hV:FlV vs) (hE:FlE vs es) (i:Int):SWO (ltOf (cfH vs es i)) where
 irrefl x:=by rw[ltO];exact Uw
 trans x y z h1 h2:=by
  rw[ltO]at *;exact gE hV hE x.2 y.2 z.2 h1 h2
 ntrans x y z h1 h2:=by
  rw[ltO]at *;by_cases e:x.1=y.1
  ·rw[e];exact h2
  by_cases e2:y.1=z.1
  ·rw[<- e2];exact h1
  have k1:=jW hV hE x.2 y.2 e h1;have k2:=jW hV hE y.2 z.2 e2 h2;exact gB (gE hV hE z.2 y.2 x.2 k2 k1)
theorem Zx {es:List Eg} {i:Int} (vs:List Vx) [Inhabited {h:Hf // h∈lv es i}] (L:List {h:Hf // h∈lv es i}):flatK (fZ (vs:=vs)) 2 L.toArray=(hC (L.map (·.1))).toArray:=by
 apply Array.ext
 ·rw[size_flatK,List.size_toArray,List.size_toArray,qP,List.length_map]
 intro t h1 h2;rw[size_flatK,List.size_toArray]at h1;have h3:=get_flatK (fZ (vs:=vs)) 2 L.toArray t (by rw[List.size_toArray];exact h1);rw[getElem!_pos _ t (by rw[size_flatK,List.size_toArray];exact h1)]at h3;rw[h3];have hk:t / 2<L.length:=by omega
 have e1:L.toArray[t / 2]! = L[t / 2]'hk:=by rw[getElem!_pos _ _ (by simpa using hk)];simp
 rw[e1];obtain ⟨a0,a1⟩:=Uf (L.map (·.1)) (t / 2) (by simpa using hk);have hb:∀ (v:Value),(hC (L.map (·.1)))[t]?=some v->(hC (L.map (·.1))).toArray[t]=v:=λv hv=>by
  rw[List.getElem_toArray];rw[List.getElem?_eq_getElem (by simpa using h2)]at hv;exact Option.some.inj hv
 symm
 rcases (by omega:t=t / 2*2\/t=t / 2*2+1) with c|c
 ·have cm:t % 2=0:=by omega
  rw[cm];refine hb _ ?_;conv=>lhs;rw[c]
  rw[a0];simp[fZ]
 have cm:t % 2=1:=by omega
 rw[cm];refine hb _ ?_;conv=>lhs;rw[c]
 rw[a1];simp[fZ]
theorem fX (vs:List Vx) (i:Int):(vx vs i).x=px vs i/\(vx vs i).y=py vs i:=by
 unfold vx px py;cases fV vs i<;>exact ⟨rfl,rfl⟩
theorem zCh {o1 o2 a1 a2 b1 b2:Int} (ho:Rng o1 o2) (ha:Rng a1 a2) (hb:Rng b1 b2) (h1:¬ (a1=o1/\a2=o2)) (h2:¬ (b1=o1/\b2=o2)):rdV o1 o2 a1 a2 b1 b2=qB o1 o2 a1 a2 b1 b2:=by
 have h3:in3 o1 o2 a1 a2 b1 b2=true:=zV.2 ⟨ho,ha,hb⟩;have h4:decide (a1=o1/\a2=o2)=false:=decide_eq_false h1;have h5:decide (b1=o1/\b2=o2)=false:=decide_eq_false h2;unfold rdV qB laB tn;rw[h3,h4,h5];by_cases k1:uH o1 o2 a1 a2<;>by_cases k2:uH o1 o2 b1 b2<;>simp[k1,k2]
theorem Up {vs:List Vx} {es:List Eg} (hE:es.Pairwise λu v=>u.id<v.id) {h:Hf} (hh:h∈hfs es):lkG (wyP (wys vs es)) h=some (wV (vx vs (frm es h),vx vs (dst es h))):=by
 obtain ⟨e,he,k1,k2,k3,k4⟩:=jB hE hh;have hm:(h,vx vs (frm es h),vx vs (dst es h))∈wys vs es:=by
  unfold wys;refine List.mem_flatMap.2 ⟨e,he,?_⟩;rw[k3,k4];obtain ⟨a,b⟩:=h;simp only at k1;subst k1;cases b<;>simp[wy2]
 have hn:((wys vs es).map (·.1)).Nodup:=by rw[uM];exact jT hE
 generalize wys vs es=P at *
 unfold lkG wyP;induction P with
 | nil=>cases hm
 | cons y P ih =>
  rw[List.map_cons,List.find?_cons];rw[List.map_cons,List.nodup_cons]at hn;rcases List.mem_cons.1 hm with e1|e1
  ·rw[<- e1];simp
  have hne:¬ h=y.1:=λe2=>hn.1 (by rw[<- e2];exact List.mem_map.2 ⟨_,e1,rfl⟩)
  rw[decide_eq_false (p:=h=(y.1,wV y.2).1) hne];exact ih e1 hn.2
theorem Qh {vs:List Vx} {es:List Eg} {h:Hf} (hh:h∉hfs es):lkG (wyP (wys vs es)) h=none:=Qw λy hy e=>hh (by
 rw[<- uM vs es];exact List.mem_map.2 ⟨y,hy,e⟩)
theorem cm_px {vs:List Vx} {es:List Eg} (hV:FlV vs) (hE:FlE vs es) {i:Int} {x y:Hf} (hx:x∈lv es i) (hy:y∈lv es i) :
 rdV (vx vs (frm es x)).x (vx vs (frm es x)).y (vx vs (dst es x)).x (vx vs (dst es x)).y (vx vs (dst es y)).x (vx vs (dst es y)).y=cmH vs es i x y:=by
 obtain ⟨hx1,hx2⟩:=uD.1 hx;obtain ⟨hy1,hy2⟩:=uD.1 hy;obtain ⟨f1,f2,f3⟩:=vC hE hx1;obtain ⟨g1,g2,g3⟩:=vC hE hy1;rw[hx2]at f1 f3 ⊢;rw[hy2]at g1 g3;rw[(fX vs i).1,(fX vs i).2,(fX vs (dst es x)).1,(fX vs (dst es x)).2,(fX vs (dst es y)).1,(fX vs (dst es y)).2];exact zCh (jJ hV f1) (jJ hV f2) (jJ hV g2) (jN hV f1 f2 f3) (jN hV g1 g2 g3)
section
variable {w : World} {B : Nat} {v : Value} {L : List Hf}
set_option maxRecDepth 10000 in
theorem Yc (h:HIn w v L) (hv:v=.slice none 0 0\/L≠[]) (hn:L.length<=100000):Calls Try.prog 71 #[v] w λr w'=>∃ v',r=.returned v'/\zY w' w.heap.size v' L/\Below w.heap.size w w':=by
 obtain ⟨i0,hi0,hz0,hz1,hz2⟩:=vW uL;have q40:∀ (w:World) (a:Option Addr) (n c n' c':Nat),(binOp .eql 40 (.slice a n c) (.slice none n' c')).run Try.prog w=.ok (.bool a.isNone) w:=λw a n c n' c'=>Lib.run_eql_slice_nil w _ _ a n c n' c' Try.underlying40
 by_cases hL:L=[]
 ·subst hL;obtain rfl:v=.slice none 0 0:=hv.resolve_right λk=>k rfl
  clear hv h;go_enter Try.func71,Try.ntmps71;go_wp2;go_ret;exact ⟨_,rfl,zY.nil _ _,Below.refl _ _⟩
 obtain ⟨a,cap,rfl,h1,h2,h5⟩:=h;rcases h5 with h5|⟨b,o,rfl,hb,hcl⟩
 ·exact absurd h5 hL
 clear hv;have hpos:0<L.length:=List.length_pos_iff.2 hL;have CE:Hid (∀ j u,(hC L)[j]?=some u->(w.alloc (.cells #[] 42)).cell? ((⟨b,o,none⟩:Addr).add j)=some u):=Lh λj u hu=>by
  have hj:j<L.length*2:=by rw[<- qP];exact (List.getElem?_eq_some_iff.1 hu).1
  have e:(⟨b,o,none⟩:Addr).add j=⟨b,o+j,none⟩:=by unfold Addr.add;split<;>simp_all
  rw[e];obtain ⟨q,k⟩:∃ q,j=q*2\/j=q*2+1:=⟨j / 2,by omega⟩
  have hq:q<L.length:=by omega
  obtain ⟨a0,a1⟩:=Uf L q hq;obtain ⟨c0,c1⟩:=hcl q hq;rcases k with rfl|rfl
  ·rw[a0]at hu;rw[<- Option.some.inj hu];exact keep ((Below.refl _ _).alloc (Nat.le_refl _) _) c0
  rw[a1]at hu;rw[<- Option.some.inj hu,<- Nat.add_assoc];exact keep ((Below.refl _ _).alloc (Nat.le_refl _) _) c1
 have ON:Hid ((w.alloc (.cells #[] 42)).ownsRow w.heap.size 42 2 (.slice (some ⟨w.heap.size,0,none⟩) 0 0) 0 []):=Lh (World.ownsRow_made w #[] 0 (Nat.le_refl _) (by unfold maxLen;omega) (by simp));have H1:Hid (∀ u∈hC L,u.oneCell'=true):=Lh λu hu=>by
  unfold hC at hu;obtain ⟨x,_,hx⟩:=List.mem_flatMap.1 hu;simp at hx;rcases hx with rfl|rfl<;>rfl
 have HL:=Lh (qP L);obtain ⟨X,hX⟩:∃ X,X=hC L:=⟨_,rfl⟩
 rw[<- hX]at CE H1 HL;have HX:=Lh hX;have BX:Hid (Below w.heap.size w (w.alloc (.cells #[] 42))):=Lh (bx1 _ _ _);have hnz:(L.length==0)=false:=by simp;omega
 clear hX hcl hL;generalize hn9:L.length=n at *
 go_enter Try.func71,Try.ntmps71;go_wp2_with (at_builtin;refine wpList_append_own_at _ rfl _ _ 40 rfl w.heap.size 42 i0 (.agg #[.int .i64 0,.bool false]) 2 16 Try.underlying40 hi0 hz0 hz1 hz2 rfl (by decide) (.slice (some ⟨w.heap.size,0,none⟩) 0 0) 0 [] rfl ON.out ⟨b,o,none⟩ n cap X rfl HL.out CE.out H1.out (by unfold maxLen;omega) (by omega) BX.out.size ?_;intro v9 w9 hown hgrow hnil hloc;obtain ⟨ya,yc,rfl⟩:=yG hown;have HO9:=Lh hown;have HG9:=Lh hgrow;clear hown hgrow hnil hloc)
 go_ret;refine ⟨_,rfl,?_,BX.out.grown HG9.out BX.out.size λk hk=>by cases hk;exact Nat.le_refl _⟩;have:=HO9.out;unfold zY;rw[<- HX.out,hn9];simpa using this
theorem zA8 {vs:List Vx} {es:List Eg} (hV:FlV vs) (hE:FlE vs es) {i:Int} [Inhabited {h:Hf // h∈lv es i}] {d d':Array {h:Hf // h∈lv es i}} (hd:(d.toList.map (·.1)).Perm (lv es i)) (hp:PermIn 0 d.size d d') (hs:SortedIn (ltOf (cfH vs es i)) 0 d.size d'):d'.toList.map (·.1)=ot vs es i:=by
 obtain ⟨h1,-,h3⟩:=hp;rw[<- h1,Array.extract_size]at h3;have e1:(d.extract 0 d'.size)=d:=by rw[h1,Array.extract_size]
 rw[e1]at h3;have hp2:(d'.toList.map (·.1)).Perm (lv es i):=(h3.map (·.1)).trans hd;refine zDx hV hE hp2 ?_;rw[List.pairwise_iff_getElem];intro a b ha hb hab;have ha':a<d'.size:=by simpa using ha
 have hb':b<d'.size:=by simpa using hb
 have:=hs a b (Nat.zero_le _) hab (by omega);rw[getElem!_pos _ a ha',getElem!_pos _ b hb',ltO]at this;simpa using this
theorem Zf {vs:List Vx} {es:List Eg} (fV':FlV vs) (hE:FlE vs es) {i:Int} {bx p m2 m3:Nat} {hv:Value} (h:zY w B v L) (hL:L.Perm (lv es i)) (hn:L.length<=100000)
 (OB:Own w bx 72 #[.pointer (some ⟨p,0,none⟩)]) (OW:Own w p 83 #[hv,.map (some m2),.map (some m3)]) (MW:yX w m2 hV (wyP (wys vs es))) :
 Calls Try.prog 72 #[v,.func (.func 73) #[] #[.pointer (some ⟨bx,0,none⟩)]] w λe w'=>e=.returned (.tuple #[])/\zY w' B v (ot vs es i)/\Chg (λq=>v.ownBlock=some q) w w':=by
 by_cases hx0:L=[]
 ·subst hx0;have h0:ot vs es i=[]:=((uU i).trans hL.symm).eq_nil;rw[h0];obtain ⟨a,cp,rfl⟩:=h.shape;refine (AnyF.slices_SortFunc_none Try.sortSh a cp _ w).mono ?_;rintro e w' ⟨rfl,rfl⟩;exact ⟨rfl,h,Chg.refl _ _⟩
 obtain ⟨x0,hx0m⟩:=List.exists_mem_of_ne_nil _ hx0;haveI:Inhabited {h:Hf // h∈lv es i}:=⟨⟨x0,hL.mem_iff.1 hx0m⟩⟩
 have hfar:=λg (hg:v.ownBlock=some g)=>yV h hg
 rcases h.2 with ⟨rfl,h0⟩|⟨g,cap,cur,rfl,hg,hb,h1,h2,h3,h4⟩
 ·exact absurd (List.eq_nil_of_length_eq_zero h0) hx0
 have hlen:=qP L;obtain ⟨D,hD⟩:∃ D:List {h:Hf // h∈lv es i},D.map (·.1)=L:=⟨L.attachWith _ λx hx=>hL.mem_iff.1 hx,List.attachWith_map_subtype_val _⟩
 have hfl:=Zx vs D;rw[hD]at hfl;have hsz:D.toArray.size=L.length:=by rw[<- hD];simp
 have hH:HoldsK (fZ (vs:=vs)) 2 w g 0 D.toArray:=by
  unfold HoldsK;rw[hfl];exact zAe hb (by rw[hlen];exact h4)
 have eg:∀ args w,(callFunc 73 args).run Try.prog w=.ok (.enter 73 args) w:=λargs w=>qT Try.func73 rfl rfl args w
 have hcmp:CmpLays Try.prog 73 #[.pointer (some ⟨bx,0,none⟩)] (fZ (vs:=vs)) 2 (cfH vs es i) g 0 D.toArray.size w:=λm os dk _ x y=>by
  have hc:=Qu (fZ (vs:=vs)) 2 w g m dk os;obtain ⟨es2,ck2,e2⟩:=uA MW;have OB2:=hc.own OB ((hfar g rfl).1 OB (by decide));have OW2:=hc.own OW ((hfar g rfl).1 OW (by decide));have MW2:=MW.keep (hc.block _ MW.in_ ((hfar g rfl).2 e2));have hx:=(uD.1 x.2).1;have hy:=(uD.1 y.2).1;refine (zAv x.1 y.1 _ _ _ _ (Up hE.rise hx) (Up hE.rise hy) OB2 OW2 MW2).mono ?_;rintro e w' ⟨rfl,hb⟩;exact ⟨by rw[cm_px fV' hE x.2 y.2];rfl,Zr hb⟩
 have hcon:=AnyQ.slices_SortFunc Try.sortSh 2 Try.isAgg42 Try.sizeOf42 (fZ (vs:=vs)) (λ_=>rfl) (λx u hu=>by simp[fZ]at hu;rcases hu with rfl|rfl<;>rfl) (cfH vs es i) (swoH fV' hE i) 73 #[.pointer (some ⟨bx,0,none⟩)] g 0 cap D.toArray w eg hcmp hH (Array.getElem?_eq_some_iff.1 hb).1 (by rw[hsz];omega);rw[hsz]at hcon;refine hcon.mono ?_;rintro e w' ⟨rfl,d',n,os,hpi,hso,rfl⟩;rw[<- hsz]at hpi hso;have hd:=zA8 fV' hE (d:=D.toArray) (by simpa[hD]using hL) hpi hso;have hd':flatK (fZ (vs:=vs)) 2 d'=(hC (ot vs es i)).toArray:=by
  have:=Zx vs d'.toList;rw[hd]at this;exact this
 have hll:(ot vs es i).length=L.length:=((uU i).trans hL.symm).length_eq;have hml:(hC (ot vs es i)).length=L.length*2:=by rw[qP,hll]
 refine ⟨rfl,⟨by rw[hml,hll],.inr ⟨g,cap,Sort.putCells id 0 (hC (ot vs es i)).toArray cur,by rw[hll],hg,?_,by rw[hll];exact h1,h2,?_,?_⟩⟩,?_⟩
 ·unfold sortWorldK putRowK;rw[hd'];exact zBv _ hb
 ·simp[Sort.putCells,h3]
 ·rw[hll,<- hml];exact zCj cur (hC (ot vs es i)) (by rw[hml,h3];omega)
 exact (Qu (fZ (vs:=vs)) 2 w g n d' os).mono λq _ k=>by rw[k];rfl
end
end Go.Proofs.Ytibnackmddigaaa.Pl
end
