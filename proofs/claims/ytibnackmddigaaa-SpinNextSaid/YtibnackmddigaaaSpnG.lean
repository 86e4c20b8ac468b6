import Derived.Test.YtibnackmddigaaaSpnM
import Derived.Test.YtibnackmddigaaaSpnF
set_option linter.unusedVariables false
set_option linter.unusedSimpArgs false
set_option linter.unusedSectionVars false
section
namespace Go.Proofs.Ytibnackmddigaaa.Pl
open Go.ChangeShapes Go.WideShapes Go.ChangeAt Go.RowKit
def yI (f:Hf->Hf):Nat->List Hf->Hf->List Hf
 | 0,_,_=>[]
 | n+1,met,h=>if h∈met then [] else h::yI f n (met++[h]) (f h)
def xP (f:Hf->Hf) (N:Nat):List Hf->List Hf->List (List Hf)
 | [],_=>[]
 | h::hs,met=>if yI f N met h=[] then xP f N hs met else yI f N met h::xP f N hs (met++yI f N met h)
def rg (vs:List Vx) (es:List Eg):List (List Hf):=xP (nx vs es) (2*es.length+1) (hfs es) []
section
variable {vs : List Vx} {es : List Eg}
theorem zBz {l:List Hf} (hl:l≠[]) {x:Hf} (hx:x∈l):prv l x∈l:=by
 unfold prv;split
 ·cases l with
  | nil=>exact absurd rfl hl
  | cons a l =>
   rw[List.getLastD_eq_getLast?,List.getLast?_eq_some_getLast (List.cons_ne_nil a l)];exact List.getLast_mem _
 have h1:l.idxOf x<l.length:=List.idxOf_lt_length_of_mem hx;rw[List.getD_eq_getElem?_getD,List.getElem?_eq_getElem (by omega)];exact List.getElem_mem _
theorem qI {h:Hf} (hh:h∈hfs es):nx vs es h∈hfs es/\frm es (nx vs es h)=dst es h:=by
 have h1:tw h∈ot vs es (dst es h):=jR.2 ⟨uV.2 hh,rfl⟩;have h2:=zBz (List.ne_nil_of_mem h1) h1;exact jR.1 h2
theorem xV (f:Hf->Hf) (n:Nat) (met:List Hf) (h:Hf) (hm:h∉met):yI f (n+1) met h=h::yI f n (met++[h]) (f h):=by
 rw[yI,if_neg hm]
theorem xW (f:Hf->Hf) (n:Nat) (met:List Hf) (h:Hf) (hm:h∈met):yI f n met h=[]:=by
 cases n with
 | zero=>rfl
 | succ n=>rw[yI,if_pos hm]
end
end Go.Proofs.Ytibnackmddigaaa.Pl
end
section
namespace Go.Proofs.Ytibnackmddigaaa.Pl
open Go.ChangeShapes Go.WideShapes Go.ChangeAt Go.RowKit Go.Proofs.Ytibnackmddigaaa.Mp
def jA (w:World) (B:Nat) (v:Value) (PL:List (Value × List Hf)):Prop:=w.ownsRow B 40 1 v PL.length (PL.map (·.1))/\∀ x∈PL,zY w B x.1 x.2
section
variable {w w' : World} {B : Nat} {v : Value} {PL : List (Value × List Hf)}
theorem jA.nil (w:World) (B:Nat):jA w B (.slice none 0 0) []:=⟨World.ownsRow_nil _ _ _ _,λx hx=>by cases hx⟩
theorem jA.keep {Z:Nat->Prop} (h:jA w B v PL) (hc:Chg Z w w') (h1:∀ g,v.ownBlock=some g->¬ Z g) (h2:∀ x∈PL,∀ g,x.1.ownBlock=some g->¬ Z g):jA w' B v PL:=⟨xI hc h.1 h1,λx hx=>(h.2 x hx).keep hc (h2 x hx)⟩
theorem jA.below (h:jA w B v PL) (hb:Below w.heap.size w w'):jA w' B v PL:=h.keep (Chg.of (S:=λ_=>False) hb) (λ_ _ k=>k) λ_ _ _ _ k=>k
theorem jA.foot (h:jA w B v PL):(∀ g,v.ownBlock=some g->B<=g/\g<w.heap.size)/\∀ x∈PL,∀ g,x.1.ownBlock=some g->B<=g/\g<w.heap.size:=⟨λg hg=>World.ownsRow.lt h.1 g hg,λx hx g hg=>World.ownsRow.lt (h.2 x hx) g hg⟩
theorem Qy:(Try.prog.info? 40).map (λi=>(i.zero,i.size,i.bytes))=some (some (.slice none 0 0),1,24):=by kernel_rfl
def MtG (w:World) (b:Nat) (met:List Hf):Prop:=yX w b hV (met.map λh=>(h,.agg #[]))
theorem zAh (met:List Hf) (h:Hf):lkG (met.map λh=>(h,Value.agg #[])) h=if h∈met then some (.agg #[]) else none:=by
 induction met with
 | nil=>rfl
 | cons x l ih =>
  unfold lkG at ih ⊢;rw[List.map_cons,List.find?_cons];by_cases e:h=x
  ·subst e;simp
  have:decide (h=(x,Value.agg #[]).1)=false:=decide_eq_false e;rw[this];simp only;rw[ih];simp[e]
theorem Zy (w:World):(zeroValue 77).run Try.prog w=.ok (.agg #[]) w:=by kernel_rfl
set_option maxRecDepth 10000 in
theorem Xu {met:List Hf} {mm q:Nat} (h:Hf) (w:World) (hM:MtG w mm met) (hq:Own w q 76 #[.map (some mm)]) :
 Calls Try.prog 37 #[hV h,.pointer (some ⟨q,0,none⟩)] w λe w'=>e=.returned (.bool (decide (h∈met)))/\Below w.heap.size w w':=by
 have LK:∀ W,Below w.heap.size w W->(Instr.lookup 76 (.map (some mm)) (hV h) true).run Try.prog W=.ok (.tuple #[.agg #[],.bool (decide (h∈met))]) W:=λW hW=>by
  have k:=(yX.keep hM (hW.block _ (yX.in_ hM))).look (t:=76) Try.underlying76 vY (Zy W) h;rw[k,zAh];by_cases m:h∈met
  ·rw[if_pos m,decide_eq_true m];rfl
  rw[if_neg m,decide_eq_false m];rfl
 obtain ⟨e,b⟩:=h;unfold hV at LK ⊢;simp only at LK ⊢;have L1:=LK _ (bx1 w 42 #[.int .i64 e,.bool b]);obtain ⟨q1,q2⟩:=(hq.keep (bx1 w 42 #[.int .i64 e,.bool b])).at_;have B2:Hid (Below w.heap.size w ((w.alloc (.cells #[.int .i64 e,.bool b] 42)).alloc (.cells #[] 77))):=Lh (by repeat' (first|(with_reducible exact Below.refl _ _)|(with_reducible assumption)|(with_reducible refine zX ?_ _)|(with_reducible refine Below.drew ?_)|(with_reducible refine Below.alloc ?_ ?_ _)|(with_reducible refine Below.setCell ?_ ?_ _)|(with_reducible refine zF ?_ zW ?_)|(with_reducible exact Nat.le_refl _)|(with_reducible exact Nat.le_succ _)|(with_reducible exact Nat.le_succ_of_le zW)|omega|(simp;done)|(simp;omega)|(exact Nat.le_succ _)|(exact Nat.le_succ_of_le zW)));generalize decide ((e,b)∈met)=ok at *
 clear LK hM hq;go_enter Try.func37,Try.ntmps37;go_wp2;go_ret;exact ⟨rfl,B2.out⟩
end
end Go.Proofs.Ytibnackmddigaaa.Pl
end
