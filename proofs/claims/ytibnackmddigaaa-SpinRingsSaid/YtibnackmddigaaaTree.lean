import Derived.Test.YtibnackmddigaaaSta
import Derived.OrdersHeld
import Derived.KernelRfl
import Derived.Deep.RegionHeld3
import Derived.Deep.DeepCutAuto
import Derived.Lib.ItoaWalk
import Derived.Test.YtibnackmddigaaaMemo
set_option linter.unusedVariables false
set_option linter.unusedSimpArgs false
set_option linter.unusedSectionVars false
namespace Go.Proofs.Ytibnackmddigaaa
open Go.ChangeShapes Go.WideShapes Go.ChangeAt Go.RowKit
section
section
variable {P : Program} {ops : Array Oper} {Q : Exit -> Act -> World -> Prop} {md : Region.Mode} {S : World -> Prop} {cls see : Nat -> Bool}
def Jc (md:Region.Mode) (ops:Array Oper) (see:Nat->Bool) (j:Nat):Bool:=(List.range ops.size).any λi=>see i&&match ops[j]? with
 | some oj => !oj.after.any λe=>Region.binds md e&&e.on==i
 | none=>false
theorem zCe {i j:Nat} {oi oj:Oper} (hi:ops[i]?=some oi) (hj:ops[j]?=some oj) (hc:see i=true) (h:∀ e∈oj.after,Region.binds md e=true->e.on≠i):Jc md ops see j=true:=by
 refine List.any_eq_true.2 ⟨i,List.mem_range.2 (Array.getElem?_eq_some_iff.1 hi).1,?_⟩;simp only[hc,hj,Bool.true_and,Bool.not_eq_true'];refine Bool.eq_false_iff.2 λh' => ?_
 obtain ⟨e,he,he'⟩:=Array.any_eq_true'.1 h';simp only[Bool.and_eq_true,beq_iff_eq]at he';exact h e he he'.1 he'.2
def vM (P:Program) (md:Region.Mode) (ops:Array Oper) (Q:Exit->Act->World->Prop) (S:World->Prop) (cls see:Nat->Bool):Nat->Array Bool->Act->World->Prop
 | 0,listed,a,w=>Region.ready md ops listed=[]/\Q .normal a w
 | fuel+1,listed,a,w =>
  (Region.ready md ops listed=[]->Q .normal a w) /\
  ∀ i∈Region.ready md ops listed,wpOp P ops Q i (λa' w'=>(cls i=true->w'=w)/\(cls i=false->Jc md ops see i=true->S w')/\vM P md ops Q S cls see fuel (listed.setIfInBounds i true) a' w') a w
theorem qK:∀ (fuel:Nat) (listed:Array Bool) (a:Act) (w:World),vM P md ops Q S cls see fuel listed a w->wpAny P md ops Q fuel listed a w
 | 0,_,_,_,h=>h
 | fuel+1,_,_,_,h=>⟨h.1,λi hi=>wpOp_mono (λa' w' h'=>qK fuel _ a' w' h'.2.2) (h.2 i hi)⟩
theorem qW {i:Nat} {oi:Oper} {v:Value} (hi:ops[i]?=some oi) (hc:cls i=true) (hsel:∀ (j:Nat) (o:Oper) cs b,ops[j]?=some o->o.op ≠ .select cs b)
 (hQ:∀ c a w,Q (.panic c) (a.put oi.dst v) w->Q (.panic c) a w) :
 ∀ (fuel:Nat) (listed:Array Bool) (a:Act) (w:World),
  (∀ j oj,ops[j]?=some oj->j≠i->listed.getD j true=false->(∀ e∈oj.after,Region.binds md e=true->e.on≠i)->oi.apart ops oj=true) ->
  i∈Region.ready md ops listed->YieldsIf P ops (λw=>see i=true->S w) oi v a->(see i=true->S w) ->
  vM P md ops Q S cls see fuel (listed.setIfInBounds i true) (a.put oi.dst v) w->vM P md ops Q S cls see (fuel+1) listed a w:=by
 intro fuel;induction fuel with
 | zero =>
  intro listed a w _ hr hy hS H;refine ⟨λh=>(by rw[h]at hr;cases hr),λj hj => ?_⟩;by_cases hji:j=i
  ·subst hji;exact hy.wpOp hi hS ⟨λ_=>rfl,λh=>(by rw[hc]at h;cases h),H⟩
  have:=ready_mono hj hji;rw[H.1]at this;cases this
 | succ fuel ih =>
  intro listed a w hfree hr hy hS H;refine ⟨λh=>(by rw[h]at hr;cases hr),λj hj => ?_⟩;by_cases hji:j=i
  ·subst hji;exact hy.wpOp hi hS ⟨λ_=>rfl,λh=>(by rw[hc]at h;cases h),H⟩
  have h1:=H.2 j (ready_mono hj hji);obtain ⟨hjun,oj,hoj,hall⟩:=mem_ready.1 hj;have h0:=(mem_ready.1 hr).1;have hnot:∀ e∈oj.after,Region.binds md e=true->e.on≠i:=λe he hb heq=>by
   have h1:=hall e he hb;rw[heq]at h1;rcases Nat.lt_or_ge i listed.size with h'|h'
   ·simp[h']at h0 h1;rw[h0]at h1;cases h1
   simp[Array.getElem?_eq_none h']at h1
  have h2:=wpOp_putIf hoj (hfree j oj hoj hji hjun hnot) (λcs b=>hsel i oi cs b hi) (λcs b=>hsel j oj cs b hoj) hQ hy h1;have hfree':∀ k ok,ops[k]?=some ok->k≠i->(listed.setIfInBounds j true).getD k true=false ->
   (∀ e∈ok.after,Region.binds md e=true->e.on≠i)->oi.apart ops ok=true:=λk ok hk hki hun hno=>by
   refine hfree k ok hk hki ?_ hno;by_cases hjk:j=k
   ·subst hjk;exact hjun
   rw[getD_set_ne true hjk]at hun;exact hun
  refine wpOp_mono (λa' w' h3 => ?_) h2;obtain ⟨hy',hw',hS',h4⟩:=h3;have hSw:see i=true->S w':=λhs=>by
   by_cases hcj:cls j=true
   ·rw[hw' hcj];exact hS hs
   exact hS' (by simpa using hcj) (zCe hi hoj hs hnot)
  refine ⟨hw',hS',ih (listed.setIfInBounds j true) a' w' hfree' (ready_mono hr (Ne.symm hji)) hy' hSw ?_⟩;rw[Array.setIfInBounds_comm _ _ hji];exact h4
def vP (P:Program) (md:Region.Mode) (ops:Array Oper) (Q:Exit->Act->World->Prop) (S:World->Prop) (cls see:Nat->Bool):List (Nat × Oper)->Act->World->Prop
 | [],a,w=>Q .normal a w
 | (i,o)::l,a,w =>
  if cls i then ∃ v,YieldsIf P ops (λw=>see i=true->S w) o v a/\vP P md ops Q S cls see l (a.put o.dst v) w
  else wpOp P ops Q i (λa' w'=>(Jc md ops see i=true->S w')/\(l.any (λp=>see p.1)=true->S w')/\vP P md ops Q S cls see l a' w') a w
def xJ (ord:List Nat) (l:List Oper):List (Nat × Oper):=ord.filterMap λi=>(l[i]?).map λo=>(i,o)
theorem Yh {ord:List Nat} {l:List Oper}:∀ p∈xJ ord l,l.toArray[p.1]?=some p.2:=by
 intro p hp;obtain ⟨i,_,h⟩:=List.mem_filterMap.1 hp;cases hl:l[i]? with
 | none=>simp[hl]at h
 | some o=>simp[hl]at h;subst h;simpa using hl
def Qz (md:Region.Mode) (ops:Array Oper) (cls:Nat->Bool):List Nat->Array Bool->Bool
 | [],listed=>(Region.ready md ops listed).isEmpty
 | i::l,listed=>(if cls i then (Region.ready md ops listed).contains i&&Region.free md ops listed i else Region.ready md ops listed==[i])&&Qz md ops cls l (listed.setIfInBounds i true)
theorem uW (hsel:Region.noSelect ops=true) (hQ:∀ c a w,¬ Q (.panic c) a w):∀ (l:List (Nat × Oper)) (listed:Array Bool) (a:Act) (w:World),(∀ p∈l,ops[p.1]?=some p.2)->Qz md ops cls (l.map (·.1)) listed=true->(l.any (λp=>see p.1)=true->S w) ->
 vP P md ops Q S cls see l a w->vM P md ops Q S cls see l.length listed a w
 | [],listed,a,w,_,hB,hS,h=>⟨by simpa[Qz]using hB,h⟩
 | (i,o)::l,listed,a,w,hp,hB,hS,h=>by
  simp only[Qz,List.map_cons,Bool.and_eq_true]at hB;obtain ⟨hB,hl⟩:=hB;have ho:ops[i]?=some o:=hp (i,o) (by simp);have hp':∀ p∈l,ops[p.1]?=some p.2:=λp h=>hp p (by simp[h])
  unfold vP at h;by_cases hc:cls i=true
  ·simp only[hc,if_true]at h hB;obtain ⟨v,hy,h⟩:=h;simp only[Bool.and_eq_true]at hB;exact qW ho hc (Region.noSelect_spec hsel) (λc a w h=>absurd h (hQ _ _ _)) l.length listed a w (Region.free_spec ho hB.2) (by simpa using hB.1) hy (λhs=>hS (by simp[hs]))
    (uW hsel hQ l _ _ _ hp' hl (λhs=>hS (by simp only[List.any_cons,hs,Bool.or_true])) h)
  simp only[hc,Bool.false_eq_true,if_false]at h hB;have hr:Region.ready md ops listed=[i]:=by simpa using hB
  refine ⟨λh0=>(by rw[hr]at h0;cases h0),λj hj => ?_⟩;rw[hr]at hj;obtain rfl:j=i:=by simpa using hj
  exact wpOp_mono (λa' w' h'=>⟨λh=>absurd h hc,λ_=>h'.1,uW hsel hQ l _ _ _ hp' hl h'.2.1 h'.2.2⟩) h
theorem zL {id:Nat} {l:List Oper} {a:Act} {w:World} (S:World->Prop) (C D:List Nat) (ord:List Nat) {L:List (Nat × Oper)} (hm:P.follows .mixedOrders=true) (hs:Region.noSelect l.toArray=true) (hn:ord.length=l.length)
 (hB:Qz .any l.toArray (λi=>C.contains i) ord (Array.replicate l.length false)=true) (hi:(xJ ord l).map (·.1)=ord) (hS:S w.drew) (hL:xJ ord l=L)
 (h:vP P .any l.toArray (NoPanic Q) S (λi=>C.contains i) (λi=>D.contains i) L a w.drew):(Code.region id l.toArray true).wp P Q a w:=by
 subst hL;refine wp_region_noPanic (wp_region_any hm (qK _ _ _ _ (S:=S) (cls:=λi=>C.contains i) (see:=λi=>D.contains i) ?_));have:=uW (P:=P) (Q:=NoPanic Q) hs (λc a w h=>h) (xJ ord l) (Array.replicate l.length false) a w.drew Yh (by rw[hi];exact hB) (λ_=>hS) h;have e:(xJ ord l).length=l.length:=by rw[<- hn,<- hi,List.length_map,hi]
 rw[e]at this;simpa using this
theorem zH {i:Nat} {l:List (Nat × Oper)} {a:Act} {w:World} {o:Oper} {v:Value} (hc:cls i=true) (hg:Region.wanted o (yielded ops a.tmps)=true) (hv:∀ w,(see i=true->S w)->(execOp a.eval o).run P w=.ok (.value v) w)
 (h:vP P md ops Q S cls see l (a.put o.dst v) w):vP P md ops Q S cls see ((i,o)::l) a w:=by
 unfold vP;simp only[hc,if_true];exact ⟨v,.inl ⟨hg,hv⟩,h⟩
theorem zB {i:Nat} {l:List (Nat × Oper)} {a:Act} {w:World} {o:Oper} (hc:cls i=true) (hg:Region.wanted o (yielded ops a.tmps)=false)
 (h:vP P md ops Q S cls see l (a.put o.dst undef) w):vP P md ops Q S cls see ((i,o)::l) a w:=by
 unfold vP;simp only[hc,if_true];exact ⟨undef,.inr ⟨hg,rfl⟩,h⟩
def Zp (K:Act->World->Prop) (Q:Exit->Act->World->Prop):Exit->Act->World->Prop
 | .normal,a,w=>K a w
 | e,a,w=>Q e a w
theorem zA4 {i:Nat} {l:List (Nat × Oper)} {a:Act} {w:World} {o:Oper} (ho:ops[i]?=some o) (hc:cls i=false)
 (h:wpList P ops (Zp (λa' w'=>(Jc md ops see i=true->S w')/\(l.any (λp=>see p.1)=true->S w')/\vP P md ops Q S cls see l a' w') Q) [o] a w):vP P md ops Q S cls see ((i,o)::l) a w:=by
 unfold vP;simp only[hc,Bool.false_eq_true,if_false];unfold wpOp;simp only[ho];unfold wpList at h;split
 ·rename_i hw
  simp only[hw,if_true]at h;rcases h with h|⟨h1,a2,w2,h2⟩
  ·refine .inl ?_;unfold Oper.wp at h ⊢;generalize (execOp a.eval o).run P w=r at h ⊢
   cases r with
   | ok n w' =>
    cases n<;>(try simp only[Oper.upon]at h ⊢)
    case enter f args=>exact Calls.mono h λe w'' he=>by cases e<;>exact he
    case row row args=>exact Rows.mono h λu w'' he=>he
    all_goals exact h
   | halt x w' =>
    cases x<;>exact h
  exact .inr ⟨h1,a2,w2,h2⟩
 rename_i hw
 rw[if_neg hw]at h;exact h
theorem zQ {i:Nat} {l:List (Nat × Oper)} {a:Act} {w:World} {o:Oper} (ho:ops[i]?=some o) (hc:cls i=false)
 (h:∀ K:Act->World->Prop,(∀ a' w',S w'->vP P md ops Q S cls see l a' w'->K a' w')->wpList P ops (Zp K Q) [o] a w):vP P md ops Q S cls see ((i,o)::l) a w :=
 zA4 ho hc (h _ λa' w' hS h=>⟨λ_=>hS,λ_=>hS,h⟩)
theorem xR {i:Nat} {l:List (Nat × Oper)} {a:Act} {w:World} {o:Oper} (ho:ops[i]?=some o) (hc:cls i=false) (hp:Jc md ops see i=false) (hq:l.any (λp=>see p.1)=false)
 (h:∀ K:Act->World->Prop,(∀ a' w',vP P md ops Q S cls see l a' w'->K a' w')->wpList P ops (Zp K Q) [o] a w):vP P md ops Q S cls see ((i,o)::l) a w :=
 zA4 ho hc (h _ λa' w' h=>⟨λe=>(by rw[hp]at e;cases e),λe=>(by rw[hq]at e;cases e),h⟩)
theorem zT {a:Act} {w:World} (h:Q .normal a w):vP P md ops (NoPanic Q) S cls see [] a w:=h
end
theorem qT {P:Program} {f:Nat} {fn:Func} (hf:P.funcs[f]?=some fn) (hn:(fn.name== "runtime.NumGoroutine")=false) (hb:fn.body.isNone=false) (args:Array Value) (w:World):(callFunc f args).run P w=.ok (.enter f args) w:=by
 simp only[callFunc];have h1:¬ fn.name= "runtime.NumGoroutine":=by simpa using hn
 have h2:¬ fn.body=none:=by intro e;rw[e]at hb;cases hb
 simp[go_sem,hf,h1,h2]
end
section
end
section
section
variable {P : Program} {ops : Array Oper} {Q : Exit -> Act -> World -> Prop} {md : Region.Mode} {S : World -> Prop} {cls see : Nat -> Bool}
theorem Vi {i:Nat} {a:Act} {w:World} {o:Oper} {K:Act->World->Prop} (ho:ops[i]?=some o) (h:wpList P ops (Zp K Q) [o] a w):wpOp P ops Q i K a w:=by
 unfold wpOp;simp only[ho];unfold wpList at h;split
 ·rename_i hw
  simp only[hw,if_true]at h;rcases h with h|⟨h1,a2,w2,h2⟩
  ·refine .inl ?_;unfold Oper.wp at h ⊢;generalize (execOp a.eval o).run P w=r at h ⊢
   cases r with
   | ok n w' =>
    cases n<;>(try simp only[Oper.upon]at h ⊢)
    case enter f args=>exact Calls.mono h λe w'' he=>by cases e<;>exact he
    case row row args=>exact Rows.mono h λu w'' he=>he
    all_goals exact h
   | halt x w' =>
    cases x<;>exact h
  exact .inr ⟨h1,a2,w2,h2⟩
 rename_i hw
 rw[if_neg hw]at h;exact h
theorem zI {i fuel:Nat} {listed:Array Bool} {a:Act} {w:World} {o:Oper} {v:Value} (ho:ops[i]?=some o) (hc:cls i=true) (hs:Region.noSelect ops=true) (hr:(Region.ready md ops listed).contains i=true) (hf:Region.free md ops listed i=true) (hg:o.guard=none)
 (hv:∀ w,(see i=true->S w)->(execOp a.eval o).run P w=.ok (.value v) w) (hS:S w) (h:vM P md ops (NoPanic Q) S cls see fuel (listed.setIfInBounds i true) (a.put o.dst v) w):vM P md ops (NoPanic Q) S cls see (fuel+1) listed a w :=
 qW ho hc (Region.noSelect_spec hs) (λc a w h=>absurd h (λh=>h)) fuel listed a w (Region.free_spec ho hf) (by simpa using hr) (.inl ⟨by simp[Region.wanted,hg],hv⟩) (λ_=>hS) h
def jP (P:Program) (md:Region.Mode) (ops:Array Oper) (Q:Exit->Act->World->Prop) (S:World->Prop) (cls see:Nat->Bool) (fuel:Nat) (listed:Array Bool) (a:Act) (w:World) (i:Nat):Prop :=
 ∃ o,ops[i]?=some o/\∀ K:Act->World->Prop,(∀ a' w',S w'->vM P md ops (NoPanic Q) S cls see fuel (listed.setIfInBounds i true) a' w'->K a' w')->wpList P ops (Zp K (NoPanic Q)) [o] a w
theorem jP.go {fuel:Nat} {listed:Array Bool} {a:Act} {w:World} {i:Nat} (h:jP P md ops Q S cls see fuel listed a w i) (hc:cls i=false):wpOp P ops (NoPanic Q) i (λa' w'=>(cls i=true->w'=w)/\(cls i=false->Jc md ops see i=true->S w')/\vM P md ops (NoPanic Q) S cls see fuel (listed.setIfInBounds i true) a' w') a w:=by
 obtain ⟨o,ho,h⟩:=h;exact Vi ho (h _ λa' w' hS h'=>⟨λe=>(by rw[hc]at e;cases e),λ_ _=>hS,h'⟩)
theorem zR {i fuel:Nat} {listed:Array Bool} {a:Act} {w:World} (hr:Region.ready md ops listed=[i]) (hi:cls i=false) (h1:jP P md ops Q S cls see fuel listed a w i):vM P md ops (NoPanic Q) S cls see (fuel+1) listed a w:=by
 refine ⟨λe=>(by rw[hr]at e;cases e),λj hj => ?_⟩;rw[hr]at hj;obtain rfl:j=i:=by simpa using hj
 exact h1.go hi
theorem yZ {i k fuel:Nat} {listed:Array Bool} {a:Act} {w:World} (hr:Region.ready md ops listed=[i,k]) (hi:cls i=false) (hk:cls k=false) (h1:jP P md ops Q S cls see fuel listed a w i) (h2:jP P md ops Q S cls see fuel listed a w k):vM P md ops (NoPanic Q) S cls see (fuel+1) listed a w:=by
 refine ⟨λe=>(by rw[hr]at e;cases e),λj hj => ?_⟩;rw[hr]at hj;simp only[List.mem_cons,List.not_mem_nil,or_false]at hj;rcases hj with rfl|rfl
 ·exact h1.go hi
 exact h2.go hk
theorem mF {i k m fuel:Nat} {listed:Array Bool} {a:Act} {w:World} (hr:Region.ready md ops listed=[i,k,m]) (hi:cls i=false) (hk:cls k=false) (hm:cls m=false) (h1:jP P md ops Q S cls see fuel listed a w i) (h2:jP P md ops Q S cls see fuel listed a w k) (h3:jP P md ops Q S cls see fuel listed a w m):vM P md ops (NoPanic Q) S cls see (fuel+1) listed a w:=by
 refine ⟨λe=>(by rw[hr]at e;cases e),λj hj => ?_⟩;rw[hr]at hj;simp only[List.mem_cons,List.not_mem_nil,or_false]at hj;rcases hj with rfl|rfl|rfl
 ·exact h1.go hi
 ·exact h2.go hk
 exact h3.go hm
theorem yC {listed:Array Bool} {a:Act} {w:World} (hr:Region.ready md ops listed=[]) (h:Q .normal a w):vM P md ops (NoPanic Q) S cls see 0 listed a w:=⟨hr,h⟩
theorem xY {id:Nat} {l:List Oper} {a:Act} {w:World} (S:World->Prop) (C D:List Nat) (n:Nat) (hm:P.follows .mixedOrders=true) (hn:l.length=n)
 (h:vM P .any l.toArray (NoPanic Q) S (λi=>C.contains i) (λi=>D.contains i) n (Array.replicate n false) a w.drew):(Code.region id l.toArray true).wp P Q a w:=by
 refine wp_region_noPanic (wp_region_any hm (qK _ _ _ _ (S:=S) (cls:=λi=>C.contains i) (see:=λi=>D.contains i) ?_));subst hn;simpa using h
end
end
end Go.Proofs.Ytibnackmddigaaa
