/- THE LAW SpinRings: the rings of any plan are the document's. No condition: whatever the plan is. -/
import Derived.Test.YtibnackmddigaaaRows
import Derived.Test.YtibnackmddigaaaWideA
import Derived.Test.YtibnackmddigaaaSpnW
import Derived.Test.YtibnackmddigaaaSpnX
import Derived.Test.YtibnackmddigaaaSpnJ
import Derived.Test.YtibnackmddigaaaSpnAct
import Derived.Test.YtibnackmddigaaaPlnU
import Derived.WalkKit
import Derived.ProofKit
import Derived.OpenShut
import Derived.ShutString
import Derived.ChangeOld
import Derived.Below
import Derived.SliceStrings
namespace Go.Proofs.Ytibnackmddigaaa.spinRings
open Go.ChangeShapes Go.WideShapes Go.ChangeAt Go.RowKit
open Go.ChangeMaps (open_string shut_string)
set_option linter.unusedVariables false
open Pl
set_option maxRecDepth 10000
set_option maxHeartbeats 4000000
theorem rg_short {vs : List Vx} {es : List Eg} (hE : FlE vs es) : ∀ r ∈ rg vs es, r.length ≤ 2 * es.length := fun r hr => by
  rw [← (Xs hE).2.1]
  exact (List.sublist_flatten_of_mem hr).length_le
theorem pl_same {A B : List (Value × List Hf)} {R : List (List Hf)} (ha : A.map (·.2) = R) (hb : B.map (·.2) = R) {k : Nat} (h1 : k < A.length) (h2 : k < B.length) : (A[k]'h1).2 = (B[k]'h2).2 := by
  have e1 : (A.map (·.2))[k]? = some (A[k]'h1).2 := by simp [List.getElem?_eq_getElem h1]
  have e2 : (B.map (·.2))[k]? = some (B[k]'h2).2 := by simp [List.getElem?_eq_getElem h2]
  rw [ha] at e1
  rw [hb, e1] at e2
  exact Option.some.inj e2
theorem own : ownKnob Try.prog.godebug = none := by kernel_rfl
theorem laidOut : laidOutB Try.prog = true := by kernel_rfl
theorem walk (v e:Value) (vs:List Pl.Vx) (es:List Pl.Eg) (w:World) (hv:Pl.VIn w v vs) (he:Pl.EIn w e es) :
 Calls Try.prog 6 #[.agg #[v,e]] w λe w'=>e=.returned (.bool true)∧Below w.heap.size w w':=by
 have FW:=Lh (λ(W:World) (hW:Below w.heap.size w W)=>Qr (TIn.below hv hW) (TIn.below he hW));have PL:=Lh (λ(W:World) (hW:Below w.heap.size w W)=>mE (TIn.below hv hW) (TIn.below he hW));have AW:=Lh fO;cases hf:Ye vs es with
 | false =>
  rw[hf]at FW;obtain ⟨a,c,rfl⟩:=hv.sl;obtain ⟨a',c',rfl⟩:=he.sl;have BB:=Lh (bx1 w 25 #[.slice a vs.length c,.slice a' es.length c']);have PO:=Lh (Own.made w 25 #[.slice a vs.length c,.slice a' es.length c']);clear hf hv he PL;generalize vs.length=n at *
  generalize es.length=m at *
  go_enter Try.func6,Try.ntmps6;go_wp2_with (first
   | (go_at_call 8;refine (AW.out _).mono ?_;rintro e w3 ⟨rfl,b3⟩;have B3:=Lh (zF B2.out b3 B2.out.size);clear b3)
   | (go_at_call 9;refine (FW.out _ BB.out).mono ?_;rintro e w2 ⟨rfl,b2⟩;have B2:=Lh (zF BB.out b2 BB.out.size);clear b2))
  go_ret;exact ⟨rfl,B3.out⟩
 | true =>
  obtain ⟨n40,m40⟩:=Qs hf;rw[hf]at FW;have RG:=Lh (λ(W:World) (hW:Below w.heap.size w W)=>mN (TIn.below hv hW) (TIn.below he hW) (by omega) (by omega));have RR:=Lh (λ(W:World) (hW:Below w.heap.size w W)=>mC (TIn.below hv hW) (TIn.below he hW) (by omega) (by omega));by_cases hr:Rt vs es
  ·rw[uG.2 hr]at RR;rw[(xM hr).1,(xM hr).2]at RG;have RM:=Lh (λ(W:World) (hW:Below w.heap.size w W)=>Ut (TIn.below hv hW) (TIn.below he hW) (uE.1 hr).1 (uE.1 hr).2 (by omega) (by omega));rw[zDn (uE.1 hr).2]at RM;have LN:Hid (∀ r∈rg vs es,r.length≤100000):=Lh λr hx=>by have:=rg_short (uE.1 hr).2 r hx;omega
   have LR:Hid ((rg vs es).length≤100000):=Lh (by
    have h1:∀ L:List (List Hf),(∀ r∈L,0<r.length)→L.length≤L.flatten.length:=by
     intro L;induction L with
     | nil=>intro _;simp
     | cons r L ih =>
      intro h;have:=h r (List.mem_cons_self ..);have:=ih λs hs=>h s (List.mem_cons_of_mem _ hs)
      simp only[List.length_cons,List.flatten_cons,List.length_append];omega
    have h2:=Xs (uE.1 hr).2;have:=h1 _ λr hx=>(h2.2.2.2.1 r hx).ne
    have:=h2.2.1;omega)
   have SM:=Lh (λ(W:World) (x y:Value) (L M:List Hf) (hx:HIn W x L) (hy:HIn W y M) (h1:L.length≤100000) (h2:M.length≤100000)=>mK hx hy h1 h2);obtain ⟨a,c,rfl⟩:=hv.sl;obtain ⟨a',c',rfl⟩:=he.sl;have BB:=Lh (bx1 w 25 #[.slice a vs.length c,.slice a' es.length c']);have PO:=Lh (Own.made w 25 #[.slice a vs.length c,.slice a' es.length c']);clear hf hv he n40 m40 hr;generalize rg vs es=R at *
   generalize vs.length=n0 at *
   generalize es.length=m0 at *
   go_enter Try.func6,Try.ntmps6;obtain ⟨p1,p2⟩:=zM PO.out;go_upto_region 3 with (go_at_call 9;refine (FW.out _ BB.out).mono ?_;rintro e w2 ⟨rfl,b2⟩;have B2:=Lh (zF BB.out b2 BB.out.size);have P2:=Lh (PO.out.keep b2);clear b2)
   clear p1 p2;obtain ⟨p1,p2⟩:=zM P2.out;go_upto_region 4 with (first
    | (go_at_call 10;refine (RG.out _ B3.out).mono ?_;rintro e w4 ⟨u,LA,rfl,ra,ea,b4⟩;have HA:=Lh ra;have EA:=Lh ea;have B4:=Lh (zF B3.out b4 B3.out.size);have P4:=Lh (P3.out.keep b4);clear ra ea b4)
    | (go_at_call 11;refine (PL.out _ B2.out).mono ?_;rintro e w3 ⟨rfl,b3⟩;have B3:=Lh (zF B2.out b3 B2.out.size);have P3:=Lh (P2.out.keep b3);clear b3))
   clear p1 p2;obtain ⟨p1,p2⟩:=zM P4.out;go_upto_region 6 with (go_at_call 19;refine (RR.out _ B4.out).mono ?_;rintro e w5 ⟨rfl,b5⟩;have B5:=Lh (zF B4.out b5 B4.out.size);have P5:=Lh (P4.out.keep b5);have HA5:=Lh (HA.out.below b5);clear b5)
   clear p1 p2;obtain ⟨p1,p2⟩:=zM P5.out;obtain ⟨aa,ca,hsh,-,-⟩:=HA5.out.shape;subst hsh;go_upto_region 7 with (go_at_call 25;refine (RM.out _ B5.out).mono ?_;rintro e w6 ⟨u2,LB,rfl,rb,eb,b6⟩;have HB:=Lh rb;have EB:=Lh eb;have B6:=Lh (zF B5.out b6 B5.out.size);have HA6:=Lh (HA5.out.below b6);clear rb eb b6)
   clear p1 p2;obtain ⟨ab,cb,hsh,-,-⟩:=HB.out.shape;subst hsh;have NA:Hid (LA.length=R.length):=Lh (by have:=congrArg List.length EA.out;simpa using this);have NB:Hid (LB.length=R.length):=Lh (by have:=congrArg List.length EB.out;simpa using this);obtain ⟨n,hn⟩:∃ n,n=R.length:=⟨_,rfl⟩
   rw[← hn]at NA NB LR;rw[NA.out,NB.out];rw[NA.out]at HA6;rw[NB.out]at HB;have hnb:n≤100000:=LR.out;clear hn FW PL RG RR RM HA HA5 B2 B3 B4 B5 P2 P3 P4 P5 PO BB;go_upto_region 10 with fail;go_loopw [5] (λj wr=>∃ k:Nat,k≤n∧j=.int .i64 (k:Int)∧Hid (Below w6.heap.size w6 wr)) (λj wr=>n - (intOf j).toNat)
   case atStart=>exact ⟨0,by omega,rfl,Lh (Below.refl _ _)⟩
   case round =>
    obtain ⟨k,hk,rfl,HW⟩:=hrel;by_cases hlt:k<n
    ·have hki:(k:Int)<(n:Int):=by omega
     have h1:k<LA.length:=by rw[NA.out];exact hlt
     have h2:k<LB.length:=by rw[NB.out];exact hlt
     obtain ⟨ga,ea,ha,c1,o1⟩:=(HA6.out.below HW.out).cell h1;obtain ⟨gb,eb,hb,c2,o2⟩:=(HB.out.below HW.out).cell h2;subst ea eb;have EQ:Hid ((LA[k]'h1).2=(LB[k]'h2).2):=Lh (pl_same EA.out EB.out h1 h2);have LE:Hid ((LA[k]'h1).2.length≤100000):=Lh (LN.out _ (by rw[← EA.out];exact List.mem_map_of_mem (List.getElem_mem h1)));obtain ⟨xa,hxa⟩:∃ xa,xa=LA[k]'h1:=⟨_,rfl⟩
     obtain ⟨xb,hxb⟩:∃ xb,xb=LB[k]'h2:=⟨_,rfl⟩
     rw[← hxa]at c1 o1 EQ LE;rw[← hxb]at c2 o2 EQ;clear hxa hxb h1 h2;have SS:Hid (∀ W,Below wr.heap.size wr W→Calls Try.prog 26 #[xa.1,xb.1] W λe w'=>e=.returned (.bool true)∧Below W.heap.size W w'):=Lh λW hW=>by
      have:=SM.out W xa.1 xb.1 xa.2 xb.2 (o1.below hW).in_ (o2.below hW).in_ LE.out (by rw[← EQ.out];exact LE.out);rwa [decide_eq_true EQ.out]at this
     clear EQ LE o1 o2;obtain ⟨va,la⟩:=xa;obtain ⟨vb,lb⟩:=xb;simp only at c1 c2 SS;go_upto_region 12 with fail;refine zL (λW=>Below wr.heap.size wr W) (0::1::2::3::4::5::6::7::9::[]) (3::7::[]) (0::1::2::3::4::5::6::7::8::9::[]) (by kernel_rfl) (by kernel_rfl) rfl (by kernel_rfl) rfl ((Below.refl _ _).drew) (by simp only[xJ,List.filterMap_cons,List.filterMap_nil,List.getElem?_cons_zero,List.getElem?_cons_succ,Option.map_some];exact rfl) ?_;iterate 8
      refine zH (v := ?_) rfl rfl (λW hS => ?_) ?_;rotate_left
      ·first
        | (
         conv=>lhs;simp[go_sem,hki]
         first|done|exact rfl)
        | (
         have hS:=hS rfl;have d1:=keep hS c1;have d2:=keep hS c2;conv=>lhs;simp[go_sem, *,hki]
         first|done|exact rfl)
      simp only[Act.put,lA,lZ,lS]
     refine zQ rfl rfl λK hK => ?_
     go_wp2_with (go_at_call 26;refine (SS.out _ (Below.refl _ _).drew).mono ?_;rintro e w2 ⟨rfl,b2⟩)
     have Z5:=Lh (zF (Below.refl _ _).drew b2 (Nat.le_refl _));clear b2;refine hK _ _ (Z5.out) ?_;clear hK K;iterate 1
      refine zH (v := ?_) rfl rfl (λW hS => ?_) ?_;rotate_left
      ·first
        | (
         conv=>lhs;simp[go_sem,hki]
         first|done|exact rfl)
        | (
         have hS:=hS rfl;have d1:=keep hS c1;have d2:=keep hS c2;conv=>lhs;simp[go_sem, *,hki]
         first|done|exact rfl)
      simp only[Act.put,lA,lZ,lS]
     refine zT ?_;have Z6:=Lh (zF HW.out Z5.out HW.out.size);clear c1 c2 Z5;go_wp2;go_roundw
     case rel=>exact ⟨k+1,by omega,by go_num,Z6⟩
     case measure=>simp[intOf]<;>omega
    obtain rfl:k=n:=by omega
    have BZ:=Lh (zF B6.out HW.out B6.out.size);go_wp2_with (go_at_call 8;refine (AW.out _).mono ?_;rintro e w9 ⟨rfl,b9⟩;have B9:=Lh (zF BZ.out b9 BZ.out.size);clear b9)
    go_ret;exact ⟨rfl,B9.out⟩
  rw[jZ hr]at RR;rw[(qG hr).1,(qG hr).2]at RG;have LN:rg [] []=[]:=rfl;rw[LN]at RG;obtain ⟨a,c,rfl⟩:=hv.sl;obtain ⟨a',c',rfl⟩:=he.sl;have BB:=Lh (bx1 w 25 #[.slice a vs.length c,.slice a' es.length c']);have PO:=Lh (Own.made w 25 #[.slice a vs.length c,.slice a' es.length c']);clear hf hv he n40 m40 hr LN;generalize vs.length=n at *
  generalize es.length=m at *
  go_enter Try.func6,Try.ntmps6;obtain ⟨p1,p2⟩:=zM PO.out;go_upto_region 3 with (go_at_call 9;refine (FW.out _ BB.out).mono ?_;rintro e w2 ⟨rfl,b2⟩;have B2:=Lh (zF BB.out b2 BB.out.size);have P2:=Lh (PO.out.keep b2);clear b2)
  clear p1 p2;obtain ⟨p1,p2⟩:=zM P2.out;go_upto_region 4 with (first
   | (go_at_call 10;refine (RG.out _ B3.out).mono ?_;rintro e w4 ⟨u,LA,rfl,ra,ea,b4⟩;have HA:=Lh ra;have EA:=Lh ea;have B4:=Lh (zF B3.out b4 B3.out.size);have P4:=Lh (P3.out.keep b4);clear ra ea b4)
   | (go_at_call 11;refine (PL.out _ B2.out).mono ?_;rintro e w3 ⟨rfl,b3⟩;have B3:=Lh (zF B2.out b3 B2.out.size);have P3:=Lh (P2.out.keep b3);clear b3))
  clear p1 p2;obtain ⟨p1,p2⟩:=zM P4.out;obtain ⟨a9,c9,hsh,-,-⟩:=HA.out.shape;have LA0:LA.length=0:=by have:=congrArg List.length EA.out;simpa using this
  rw[LA0]at hsh;subst hsh;clear HA EA LA0;go_upto_region 5 with (go_at_call 19;refine (RR.out _ B4.out).mono ?_;rintro e w5 ⟨rfl,b5⟩;have B5:=Lh (zF B4.out b5 B4.out.size);clear b5)
  clear p1 p2;go_wp2_with (go_at_call 8;refine (AW.out _).mono ?_;rintro e w6 ⟨rfl,b6⟩;have B6:=Lh (zF B5.out b6 B5.out.size);clear b6)
  go_ret;exact ⟨rfl,B6.out⟩
set_option maxRecDepth 100000 in
theorem lifted (os : Os) (started : os.Started) (H : Type) (enc : TypeId × Value → H) :
    ReturnsInHanded {} Try.checked os 6 .any (Rows.spinRingsSpec.pre6 enc Try.prog Try.f6 Rows.spinRingsRow.domain false) (Rows.spinRingsSpec.post enc Try.prog Try.f6 false true false false) := by
  refine returnsInHanded_of_change (C := Try.checked) own started (by kernel_rfl) Try.func6
    (ChangeSpec.witness6 (enc := enc) (C := Try.checked) false ⟨#[], #[.agg #[.slice none 0 0, .slice none 0 0]], []⟩ 8 (by kernel_rfl) (by kernel_rfl) (by kernel_rfl) (by kernel_rfl)) ?_
  intro W base args ds gs before hval0 hW hcnd _
  have hval : ∀ (j : Nat) t v, Try.f6.params[j]? = some t → args[j]? = some v → Value.okWide Try.prog W .any base t v := hval0
  have hW' := hW
  obtain ⟨p, q, hA0, hV, rfl, hfz, hnd⟩ := hW
  have hA : DataW.TrodAll enc Try.prog W 0 (fun _ => true) true Try.f6.params.toList args.toList ds p := hA0
  rw [Try.params6] at hA hval
  obtain ⟨v0, vs0, d0, ds0, p0, q0, hargs, rfl, rfl, h0, r0⟩ := trodAll_cons hA
  obtain ⟨rfl, rfl, rfl⟩ := trodAll_nil r0
  obtain rfl : args = #[v0] := by cases args; simp_all
  obtain ⟨rfl, rfl⟩ := trodVars_none hV
  have k0 := h0
  have lt0 : ∀ x ∈ p0, x.block < W.heap.size := by obtain ⟨m, hm⟩ := k0; exact DataW.trod_lt m _ _ _ hm
  obtain ⟨v, e, vs, es, rfl, hv, he⟩ := Pl.open_plan (hval 0 25 v0 rfl rfl) h0
  clear hA0 hval0
  refine (walk v e vs es W hv he).mono fun e W' ⟨he, bel⟩ => ?_
  subst he
  exact ⟨_, rfl, _, _, _, [], _, [], hW', trodAll_mk1 (shut_bool Try.underlying4 _), (trodAll_cons_mk (Below.trod laidOut (by kernel_rfl) (of_decide_eq_true (by kernel_rfl)) k0 bel lt0) trodAll_mk0), rfl, bel.frame _, fun h => by cases h⟩
theorem over : Rows.spinRingsRow.holds Try.pinned (OpenSpec.ofChange Rows.spinRingsSpec) :=
  OpenClaim.holds_of_wide 6 Try.f6 rfl rfl rfl rfl rfl rfl rfl ⟨rfl, rfl, rfl, rfl, rfl⟩ rfl rfl rfl rfl rfl (by kernel_rfl) Try.func6 (by kernel_rfl)
    (of_decide_eq_true (by kernel_rfl)) (by unfold Func.isWrapper; first | (rw [if_pos (by decide +kernel)]; kernel_rfl) | (rw [if_neg (by decide +kernel)]; exact ⟨rfl, rfl⟩))
    (fun os started H enc _ => lifted os started H enc)
/-- THE STATEMENT -/
theorem proved : Rows.SpinRingsSaid := over
#print axioms proved
end Go.Proofs.Ytibnackmddigaaa.spinRings
