import Derived.Lib.BitFns
import Derived.Laws.BitsAllLaws
import Derived.Laws.Bits64b
import Derived.RowKit
import Derived.Test.YtibnackmddigaaaRows
import Derived.WalkKit
import Derived.ProofKit
import Derived.OpenShut
import Derived.Lib.Hide
import Derived.PlainAid
import Derived.ChangeSame
import Derived.MakeChecks
import Derived.Laws.IdiomStrings
import Derived.Below
import Derived.Laws.Rows
import Derived.Laws.OwnMore
import Derived.Deep.Draws
import Derived.WalkSpells
import Derived.Shelf.Spec.BitsCarry
import Derived.Deep.RegionHeld3
import Derived.Handy
import Derived.Deep.QuietTactic
import Derived.BigQuiet
set_option linter.unusedVariables false
set_option linter.unusedSimpArgs false
set_option linter.unusedSectionVars false
section
namespace Go.Proofs.Ytibnackmddigaaa
theorem Lh {p:Prop} (h:p):Go.RowKit.Hid p:=h
theorem lA {α:Type _} (l:List α) (i:Nat) (a:α):l.toArray.setIfInBounds i a=(l.set i a).toArray:=List.setIfInBounds_toArray l i a
theorem lZ {α:Type _} {x:α} {xs:List α} {a:α}:(x::xs).set 0 a=a::xs:=rfl
theorem lS {α:Type _} {x:α} {xs:List α} {i:Nat} {a:α}:(x::xs).set (i+1) a=x::xs.set i a:=rfl
def L0 (z:Int):Int:=z % 18446744073709551616
def L1 (z:Int):Int:=z / 18446744073709551616 % 18446744073709551616
def L2 (z:Int):Int:=z / 18446744073709551616 / 18446744073709551616 % 18446744073709551616
def L3 (z:Int):Int:=z / 18446744073709551616 / 18446744073709551616 / 18446744073709551616 % 18446744073709551616
structure W4 (x0 x1 x2 x3:Int):Prop where
 a0:0<=x0
 b0:x0<=18446744073709551615
 a1:0<=x1
 b1:x1<=18446744073709551615
 a2:0<=x2
 b2:x2<=18446744073709551615
 a3:0<=x3
 b3:x3<=18446744073709551615
theorem W4.of (z:Int):W4 (L0 z) (L1 z) (L2 z) (L3 z):=by
 unfold L0 L1 L2 L3;constructor<;>omega
def mA (x0 x1 x2 x3:Int):Int:=x0+18446744073709551616*(x1+18446744073709551616*(x2+18446744073709551616*x3))
theorem Zq (z:Int):mA (L0 z) (L1 z) (L2 z) (L3 z)=z % 115792089237316195423570985008687907853269984665640564039457584007913129639936:=by
 unfold mA L0 L1 L2 L3;omega
theorem Yz {x0 x1 x2 x3:Int} (h:W4 x0 x1 x2 x3):L0 (mA x0 x1 x2 x3)=x0/\L1 (mA x0 x1 x2 x3)=x1/\L2 (mA x0 x1 x2 x3)=x2/\L3 (mA x0 x1 x2 x3)=x3:=by
 obtain ⟨_,_,_,_,_,_,_,_⟩:=h;unfold mA L0 L1 L2 L3;omega
theorem L_sub {a b a0 a1 a2 a3 b0 b1 b2 b3:Int} (hA:a0=L0 a/\a1=L1 a/\a2=L2 a/\a3=L3 a) (hB:b0=L0 b/\b1=L1 b/\b2=L2 b/\b3=L3 b) :
 (a0 - b0) % 18446744073709551616=L0 (a - b) /\
 (a1 - b1 - -((a0 - b0) / 18446744073709551616)) % 18446744073709551616=L1 (a - b) /\
 (a2 - b2 - -((a1 - b1 - -((a0 - b0) / 18446744073709551616)) / 18446744073709551616)) % 18446744073709551616=L2 (a - b) /\
 (a3 - b3 - -((a2 - b2 - -((a1 - b1 - -((a0 - b0) / 18446744073709551616)) / 18446744073709551616)) / 18446744073709551616)) % 18446744073709551616=L3 (a - b):=by
 unfold L0 L1 L2 L3 at *;omega
theorem zC6 (x y r:Nat) (hx:x % 2 ^ r=0) (hy:y<2 ^ r):x ||| y=x+y:=by
 obtain ⟨q,rfl⟩:∃ q,x=q*2 ^ r:=⟨x / 2 ^ r,by have:=Nat.div_add_mod x (2 ^ r);rw[hx,Nat.mul_comm]at this;omega⟩
 have:=Nat.shiftLeft_add_eq_or_of_lt hy q;rw[Nat.shiftLeft_eq]at this;exact this.symm
theorem Uk (x y:Int) (r:Nat) (h0:0<=x) (h1:x<=18446744073709551615) (h2:0<=y) (h3:y<2 ^ r) (h4:y<=18446744073709551615) (hx:x % 2 ^ r=0):bits .or .u64 x y=x+y:=by
 obtain ⟨x,rfl⟩:=Int.eq_ofNat_of_zero_le h0;obtain ⟨y,rfl⟩:=Int.eq_ofNat_of_zero_le h2;have e:((2:Int) ^ r)=((2 ^ r:Nat):Int):=by push_cast;rfl
 rw[e]at h3 hx;refine (u64_or_nat x y (by omega) (by omega)).trans ?_;rw[zC6 x y r (by exact_mod_cast hx) (by omega)];push_cast
 rfl
theorem zDr (a b:Int) (h0:0<=a) (h1:a<=18446744073709551615) (h2:0<=b) (h3:b<=18446744073709551615) :
 bits BinOp.or IntKind.u64 (IntKind.u64.wrap (IntKind.u64.wrap (IntKind.u64.wrap (a % 4294967296*(b / 4294967296))+IntKind.u64.wrap (IntKind.u64.wrap (a / 4294967296*(b % 4294967296))+IntKind.u64.wrap (a % 4294967296*(b % 4294967296)) / 4294967296) % 4294967296)*4294967296)) (IntKind.u64.wrap (a % 4294967296*(b % 4294967296)) % 4294967296)=a*b % 18446744073709551616 /\
 IntKind.u64.wrap (IntKind.u64.wrap (IntKind.u64.wrap (a / 4294967296*(b / 4294967296))+IntKind.u64.wrap (IntKind.u64.wrap (a / 4294967296*(b % 4294967296))+IntKind.u64.wrap (a % 4294967296*(b % 4294967296)) / 4294967296) / 4294967296)+IntKind.u64.wrap (IntKind.u64.wrap (a % 4294967296*(b / 4294967296))+IntKind.u64.wrap (IntKind.u64.wrap (a / 4294967296*(b % 4294967296))+IntKind.u64.wrap (a % 4294967296*(b % 4294967296)) / 4294967296) % 4294967296) / 4294967296)=a*b / 18446744073709551616:=by
 have mh:∀ x y:Int,0<=x->x<=4294967295->0<=y->y<=4294967295->0<=x*y/\x*y<=18446744065119617025:=λx y h0 h1 h2 h3=>by
  refine ⟨Int.mul_nonneg h0 h2,?_⟩;have:=Int.mul_le_mul h1 h3 h2 (by omega:(0:Int)<=4294967295);omega
 have ll:=mh (a % 4294967296) (b % 4294967296) (by omega) (by omega) (by omega) (by omega);have lh:=mh (a % 4294967296) (b / 4294967296) (by omega) (by omega) (by omega) (by omega);have hl:=mh (a / 4294967296) (b % 4294967296) (by omega) (by omega) (by omega) (by omega);have hh:=mh (a / 4294967296) (b / 4294967296) (by omega) (by omega) (by omega) (by omega);have e:a*b=(a / 4294967296*(b / 4294967296))*18446744073709551616+(a / 4294967296*(b % 4294967296)+a % 4294967296*(b / 4294967296))*4294967296+a % 4294967296*(b % 4294967296):=by
  have ea:a=a / 4294967296*4294967296+a % 4294967296:=by omega
  have eb:b=b / 4294967296*4294967296+b % 4294967296:=by omega
  generalize a / 4294967296=ah at *
  generalize a % 4294967296=al at *
  generalize b / 4294967296=bh at *
  generalize b % 4294967296=bl at *
  rw[ea,eb];simp only[Int.add_mul,Int.mul_add];have r1:ah*4294967296*(bh*4294967296)=ah*bh*18446744073709551616:=by
   rw[Int.mul_assoc,Int.mul_left_comm 4294967296 bh,<- Int.mul_assoc ah bh,show (4294967296:Int)*4294967296=18446744073709551616 from rfl]
  have r2:ah*4294967296*bl=ah*bl*4294967296:=by rw[Int.mul_right_comm]
  have r3:al*(bh*4294967296)=al*bh*4294967296:=by rw[Int.mul_assoc]
  omega
 rw[e];generalize a % 4294967296*(b % 4294967296)=p at *
 generalize a % 4294967296*(b / 4294967296)=q at *
 generalize a / 4294967296*(b % 4294967296)=r at *
 generalize a / 4294967296*(b / 4294967296)=t at *
 simp only[IntKind.wrap_u64];constructor
 ·rw[Uk _ _ 32 (by omega) (by omega) (by omega) (by omega) (by omega) (by omega)];omega
 omega
def ngB (z:Int):Bool:=decide (9223372036854775808<=L3 z)
theorem zBh (z:Int):ngB z=true↔57896044618658097711785492504343953926634992332820282019728792003956564819968<=z % 115792089237316195423570985008687907853269984665640564039457584007913129639936:=by
 unfold ngB L3;rw[decide_eq_true_eq];omega
structure Fit (z:Int):Prop where
 lo : -57896044618658097711785492504343953926634992332820282019728792003956564819968<=z
 hi:z<=57896044618658097711785492504343953926634992332820282019728792003956564819967
theorem Jr {z:Int} (h:Fit z):ngB z=decide (z<0):=by
 obtain ⟨_,_⟩:=h;rw[Bool.eq_iff_iff,zBh,decide_eq_true_eq];omega
structure Siz (z:Int):Prop where
 lo:0<=z
 hi:z<=115792089237316195423570985008687907853269984665640564039457584007913129639935
theorem zCm {a b:Int} (h0:L0 a=L0 b) (h1:L1 a=L1 b) (h2:L2 a=L2 b) (h3:L3 a=L3 b):a % 115792089237316195423570985008687907853269984665640564039457584007913129639936=b % 115792089237316195423570985008687907853269984665640564039457584007913129639936:=by
 rw[<- Zq,<- Zq,h0,h1,h2,h3]
theorem Fit.inj {a b:Int} (ha:Fit a) (hb:Fit b) (h0:L0 a=L0 b) (h1:L1 a=L1 b) (h2:L2 a=L2 b) (h3:L3 a=L3 b):a=b:=by
 have:=zCm h0 h1 h2 h3;obtain ⟨_,_⟩:=ha;obtain ⟨_,_⟩:=hb;omega
theorem Siz.inj {a b:Int} (ha:Siz a) (hb:Siz b) (h0:L0 a=L0 b) (h1:L1 a=L1 b) (h2:L2 a=L2 b) (h3:L3 a=L3 b):a=b:=by
 have:=zCm h0 h1 h2 h3;obtain ⟨_,_⟩:=ha;obtain ⟨_,_⟩:=hb;omega
end Go.Proofs.Ytibnackmddigaaa
end
section
namespace Go.Proofs.Ytibnackmddigaaa
open Go.ChangeShapes Go.WideShapes Go.ChangeAt Go.RowKit
theorem yB {k:IntKind} {a b:Int} (h:a=b):Ending.returned (.int k a)=.returned (.int k b):=by rw[h]
theorem zP {a b:Bool} (h:a=b):Ending.returned (.bool a)=.returned (.bool b):=by rw[h]
theorem jX {w:World} {b o:Nat} {v:Value} (h:w.cell? ⟨b,o,none⟩=some v):b<w.heap.size:=by
 unfold World.cell? at h;by_cases hb:b<w.heap.size
 ·exact hb
 have:w.heap[b]?=none:=by simp;omega
 simp[this]at h
end Go.Proofs.Ytibnackmddigaaa
end
section
namespace Go.Proofs.Ytibnackmddigaaa
open Go.ChangeShapes Go.WideShapes Go.ChangeAt Go.RowKit
set_option maxRecDepth 20000
section
variable {H : Type} {enc : TypeId × Value -> H} {W : World} {base : Nat} {spare : Nat -> Bool} {held : Bool}
end
end Go.Proofs.Ytibnackmddigaaa
end
section
namespace Go.Proofs.Ytibnackmddigaaa
open Go.ChangeShapes Go.WideShapes Go.ChangeAt Go.RowKit
structure uT (w:World) (b:Nat) (L:List UInt8):Prop where
 cell:∀ j (h:j<L.length),w.cell? ⟨b,j,none⟩=some (.int .u8 ((L[j]'h).toNat:Int))
 free:∀ j,j<L.length->w.frozen? ⟨b,j,none⟩=false
theorem uT.store {w:World} {b:Nat} {L:List UInt8} (h:uT w b L) (i:Nat) (hi:i<L.length) (v:UInt8):uT (w.setCell ⟨b,i,none⟩ (.int .u8 (v.toNat:Int))) b (L.set i v):=by
 refine ⟨λj hj => ?_,λj hj => ?_⟩
 ·rw[List.length_set]at hj;by_cases hij:i=j
  ·subst hij;rw[List.getElem_set_self];exact World.cell?_setCell_same w _ _ (h.cell i hi)
  rw[List.getElem_set_ne hij,World.cell?_setCell_other _ _ _ _ (by intro e;injection e with _ e2;exact hij e2)];exact h.cell j hj
 rw[List.length_set]at hj;rw[World.frozen?_setCell];exact h.free j hj
end Go.Proofs.Ytibnackmddigaaa
end
section
namespace Go.Proofs.Ytibnackmddigaaa
open Go.ChangeShapes Go.WideShapes Go.ChangeAt Go.RowKit
def Own (w:World) (p:Nat) (T:TypeId) (cs:Array Value):Prop:=w.heap[p]?=some (.cells cs T (0,0))
theorem Own.in_ {w:World} {p:Nat} {T:TypeId} {cs:Array Value} (h:Own w p T cs):p<w.heap.size:=by
 by_cases hp:p<w.heap.size
 ·exact hp
 unfold Own at h;rw[Array.getElem?_eq_none (by omega)]at h;cases h
theorem Own.made (w:World) (T:TypeId) (cs:Array Value):Own (w.alloc (.cells cs T)) w.heap.size T cs:=by
 unfold Own World.alloc;simp
theorem Own.more {w:World} {p:Nat} {T:TypeId} {cs:Array Value} (h:Own w p T cs) (o:Obj):Own (w.alloc o) p T cs:=by
 unfold Own;rw[Below.heap_alloc w o p h.in_];exact h
theorem Own.keep {w w':World} {p:Nat} {T:TypeId} {cs:Array Value} (h:Own w p T cs) (hb:Below w.heap.size w w'):Own w' p T cs:=by
 unfold Own;rw[hb.block p h.in_];exact h
theorem Own.drawn {w:World} {p:Nat} {T:TypeId} {cs:Array Value} (h:Own w p T cs):Own w.drew p T cs:=h
theorem Own.drawnN {w:World} {p:Nat} {T:TypeId} {cs:Array Value} (h:Own w p T cs) (n:Nat):Own (w.drewN n) p T cs:=h
theorem Own.put {w:World} {p:Nat} {T:TypeId} {cs:Array Value} (h:Own w p T cs) (i:Nat) (v:Value):Own (w.setCell ⟨p,i,none⟩ v) p T (cs.setIfInBounds i v):=by
 unfold Own at h ⊢;simp[World.setCell,Array.getElem?_modify,h]
theorem Own.apart {w:World} {p:Nat} {T:TypeId} {cs:Array Value} (h:Own w p T cs) {q:Nat} (hq:p≠q) (i:Nat) (v:Value):Own (w.setCell ⟨q,i,none⟩ v) p T cs:=by
 unfold Own;rw[Below.heap_setCell w ⟨q,i,none⟩ v p hq];exact h
theorem Own.made_at {w:World} {p:Nat} {T:TypeId} {cs:Array Value} (h:p=w.heap.size):Own (w.alloc (.cells cs T)) p T cs:=h▸Own.made w T cs
theorem Own.as {w:World} {p:Nat} {T:TypeId} {cs cs':Array Value} (h:Own w p T cs) (e:cs=cs'):Own w p T cs':=e▸h
theorem Own.at_ {w:World} {p:Nat} {T:TypeId} {cs:Array Value} (h:Own w p T cs):(∀ i,w.cell? ⟨p,i,none⟩=cs[i]?)/\(∀ i,w.frozen? ⟨p,i,none⟩=false)/\p<w.heap.size:=by
 refine ⟨λi => ?_,λi => ?_,h.in_⟩
 ·unfold Own at h;simp[World.cell?,h]
 unfold Own at h;simp[World.frozen?,h]
theorem keep {w w':World} (hb:Below w.heap.size w w') {p q:Nat} {v:Value} (h:w.cell? ⟨p,q,none⟩=some v):w'.cell? ⟨p,q,none⟩=some v :=
 (hb.cell (p:=⟨p,q,none⟩) (jX h)).trans h
theorem zX {B:Nat} {a w:World} (h:Below B a w) (q:Nat):Below B a (w.drewN q):=⟨h.os,h.tape,h.output,h.size,h.block⟩
theorem zD (w:World) (n:Nat) (p:Addr) (v:Value):(w.drewN n).setCell p v=(w.setCell p v).drewN n:=rfl
theorem zF {B:Nat} {a w w':World} (h:Below B a w) (hb:Below w.heap.size w w') (hB:B<=w.heap.size):Below B a w':=h.trans (hb.mono hB)
structure Bel (B:Nat) (w w':World):Prop where
 base:Below B w w'
 drawn:w.drawn<=w'.drawn
instance {B:Nat} {w w':World}:Coe (Bel B w w') (Below B w w'):=⟨Bel.base⟩
section
variable {B : Nat} {a w w' : World}
theorem Bel.refl (B:Nat) (w:World):Bel B w w:=⟨Below.refl B w,Nat.le_refl _⟩
theorem Bel.trans {c:World} (h:Bel B a w) (k:Bel B w c):Bel B a c:=⟨h.base.trans k.base,Nat.le_trans h.drawn k.drawn⟩
theorem Bel.mono {B':Nat} (h:Bel B w w') (hB:B'<=B):Bel B' w w':=⟨h.base.mono hB,h.drawn⟩
theorem Bel.drew (h:Bel B a w):Bel B a w.drew:=⟨h.base.drew,Nat.le_succ_of_le h.drawn⟩
theorem Bel.alloc (h:Bel B a w) (hB:B<=w.heap.size) (o:Obj):Bel B a (w.alloc o):=⟨h.base.alloc hB o,h.drawn⟩
theorem Bel.setCell (h:Bel B a w) {p:Addr} (hp:B<=p.block) (u:Value):Bel B a (w.setCell p u):=⟨h.base.setCell hp u,h.drawn⟩
theorem Bel.size (h:Bel B w w'):w.heap.size<=w'.heap.size:=h.base.size
theorem Bel.os (h:Bel B w w'):w'.os=w.os:=h.base.os
theorem Bel.tape (h:Bel B w w'):w'.tape=w.tape:=h.base.tape
theorem Bel.output (h:Bel B w w'):w'.output=w.output:=h.base.output
theorem Bel.block (h:Bel B w w') (k:Nat) (hk:k<B):w'.heap[k]?=w.heap[k]?:=h.base.block k hk
theorem Bel.cell (h:Bel B w w') {p:Addr} (hp:p.block<B):w'.cell? p=w.cell? p:=h.base.cell hp
theorem Bel.heap_alloc (w:World) (o:Obj) (k:Nat) (h:k<w.heap.size):(w.alloc o).heap[k]?=w.heap[k]?:=Below.heap_alloc w o k h
theorem Bel.heap_setCell (w:World) (a:Addr) (u:Value) (k:Nat) (h:k≠a.block):(w.setCell a u).heap[k]?=w.heap[k]?:=Below.heap_setCell w a u k h
theorem Own.keepB {p:Nat} {T:TypeId} {cs:Array Value} (h:Own w p T cs) (hb:Bel w.heap.size w w'):Own w' p T cs:=Own.keep h hb.base
theorem keepB (hb:Bel w.heap.size w w') {p q:Nat} {v:Value} (h:w.cell? ⟨p,q,none⟩=some v):w'.cell? ⟨p,q,none⟩=some v:=keep hb.base h
theorem yF (h:Bel B a w) (q:Nat):Bel B a (w.drewN q):=⟨zX h.base q,Nat.le_add_right_of_le h.drawn⟩
theorem zJ (h:Bel B a w) (hb:Bel w.heap.size w w') (hB:B<=w.heap.size):Bel B a w':=h.trans (hb.mono hB)
end
end Go.Proofs.Ytibnackmddigaaa
end
section
namespace Go.Proofs.Ytibnackmddigaaa
open Go.ChangeShapes Go.WideShapes Go.ChangeAt Go.RowKit
theorem zCd {k k':IntKind} {a a' b b':Int} (h:a=a') (h':b=b'):Ending.returned (.tuple #[.int k a,.int k' b])=.returned (.tuple #[.int k a',.int k' b']):=by rw[h,h']
theorem mI (a b:Int) (h0:0<=a) (h1:a<=18446744073709551615) (h2:0<=b) (h3:b<=18446744073709551615) (w:World) :
 Calls Try.prog 124 #[.int .u64 a,.int .u64 b] w λe w'=>e=.returned (.tuple #[.int .u64 (a*b % 18446744073709551616),.int .u64 (a*b / 18446744073709551616)])/\w=w':=by
 have H:=Lib.hid (zDr a b h0 h1 h2 h3);go_enter Try.func124,Try.ntmps124;go_wp2;go_ret2;exact ⟨zCd H.out.1 H.out.2,rfl⟩
end Go.Proofs.Ytibnackmddigaaa
end
section
namespace Go.Proofs.Ytibnackmddigaaa
open Go.ChangeShapes Go.WideShapes Go.ChangeAt Go.RowKit Go.Shelf
theorem Yb (x0 x1 x2 x3:Int) (h:W4 x0 x1 x2 x3) (w:World) :
 Calls Try.prog 52 #[.agg #[.int .u64 x0,.int .u64 x1,.int .u64 x2,.int .u64 x3]] w λe w'=>e=.returned (.bool (decide (9223372036854775808<=x3)))/\∃ c,w'=w.alloc (.cells c 61):=by
 obtain ⟨a0,b0,a1,b1,a2,b2,a3,b3⟩:=h;go_enter Try.func52,Try.ntmps52;go_wp2;go_ret;exact ⟨by simp,_,rfl⟩
theorem add64 (x y c:Int) (hx:0<=x) (hy:0<=y) (hc0:0<=c) (hc:c<=1) (w:World):(callFunc 70 #[.int .u64 x,.int .u64 y,.int .u64 c]).run Try.prog w =
 .ok (.value (.tuple #[.int .u64 ((x+y+c) % 18446744073709551616),.int .u64 ((x+y+c) / 18446744073709551616)])) w:=by
 rw[run_callFunc_extern Try.func70 (by kernel_rfl) (by kernel_rfl) (by kernel_rfl) (e:=add64Entry) (by kernel_rfl),run_add64 x y c (by omega) (by omega) (by omega) (by omega)];simp only[Result.andThen]
theorem Vp (x y:Int) (hx:0<=x) (hy:0<=y) (w:World):(callFunc 70 #[.int .u64 x,.int .u64 y,.int .u64 0]).run Try.prog w =
 .ok (.value (.tuple #[.int .u64 ((x+y) % 18446744073709551616),.int .u64 ((x+y) / 18446744073709551616)])) w:=by
 simpa using add64 x y 0 hx hy (Int.le_refl 0) (by decide) w
def k1 (x0 y0:Int):Int:=(x0+y0) / 18446744073709551616
def s1 (x0 y0:Int):Int:=(x0+y0) % 18446744073709551616
end Go.Proofs.Ytibnackmddigaaa
end
