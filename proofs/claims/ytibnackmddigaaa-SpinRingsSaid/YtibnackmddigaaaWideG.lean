import Derived.Test.YtibnackmddigaaaWideA
import Derived.WalkSpells
import Derived.Handy
import Derived.Deep.QuietTactic
import Derived.BigQuiet
import Derived.Test.YtibnackmddigaaaShelf
import Derived.Lib.ItoaNum
import Derived.Test.YtibnackmddigaaaWideC
set_option linter.unusedVariables false
set_option linter.unusedSimpArgs false
set_option linter.unusedSectionVars false
section
namespace Go.Proofs.Ytibnackmddigaaa
open Go.ChangeShapes Go.WideShapes Go.ChangeAt Go.RowKit
def su (x r:Int):Int:=IntKind.u64.wrap (x*2 ^ r.toNat)
end Go.Proofs.Ytibnackmddigaaa
end
section
namespace Go.Proofs.Ytibnackmddigaaa
theorem Siz.small {a:Int} (h:Siz a) (n:Nat) (hn:256<=n):a / 2 ^ n=0:=by
 obtain ⟨h0,h1⟩:=h;refine Int.ediv_eq_zero_of_lt h0 ?_;have e:(2:Int) ^ 256<=2 ^ n:=by exact_mod_cast Nat.pow_le_pow_right (by omega:0<2) hn
 have e2:(2:Int) ^ 256=115792089237316195423570985008687907853269984665640564039457584007913129639936:=by decide +kernel
 omega
end Go.Proofs.Ytibnackmddigaaa
end
section
namespace Go.Proofs.Ytibnackmddigaaa
open Go.ChangeShapes Go.WideShapes Go.ChangeAt Go.RowKit
def sp (x y r:Int):Int:=bits .or .u64 (x / 2 ^ r.toNat) (IntKind.u64.wrap (y*2 ^ (64 - r).toNat))
end Go.Proofs.Ytibnackmddigaaa
end
section
namespace Go.Proofs.Ytibnackmddigaaa
open Go.ChangeShapes Go.WideShapes Go.ChangeAt Go.RowKit
end Go.Proofs.Ytibnackmddigaaa
end
section
namespace Go.Proofs.Ytibnackmddigaaa
theorem zAb (n:Nat):(0:Int)<2 ^ n:=Int.pow_pos (by decide)
theorem mU (n:Nat):(2:Int) ^ (n+1)=2*2 ^ n:=by rw[Int.pow_succ,Int.mul_comm]
structure mO (a b q r:Int) (n:Nat):Prop where
 eq:a=q*b+r
 r0:0<=r
 lt:r<b*2 ^ n
 q0:0<=q
 low:q % 2 ^ n=0
theorem mO.part (b:Int) (n:Nat):b*2 ^ (n+1) / 2=b*2 ^ n:=by
 rw[mU,<- Int.mul_assoc,Int.mul_comm b 2,Int.mul_assoc,Int.mul_ediv_cancel_left _ (by decide)]
theorem mO.take {a b q r:Int} {n:Nat} (h:mO a b q r (n+1)) (hr:b*2 ^ n<=r):mO a b (q+2 ^ n) (r - b*2 ^ n) n:=by
 obtain ⟨e,r0,lt,q0,low⟩:=h;have p:=zAb n;rw[mU]at lt low;refine ⟨?_,by omega,?_,by omega,?_⟩
 ·rw[Int.add_mul,e,Int.mul_comm (2 ^ n) b];omega
 ·rw[<- Int.mul_assoc,Int.mul_comm b 2,Int.mul_assoc]at lt;omega
 have h1:=(Int.emod_emod_of_dvd q (show (2 ^ n:Int) ∣ 2*2 ^ n from Int.dvd_mul_left 2 (2 ^ n)))
 rw[low]at h1;rw[Int.add_emod_right,<- h1];exact Int.zero_emod _
theorem mO.done {a b q r:Int} (h:mO a b q r 0) (hb:0<b):q=a / b/\r=a % b:=by
 obtain ⟨e,r0,lt,q0,low⟩:=h;rw[show (2:Int) ^ 0=1 from rfl,Int.mul_one]at lt;have h1:a / b=q:=by
  rw[e,Int.add_comm,Int.add_mul_ediv_right _ _ (by omega),Int.ediv_eq_zero_of_lt r0 lt,Int.zero_add]
 have h2:=Int.emod_def a b;rw[h1,Int.mul_comm,e]at h2;constructor
 ·exact h1.symm
 rw[e,h2];omega
def Lf (z:Int):Nat->Int
 | 0=>L0 z
 | 1=>L1 z
 | 2=>L2 z
 | _=>L3 z
end Go.Proofs.Ytibnackmddigaaa
end
section
namespace Go.Proofs.Ytibnackmddigaaa
open Go.ChangeShapes Go.WideShapes Go.ChangeAt Go.RowKit
def xZ (X Y:Nat->Int):Nat->Int
 | 0=>0
 | n+1=>if X n<Y n then -1 else if X n>Y n then 1 else xZ X Y n
theorem zCb {X Y:Nat->Int} {n:Nat} (h:X n<Y n):xZ X Y (n+1) = -1:=by simp[xZ,h]
theorem zBx {X Y:Nat->Int} {n:Nat} (h:Y n<X n):xZ X Y (n+1)=1:=by
 have:¬ X n<Y n:=by omega
 simp[xZ,h,this]
theorem zBn {X Y:Nat->Int} {n:Nat} (h:X n=Y n):xZ X Y (n+1)=xZ X Y n:=by simp[xZ,h]
set_option maxHeartbeats 1600000 in
set_option maxRecDepth 20000 in
theorem Jx (X Y:Nat->Int) (p q n c d:Nat) (hn:n<=8) (w:World) (hX:∀ i,i<n->w.cell? ⟨p,i,none⟩=some (.int .u64 (X i))) (hY:∀ i,i<n->w.cell? ⟨q,i,none⟩=some (.int .u64 (Y i))) :
 Calls Try.prog 89 #[.slice (some ⟨p,0,none⟩) n c,.slice (some ⟨q,0,none⟩) n d] w λe w'=>e=.returned (.int .i64 (xZ X Y n))/\∃ m,w'=w.drewN m:=by
 have HX:=Lh hX;have HY:=Lh hY;clear hX hY;go_enter Try.func89,Try.ntmps89;go_wp2;go_loopw [5] (λi wr=>∃ k m:Nat,k<=n/\Hid (xZ X Y n=xZ X Y k)/\i=.int .i64 ((k:Int) - 1)/\wr=w.drewN m) (λi _=>(intOf i+1).toNat)
 case atStart=>exact ⟨n,0,Nat.le_refl _,rfl,rfl,by rw[World.drewN_zero]⟩
 case round =>
  obtain ⟨k,m,hk,HK,rfl,rfl⟩:=hrel;by_cases hk0:k=0
  ·subst hk0;go_wp2;go_ret;exact ⟨yB (by rw[HK.out];rfl),m,rfl⟩
  obtain ⟨j,rfl⟩:∃ j,k=j+1:=⟨k - 1,by omega⟩
  have hx:=HX.out j (by omega);have hy:=HY.out j (by omega);have i0:(0:Int)<=(j:Int):=by omega
  have i1:(j:Int)<(n:Int):=by omega
  have i2:((j+1:Nat):Int) - 1=(j:Int):=by omega
  rw[i2];clear i2 hk0;by_cases hl:X j<Y j
  ·have HL:=Lh (zCb hl);go_wp2;go_region
   all_goals
    go_wp2;go_ret;exact ⟨yB (by rw[HK.out,HL.out]),m+1,rfl⟩
  by_cases hg:Y j<X j
  ·have HL:=Lh (zBx hg);have d1:decide (X j<Y j)=false:=by simpa using hl
   clear hl;go_wp2;go_region
   all_goals
    go_wp2;go_region
    all_goals
     go_wp2;go_ret;exact ⟨yB (by rw[HK.out,HL.out]),m+1+1,rfl⟩
  have HL:=Lh (zBn (X:=X) (Y:=Y) (n:=j) (by omega));have d1:decide (X j<Y j)=false:=by simpa using hl
  have d2:decide (Y j<X j)=false:=by simpa using hg
  clear hl hg;go_wp2;go_region
  all_goals
   go_wp2;go_region
   all_goals
    go_wp2;go_roundw
    case rel=>exact ⟨j,m+1+1,by omega,by unfold Hid;rw[HK.out,HL.out],rfl,rfl⟩
    case measure=>simp[intOf]
end Go.Proofs.Ytibnackmddigaaa
end
section
namespace Go.Proofs.Ytibnackmddigaaa
open Go.ChangeShapes Go.WideShapes Go.ChangeAt Go.RowKit
theorem L_of (n:Int) (h0 : -9223372036854775808<=n) (h1:n<=9223372036854775807):IntKind.u64.wrap n=L0 n/\IntKind.u64.wrap (n / 9223372036854775808)=L1 n/\IntKind.u64.wrap (n / 9223372036854775808)=L2 n/\IntKind.u64.wrap (n / 9223372036854775808)=L3 n:=by
 simp only[IntKind.wrap_u64];unfold L0 L1 L2 L3;by_cases h:n<0
 ·have e1:n / 9223372036854775808 = -1:=by omega
  have e2:n / 18446744073709551616 = -1:=by omega
  rw[e1,e2];exact ⟨rfl,by decide,by decide,by decide⟩
 have e1:n / 9223372036854775808=0:=by omega
 have e2:n / 18446744073709551616=0:=by omega
 rw[e1,e2];exact ⟨rfl,by decide,by decide,by decide⟩
theorem zDk (n:Int) (h0 : -9223372036854775808<=n) (h1:n<=9223372036854775807) (w:World) :
 Calls Try.prog 46 #[.int .i64 n] w λe w'=>e=.returned (.agg #[.int .u64 (L0 n),.int .u64 (L1 n),.int .u64 (L2 n),.int .u64 (L3 n)])/\∃ c1,w'=(w.alloc (.cells c1 61)):=by
 obtain ⟨t0,t1,t2,t3⟩:=L_of n h0 h1;rw[<- t0,<- t3];rw[show L1 n=IntKind.u64.wrap (n / 9223372036854775808) from t1.symm,show L2 n=IntKind.u64.wrap (n / 9223372036854775808) from t2.symm];clear t0 t1 t2 t3;go_enter Try.func46,Try.ntmps46;go_wp2;exact bodyPost_ret (by simp[results,Try.results46,go_sem]) rfl ⟨rfl,_,rfl⟩
end Go.Proofs.Ytibnackmddigaaa
end
section
namespace Go.Proofs.Ytibnackmddigaaa
open Go.ChangeShapes Go.WideShapes Go.ChangeAt Go.RowKit
theorem Vy {r s:Int} (hr:Siz r) (hs:Siz s):xZ (Lf r) (Lf s) 4=if r<s then -1 else if s<r then 1 else 0:=by
 obtain ⟨h0,h1⟩:=hr;obtain ⟨h2,h3⟩:=hs;have e:∀ z:Int,0<=z->z<=115792089237316195423570985008687907853269984665640564039457584007913129639935->z=L0 z+18446744073709551616*L1 z+340282366920938463463374607431768211456*L2 z+6277101735386680763835789423207666416102355444464034512896*L3 z:=λz _ _=>by unfold L0 L1 L2 L3;omega
 have er:=e r h0 h1;have es:=e s h2 h3;obtain ⟨a0,b0,a1,b1,a2,b2,a3,b3⟩:=W4.of r;obtain ⟨c0,d0,c1,d1,c2,d2,c3,d3⟩:=W4.of s;unfold xZ xZ xZ xZ xZ Lf;simp only[];generalize L0 r=x0 at *;generalize L1 r=x1 at *;generalize L2 r=x2 at *;generalize L3 r=x3 at *
 generalize L0 s=y0 at *;generalize L1 s=y1 at *;generalize L2 s=y2 at *;generalize L3 s=y3 at *
 repeat' split
 all_goals first|rfl|omega
end Go.Proofs.Ytibnackmddigaaa
end
section
namespace Go.Proofs.Ytibnackmddigaaa
open Go.ChangeShapes Go.WideShapes Go.ChangeAt Go.RowKit
end Go.Proofs.Ytibnackmddigaaa
end
