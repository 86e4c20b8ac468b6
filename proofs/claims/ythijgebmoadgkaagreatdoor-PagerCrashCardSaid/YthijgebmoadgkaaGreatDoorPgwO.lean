import Derived.Test.YthijgebmoadgkaaGreatDoorPgwK
import Derived.Test.YthijgebmoadgkaaGreatDoorPgtN
import Derived.WalkKit
import Derived.ProofKit
import Derived.OpenShut
import Derived.ShutString
import Derived.ChangeOld
import Derived.Below
import Derived.SliceStrings
import Derived.Deep.DeepHandedRow
import Derived.Lib.LaidTab
import Derived.LaidMore
import Derived.Stop.Joined
import Derived.SevenTiedAt
set_option linter.unusedVariables false
set_option linter.unusedSimpArgs false
namespace Go.Proofs.YthijgebmoadgkaaGreatDoor
open Go.ChangeShapes Go.WideShapes Go.ChangeAt Go.RowKit
section
structure zLq (w0 W : World) (C d S : Nat) (s : St) : Prop where
 disk : ∃ sb mb sc wv, zI W d sb mb sc wv 300 s /\ w0.heap.size <= d /\ w0.heap.size <= sb /\ w0.heap.size <= mb /\ ∀ g, wv.ownBlock = some g -> w0.heap.size <= g
 sure : uI W d S
 lt : S < C
 low : w0.heap.size <= C
 hi : C <= W.heap.size
 below : Below w0.heap.size w0 W
section
variable {w0 W W' : World} {C d p c c' S rm k : Nat} {P P' : PS} {s : St}
theorem One.fuse (h : One w0 W C d p c S P) (f : Int) (hf : (Lit.int .i64 f).wf = true) : Calls Tryz.prog 28 #[.pointer (some ⟨d, 0, none⟩), .int .i64 f] W fun e w' => e = .returned (.tuple #[]) /\ One w0 w' C d p c S (P.fused f) /\ yP C W w' := by
 obtain ⟨Bp, hA, h2⟩ := h.pag;obtain ⟨g1, g3, g4⟩ := hA.base;obtain ⟨sb, mb, sc, wv, lg, lm, pl, R, k⟩ := hA;obtain rfl := h.sure.inj k.disk.sureB;refine (zIx k.disk f hf).mono ?_;rintro e w' ⟨rfl, hD, hc, hs⟩;have hP : zF w' w0.heap.size Bp d p c (P.fused f) := by
   refine ⟨_, mb, sc, wv, lg, lm, pl, R, { k with
     disk := hD
     log := hc.own (show Own W lg 246 (P.l.cells d) from k.log) fun e => ?_
     own := hc.own k.own fun e => ?_
     map := k.map.keep (hc.block lm k.map.in_ fun e => ?_)
     pool := k.pool.keep hc fun q hq e => ?_
     coh := k.coh.fused f
     ok := k.ok.fused f }⟩
   · have e : lg = d := e;subst e;exact (show Own W lg 246 (P.l.cells lg) from k.log).type_ne k.disk.own (by decide) rfl
   · have e : p = d := e;subst e;exact k.own.type_ne k.disk.own (by decide) rfl
   · have e : lm = d := e;subst e;exact k.map.ne k.disk.own rfl
   · have e : q = d := e;subst e;exact k.not_pt (.inr (.inr (.inr (.inl rfl)))) hq
 refine ⟨rfl, ⟨⟨Bp, hP, h2⟩, hD.sureB, h.lt, h.low, Nat.le_trans h.hi hc.size, h.below.trans (hc.below (by have := h.hi; have := h.low; omega) fun q hq => ?_)⟩, zD5 k.disk h.lt (hc.mono fun q _ e => .inl e)⟩;have hq : q = d := hq;have := k.b1;omega
theorem One.crash (h : One w0 W C d p c S P) (hN : P.N = 300) (a : Option Addr) (len cap : Nat) (zs : List Bool) (torn bytes : Int) (hz : jR W a len cap zs) (ho : ∀ b o, a = some ⟨b, o, none⟩ -> 0 < len -> b < w0.heap.size) :
   Calls Tryz.prog 29 #[.pointer (some ⟨d, 0, none⟩), .slice a len cap, .int .i64 torn, .int .i64 bytes] W fun e w' => e = .returned (.tuple #[]) /\ zLq w0 w' C d S (crs (qT len zs torn bytes) P.s) /\ yP C W w' := by
 obtain ⟨Bp, hA, h2⟩ := h.pag;obtain ⟨sb, mb, sc, wv, hD, b1, b2, b3, b4⟩ := hA.disk;obtain rfl := h.sure.inj hD.sureB;rw [hN] at hD;refine (zH7 hD a len cap zs torn bytes hz fun b o e hl e2 => ?_).mono ?_
 · have h1 := ho b o e hl;omega
 · rintro e w' ⟨rfl, hD', hc⟩;refine ⟨rfl, ⟨⟨_, mb, sc, _, hD', b1, b2, b3, fun g hg => by cases hg⟩, hD'.sureB, h.lt, h.low, Nat.le_trans h.hi hc.size, h.below.trans (hc.below (by have := h.hi; have := h.low; omega) fun q hq => ?_)⟩, zD5 hD h.lt hc⟩;rcases hq with e | e | e | e
   · have e : q = d := e;omega
   · have e : q = S := e;omega
   · have e : q = mb := e;omega
   · exact b4 q e
theorem zLq.open_ {b v : Nat -> Pag × Nat} {s0 : St} {kp : Nat -> Nat} (h : zLq w0 W C d S (crs kp s0)) (hA : Any s0 k b v) (hkp : ∀ j, kp j <= 64) (hk : k <= 1000) : Calls Tryz.prog 18 #[.pointer (some ⟨d, 0, none⟩), .int .i64 30] W fun e w' => ∃ q Q, e = .returned (.tuple #[.pointer (some ⟨q, 0, none⟩), .int .i64 0]) /\ One w0 w' C d q 2 S Q /\ yL Q 30 k /\ Q.T = [] /\ ((∀ no, no < 29 -> Q.base no = b no) \/ ∀ no, no < 29 -> Q.base no = v no) /\ yP C W w' := by
 obtain ⟨sb, mb, sc, wv, hD, b1, b2, b3, b4⟩ := h.disk;obtain ⟨Q, o1, o2, o3, o4, o5⟩ := hA.reopen kp hkp hk;refine (mL hD rfl b1 b2 b3 b4 30 (by decide) (by decide)).mono ?_;rintro e w' ⟨⟨Q', q, Bq, hQ, rfl, hBq, hP⟩ | ⟨hn, -⟩, hb⟩
 · rw [o1] at hQ;injection hQ with hQ;subst hQ;obtain ⟨n, cc, hs⟩ := h.sure;exact ⟨q, Q, rfl, ⟨⟨Bq, hP, by have := h.hi; have := h.low; omega⟩, ⟨n, cc, (Chg.of (S := fun _ => False) hb).cell hs id⟩, h.lt, h.low, Nat.le_trans h.hi hb.size, then_ h.below hb h.below.size⟩, o2, o4, o5, yC hb⟩
 · rw [o1] at hn; cases hn
theorem One.twice (h : One w0 W C d p c S P) (ha : yL P rm k) : Calls Tryz.prog 18 #[.pointer (some ⟨d, 0, none⟩), .int .i64 5] W fun e w' => ∃ q Bq, e = .returned (.tuple #[.pointer (some ⟨q, 0, none⟩), .int .i64 0]) /\ W.heap.size <= Bq /\ zF w' w0.heap.size Bq d q 2 { P with room := 5, T := [] } /\ One w0 w' C d p c S P /\ Below W.heap.size W w' := by
 obtain ⟨Bp, hA, h2⟩ := h.pag;obtain ⟨sb, mb, sc, wv, hD, b1, b2, b3, b4⟩ := hA.disk;have o1 := ha.twice hA.ok 5;rw [ha.N] at hD;refine (mL hD ha.up b1 b2 b3 b4 5 (by decide) (by decide)).mono ?_;rintro e w' ⟨⟨Q', q, Bq, hQ, rfl, hBq, hP⟩ | ⟨hn, -⟩, hb⟩
 · rw [o1] at hQ;injection hQ with hQ;subst hQ;exact ⟨q, Bq, rfl, hBq, hP, h.mem hb, hb⟩
 · rw [o1] at hn; cases hn
theorem One.told (h : One w0 W C d p c S P) (ha : yL P rm k) (hc : c + 200 < 1000000) : Calls Tryz.prog 19 #[.pointer (some ⟨p, 0, none⟩)] W fun e w' => (∃ ka kn kc ra rn rc, e = .returned (.tuple #[.agg (stC (.slice ka kn kc) (.slice ra rn rc) (.slice none 0 0) (tlS P.view).roots), .bool true]) /\ jG w' W.heap.size (.slice ka kn kc) (.slice ra rn rc) (.slice none 0 0) (tlS P.view)) /\ One w0 w' C d p (c + 200) S P /\ yP C W w' := by
 obtain ⟨Bp, h1, h2⟩ := h.pag;have hu := h1.ok.used;have hm := ha.most;refine (zFi h1 ha.up ha.view 200 (by omega) hc).mono ?_;rintro e w' ⟨⟨vk, vr, rfl, hst⟩, a2, a3⟩;obtain ⟨ka, kc, e1, -, -⟩ := yD hst.k;obtain ⟨ra, rc, e2, -, -⟩ := yD hst.r;subst e1 e2;exact ⟨⟨ka, _, kc, ra, _, rc, rfl, hst⟩, h.ask h1 h2 ⟨a2, a3⟩⟩
theorem One.told_dead (h : One w0 W C d p c S P) (hd : P.s.down = true) : Calls Tryz.prog 19 #[.pointer (some ⟨p, 0, none⟩)] W fun e w' => e = .returned (.tuple #[.agg #[.slice none 0 0, .slice none 0 0, .slice none 0 0, .int .u64 0, .int .u64 0, .int .u64 0, .int .u64 0, .int .u64 0, .int .u64 0, .int .u64 0, .int .u64 0], .bool false]) /\ One w0 w' C d p c S P /\ yP C W w' := by
 obtain ⟨Bp, h1, h2⟩ := h.pag;exact (zE2 h1 hd).mono fun e w' ⟨a1, a2⟩ => ⟨a1, h.mem a2, yC a2⟩
theorem Yd {q Bq : Nat} (h : One w0 W C d p c S P) (ha : yL P rm k) {Z : World} (hz : Z.heap.size <= Bq) (hZ : Z.heap.size <= W.heap.size) (hA : zF W w0.heap.size Bq d q 2 { P with room := 5, T := [] }) (hO : One w0 Z C d p c S P) (hb : Below Z.heap.size Z W) (hT : P.T = []) : Calls Tryz.prog 19 #[.pointer (some ⟨q, 0, none⟩)] W fun e w' => (∃ ka kn kc ra rn rc, e = .returned (.tuple #[.agg (stC (.slice ka kn kc) (.slice ra rn rc) (.slice none 0 0) (tlS P.view).roots), .bool true]) /\ jG w' W.heap.size (.slice ka kn kc) (.slice ra rn rc) (.slice none 0 0) (tlS P.view)) /\ One w0 w' C d p c S P /\ Below Z.heap.size Z w' := by
 have hu := hA.ok.used;have hm := ha.most;have hv : ({ P with room := 5, T := [] } : PS).view = P.view := by
   funext no
   unfold PS.view;rw [hT];rfl
 have hm2 : ({ P with room := 5, T := [] } : PS).most = 29 := hm;have := zFi hA ha.up (by show Rd ({ P with room := 5, T := [] } : PS).view; rw [hv]; exact ha.view) 200 (by omega) (by omega);rw [<- zKp, show ({ P with room := 5, T := [] } : PS).root = (tlS ({ P with room := 5, T := [] } : PS).view).roots from rfl, hv] at this;refine this.mono ?_;rintro e w' ⟨⟨vk, vr, rfl, hst⟩, a2, a3⟩;obtain ⟨ka, kc, e1, -, -⟩ := yD hst.k;obtain ⟨ra, rc, e2, -, -⟩ := yD hst.r;subst e1 e2;have hB : Below Z.heap.size Z w' := hb.trans (a3.below hZ fun x hx => Nat.le_trans hz hx.1);exact ⟨⟨ka, _, kc, ra, _, rc, rfl, hst⟩, hO.mem hB, hB⟩
theorem zBw {v u : Nat -> Pag × Nat} (e : tlS v = tlS u) : sameB (tlS v) (tlS u) = true := Xw ⟨by rw [e], by rw [e], fun i _ => by rw [e]⟩
end
end
section
def Ut (P : PS) (k : Nat) (s t : RSt) (op : Bool) : Prop :=
 (yL P 30 k /\ s = tlS P.base /\ op = false) \/ ∃ b v, Vs P k b v /\ s = tlS b /\ (op = true -> t = tlS v) /\ (op = false -> tlS v = tlS b)
def Bx (W : World) (C y : Nat) (s : RSt) : Prop := C <= y /\ ∃ ka kn kc ra rn rc, Own W y 38 (stC (.slice ka kn kc) (.slice ra rn rc) (.slice none 0 0) s.roots) /\ jG W C (.slice ka kn kc) (.slice ra rn rc) (.slice none 0 0) s
section
variable {w0 W W' : World} {C d p c c' S k y : Nat} {P P' : PS} {s t : RSt} {op : Bool}
theorem yP.bx (h : yP C W W') (hb : Bx W C y s) : Bx W' C y s := by
 obtain ⟨hy, ka, kn, kc, ra, rn, rc, ho, hs⟩ := hb;exact ⟨hy, ka, kn, kc, ra, rn, rc, h y _ _ hy (.inr (.inl rfl)) ho, h.st hs (Nat.le_refl _)⟩
theorem Ut.more (h : Ut P k s t op) {k' : Nat} (hk : k <= k') : Ut P k' s t op := by
 rcases h with ⟨a, b, e⟩ | ⟨b, v, a, e⟩
 · exact .inl ⟨a.more hk, b, e⟩
 · exact .inr ⟨b, v, a.up hk, e⟩
theorem zL9 (hd : P.s.down = true) (k : Int) : P.al k = P := by
 unfold PS.al;split
 · first | rfl | rw [if_pos hd]
 · rfl
theorem Vp (hd : P.s.down = true) (no : Int) : P.others no = false := by
 unfold PS.others PS.pages;rw [if_pos hd];simp;intro h;omega
theorem zLw (hd : P.s.down = true) (no k : Int) (t : ByteArray) : P.wr no k t = P := by
 unfold PS.wr PS.wrC;rw [Vp hd];simp
theorem zHx (hd : P.s.down = true) (no : Int) : P.freI no = P := by
 unfold PS.freI;rw [if_neg (by rw [Vp hd]; simp)]
theorem Ut.only (h : Ut P k s t op) {Q : PS} (hQ : ∃ T, Q = { P with T := T }) (hv : yL P 30 k -> Rd Q.view) (hd : P.s.down = true -> Q = P) : Ut Q k s t op := by
 rcases h with ⟨a, b, e⟩ | ⟨b, v, a, e⟩
 · exact .inl ⟨a.only hQ (hv a), by rw [zH2 hQ]; exact b, e⟩
 · rw [hd a.down]; exact .inr ⟨b, v, a, e⟩
theorem Ut.abort (h : Ut P k s t op) : Ut P.abort k s t op := by
 rcases h with ⟨a, b, e⟩ | ⟨b, v, a, e⟩
 · exact .inl ⟨a.abort, b, e⟩
 · exact .inr ⟨b, v, ⟨a.failed, a.down, a.any⟩, e⟩
theorem Ut.fused (h : Ut P k s t op) (f : Int) : Ut (P.fused f) k s t op := by
 rcases h with ⟨a, b, e⟩ | ⟨b, v, a, e⟩
 · have eb : (P.fused f).base = P.base := funext fun no => jC P f no
   exact .inl ⟨a.fused f, by rw [eb]; exact b, e⟩
 · exact .inr ⟨b, v, a.fused f, e⟩
def Cr (w0 W : World) (C d p c S k : Nat) (s t : RSt) (op : Bool) : Prop := ∃ P, One w0 W C d p c S P /\ P.N = 300 /\ Ut P k s t op
theorem Cr.mem (h : Cr w0 W C d p c S k s t op) (hb : Below W.heap.size W W') : Cr w0 W' C d p c S k s t op := by
 obtain ⟨P, a, b, l⟩ := h;exact ⟨P, a.mem hb, b, l⟩
theorem Cr.more (h : Cr w0 W C d p c S k s t op) (hc : c <= c') {k' : Nat} (hk : k <= k') : Cr w0 W C d p c' S k' s t op := by
 obtain ⟨P, a, b, l⟩ := h;exact ⟨P, a.more hc, b, l.more hk⟩
theorem Cr.below (h : Cr w0 W C d p c S k s t op) : Below w0.heap.size w0 W := by
 obtain ⟨P, a, b, l⟩ := h;exact a.below
theorem Cr.hi (h : Cr w0 W C d p c S k s t op) : C <= W.heap.size := by
 obtain ⟨P, a, b, l⟩ := h;exact a.hi
theorem zBh {Q : PS} (hQ : ∃ T, Q = { P with T := T }) : Q.N = P.N := by
 obtain ⟨T, rfl⟩ := hQ;rfl
theorem Cr.alloc (h : Cr w0 W C d p c S k s t op) (x : Int) (hc : c + 6 < 1000000) : Calls Tryz.prog 20 #[.pointer (some ⟨p, 0, none⟩), .int .i64 x] W fun e w' => (∃ n y, e = .returned (.tuple #[.int .i64 n, .int .i64 y])) /\ Cr w0 w' C d p (c + 6) S k s t op /\ yP C W w' := by
 obtain ⟨P, a, b, l⟩ := h;exact (a.alloc x hc).mono fun e w' ⟨a1, a2, a3⟩ => ⟨a1, ⟨_, a2, (zBh (zNv P x)).trans b, l.only (zNv P x) (fun q => rd_al a.ok q.view x) fun hd => zL9 hd x⟩, a3⟩
theorem Cr.write (h : Cr w0 W C d p c S k s t op) (no x : Int) (u : ByteArray) (hc : c + 4 < 1000000) : Calls Tryz.prog 21 #[.pointer (some ⟨p, 0, none⟩), .int .i64 no, .int .i64 x, .string u] W fun e w' => (∃ y, e = .returned (.int .i64 y)) /\ Cr w0 w' C d p (c + 4) S k s t op /\ yP C W w' := by
 obtain ⟨P, a, b, l⟩ := h;exact (a.write no x u hc).mono fun e w' ⟨a1, a2, a3⟩ => ⟨a1, ⟨_, a2, (zBh (zOc P no x u)).trans b, l.only (zOc P no x u) (fun q => rd_wr a.ok q.view no x u) fun hd => zLw hd no x u⟩, a3⟩
theorem Cr.free (h : Cr w0 W C d p c S k s t op) (no : Int) (hc : c + 8 < 1000000) : Calls Tryz.prog 23 #[.pointer (some ⟨p, 0, none⟩), .int .i64 no] W fun e w' => (∃ y, e = .returned (.int .i64 y)) /\ Cr w0 w' C d p (c + 8) S k s t op /\ yP C W w' := by
 obtain ⟨P, a, b, l⟩ := h;exact (a.free no hc).mono fun e w' ⟨a1, a2, a3⟩ => ⟨a1, ⟨_, a2, (zBh (zEf P no)).trans b, l.only (zEf P no) (fun q => zLm a.ok q.view no) fun hd => zHx hd no⟩, a3⟩
theorem Cr.root (h : Cr w0 W C d p c S k s t op) (i : Int) (x : Nat) (hx : x < 18446744073709551616) (hc : c + 4 < 1000000) : Calls Tryz.prog 24 #[.pointer (some ⟨p, 0, none⟩), .int .i64 i, .int .u64 (x : Int)] W fun e w' => (∃ y, e = .returned (.int .i64 y)) /\ Cr w0 w' C d p (c + 4) S k s t op /\ yP C W w' := by
 obtain ⟨P, a, b, l⟩ := h;have hl := l;rcases l with ⟨al, -, -⟩ | ⟨b', v, dd, -⟩
 · exact (a.root al.up i x hx hc).mono fun e w' ⟨a1, a2, a3⟩ => ⟨a1, ⟨_, a2, (zBh (zN8 P i x)).trans b, hl.only (zN8 P i x) (fun q => rd_rt a.ok q.view i x) fun hd => by rw [al.up] at hd; cases hd⟩, a3⟩
 · exact (a.root_dead dd.down i (x : Int)).mono fun e w' ⟨a1, a2, a3⟩ => ⟨a1, ⟨_, a2.more (by omega), b, hl⟩, a3⟩
theorem Cr.abort (h : Cr w0 W C d p c S k s t op) : Calls Tryz.prog 26 #[.pointer (some ⟨p, 0, none⟩)] W fun e w' => e = .returned (.tuple #[]) /\ Cr w0 w' C d p c S k s t op /\ yP C W w' := by
 obtain ⟨P, a, b, l⟩ := h;exact a.abort.mono fun e w' ⟨a1, a2, a3⟩ => ⟨a1, ⟨_, a2, b, l.abort⟩, a3⟩
theorem Cr.fuse (h : Cr w0 W C d p c S k s t op) (f : Int) (hf : (Lit.int .i64 f).wf = true) : Calls Tryz.prog 28 #[.pointer (some ⟨d, 0, none⟩), .int .i64 f] W fun e w' => e = .returned (.tuple #[]) /\ Cr w0 w' C d p c S k s t op /\ yP C W w' := by
 obtain ⟨P, a, b, l⟩ := h;exact (a.fuse f hf).mono fun e w' ⟨a1, a2, a3⟩ => ⟨a1, ⟨_, a2, b, l.fused f⟩, a3⟩
theorem Cr.check (h : Cr w0 W C d p c S k s t op) (hk : k <= 1000) : Calls Tryz.prog 27 #[.pointer (some ⟨p, 0, none⟩)] W fun e w' => (∃ y, e = .returned (.int .i64 y)) /\ Cr w0 w' C d p c S (k + 1) s t op /\ yP C W w' := by
 obtain ⟨P, a, b, l⟩ := h;have hl := l;rcases l with ⟨al, hs, ho⟩ | ⟨b', v, dd, -⟩
 · refine (a.check al hk).mono fun e w' ⟨a1, a2, a3⟩ => ⟨a1, ?_, a3⟩
   have gb := al.gb a.ok;rcases al.ck a.ok hk with e | ⟨e1, e2⟩ | e
   · exact ⟨P.ck, a2, by rw [e]; exact b, by rw [e]; exact hl.more (Nat.le_succ k)⟩
   · refine ⟨P.ck, a2, e1.N, .inl ⟨e1, ?_, ho⟩⟩;rw [hs];exact Uc gb.hi (by omega) fun no hn => (e2 no hn).symm
   · refine ⟨P.ck, a2, ?_, .inr ⟨_, _, e, hs, fun h => ?_, fun _ => rfl⟩⟩
     · have hkN : P.ck.N = P.N := by
         unfold PS.ck;split
         · rfl
         · rw [(Uk _ _).2.2.2.2.1];unfold PS.emp;split <;> rfl
       rw [hkN]; exact b
     · rw [ho] at h; cases h
 · exact (a.check_dead dd.failed).mono fun e w' ⟨a1, a2⟩ => ⟨a1, a2 ▸ ⟨⟨P, a, b, hl.more (Nat.le_succ k)⟩, yP.refl _ _⟩⟩
theorem Cr.crash (h : Cr w0 W C d p c S k s t op) (hk : k <= 1000) (a : Option Addr) (len cap : Nat) (zs : List Bool) (torn bytes : Int) (hz : jR W a len cap zs) (ho : ∀ b o, a = some ⟨b, o, none⟩ -> 0 < len -> b < w0.heap.size) :
   Calls Tryz.prog 29 #[.pointer (some ⟨d, 0, none⟩), .slice a len cap, .int .i64 torn, .int .i64 bytes] W fun e w' => e = .returned (.tuple #[]) /\ (∃ b v s0 kp, (∀ j, kp j <= 64) /\ zLq w0 w' C d S (crs kp s0) /\ Any s0 k b v /\ s = tlS b /\ (op = true -> t = tlS v) /\ (op = false -> tlS v = tlS b)) /\ yP C W w' := by
 obtain ⟨P, o, b, l⟩ := h;refine (o.crash b a len cap zs torn bytes hz ho).mono fun e w' ⟨a1, a2, a3⟩ => ⟨a1, ?_, a3⟩
 rcases l with ⟨al, hs, hop⟩ | ⟨b', v, dd, hs, h1, h2⟩
 · have h1 : op = true -> t = tlS P.base := fun h => by rw [hop] at h; cases h
   exact ⟨P.base, P.base, P.s, qT len zs torn bytes, fun j => Xx _ _ _ _ _, a2, al.any o.ok, hs, h1, fun _ => rfl⟩
 · exact ⟨b', v, P.s, qT len zs torn bytes, fun j => Xx _ _ _ _ _, a2, dd.any, hs, h1, h2⟩
end
end
section
def Rnd (w0 W : World) (C d p S y1 y2 k : Nat) (op : Bool) : Prop := ∃ s t, Cr w0 W C d p (202 + 250 * k) S k s t op /\ Bx W C y1 s /\ Bx W C y2 t
section
variable {w0 W W' : World} {C d p c S y1 y2 k : Nat} {s t : RSt} {op : Bool}
theorem Rnd.below (h : Rnd w0 W C d p S y1 y2 k op) : Below w0.heap.size w0 W := by
 obtain ⟨s, t, h, -⟩ := h;exact h.below
theorem Rnd.next (h : Cr w0 W' C d p c S k s t op) (h1 : Bx W C y1 s) (h2 : Bx W C y2 t) (hk : yP C W W') (hc : c <= 452 + 250 * k) : Rnd w0 W' C d p S y1 y2 (k + 1) op := ⟨s, t, h.more (by omega) (Nat.le_succ k), hk.bx h1, hk.bx h2⟩
theorem Rnd.next' (h : Cr w0 W' C d p c S (k + 1) s t op) (h1 : Bx W C y1 s) (h2 : Bx W C y2 t) (hk : yP C W W') (hc : c <= 452 + 250 * k) : Rnd w0 W' C d p S y1 y2 (k + 1) op := ⟨s, t, h.more (by omega) (Nat.le_refl _), hk.bx h1, hk.bx h2⟩
theorem zIc {rm Bp : Nat} {P : PS} (hb0 : Below w0.heap.size w0 W) (hA : zF W w0.heap.size Bp d p 2 P) (hBp : w0.heap.size <= Bp) (hn : qC P 300 60 rm) (hD : Dsk P.N P.ll P.s P.seq 1 [] P.M) : ∃ S, One w0 W W.heap.size d p 2 S P /\ yL P rm 0 /\ tlS P.view = tlS P.base := by
 obtain ⟨S, hS, hl⟩ := hA.sureB;have hk := hA.ok;have hv : P.view = P.base := by funext no; unfold PS.view; rw [hn.T]; rfl
 have hr : Rd P.base := by
   intro i hi;rw [hn.hd] at hi;have e : rdU (hd0, 0).1.2 = 1 := qS 1 0 _ (by omega);rw [e] at hi;obtain rfl : i = 0 := by omega
   rw [hn.hd]
 exact ⟨S, ⟨⟨Bp, hA, hBp⟩, hS, hl, hb0.size, Nat.le_refl _, hb0⟩, ⟨⟨1, [], hn.hold hk hD⟩, hn.N, hn.ll, hn.room, by rw [hn.seq]; exact Nat.le_refl _, by rw [hv]; exact hr, hr⟩, by rw [hv]⟩
theorem zAn {y i : Nat} (vs : List Value) : Chg (fun q => q = y) W (W.setCells y i vs) := vB (S := fun q => q = y) (.inl rfl) vs W i (Chg.refl _ _)
theorem One.lay {P : PS} {y i : Nat} {cs : Array Value} (h : One w0 W C d p c S P) (hy : C <= y) (ho : Own W y 38 cs) (h0 : ∀ x, cs[0]? ≠ some (.int .u8 x)) (vs : List Value) : One w0 (W.setCells y i vs) C d p c S P := by
 obtain ⟨Bp, h1, h2⟩ := h.pag;have hc := zAn (W := W) (y := y) (i := i) vs;have hP : zF (W.setCells y i vs) w0.heap.size Bp d p c P := h1.keepS hc fun q e => by
   have e : q = y := e;subst e;exact ⟨_, _, ho, by unfold PgT; decide, h0⟩
 obtain ⟨sb, mb, sc, wv, hD, -⟩ := h1.disk;have hd : ¬ d = y := fun e => by
   subst e;have := zFh ho hD.own;exact absurd this (by decide)
 obtain ⟨n, cc, hs⟩ := h.sure;exact ⟨⟨Bp, hP, h2⟩, ⟨n, cc, hc.cell hs hd⟩, h.lt, h.low, Nat.le_trans h.hi hc.size, h.below.trans (hc.below (by have := h.hi; have := h.low; omega) fun q hq => by have hq : q = y := hq; have := h.low; omega)⟩
def stV (va vb vc : Value) (r : Nat -> Nat) : List Value := [va, vb, vc, .int .u64 (r 0 : Int), .int .u64 (r 1 : Int), .int .u64 (r 2 : Int), .int .u64 (r 3 : Int), .int .u64 (r 4 : Int), .int .u64 (r 5 : Int), .int .u64 (r 6 : Int), .int .u64 (r 7 : Int)]
theorem zFq (a b c a' b' c' : Value) (r r' : Nat -> Nat) : zM4 (stC a b c r) 0 (stV a' b' c' r') = stC a' b' c' r' := by
 simp only [zM4, stC, stV, lA, lZ, lS, Nat.reduceAdd]
theorem Bx.lay {y B1 : Nat} {ka ra : Option Addr} {kn kc rn rc : Nat} (h : Bx W C y s) (hB : C <= B1) (hs : jG W B1 (.slice ka kn kc) (.slice ra rn rc) (.slice none 0 0) t) : Bx (W.setCells y 0 (stV (.slice ka kn kc) (.slice ra rn rc) (.slice none 0 0) t.roots)) C y t := by
 obtain ⟨hy, ka', kn', kc', ra', rn', rc', ho, hs'⟩ := h;have := Own.cells (stV (.slice ka kn kc) (.slice ra rn rc) (.slice none 0 0) t.roots) 0 W _ ho;rw [zFq] at this;exact ⟨hy, ka, kn, kc, ra, rn, rc, this, (hs.low hB).cells ho (by decide) (by decide) _ _⟩
theorem Bx.other {y y' : Nat} {vs : List Value} {cs : Array Value} (h : Bx W C y' t) (ho : Own W y 38 cs) (hne : y' ≠ y) : Bx (W.setCells y 0 vs) C y' t := by
 obtain ⟨hy, ka, kn, kc, ra, rn, rc, ho', hs⟩ := h;exact ⟨hy, ka, kn, kc, ra, rn, rc, ((zAn (W := W) (y := y) (i := 0) vs).block y' ho'.in_ hne).trans ho', hs.cells ho (by decide) (by decide) _ _⟩
theorem com_N (P : PS) : P.com.N = P.N := by
 unfold PS.com;split
 · rfl
 · split
   · exact (zFs P).2.1
   · exact (zFs P).2.1
theorem Vs.abort {P : PS} {b v : Nat -> Pag × Nat} (h : Vs P k b v) : Vs P.abort k b v := ⟨h.failed, h.down, h.any⟩
theorem yL.told {P : PS} {rm : Nat} (h : yL P rm k) (hk : P.Ok) {u : Nat -> Pag × Nat} (e : ∀ no, no < 29 -> u no = P.view no) : tlS P.view = tlS u := Uc (h.gv hk).hi (by omega) fun no hn => (e no hn).symm
theorem zB7 (a b : Option Addr) (l m n o : Nat) (v : Value) (r : Nat -> Nat) (x : Int) : (stC (.slice a l m) (.slice b n o) v r)[0]? ≠ some (.int .u8 x) := by simp [stC]
theorem Xd (y : Nat) (a b c : Value) (r : Nat -> Nat) : W.setCells y 0 (stV a b c r) = (((((((((((W.setCell ⟨y, 0, none⟩ a).setCell ⟨y, 1, none⟩ b).setCell ⟨y, 2, none⟩ c).setCell ⟨y, 3, none⟩ (.int .u64 (r 0 : Int))).setCell ⟨y, 4, none⟩ (.int .u64 (r 1 : Int))).setCell ⟨y, 5, none⟩ (.int .u64 (r 2 : Int))).setCell ⟨y, 6, none⟩ (.int .u64 (r 3 : Int))).setCell ⟨y, 7, none⟩ (.int .u64 (r 4 : Int))).setCell ⟨y, 8, none⟩ (.int .u64 (r 5 : Int))).setCell ⟨y, 9, none⟩ (.int .u64 (r 6 : Int))).setCell ⟨y, 10, none⟩ (.int .u64 (r 7 : Int))) := rfl
end
end
section
section
variable {w0 W W' : World} {C d p c S y1 y2 k : Nat} {s t : RSt} {op : Bool} {Q : PS} {b v : Nat -> Pag × Nat} {s0 : St}
theorem Yb (v : Nat -> Pag × Nat) : (tlS v).rooms.length = (tlS v).kinds.length := by simp [tlS]
theorem zAb (hT : Q.T = []) : Q.view = Q.base := by funext no; unfold PS.view; rw [hT]; rfl
theorem zEh {rm : Nat} (hO : One w0 W C d p c S Q) (hA : yL Q rm k) (hT : Q.T = []) (hb : (∀ no, no < 29 -> Q.base no = b no) \/ ∀ no, no < 29 -> Q.base no = v no) (hs : s = tlS b) (h1 : op = true -> t = tlS v) (h2 : op = false -> tlS v = tlS b) :
   sameB (tlS Q.view) s = true \/ (sameB (tlS Q.view) s = false /\ op = true /\ sameB (tlS Q.view) t = true /\ t.rooms.length = t.kinds.length) := by
 subst hs;have gv := hA.gv hO.ok;have ev := zAb hT;have key : ∀ u : Nat -> Pag × Nat, (∀ no, no < 29 -> Q.base no = u no) -> tlS Q.view = tlS u := fun u hu => Uc gv.hi (by omega) fun no hn => by rw [ev]; exact hu no hn
 rcases hb with hb | hb
 · exact .inl (zBw (key b hb))
 · have e := key v hb;cases ho : op with
   | false => exact .inl (zBw (e.trans (h2 ho)))
   | true =>
     cases hh : sameB (tlS Q.view) (tlS b) with
     | true => exact .inl rfl
     | false =>
       refine .inr ⟨rfl, rfl, ?_, ?_⟩
       · rw [h1 ho]; exact zBw e
       · rw [h1 ho]; exact Yb v
theorem zAm (s : RSt) : sameB s s = true := Xw ⟨rfl, rfl, fun _ _ => rfl⟩
theorem Bx.laid {y B1 : Nat} {ka ra a1 a2 : Option Addr} {kn kc rn rc l1 m1 l2 m2 : Nat} {r : Nat -> Nat} (hy : C <= y) (ho : Own W y 38 (stC (.slice a1 l1 m1) (.slice a2 l2 m2) (.slice none 0 0) r)) (hB : C <= B1) (hs : jG W B1 (.slice ka kn kc) (.slice ra rn rc) (.slice none 0 0) t) : Bx (W.setCells y 0 (stV (.slice ka kn kc) (.slice ra rn rc) (.slice none 0 0) t.roots)) C y t := by
 have := Own.cells (stV (.slice ka kn kc) (.slice ra rn rc) (.slice none 0 0) t.roots) 0 W _ ho;rw [zFq] at this;exact ⟨hy, ka, kn, kc, ra, rn, rc, this, (hs.low hB).cells ho (by decide) (by decide) _ _⟩
theorem Rnd.mem (h : Rnd w0 W C d p S y1 y2 k op) (hb : Below W.heap.size W W') : Rnd w0 W' C d p S y1 y2 k op := by
 obtain ⟨s, t, hC, h1, h2⟩ := h;exact ⟨s, t, hC.mem hb, (yC hb).bx h1, (yC hb).bx h2⟩
theorem Rnd.crashed {q rm : Nat} (h : One w0 W C d q c S Q) (hN : Q.N = 300) (ha : yL Q 30 k) (hT : Q.T = []) (h1 : Bx W C y1 (tlS Q.view)) (h2 : Bx W C y2 t) (hc : c <= 452 + 250 * k) : Rnd w0 W C d q S y1 y2 (k + 1) false :=
 ⟨tlS Q.view, t, ⟨Q, h.more (by omega), hN, .inl ⟨ha.more (Nat.le_succ k), by rw [zAb hT], rfl⟩⟩, h1, h2⟩
end
end
end Go.Proofs.YthijgebmoadgkaaGreatDoor
namespace Go.Proofs.YthijgebmoadgkaaGreatDoor.pagerCrash
open Go.ChangeShapes Go.WideShapes Go.ChangeAt Go.RowKit
open Go.ChangeMaps (open_string shut_string)
set_option maxHeartbeats 16000000 in
set_option maxRecDepth 100000 in
theorem walk (a0 : Option Addr) (len0 cap0 : Nat) (z0 : List uU) (w : World) (w0 : Jf w a0 len0 cap0 z0) :
   Calls Tryz.prog 3 #[.slice a0 len0 cap0] w fun e w' => e = .returned (.bool true) ∧ Below w.heap.size w w' := by
 have hw1 := w0;obtain ⟨hl1, hl2, hl3, hl4⟩ := w0;unfold maxLen at hl2;have hlen : len0 ≤ 9223372036854775807 := by omega
 replace hw1 := Lh hw1;replace hl3 := Lh hl3;replace hl4 := Lh hl4;have AW := Lh (fun W => zMf W);go_enter Tryz.func3, Tryz.ntmps3;go_wp2_with fail;refine (AW.out _).mono ?_;rintro e w1 ⟨rfl, b1⟩;go_wp2_with fail;refine (zMi w1 a0 len0 cap0 z0 (hw1.out.keep b1)).mono ?_;rintro e w' ⟨rfl, ⟨rfl, hf⟩ | rfl⟩;rotate_left
 · go_wp2_with fail;refine (AW.out _).mono ?_;rintro e w2 ⟨rfl, b2⟩;go_wp2_with fail;go_ret;exact ⟨rfl, then_ b1 b2 b1.size⟩
 replace hf := Lh hf;replace b1 := Lh b1;have zb1 := Lh b1.out.size;go_upto_region 4 with (go_at_call 16; refine (zNm 300 (by decide) (by decide) w1).mono ?_; rintro e w2 ⟨d, rfl, hd2, hb2⟩; have D2 := Lh hd2; have B2 := Lh hb2; clear hd2 hb2)
 have FO := Lh (zNc (ll := 60) D2.out rfl (show (-1 : Int) < 0 by decide) (Nat.zero_le _) (by decide) (by decide));go_upto_region 6 with (go_at_call 17; refine FO.out.mono ?_; rintro e w3 ⟨rfl, hb3, s3, hF3, hd3⟩; have D3 := Lh hd3; have F3 := Lh hF3; have B3 := Lh (B2.out.trans hb3); clear hd3 hF3 hb3)
 have OO := Lh (zN1 D3.out F3.out (by decide) (by decide) 30 (by decide) (by decide));go_upto_region 9 with (go_at_call 18; refine OO.out.mono ?_; rintro e w4 ⟨P, p0, Bp, rfl, hn4, hk4, hp4, hB4, hb4⟩; have R4 := Lh (zIc (then_ B3.out hb4 B3.out.size) hp4 (Nat.le_trans B3.out.size hB4) hn4 hk4); clear hp4 hn4 hk4 hB4 hb4)
 obtain ⟨S, hO4, hA4, hv4⟩ := R4.out;have O4 := Lh hO4;have A4 := Lh hA4;have V4 := Lh hv4;clear hO4 hA4 hv4 R4 OO FO B3 F3 D3 B2 D2;have TO := O4.out.told A4.out (by omega);obtain ⟨st, hst⟩ : ∃ st, st = tlS P.view := ⟨_, rfl⟩
 rw [← hst] at TO;have HST := Lh hst;obtain ⟨gt, hgt⟩ : ∃ gt, gt = st.roots := ⟨_, rfl⟩
 rw [← hgt] at TO;have HGT := Lh hgt;unfold stC at TO;replace TO := Lh TO;clear hst hgt;go_upto_region 10 with (go_at_call 19; refine TO.out.mono ?_; rintro e w5 ⟨⟨ga, gn, gc, gA, gN, gC, rfl, hs5⟩, t5, k5⟩; have T5 := Lh t5; have S5 := Lh hs5; have K5 := Lh k5; clear t5 hs5 k5)
 go_name_world W6 hW6;have n6 : Own W6 w5.heap.size 38 #[.slice ga gn gc, .slice gA gN gC, .slice none 0 0, .int .u64 (gt 0 : Int), .int .u64 (gt 1 : Int), .int .u64 (gt 2 : Int), .int .u64 (gt 3 : Int), .int .u64 (gt 4 : Int), .int .u64 (gt 5 : Int), .int .u64 (gt 6 : Int), .int .u64 (gt 7 : Int)] := by
   rw [← hW6];exact Own.made_at rfl
 have b56 : Below w5.heap.size w5 W6 := by
   rw [← hW6];exact (Below.refl _ _).alloc (Nat.le_refl _) _
 have N6 := Lh n6;have B56 := Lh b56;clear hW6 b56 n6;obtain ⟨q1, q2, q3⟩ := N6.out.at_;go_upto_region 11 with fail;go_name_world W7 hW7;have n7 : Own W7 W6.heap.size 38 #[.slice ga gn gc, .slice gA gN gC, .slice none 0 0, .int .u64 (gt 0 : Int), .int .u64 (gt 1 : Int), .int .u64 (gt 2 : Int), .int .u64 (gt 3 : Int), .int .u64 (gt 4 : Int), .int .u64 (gt 5 : Int), .int .u64 (gt 6 : Int), .int .u64 (gt 7 : Int)] := by
   rw [← hW7];exact Own.made_at rfl
 have b67 : Below W6.heap.size W6 W7 := by
   rw [← hW7];exact (Below.refl _ _).alloc (Nat.le_refl _) _
 have hc : Cr w1 W7 w4.heap.size d p0 202 S 0 st st false := ⟨P, (T5.out.mem B56.out).mem b67, A4.out.N, .inl ⟨A4.out, by rw [HST.out]; exact V4.out, rfl⟩⟩
 have hs7 : jG W7 w4.heap.size (.slice ga gn gc) (.slice gA gN gC) (.slice none 0 0) st := (S5.out.below B56.out).below b67;have N7 := N6.out.keep b67;rw [HGT.out] at n7 N7;have I7 : Hid (Rnd w1 W7 w4.heap.size d p0 S w5.heap.size W6.heap.size 0 false) := Lh ⟨st, st, hc, ⟨T5.out.hi, ga, gn, gc, gA, gN, gC, N7, hs7⟩, ⟨Nat.le_trans T5.out.hi B56.out.size, ga, gn, gc, gA, gN, gC, n7, hs7⟩⟩;obtain ⟨y1, hy1⟩ : ∃ y1, y1 = w5.heap.size := ⟨_, rfl⟩
 obtain ⟨y2, hy2⟩ : ∃ y2, y2 = W6.heap.size := ⟨_, rfl⟩
 obtain ⟨C, hC⟩ : ∃ C, C = w4.heap.size := ⟨_, rfl⟩
 have y12 : y2 ≠ y1 := by have := N6.out.in_; omega
 rw [← hy1, ← hy2, ← hC] at I7;try rw [← hy1]
 try rw [← hy2]
 clear hy1 hy2 hC hW7 n7 b67 hc hs7 N7 TO N6 B56 T5 S5 K5 O4 A4 V4 q1 q2 q3 HST HGT;go_wp2;go_loopw [5, 10, 11] (fun v5 v10 v11 wr => ∃ (k p : Nat) (op : Bool), k ≤ len0 ∧ v11 = .int .i64 k ∧ v5 = .pointer (some ⟨p, 0, none⟩) ∧ v10 = .bool op ∧ Rnd w1 wr C d p S y1 y2 k op) (fun v5 v10 v11 wr => len0 - (intOf v11).toNat)
 case atStart => exact ⟨0, p0, false, by omega, rfl, rfl, rfl, I7.out⟩
 case round =>
   clear I7;obtain ⟨k, p, op, hk, rfl, rfl, rfl, HI⟩ := hrel;have BI := HI.below;replace BI := then_ b1.out BI b1.out.size;replace HI := Lh HI;by_cases hlt : k < len0
   rotate_left
   · obtain rfl : k = len0 := by omega
     go_wp2;go_ret;exact ⟨rfl, BI⟩
   rcases hl4.out with h | ⟨b0, o0, rfl, hbz, hc⟩
   · omega
   have hkl : k < z0.length := by rw [hl3.out]; exact hlt
   obtain ⟨hcell, hx⟩ := hc k hkl;have hlf : len0 ≤ 60 := by have := hf.out.1; rw [hl3.out] at this; exact this
   obtain ⟨y, hy⟩ : ∃ y, y = z0[k]'hkl := ⟨_, rfl⟩
   rw [← hy] at hcell hx;clear hy hc;have hold := Lh hx.old;replace hx := hx.stay BI;replace hcell := fun j hj => (BI.cell (p := ⟨b0, o0 + k * 9 + j, none⟩) hbz).trans (hcell j hj)
   have c0 := hcell 0 (by omega);have c1 := hcell 1 (by omega);have c2 := hcell 2 (by omega);have c3 := hcell 3 (by omega);have c4 := hcell 4 (by omega);have c5 := hcell 5 (by omega);have c6 := hcell 6 (by omega);have c7 := hcell 7 (by omega);have c8 := hcell 8 (by omega);obtain ⟨x0, x1, x2, x3, x4, x5, ka, kl, kc, zs, x7, x8⟩ := y;simp only [uU.cells, List.getElem?_toArray, List.getElem?_cons_succ, List.getElem?_cons_zero, Nat.add_zero] at c0 c1 c2 c3 c4 c5 c6 c7 c8;obtain ⟨v0, v1, v2, v3, v4, v5, v6, v6', v7, v8⟩ := hx;simp only at v0 v1 v2 v3 v4 v5 v6 v6' v7 v8 hold;have r0 := zIz v0;have r1 := zIz v1;obtain ⟨r01, r02⟩ := r0;obtain ⟨r11, r12⟩ := r1;have V2 := Lh v2;have V5 := Lh v5;have V6 := Lh v6;have kz : kl ≤ kc := v6.1;clear v0 v1 v2 v3 v4 v5 v6 v6' v7 v8 hcell BI;obtain ⟨kk, rfl⟩ : ∃ kk : Nat, x1 = (kk : Int) := ⟨x1.toNat, by omega⟩
   obtain ⟨dd, hdd⟩ : ∃ dd, x0 % 9 = dd := ⟨_, rfl⟩
   have hd9 : dd = 0 ∨ dd = 1 ∨ dd = 2 ∨ dd = 3 ∨ dd = 4 ∨ dd = 5 ∨ dd = 6 ∨ dd = 7 ∨ dd = 8 := by omega
   go_upto_region 15 with fail;go_name_world W0 hW0e;have o0 : Own W0 wr.heap.size 44 #[.int .u8 x0, .int .u8 (kk : Int), .int .u8 x2, .int .i64 x3, .int .i64 x4, .int .u16 x5, .slice ka kl kc, .int .i64 x7, .int .i64 x8] := hW0e ▸ Own.made _ _ _;have hb0 : Below wr.heap.size wr W0 := hW0e ▸ (Below.refl _ _).alloc (Nat.le_refl _) _;obtain ⟨s, t, hC, hB1, hB2⟩ := HI.out;have XC := Lh hC.hi;have C0 := Lh (hC.mem hb0);have K0 := yC (C := C) hb0;have F1 := Lh (K0.bx hB1);have F2 := Lh (K0.bx hB2);have Z6 := Lh (V6.out.keep hb0);have O0 := Lh o0;obtain ⟨q1, q2, q3⟩ := o0.at_;clear hW0e hb0 hC hB1 hB2 HI c0 c1 c2 c3 c4 c5 c6 c7 c8 o0 K0 V6;go_upto_block 2 with fail
   try rw [hdd]
   clear hdd;rcases hd9 with e9 | e9 | e9 | e9 | e9 | e9 | e9 | e9 | e9
   · as_aux_lemma =>
     have t0_ : (dd == 0) = true := by rw [e9]; rfl
     clear e9;have C1 := fun x => C0.out.alloc x (by omega)
     replace C1 := Lh C1;go_wp2_with (go_at_call 20; refine (C1.out _).mono ?_; rintro e w3 ⟨⟨n_, y_, rfl⟩, t3, k3⟩; have T3 := Lh t3; have K3 := Lh k3; clear t3 k3)
     go_roundw
     case rel => exact ⟨k + 1, p, op, by omega, by go_num, rfl, rfl, Rnd.next T3.out F1.out F2.out K3.out (by omega)⟩
     case measure => simp [intOf]; omega
   · as_aux_lemma =>
     have t0_ : (dd == 0) = false := by rw [e9]; rfl
     have t1_ : (dd == 1) = true := by rw [e9]; rfl
     clear e9;have RM := fun W => zJq ⟨x0, (kk : Int), x2, x3, x4, x5, ka, kl, kc, zs, x7, x8⟩ W V2.out V5.out
     simp only [uU.cells] at RM;obtain ⟨X, hX⟩ : ∃ X, X = uU.room ⟨x0, (kk : Int), x2, x3, x4, x5, ka, kl, kc, zs, x7, x8⟩ := ⟨_, rfl⟩
     rw [← hX] at RM;clear hX;have C1 := Lh (fun (W : World) (x : Int) (h : Cr w1 W C d p (202 + 250 * k) S k s t op) => h.write x3 x X (by omega));replace RM := Lh RM;go_upto_region 19 with fail;refine zA (fun W => Own W wr.heap.size 44 #[.int .u8 x0, .int .u8 (kk : Int), .int .u8 x2, .int .i64 x3, .int .i64 x4, .int .u16 x5, .slice ka kl kc, .int .i64 x7, .int .i64 x8]) (0 :: 1 :: 2 :: 3 :: 4 :: 5 :: 6 :: 7 :: 8 :: []) (2 :: 4 :: 8 :: []) (0 :: 1 :: 2 :: 3 :: 4 :: 5 :: 6 :: 7 :: 8 :: 9 :: 10 :: []) (by kernel_rfl) (by kernel_rfl) rfl (by kernel_rfl) rfl (O0.out.drawn) (by simp only [zU, List.filterMap_cons, List.filterMap_nil, List.getElem?_cons_zero, List.getElem?_cons_succ, Option.map_some]; exact rfl) ?_;iterate 9
       refine zC (v := ?_) rfl rfl (fun W hS => ?_) ?_;rotate_left
       · first
           | (conv => lhs; simp [go_sem]
              first | done | exact rfl)
           | (have hS := hS rfl
              obtain ⟨q1, q2, q3⟩ := hS.at_;conv => lhs; simp [go_sem, *]
              first | done | exact rfl)
       simp only [Act.put, lA, lZ, lS]
     refine zQ rfl rfl fun K hK => ?_
     go_wp2_with (go_at_call 22; refine (RM.out _).mono ?_; rintro e w5 ⟨rfl, b5⟩)
     have D5 := then_ (Below.refl W0.heap.size W0).drew b5 (Nat.le_refl _);have T5 := Lh (C0.out.mem D5);have K5 := Lh (yC (C := C) D5);have O5 := Lh (O0.out.keep D5);refine hK _ _ O5.out ?_;clear hK K b5 D5;refine zQ rfl rfl fun K hK => ?_
     go_wp2_with (go_at_call 21; refine (C1.out _ _ T5.out).mono ?_; rintro e w6 ⟨⟨y_, rfl⟩, t6, k6⟩; have T6 := Lh t6; have K6 := Lh (K5.out.trans k6); have O6 := Lh (k6 _ _ _ XC.out (.inl rfl) O5.out); clear t6 k6)
     refine hK _ _ O6.out ?_;clear hK K;refine zR ?_;go_wp2;go_roundw
     case rel => exact ⟨k + 1, p, op, by omega, by go_num, rfl, rfl, Rnd.next T6.out F1.out F2.out K6.out (by omega)⟩
     case measure => simp [intOf]; omega
   · as_aux_lemma =>
     have t0_ : (dd == 0) = false := by rw [e9]; rfl
     have t1_ : (dd == 1) = false := by rw [e9]; rfl
     have t2_ : (dd == 2) = true := by rw [e9]; rfl
     clear e9;have C1 := C0.out.free x3 (by omega);replace C1 := Lh C1;go_wp2_with (go_at_call 23; refine C1.out.mono ?_; rintro e w3 ⟨⟨y_, rfl⟩, t3, k3⟩; have T3 := Lh t3; have K3 := Lh k3; clear t3 k3)
     go_roundw
     case rel => exact ⟨k + 1, p, op, by omega, by go_num, rfl, rfl, Rnd.next T3.out F1.out F2.out K3.out (by omega)⟩
     case measure => simp [intOf]; omega
   · as_aux_lemma =>
     have t0_ : (dd == 0) = false := by rw [e9]; rfl
     have t1_ : (dd == 1) = false := by rw [e9]; rfl
     have t2_ : (dd == 2) = false := by rw [e9]; rfl
     have t3_ : (dd == 3) = true := by rw [e9]; rfl
     clear e9;obtain ⟨U, hU⟩ : ∃ U : Nat, IntKind.u64.wrap x4 = (U : Int) := ⟨(IntKind.u64.wrap x4).toNat, by have : 0 ≤ IntKind.u64.wrap x4 := by { simp [IntKind.wrap, IntKind.signed, IntKind.bits]; omega }; omega⟩
     have hU2 : U < 18446744073709551616 := by have h : IntKind.u64.wrap x4 < 18446744073709551616 := by { simp [IntKind.wrap, IntKind.signed, IntKind.bits]; omega }; omega
     have C1 := Lh (C0.out.root x3 U hU2 (by omega));clear hU2;go_wp2_with (go_at_call 24; refine C1.out.mono ?_; rintro e w3 ⟨⟨y_, rfl⟩, t3, k3⟩; have T3 := Lh t3; have K3 := Lh k3; clear t3 k3)
     go_roundw
     case rel => exact ⟨k + 1, p, op, by omega, by go_num, rfl, rfl, Rnd.next T3.out F1.out F2.out K3.out (by omega)⟩
     case measure => simp [intOf]; omega
   ·
     have t0_ : (dd == 0) = false := by rw [e9]; rfl
     have t1_ : (dd == 1) = false := by rw [e9]; rfl
     have t2_ : (dd == 2) = false := by rw [e9]; rfl
     have t3_ : (dd == 3) = false := by rw [e9]; rfl
     have t4_ : (dd == 4) = true := by rw [e9]; rfl
     clear e9;obtain ⟨P, hO, hN, hL⟩ := C0.out;have OP := Lh hO;have PN := Lh hN;rcases hL with ⟨al, hs, ho⟩ | ⟨b, v, dd, hs, h1, h2⟩
     · subst ho;have AL := Lh al;have HS := Lh hs;clear al hs hO hN;have TO := OP.out.told AL.out (by omega);obtain ⟨nt, hnt⟩ : ∃ nt, nt = tlS P.view := ⟨_, rfl⟩
       rw [← hnt] at TO;have HNT := Lh hnt;obtain ⟨mt, hmt⟩ : ∃ mt, mt = nt.roots := ⟨_, rfl⟩
       rw [← hmt] at TO;have HMT := Lh hmt;unfold stC at TO;replace TO := Lh TO;clear hnt hmt;have ZC := Lh (Nat.le_trans XC.out (Nat.le_of_lt O0.out.in_));go_upto_region 26 with (go_at_call 19; refine TO.out.mono ?_; rintro e w5 ⟨⟨ma, mn, mc, mA, mN, mC, rfl, hs5⟩, t5, k5⟩; have T5 := Lh t5; have S5 := Lh hs5; have K5 := Lh k5; clear t5 hs5 k5)
       go_name_world W6 hW6;have n6 : Own W6 w5.heap.size 38 #[.slice ma mn mc, .slice mA mN mC, .slice none 0 0, .int .u64 (mt 0 : Int), .int .u64 (mt 1 : Int), .int .u64 (mt 2 : Int), .int .u64 (mt 3 : Int), .int .u64 (mt 4 : Int), .int .u64 (mt 5 : Int), .int .u64 (mt 6 : Int), .int .u64 (mt 7 : Int)] := by
         rw [← hW6];exact Own.made_at rfl
       have b56 : Below w5.heap.size w5 W6 := by
         rw [← hW6];exact (Below.refl _ _).alloc (Nat.le_refl _) _
       have YC := Lh (show C ≤ w5.heap.size from T5.out.hi);have T6 := Lh (T5.out.mem b56);have U6 := Lh (S5.out.below b56);have k6 := K5.out.trans (yC (C := C) b56);have G1 := Lh (k6.bx F1.out);have G2 := Lh (k6.bx F2.out);have N6 := Lh n6;clear hW6 b56 n6 k6 T5 S5 K5 TO q1 q2 q3;have CM := T6.out.commit AL.out (by omega) (by omega);rcases AL.out.com T6.out.ok (by omega) with ⟨e0, a1, a2⟩ | ⟨e0, a1⟩ | ⟨e0, a1⟩
       ·
         have A2 := Lh a2;clear a2;rw [e0] at CM;replace CM := Lh CM;have A1 := Lh a1;clear e0 a1;go_upto_region 28 with (go_at_call 25; refine CM.out.mono ?_; rintro e w7 ⟨rfl, t7, k7⟩; have T7 := Lh t7; have H1 := Lh (k7.bx G1.out); have H2 := Lh (k7.bx G2.out); have N7 := Lh (k7 _ _ _ YC.out (.inr (.inl rfl)) N6.out); have V7 := Lh (k7.st U6.out ZC.out); clear t7 k7)
         obtain ⟨hy, ga, gn, gc, gA, gN, gC, go1, gs1⟩ := H1.out;obtain ⟨g1, g2, g3⟩ := go1.at_;unfold stC at g1;try unfold stC at g2
         obtain ⟨q1, q2, q3⟩ := N7.out.at_;have GO := Lh go1;have HY := Lh hy;clear go1 gs1 hy;have B1 := H1.out.lay ZC.out V7.out;rw [← HMT.out] at B1;have B2 := Bx.other (vs := stV (.slice ma mn mc) (.slice mA mN mC) (.slice none 0 0) mt) H2.out GO.out y12;have t8 := T7.out.lay (i := 0) HY.out GO.out (zB7 _ _ _ _ _ _ _ _) (stV (.slice ma mn mc) (.slice mA mN mC) (.slice none 0 0) mt);obtain ⟨W8, hW8⟩ : ∃ W8, W8 = w7.setCells y1 0 (stV (.slice ma mn mc) (.slice mA mN mC) (.slice none 0 0) mt) := ⟨_, rfl⟩
         rw [← hW8] at B1 B2 t8;have R8 : Rnd w1 W8 C d p S y1 y2 (k + 1) false := ⟨nt, t, ⟨P.com, t8.more (by omega), A1.out.N, .inl ⟨A1.out, by rw [HNT.out]; exact AL.out.told T6.out.ok A2.out, rfl⟩⟩, B1, B2⟩
         rw [Xd] at hW8;replace R8 := Lh R8;have HW8 := Lh hW8;clear hW8 B1 B2 t8 GO;go_upto_region 27 with fail;rw [← HW8.out];exact ⟨⟨k + 1, p, false, by omega, by go_num, rfl, rfl, R8.out⟩, by simp [intOf]; omega⟩
       ·
         rw [e0] at CM;replace CM := Lh CM;have A1 := Lh a1;clear e0 a1;go_upto_region 28 with (go_at_call 25; refine CM.out.mono ?_; rintro e w7 ⟨rfl, t7, k7⟩; have T7 := Lh t7; have H1 := Lh (k7.bx G1.out); have H2 := Lh (k7.bx G2.out); have N7 := Lh (k7 _ _ _ YC.out (.inr (.inl rfl)) N6.out); have V7 := Lh (k7.st U6.out ZC.out); clear t7 k7)
         have CA := Lh (T7.out.abort);go_wp2_with (go_at_call 26; refine CA.out.mono ?_; rintro e w9 ⟨rfl, t9, k9⟩; have T9 := Lh t9; have K9 := Lh k9; clear t9 k9)
         go_roundw
         case rel => exact ⟨k + 1, p, false, by omega, by go_num, rfl, rfl, s, t, ⟨P.com.abort, T9.out.more (by omega), by rw [A1.out]; exact PN.out, .inl ⟨by rw [A1.out]; exact AL.out.abort.more (Nat.le_succ k), by rw [A1.out]; exact HS.out, rfl⟩⟩, K9.out.bx H1.out, K9.out.bx H2.out⟩
         case measure => simp [intOf]; omega
       ·
         rw [e0] at CM;replace CM := Lh CM;have A1 := Lh a1;clear e0 a1;go_upto_region 28 with (go_at_call 25; refine CM.out.mono ?_; rintro e w7 ⟨rfl, t7, k7⟩; have T7 := Lh t7; have H1 := Lh (k7.bx G1.out); have H2 := Lh (k7.bx G2.out); have N7 := Lh (k7 _ _ _ YC.out (.inr (.inl rfl)) N6.out); have V7 := Lh (k7.st U6.out ZC.out); clear t7 k7)
         obtain ⟨hy, ga, gn, gc, gA, gN, gC, go1, gs1⟩ := H2.out;obtain ⟨g1, g2, g3⟩ := go1.at_;unfold stC at g1;try unfold stC at g2
         obtain ⟨q1, q2, q3⟩ := N7.out.at_;have GO := Lh go1;have HY := Lh hy;clear go1 gs1 hy;have B1 := H2.out.lay ZC.out V7.out;rw [← HMT.out] at B1;have B2 := Bx.other (vs := stV (.slice ma mn mc) (.slice mA mN mC) (.slice none 0 0) mt) H1.out GO.out y12.symm;have t8 := T7.out.lay (i := 0) HY.out GO.out (zB7 _ _ _ _ _ _ _ _) (stV (.slice ma mn mc) (.slice mA mN mC) (.slice none 0 0) mt);obtain ⟨W8, hW8⟩ : ∃ W8, W8 = w7.setCells y2 0 (stV (.slice ma mn mc) (.slice mA mN mC) (.slice none 0 0) mt) := ⟨_, rfl⟩
         rw [← hW8] at B1 B2 t8;have R8 : Rnd w1 W8 C d p S y1 y2 (k + 1) true := ⟨s, nt, ⟨P.com, t8.more (by omega), (com_N P).trans PN.out, .inr ⟨P.base, P.view, A1.out, HS.out, (fun _ => HNT.out), (fun h => by cases h)⟩⟩, B2, B1⟩
         rw [Xd] at hW8;replace R8 := Lh R8;have HW8 := Lh hW8;clear hW8 B1 B2 t8 GO;go_upto_region 27 with fail;rw [← HW8.out];exact ⟨⟨k + 1, p, true, by omega, by go_num, rfl, rfl, R8.out⟩, by simp [intOf]; omega⟩
     ·
       have DD := Lh (And.intro dd (And.intro hs (And.intro h1 h2)));clear dd hs h1 h2 hO hN;have TO := Lh (OP.out.told_dead DD.out.1.down);go_upto_region 26 with (go_at_call 19; refine TO.out.mono ?_; rintro e w5 ⟨rfl, t5, k5⟩; have T5 := Lh t5; have K5 := Lh k5; clear t5 k5)
       go_name_world W6 hW6;have b56 : Below w5.heap.size w5 W6 := by
         rw [← hW6];exact (Below.refl _ _).alloc (Nat.le_refl _) _
       have T6 := Lh (T5.out.mem b56);have k6 := K5.out.trans (yC (C := C) b56);have H1 := Lh (k6.bx F1.out);have H2 := Lh (k6.bx F2.out);clear hW6 b56 k6 T5 K5 TO q1 q2 q3;have CM := Lh (T6.out.commit_dead DD.out.1.failed);go_upto_region 28 with (go_at_call 25; refine CM.out.mono ?_; rintro e w' ⟨rfl, rfl⟩)
       have CA := Lh (T6.out.abort);go_wp2_with (go_at_call 26; refine CA.out.mono ?_; rintro e w9 ⟨rfl, t9, k9⟩; have T9 := Lh t9; have K9 := Lh k9; clear t9 k9)
       go_roundw
       case rel => exact ⟨k + 1, p, op, by omega, by go_num, rfl, rfl, s, t, ⟨P.abort, T9.out.more (by omega), PN.out, .inr ⟨b, v, DD.out.1.abort.up (Nat.le_succ k), DD.out.2.1, DD.out.2.2.1, DD.out.2.2.2⟩⟩, K9.out.bx H1.out, K9.out.bx H2.out⟩
       case measure => simp [intOf]; omega
   · as_aux_lemma =>
     have t0_ : (dd == 0) = false := by rw [e9]; rfl
     have t1_ : (dd == 1) = false := by rw [e9]; rfl
     have t2_ : (dd == 2) = false := by rw [e9]; rfl
     have t3_ : (dd == 3) = false := by rw [e9]; rfl
     have t4_ : (dd == 4) = false := by rw [e9]; rfl
     have t5_ : (dd == 5) = true := by rw [e9]; rfl
     clear e9;have C1 := C0.out.abort;replace C1 := Lh C1;go_wp2_with (go_at_call 26; refine C1.out.mono ?_; rintro e w3 ⟨rfl, t3, k3⟩; have T3 := Lh t3; have K3 := Lh k3; clear t3 k3)
     go_roundw
     case rel => exact ⟨k + 1, p, op, by omega, by go_num, rfl, rfl, Rnd.next T3.out F1.out F2.out K3.out (by omega)⟩
     case measure => simp [intOf]; omega
   · as_aux_lemma =>
     have t0_ : (dd == 0) = false := by rw [e9]; rfl
     have t1_ : (dd == 1) = false := by rw [e9]; rfl
     have t2_ : (dd == 2) = false := by rw [e9]; rfl
     have t3_ : (dd == 3) = false := by rw [e9]; rfl
     have t4_ : (dd == 4) = false := by rw [e9]; rfl
     have t5_ : (dd == 5) = false := by rw [e9]; rfl
     have t6_ : (dd == 6) = true := by rw [e9]; rfl
     clear e9;have C1 := C0.out.check (by omega);replace C1 := Lh C1;go_wp2_with (go_at_call 27; refine C1.out.mono ?_; rintro e w3 ⟨⟨y_, rfl⟩, t3, k3⟩; have T3 := Lh t3; have K3 := Lh k3; clear t3 k3)
     go_roundw
     case rel => exact ⟨k + 1, p, op, by omega, by go_num, rfl, rfl, Rnd.next' T3.out F1.out F2.out K3.out (by omega)⟩
     case measure => simp [intOf]; omega
   · as_aux_lemma =>
     have t0_ : (dd == 0) = false := by rw [e9]; rfl
     have t1_ : (dd == 1) = false := by rw [e9]; rfl
     have t2_ : (dd == 2) = false := by rw [e9]; rfl
     have t3_ : (dd == 3) = false := by rw [e9]; rfl
     have t4_ : (dd == 4) = false := by rw [e9]; rfl
     have t5_ : (dd == 5) = false := by rw [e9]; rfl
     have t6_ : (dd == 6) = false := by rw [e9]; rfl
     have t7_ : (dd == 7) = true := by rw [e9]; rfl
     clear e9;obtain ⟨U, hU⟩ : ∃ U, IntKind.u64.wrap x4 = U := ⟨_, rfl⟩
     have hU0 : 0 ≤ U := by rw [← hU]; simp [IntKind.wrap, IntKind.signed, IntKind.bits]; omega
     have C1 := Lh (C0.out.fuse (U % 60) (gM (by omega) (by omega)));go_wp2_with (go_at_call 28; refine C1.out.mono ?_; rintro e w3 ⟨rfl, t3, k3⟩; have T3 := Lh t3; have K3 := Lh k3; clear t3 k3)
     go_roundw
     case rel => exact ⟨k + 1, p, op, by omega, by go_num, rfl, rfl, Rnd.next T3.out F1.out F2.out K3.out (by omega)⟩
     case measure => simp [intOf]; omega
   ·
     have t0_ : (dd == 0) = false := by rw [e9]; rfl
     have t1_ : (dd == 1) = false := by rw [e9]; rfl
     have t2_ : (dd == 2) = false := by rw [e9]; rfl
     have t3_ : (dd == 3) = false := by rw [e9]; rfl
     have t4_ : (dd == 4) = false := by rw [e9]; rfl
     have t5_ : (dd == 5) = false := by rw [e9]; rfl
     have t6_ : (dd == 6) = false := by rw [e9]; rfl
     have t7_ : (dd == 7) = false := by rw [e9]; rfl
     have t8_ : (dd == 8) = true := by rw [e9]; rfl
     clear e9;have C1 := C0.out.crash (by omega) ka kl kc zs x7 x8 Z6.out (fun b o e hl => Nat.lt_of_lt_of_le (hold.out b o e hl) zb1.out);replace C1 := Lh C1;go_upto_region 41 with (go_at_call 29; refine C1.out.mono ?_; rintro e w3 ⟨rfl, t3, k3⟩; have T3 := Lh t3; have K3 := Lh k3; clear t3 k3)
     obtain ⟨b, v, s0, kp, hkp, hB, hA, hs, h1, h2⟩ := T3.out;have OP := Lh (hB.open_ hA hkp (by omega));have HS := Lh hs;have H1 := Lh h1;have H2 := Lh h2;have G1 := Lh (K3.out.bx F1.out);have G2 := Lh (K3.out.bx F2.out);clear T3 K3 hB hA hs h1 h2 hkp C1 F1 F2 Z6 q1 q2 q3;go_upto_region 44 with (go_at_call 18; refine OP.out.mono ?_; rintro e w4 ⟨q, Q, rfl, o4, al4, hT4, hb4, k4⟩; have O4 := Lh o4; have A4 := Lh al4; have T4 := Lh hT4; have B4 := Lh hb4; have K4 := Lh k4; clear o4 al4 hT4 hb4 k4)
     replace G1 := Lh (K4.out.bx G1.out);replace G2 := Lh (K4.out.bx G2.out);have SAME := Lh (zEh O4.out A4.out T4.out B4.out HS.out H1.out H2.out);have LS := Lh (show s.rooms.length = s.kinds.length by rw [HS.out]; exact Yb b);clear B4 K4 H1 H2 OP HS;have TO := O4.out.told A4.out (by omega);have LN := Lh (Yb Q.view);obtain ⟨nt, hnt⟩ : ∃ nt, nt = tlS Q.view := ⟨_, rfl⟩
     rw [← hnt] at TO SAME LN;have HNT := Lh hnt;obtain ⟨mt, hmt⟩ : ∃ mt, mt = nt.roots := ⟨_, rfl⟩
     rw [← hmt] at TO;have HMT := Lh hmt;unfold stC at TO;replace TO := Lh TO;clear hnt hmt;go_upto_region 45 with (go_at_call 19; refine TO.out.mono ?_; rintro e w5 ⟨⟨ma, mn, mc, mA, mN, mC, rfl, hs5⟩, t5, k5⟩; have T5 := Lh t5; have S5 := Lh hs5; have K5 := Lh k5; clear t5 hs5 k5)
     go_name_world W6 hW6;have n6 : Own W6 w5.heap.size 38 #[.slice ma mn mc, .slice mA mN mC, .slice none 0 0, .int .u64 (mt 0 : Int), .int .u64 (mt 1 : Int), .int .u64 (mt 2 : Int), .int .u64 (mt 3 : Int), .int .u64 (mt 4 : Int), .int .u64 (mt 5 : Int), .int .u64 (mt 6 : Int), .int .u64 (mt 7 : Int)] := by
       rw [← hW6];exact Own.made_at rfl
     have b56 : Below w5.heap.size w5 W6 := by
       rw [← hW6];exact (Below.refl _ _).alloc (Nat.le_refl _) _
     have T6 := Lh (T5.out.mem b56);have U6 := Lh (S5.out.below b56);have k6 := K5.out.trans (yC (C := C) b56);replace G1 := Lh (k6.bx G1.out);replace G2 := Lh (k6.bx G2.out);have N6 := Lh n6;obtain ⟨y3, hy3⟩ : ∃ y3, y3 = w5.heap.size := ⟨_, rfl⟩
     rw [← hy3] at N6;try rw [← hy3]
     have HI4 := Lh O4.out.hi;clear hW6 b56 n6 k6 T5 S5 K5 TO hy3;obtain ⟨hg1, ga, gn, gc, gA, gN, gC, go1, gs1⟩ := G1.out;obtain ⟨hg2, ha, hn, hc, hA_, hN_, hC_, go2, gs2⟩ := G2.out;have GS1 := Lh gs1;have GS2 := Lh gs2;have HG1 := Lh hg1;have HG2 := Lh hg2;obtain ⟨st, hst⟩ : ∃ st, st = s.roots := ⟨_, rfl⟩
     obtain ⟨tt, htt⟩ : ∃ tt, tt = t.roots := ⟨_, rfl⟩
     rw [← hst] at go1;rw [← htt] at go2;have GO1 := Lh go1;have GO2 := Lh go2;have HST := Lh hst;have HTT := Lh htt;clear go1 gs1 go2 gs2 hg1 hg2 hst htt G1 O4;rcases SAME.out with e1 | ⟨e1, eo, e2, e3⟩
     ·
       obtain ⟨q1, q2, q3⟩ := N6.out.at_;obtain ⟨r1, r2, r3⟩ := GO1.out.at_;unfold stC at r1;try unfold stC at r2
       have SM := fY U6.out GS1.out LN.out LS.out;rw [e1, ← HMT.out, ← HST.out] at SM;unfold stC at SM;replace SM := Lh SM;clear e1 SAME;go_upto_region 47 with (go_at_call 30; refine SM.out.mono ?_; rintro e w9 ⟨rfl, b9⟩; have B9 := Lh b9; clear b9)
       have T9 := Lh (T6.out.mem B9.out);have N9 := Lh (N6.out.keep B9.out);have U9 := Lh (U6.out.below B9.out);clear q1 q2 q3 r1 r2 r3 SM T6 N6 U6 GS1 GS2 GO2;have SZ6 := Lh (show y3 < w9.heap.size from N9.out.in_);replace G2 := Lh ((yC (C := C) B9.out).bx G2.out);replace GO1 := Lh (GO1.out.keep B9.out);clear B9;have OP2 := Lh (T9.out.twice A4.out);go_upto_region 48 with (go_at_call 18; refine OP2.out.mono ?_; rintro e w10 ⟨r, Br, rfl, hBr, hA10, o10, b10⟩; have T10 := Lh o10; have B10 := Lh b10; have P10 := Lh hA10; have R10 := Lh hBr; clear o10 b10 hA10 hBr)
       have TT := Yd T10.out A4.out R10.out B10.out.size P10.out T9.out B10.out T4.out;rw [← HNT.out, ← HMT.out] at TT;unfold stC at TT;replace TT := Lh TT;go_upto_region 49 with (go_at_call 19; refine TT.out.mono ?_; rintro e w11 ⟨⟨ra, rn, rc, rA, rN, rC, rfl, hs11⟩, t11, b11⟩; have T11 := Lh t11; have S11 := Lh hs11; have B11 := Lh b11; clear t11 hs11 b11)
       go_name_world W12 hW12;have n12 : Own W12 w11.heap.size 38 #[.slice ra rn rc, .slice rA rN rC, .slice none 0 0, .int .u64 (mt 0 : Int), .int .u64 (mt 1 : Int), .int .u64 (mt 2 : Int), .int .u64 (mt 3 : Int), .int .u64 (mt 4 : Int), .int .u64 (mt 5 : Int), .int .u64 (mt 6 : Int), .int .u64 (mt 7 : Int)] := by
         rw [← hW12];exact Own.made_at rfl
       have b12 : Below w11.heap.size w11 W12 := by
         rw [← hW12];exact (Below.refl _ _).alloc (Nat.le_refl _) _
       have B12 := Lh (then_ B11.out b12 B11.out.size);have T12 := Lh (T11.out.mem b12);have S12 := Lh (S11.out.below b12);have N12 := Lh n12;have M12 := Lh (N9.out.keep B12.out);have U12 := Lh (U9.out.below B12.out);have O12 := Lh (GO1.out.keep B12.out);have E12 := Lh ((yC (C := C) B12.out).bx G2.out);obtain ⟨y4, hy4⟩ : ∃ y4, y4 = w11.heap.size := ⟨_, rfl⟩
       rw [← hy4] at N12;try rw [← hy4]
       clear hW12 n12 b12 hy4 T10 B10 P10 R10 TT T11 S11 B11 OP2 T9 N9 U9 G2 GO1 B12;obtain ⟨q1, q2, q3⟩ := M12.out.at_;obtain ⟨r1, r2, r3⟩ := N12.out.at_;have SM2 := fY U12.out S12.out LN.out LN.out;rw [zAm, ← HMT.out] at SM2;unfold stC at SM2;replace SM2 := Lh SM2;go_upto_region 51 with (go_at_call 30; refine SM2.out.mono ?_; rintro e w13 ⟨rfl, b13⟩; have B13 := Lh b13; clear b13)
       have T13 := Lh (T12.out.mem B13.out);have M13 := Lh (M12.out.keep B13.out);have U13 := Lh (U12.out.below B13.out);have O13 := Lh (O12.out.keep B13.out);have E13 := Lh ((yC (C := C) B13.out).bx E12.out);clear q1 q2 q3 r1 r2 r3 SM2 T12 M12 U12 O12 E12 N12 S12 B13;refine zA (fun W => True) (0 :: 2 :: 4 :: []) ([]) (0 :: 2 :: 1 :: 3 :: 4 :: []) (by kernel_rfl) (by kernel_rfl) rfl (by kernel_rfl) rfl (True.intro) (by simp only [zU, List.filterMap_cons, List.filterMap_nil, List.getElem?_cons_zero, List.getElem?_cons_succ, Option.map_some]; exact rfl) ?_;iterate 2
         refine zC (v := ?_) rfl rfl (fun W hS => ?_) ?_;rotate_left
         · conv => lhs; simp [go_sem]
           first | done | exact rfl
         simp only [Act.put, lA, lZ, lS]
       obtain ⟨q1, q2, q3⟩ := M13.out.at_;refine zQ rfl rfl fun K hK => ?_
       have HK := Lh hK;clear hK;go_wp2;refine HK.out _ _ True.intro ?_;clear HK K q1 q2 q3;obtain ⟨g1, g2, g3⟩ := O13.out.at_;unfold stC at g1;refine zQ rfl rfl fun K hK => ?_
       have HK := Lh hK;clear hK;go_wp2;obtain ⟨W8, hW8⟩ : ∃ W8, W8 = (w13.setCells y1 0 (stV (.slice ma mn mc) (.slice mA mN mC) (.slice none 0 0) mt)).drew := ⟨_, rfl⟩
       have t8 := T13.out.lay (i := 0) HG1.out O13.out (zB7 _ _ _ _ _ _ _ _) (stV (.slice ma mn mc) (.slice mA mN mC) (.slice none 0 0) mt);have B1 : Bx (w13.setCells y1 0 (stV (.slice ma mn mc) (.slice mA mN mC) (.slice none 0 0) nt.roots)) C y1 nt := Bx.laid HG1.out O13.out HI4.out U13.out;rw [← HMT.out] at B1;have B2 := Bx.other (vs := stV (.slice ma mn mc) (.slice mA mN mC) (.slice none 0 0) mt) E13.out O13.out y12;rw [HNT.out] at B1;have R8 : Rnd w1 W8 C d q S y1 y2 (k + 1) false := by
         rw [hW8];exact (Rnd.crashed (rm := 30) t8 A4.out.N A4.out T4.out B1 B2 (by omega)).mem (Below.refl _ _).drew
       replace R8 := Lh R8;rw [Xd] at hW8;rw [← hW8];clear hW8 B1 B2 t8 g1 g2 g3;refine HK.out _ _ True.intro ?_;clear HK K;iterate 1
         refine zC (v := ?_) rfl rfl (fun W hS => ?_) ?_;rotate_left
         · conv => lhs; simp [go_sem]
           first | done | exact rfl
         simp only [Act.put, lA, lZ, lS]
       refine zR ?_;go_wp2;go_roundw
       case rel => exact ⟨k + 1, q, false, by omega, by go_num, rfl, rfl, R8.out⟩
       case measure => simp [intOf]; omega
     ·
       subst eo;obtain ⟨q1, q2, q3⟩ := N6.out.at_;obtain ⟨r1, r2, r3⟩ := GO1.out.at_;unfold stC at r1;try unfold stC at r2
       have SM := fY U6.out GS1.out LN.out LS.out;rw [e1, ← HMT.out, ← HST.out] at SM;unfold stC at SM;replace SM := Lh SM;have E2 := Lh e2;have E3 := Lh e3;clear e1 e2 e3 SAME;go_upto_region 47 with (first
         | (go_at_call 30; with_reducible refine SM.out.mono ?_; rintro e w8 ⟨rfl, b8⟩; have B8 := Lh b8; clear b8; have N8 := Lh (N6.out.keep B8.out); have U8 := Lh (U6.out.below B8.out); have P8 := Lh (GO2.out.keep B8.out); obtain ⟨u1, u2, u3⟩ := N8.out.at_; obtain ⟨v1, v2, v3⟩ := P8.out.at_; unfold stC at v1; (try unfold stC at v2); have SN := fY U8.out (GS2.out.below B8.out) LN.out E3.out; rw [E2.out, ← HMT.out, ← HTT.out] at SN; unfold stC at SN; replace SN := Lh SN)
         | (go_at_call 30; with_reducible refine SN.out.mono ?_; rintro e w9 ⟨rfl, b9⟩; have B9 := Lh (then_ B8.out b9 B8.out.size); clear b9))
       have T9 := Lh (T6.out.mem B9.out);have N9 := Lh (N6.out.keep B9.out);have U9 := Lh (U6.out.below B9.out);clear q1 q2 q3 r1 r2 r3 u1 u2 u3 v1 v2 v3 SM SN T6 N6 U6 GS1 GS2 GO2 B8 N8 U8 P8 E2 E3;have SZ6 := Lh (show y3 < w9.heap.size from N9.out.in_);replace G2 := Lh ((yC (C := C) B9.out).bx G2.out);replace GO1 := Lh (GO1.out.keep B9.out);clear B9;have OP2 := Lh (T9.out.twice A4.out);go_upto_region 48 with (go_at_call 18; refine OP2.out.mono ?_; rintro e w10 ⟨r, Br, rfl, hBr, hA10, o10, b10⟩; have T10 := Lh o10; have B10 := Lh b10; have P10 := Lh hA10; have R10 := Lh hBr; clear o10 b10 hA10 hBr)
       have TT := Yd T10.out A4.out R10.out B10.out.size P10.out T9.out B10.out T4.out;rw [← HNT.out, ← HMT.out] at TT;unfold stC at TT;replace TT := Lh TT;go_upto_region 49 with (go_at_call 19; refine TT.out.mono ?_; rintro e w11 ⟨⟨ra, rn, rc, rA, rN, rC, rfl, hs11⟩, t11, b11⟩; have T11 := Lh t11; have S11 := Lh hs11; have B11 := Lh b11; clear t11 hs11 b11)
       go_name_world W12 hW12;have n12 : Own W12 w11.heap.size 38 #[.slice ra rn rc, .slice rA rN rC, .slice none 0 0, .int .u64 (mt 0 : Int), .int .u64 (mt 1 : Int), .int .u64 (mt 2 : Int), .int .u64 (mt 3 : Int), .int .u64 (mt 4 : Int), .int .u64 (mt 5 : Int), .int .u64 (mt 6 : Int), .int .u64 (mt 7 : Int)] := by
         rw [← hW12];exact Own.made_at rfl
       have b12 : Below w11.heap.size w11 W12 := by
         rw [← hW12];exact (Below.refl _ _).alloc (Nat.le_refl _) _
       have B12 := Lh (then_ B11.out b12 B11.out.size);have T12 := Lh (T11.out.mem b12);have S12 := Lh (S11.out.below b12);have N12 := Lh n12;have M12 := Lh (N9.out.keep B12.out);have U12 := Lh (U9.out.below B12.out);have O12 := Lh (GO1.out.keep B12.out);have E12 := Lh ((yC (C := C) B12.out).bx G2.out);obtain ⟨y4, hy4⟩ : ∃ y4, y4 = w11.heap.size := ⟨_, rfl⟩
       rw [← hy4] at N12;try rw [← hy4]
       clear hW12 n12 b12 hy4 T10 B10 P10 R10 TT T11 S11 B11 OP2 T9 N9 U9 G2 GO1 B12;obtain ⟨q1, q2, q3⟩ := M12.out.at_;obtain ⟨r1, r2, r3⟩ := N12.out.at_;have SM2 := fY U12.out S12.out LN.out LN.out;rw [zAm, ← HMT.out] at SM2;unfold stC at SM2;replace SM2 := Lh SM2;go_upto_region 51 with (go_at_call 30; refine SM2.out.mono ?_; rintro e w13 ⟨rfl, b13⟩; have B13 := Lh b13; clear b13)
       have T13 := Lh (T12.out.mem B13.out);have M13 := Lh (M12.out.keep B13.out);have U13 := Lh (U12.out.below B13.out);have O13 := Lh (O12.out.keep B13.out);have E13 := Lh ((yC (C := C) B13.out).bx E12.out);clear q1 q2 q3 r1 r2 r3 SM2 T12 M12 U12 O12 E12 N12 S12 B13;refine zA (fun W => True) (0 :: 2 :: 4 :: []) ([]) (0 :: 2 :: 1 :: 3 :: 4 :: []) (by kernel_rfl) (by kernel_rfl) rfl (by kernel_rfl) rfl (True.intro) (by simp only [zU, List.filterMap_cons, List.filterMap_nil, List.getElem?_cons_zero, List.getElem?_cons_succ, Option.map_some]; exact rfl) ?_;iterate 2
         refine zC (v := ?_) rfl rfl (fun W hS => ?_) ?_;rotate_left
         · conv => lhs; simp [go_sem]
           first | done | exact rfl
         simp only [Act.put, lA, lZ, lS]
       obtain ⟨q1, q2, q3⟩ := M13.out.at_;refine zQ rfl rfl fun K hK => ?_
       have HK := Lh hK;clear hK;go_wp2;refine HK.out _ _ True.intro ?_;clear HK K q1 q2 q3;obtain ⟨g1, g2, g3⟩ := O13.out.at_;unfold stC at g1;refine zQ rfl rfl fun K hK => ?_
       have HK := Lh hK;clear hK;go_wp2;obtain ⟨W8, hW8⟩ : ∃ W8, W8 = (w13.setCells y1 0 (stV (.slice ma mn mc) (.slice mA mN mC) (.slice none 0 0) mt)).drew := ⟨_, rfl⟩
       have t8 := T13.out.lay (i := 0) HG1.out O13.out (zB7 _ _ _ _ _ _ _ _) (stV (.slice ma mn mc) (.slice mA mN mC) (.slice none 0 0) mt);have B1 : Bx (w13.setCells y1 0 (stV (.slice ma mn mc) (.slice mA mN mC) (.slice none 0 0) nt.roots)) C y1 nt := Bx.laid HG1.out O13.out HI4.out U13.out;rw [← HMT.out] at B1;have B2 := Bx.other (vs := stV (.slice ma mn mc) (.slice mA mN mC) (.slice none 0 0) mt) E13.out O13.out y12;rw [HNT.out] at B1;have R8 : Rnd w1 W8 C d q S y1 y2 (k + 1) false := by
         rw [hW8];exact (Rnd.crashed (rm := 30) t8 A4.out.N A4.out T4.out B1 B2 (by omega)).mem (Below.refl _ _).drew
       replace R8 := Lh R8;rw [Xd] at hW8;rw [← hW8];clear hW8 B1 B2 t8 g1 g2 g3;refine HK.out _ _ True.intro ?_;clear HK K;iterate 1
         refine zC (v := ?_) rfl rfl (fun W hS => ?_) ?_;rotate_left
         · conv => lhs; simp [go_sem]
           first | done | exact rfl
         simp only [Act.put, lA, lZ, lS]
       refine zR ?_;go_wp2;go_roundw
       case rel => exact ⟨k + 1, q, false, by omega, by go_num, rfl, rfl, R8.out⟩
       case measure => simp [intOf]; omega
end Go.Proofs.YthijgebmoadgkaaGreatDoor.pagerCrash
