import Derived.Test.YthijgebmoadgkaaGreatDoorPgwE
import Derived.Test.YthijgebmoadgkaaGreatDoorPgtN
import Derived.Test.YthijgebmoadgkaaGreatDoorPguQ
set_option linter.unusedVariables false
set_option linter.unusedSimpArgs false
namespace Go.Proofs.YthijgebmoadgkaaGreatDoor
open Go.ChangeShapes Go.WideShapes Go.ChangeAt Go.RowKit
section
def RS.alE (R : RS) (k : Nat) : Int := if 2 <= k /\ k <= 254 then (if R.way.free = [] /\ R.most <= R.way.kinds.length then 8 else if R.big [R.alNo, 0] then 10 else 0) else 1
def RS.al (R : RS) (k : Nat) : RS := if R.alE k = 0 then R.alK k else R
def RS.alN (R : RS) (k : Nat) : Nat := if R.alE k = 0 then R.alNo else 0
def RS.relE (R : RS) (no : Int) : Int := if 1 <= no /\ no < (R.way.kinds.length : Int) then (if R.way.kinds.getD no.toNat 0 = 255 then 6 else if R.big [no.toNat, 0] then 10 else 0) else 1
def RS.rel (R : RS) (no : Int) : RS := if R.relE no = 0 then R.relK no.toNat else R
def PS.frEI (P : PS) (no : Int) : Int := if P.others no then P.frE no.toNat else 1
def PS.freI (P : PS) (no : Int) : PS := if P.others no then P.fre no.toNat else P
def PS.rtE (P : PS) (i : Int) (x : Nat) : Int := if 0 <= i /\ i < 8 then P.chgE (P.srL i.toNat x) else 1
def PS.rt (P : PS) (i : Int) (x : Nat) : PS := if 0 <= i /\ i < 8 then P.chg (P.srL i.toNat x) else P
def RS.rtE (R : RS) (i : Int) : Int := if 0 <= i /\ i < 8 then R.srE else 1
def RS.rt (R : RS) (i : Int) (x : Nat) : RS := if 0 <= i /\ i < 8 then R.sr i.toNat x else R
section
variable {P : PS} {R : RS}
theorem Sim.al (h : Sim P R) (hk : P.Ok) (hd : P.s.down = false) (k : Nat) : P.alE (k : Int) = R.alE k /\ P.alN (k : Int) = R.alN k /\ Sim (P.al (k : Int)) (R.al k) := by
 unfold RS.al RS.alN;by_cases c1 : 2 <= k /\ k <= 254
 · by_cases c2 : R.way.free = [] /\ R.most <= R.way.kinds.length
   · have e : R.alE k = 8 := by unfold RS.alE; rw [if_pos c1, if_pos c2]
     obtain ⟨a1, a2, a3⟩ := h.alloc_full hd k c1.1 c1.2 c2.1 c2.2;rw [e, a1, a2, a3];exact ⟨rfl, rfl, h⟩
   · have hf : R.way.free ≠ [] \/ R.way.kinds.length < R.most := by
       by_cases c3 : R.way.free = []
       · right
         by_cases c4 : R.way.kinds.length < R.most
         · exact c4
         · exact absurd ⟨c3, by omega⟩ c2
       · exact .inl c3
     obtain ⟨a1, a2, a3⟩ := h.alloc hk hd k c1.1 c1.2 hf;have e : R.alE k = if R.big [R.alNo, 0] then 10 else 0 := by unfold RS.alE; rw [if_pos c1, if_neg c2]
     rw [e, a1, a2];cases hb : R.big [R.alNo, 0] with
     | true => rw [hb] at a3; exact ⟨rfl, rfl, a3⟩
     | false => rw [hb] at a3; exact ⟨rfl, rfl, a3⟩
 · have e : R.alE k = 1 := by unfold RS.alE; rw [if_neg c1]
   obtain ⟨a1, a2, a3⟩ := Zk (P := P) k (by omega);rw [e, a1, a2, a3];exact ⟨rfl, rfl, h⟩
theorem Sim.rel (h : Sim P R) (hk : P.Ok) (hd : P.s.down = false) (no : Int) : P.frEI no = R.relE no /\ Sim (P.freI no) (R.rel no) := by
 have ho := h.others hd no;unfold PS.frEI PS.freI RS.rel;by_cases c1 : 1 <= no /\ no < (R.way.kinds.length : Int)
 · have ho2 : P.others no = true := by rw [ho]; simp [c1]
   rw [if_pos ho2, if_pos ho2];by_cases c2 : R.way.kinds.getD no.toNat 0 = 255
   · have e : R.relE no = 6 := by unfold RS.relE; rw [if_pos c1, if_pos c2]
     obtain ⟨a1, a2⟩ := h.free_none hd no.toNat (by omega) (by omega) c2;rw [e, a1, a2];exact ⟨rfl, h⟩
   · have e : R.relE no = if R.big [no.toNat, 0] then 10 else 0 := by unfold RS.relE; rw [if_pos c1, if_neg c2]
     obtain ⟨a1, a2⟩ := h.free hk hd no.toNat (by omega) (by omega) c2;rw [e, a1];cases hb : R.big [no.toNat, 0] with
     | true => rw [hb] at a2; exact ⟨rfl, a2⟩
     | false => rw [hb] at a2; exact ⟨rfl, a2⟩
 · have ho2 : P.others no = false := by
     rw [ho];simp;intro h1;omega
   have e : R.relE no = 1 := by unfold RS.relE; rw [if_neg c1]
   rw [if_neg (by rw [ho2]; simp), if_neg (by rw [ho2]; simp), e];exact ⟨rfl, h⟩
theorem Sim.rt (h : Sim P R) (hk : P.Ok) (i : Int) (x : Nat) (hx : x < 18446744073709551616) : P.rtE i x = R.rtE i /\ Sim (P.rt i x) (R.rt i x) := by
 unfold PS.rtE PS.rt RS.rtE RS.rt;by_cases c : 0 <= i /\ i < 8
 · rw [if_pos c, if_pos c, if_pos c, if_pos c];exact h.root hk i.toNat x (by omega) hx
 · rw [if_neg c, if_neg c, if_neg c, if_neg c];exact ⟨rfl, h⟩
end
section
variable {w0 W W' : World} {C d p r c c' S : Nat} {P P' : PS} {R R' : RS}
def zHv (C : Nat) (W W' : World) : Prop := ∀ x cs, C <= x -> Own W x 44 cs -> Own W' x 44 cs
theorem zHv.refl (C : Nat) (W : World) : zHv C W W := fun _ _ _ h => h
theorem zHv.trans {C : Nat} {a b c : World} (h : zHv C a b) (k : zHv C b c) : zHv C a c := fun x cs hx ho => k x cs hx (h x cs hx ho)
end
end
section
structure Std (P : PS) (R : RS) (rm k : Nat) : Prop where
 sim : Sim P R
 hold : ∃ first ts, uY P first ts
 fuse : P.s.fuse < 0
 N : P.N = 300
 ll : P.ll = 60
 room : P.room = rm
 seq : P.seq <= 1 + k
section
variable {P : PS} {R : RS} {rm k : Nat}
theorem Std.most (h : Std P R rm k) : P.most = 29 := by
 unfold PS.most;rw [h.N, h.ll]
theorem Std.up (h : Std P R rm k) : P.s.down = false := by
 obtain ⟨f, t, hh⟩ := h.hold;exact hh.up
theorem Std.more (h : Std P R rm k) {k' : Nat} (hk : k <= k') : Std P R rm k' := { h with seq := Nat.le_trans h.seq (by omega) }
theorem Std.Tlen (h : Std P R rm k) (hk : P.Ok) : P.T.length <= 29 := by
 have := Qa P.T 0 P.most hk.T.1 fun q hq => ⟨Nat.zero_le _, (hk.T.2 q hq).1⟩
 rw [h.most] at this;omega
theorem Std.count (h : Std P R rm k) (hk : P.Ok) : P.T.length = R.count := (h.sim.count hk.T.1).symm
theorem Std.only (h : Std P R rm k) {Q : PS} {R' : RS} (hQ : ∃ T, Q = { P with T := T }) (hs : Sim Q R') : Std Q R' rm k := by
 obtain ⟨T, rfl⟩ := hQ;obtain ⟨f, t, hh⟩ := h.hold;exact ⟨hs, ⟨f, t, ⟨hh.dsk, hh.used, hh.next, hh.wr, hh.up, hh.lf, hh.ff⟩⟩, h.fuse, h.N, h.ll, h.room, h.seq⟩
theorem zF1 (P : PS) (L : List (Nat × Pag)) : ∃ T, P.chg L = { P with T := T } := by
 unfold PS.chg;split
 · exact ⟨_, rfl⟩
 · exact ⟨P.T, rfl⟩
theorem qW (P : PS) : ∃ T, P = { P with T := T } := ⟨P.T, rfl⟩
theorem zNv (P : PS) (k : Int) : ∃ T, P.al k = { P with T := T } := by
 unfold PS.al;split
 · split
   · exact qW P
   · split
     · exact zF1 P _
     · exact qW P
 · exact qW P
theorem zOc (P : PS) (no k : Int) (t : ByteArray) : ∃ T, P.wr no k t = { P with T := T } := by
 unfold PS.wr;split
 · split
   · exact zF1 P _
   · exact qW P
 · exact qW P
theorem zEf (P : PS) (no : Int) : ∃ T, P.freI no = { P with T := T } := by
 unfold PS.freI PS.fre;split
 · split
   · split
     · split
       · exact qW P
       · exact zF1 P _
     · exact qW P
   · exact qW P
 · exact qW P
theorem zN8 (P : PS) (i : Int) (x : Nat) : ∃ T, P.rt i x = { P with T := T } := by
 unfold PS.rt;split
 · exact zF1 P _
 · exact qW P
theorem Std.abort (h : Std P R rm k) : Std P.abort R.abort rm k := h.only ⟨[], rfl⟩ h.sim.abort
theorem Std.al (h : Std P R rm k) (hk : P.Ok) (x : Nat) : P.alE (x : Int) = R.alE x /\ P.alN (x : Int) = R.alN x /\ Std (P.al (x : Int)) (R.al x) rm k := by
 obtain ⟨a, b, c⟩ := h.sim.al hk h.up x;exact ⟨a, b, h.only (zNv P _) c⟩
theorem Std.wr (h : Std P R rm k) (hk : P.Ok) (no : Int) (x : Nat) (t : ByteArray) (hn : 0 <= no -> no < (R.way.kinds.length : Int) -> R.way.kinds.getD no.toNat 0 ≠ 255) : P.wrE no (x : Int) t = R.wrE no (x : Int) t /\ Std (P.wr no (x : Int) t) (R.wr no (x : Int) t) rm k := by
 obtain ⟨a, b⟩ := h.sim.wr hk h.up no x t hn;exact ⟨a, h.only (zOc P _ _ _) b⟩
theorem Std.rel (h : Std P R rm k) (hk : P.Ok) (no : Int) : P.frEI no = R.relE no /\ Std (P.freI no) (R.rel no) rm k := by
 obtain ⟨a, b⟩ := h.sim.rel hk h.up no;exact ⟨a, h.only (zEf P _) b⟩
theorem Std.rt (h : Std P R rm k) (hk : P.Ok) (i : Int) (x : Nat) (hx : x < 18446744073709551616) : P.rtE i x = R.rtE i /\ Std (P.rt i x) (R.rt i x) rm k := by
 obtain ⟨a, b⟩ := h.sim.rt hk i x hx;exact ⟨a, h.only (zN8 P _ _) b⟩
theorem Std.com (h : Std P R rm k) (hk : P.Ok) (hk2 : k <= 1000) : (60 < 9 * R.count + 1 /\ P.comE = 9 /\ Std P.com R rm (k + 1)) \/ (9 * R.count + 1 <= 60 /\ P.comE = 0 /\ Std P.com R.keep rm (k + 1)) := by
 have hT := h.Tlen hk;have hc := h.count hk;have hq := h.seq;have hll := h.ll;obtain ⟨f, t, hh⟩ := h.hold;obtain ⟨a, b⟩ := hh.comD hk (by omega) (by omega);obtain ⟨b1, b2⟩ := b h.fuse;rcases a with ⟨a1, a2, a3⟩ | ⟨a1, a2, a3⟩ | ⟨a1, a2, a3, a4, a5, a6, a7, a8, a9, a10⟩ | ⟨a1, a2, a3, a4⟩
 · rw [a1] at hc;have hc : 0 = R.count := hc;refine .inr ⟨by omega, a2, ?_⟩;rw [a3];exact { h.more (Nat.le_succ k) with sim := h.sim.keep a1 rfl rfl fun no _ => by unfold PS.view; rw [a1]; rfl }
 · refine .inl ⟨by omega, a2, ?_⟩;rw [a3];exact h.more (Nat.le_succ k)
 · refine .inr ⟨by omega, a3, h.sim.keep a4 (by unfold PS.most; rw [a5, a6]) a7 a9, a10, by rw [b2]; exact h.fuse, a5.trans h.N, a6.trans h.ll, a7.trans h.room, by omega⟩
 · exact absurd a3 b1
theorem Std.ck (h : Std P R rm k) (hk : P.Ok) (hk2 : k <= 1000) : (0 < R.count /\ P.ckE = 17 /\ Std P.ck R rm (k + 1)) \/ (R.count = 0 /\ P.ckE = 0 /\ Std P.ck R rm (k + 1)) := by
 have hc := h.count hk;have hq := h.seq;obtain ⟨f, t, hh⟩ := h.hold;by_cases c : P.T = []
 · have e1 : P.ckE = P.empR.1 := by unfold PS.ckE; rw [if_neg (by rw [hh.ff, c]; simp)]
   have e2 : P.ck = PS.told P.empR.1 P.emp := by unfold PS.ck; rw [if_neg (by rw [hh.ff, c]; simp)]
   obtain ⟨a, n1, n2, n3, n4, n5, b⟩ := hh.ckD hk (by omega);obtain ⟨b1, b2⟩ := b h.fuse;rw [c] at hc;have hc : 0 = R.count := hc;rw [e1, e2];rcases a with ⟨a1, a2, a3⟩ | ⟨a1, -⟩
   · exact .inr ⟨hc.symm, a1, h.sim.turn n4 (by unfold PS.most; rw [n1, n2]) n3 n5, a2, by rw [b2]; exact h.fuse, n1.trans h.N, n2.trans h.ll, n3.trans h.room, by omega⟩
   · omega
 · have e1 : P.ckE = 17 := by unfold PS.ckE; rw [if_pos (.inr c)]
   have e2 : P.ck = P := by unfold PS.ck; rw [if_pos (.inr c)]
   have := List.length_pos_iff.2 c;rw [e1, e2];exact .inl ⟨by omega, rfl, h.more (Nat.le_succ k)⟩
end
section
variable {w0 W W' : World} {C d p r c S rm k : Nat} {P P' : PS} {R : RS}
end
theorem zN1 {w : World} {B d N ll : Nat} {s : St} (h : qY w B d N s) (hF : zEj s ll) (h10 : 10 <= ll) (hN : ll + 10 <= N) (r : Nat) (h2 : 2 <= r) (h6 : r <= 65536) : Calls Tryz.prog 18 #[.pointer (some ⟨d, 0, none⟩), .int .i64 (r : Int)] w fun e w' => ∃ P p Bp, e = .returned (.tuple #[.pointer (some ⟨p, 0, none⟩), .int .i64 0]) /\ qC P N ll r /\ Dsk P.N P.ll P.s P.seq 1 [] P.M /\ zF w' B Bp d p 2 P /\ w.heap.size <= Bp /\ Below w.heap.size w w' := by
 have hok := h.ok;have hsd := Sd.of hok;obtain ⟨sb, mb, sc, wv, hD, b1, b2, b3, b4⟩ := h;obtain ⟨f1, f2, f3, s0, hv⟩ := hF;obtain ⟨o1, o2, o3⟩ := zFt (s := s0) f1 h10 hN hok.max r hv;refine (mL hD f1 b1 b2 b3 b4 r h2 h6).mono ?_;rintro e w' ⟨⟨P, p, Bp, hP, rfl, hBp, hA⟩ | ⟨hn, -⟩, hb⟩
 · rw [o1] at hP;injection hP with hP;subst hP;exact ⟨_, p, Bp, rfl, ⟨rfl, rfl, rfl, rfl, o3, rfl, rfl, rfl, f1, f3, o2, f2⟩, zMk (s := s0) hsd h10 hN hok.max hv, hA, hBp, hb⟩
 · rw [o1] at hn; cases hn
end
end Go.Proofs.YthijgebmoadgkaaGreatDoor
