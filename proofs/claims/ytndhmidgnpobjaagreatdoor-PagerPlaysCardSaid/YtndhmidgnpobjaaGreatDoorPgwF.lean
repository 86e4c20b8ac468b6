import Derived.Test.YtndhmidgnpobjaaGreatDoorPgwE
import Derived.Test.YtndhmidgnpobjaaGreatDoorPgtN
import Derived.Test.YtndhmidgnpobjaaGreatDoorPguQ
set_option linter.unusedVariables false
set_option linter.unusedSimpArgs false
namespace Go.Proofs.YtndhmidgnpobjaaGreatDoor
open Go.ChangeShapes Go.WideShapes Go.ChangeAt Go.RowKit
def RS.alE (R : RS) (k : Nat) : Int := if 2 <= k /\ k <= 254 then (if R.way.free = [] /\ R.most <= R.way.kinds.length then 8 else if R.big [R.alNo, 0] then 10 else 0) else 1
def RS.al (R : RS) (k : Nat) : RS := if R.alE k = 0 then R.alK k else R
def RS.alN (R : RS) (k : Nat) : Nat := if R.alE k = 0 then R.alNo else 0
def RS.relE (R : RS) (no : Int) : Int := if 1 <= no /\ no < (R.way.kinds.length : Int) then (if R.way.kinds.getD no.toNat 0 = 255 then 6 else if R.big [no.toNat, 0] then 10 else 0) else 1
def RS.rel (R : RS) (no : Int) : RS := if R.relE no = 0 then R.relK no.toNat else R
def PS.frEI (P : PS) (no : Int) : Int := if P.others no then P.frE no.toNat else 1
def PS.freI (P : PS) (no : Int) : PS := if P.others no then P.fre no.toNat else P
def PS.rtE (P : PS) (i : Int) (x : Nat) : Int := if 0 <= i /\ i < 8 then P.chgE (P.srL i.toNat x) else 1
def PS.rt (P : PS) (i : Int) (x : Nat) : PS := if 0 <= i /\ i < 8 then P.chg (P.srL i.toNat x) else P
def RS.rtE (R : RS) (i : Int) : Int := if 0 <= i /\ i < 8 then R.srE else 1
def RS.rt (R : RS) (i : Int) (x : Nat) : RS := if 0 <= i /\ i < 8 then R.sr i.toNat x else R
section
variable {P : PS} {R : RS}
theorem Sim.al (h : Sim P R) (hk : P.Ok) (hd : P.s.down = false) (k : Nat) : P.alE (k : Int) = R.alE k /\ P.alN (k : Int) = R.alN k /\ Sim (P.al (k : Int)) (R.al k) := by
 unfold RS.al RS.alN;by_cases c1 : 2 <= k /\ k <= 254
 · by_cases c2 : R.way.free = [] /\ R.most <= R.way.kinds.length
   · have e : R.alE k = 8 := by unfold RS.alE; rw [if_pos c1, if_pos c2]
     obtain ⟨a1, a2, a3⟩ := h.alloc_full hd k c1.1 c1.2 c2.1 c2.2;rw [e, a1, a2, a3];exact ⟨rfl, rfl, h⟩
   · have hf : R.way.free ≠ [] \/ R.way.kinds.length < R.most := by
       by_cases c3 : R.way.free = []
       · right
         by_cases c4 : R.way.kinds.length < R.most
         · exact c4
         · exact absurd ⟨c3, by omega⟩ c2
       · exact .inl c3
     obtain ⟨a1, a2, a3⟩ := h.alloc hk hd k c1.1 c1.2 hf;have e : R.alE k = if R.big [R.alNo, 0] then 10 else 0 := by unfold RS.alE; rw [if_pos c1, if_neg c2]
     rw [e, a1, a2];cases hb : R.big [R.alNo, 0] with
     | true => rw [hb] at a3; exact ⟨rfl, rfl, a3⟩
     | false => rw [hb] at a3; exact ⟨rfl, rfl, a3⟩
 · have e : R.alE k = 1 := by unfold RS.alE; rw [if_neg c1]
   obtain ⟨a1, a2, a3⟩ := Zg (P := P) k (by omega);rw [e, a1, a2, a3];exact ⟨rfl, rfl, h⟩
theorem Sim.rel (h : Sim P R) (hk : P.Ok) (hd : P.s.down = false) (no : Int) : P.frEI no = R.relE no /\ Sim (P.freI no) (R.rel no) := by
 have ho := h.others hd no;unfold PS.frEI PS.freI RS.rel;by_cases c1 : 1 <= no /\ no < (R.way.kinds.length : Int)
 · have ho2 : P.others no = true := by rw [ho]; simp [c1]
   rw [if_pos ho2, if_pos ho2];by_cases c2 : R.way.kinds.getD no.toNat 0 = 255
   · have e : R.relE no = 6 := by unfold RS.relE; rw [if_pos c1, if_pos c2]
     obtain ⟨a1, a2⟩ := h.free_none hd no.toNat (by omega) (by omega) c2;rw [e, a1, a2];exact ⟨rfl, h⟩
   · have e : R.relE no = if R.big [no.toNat, 0] then 10 else 0 := by unfold RS.relE; rw [if_pos c1, if_neg c2]
     obtain ⟨a1, a2⟩ := h.free hk hd no.toNat (by omega) (by omega) c2;rw [e, a1];cases hb : R.big [no.toNat, 0] with
     | true => rw [hb] at a2; exact ⟨rfl, a2⟩
     | false => rw [hb] at a2; exact ⟨rfl, a2⟩
 · have ho2 : P.others no = false := by
     rw [ho];simp;intro h1;omega
   have e : R.relE no = 1 := by unfold RS.relE; rw [if_neg c1]
   rw [if_neg (by rw [ho2]; simp), if_neg (by rw [ho2]; simp), e];exact ⟨rfl, h⟩
theorem Sim.rt (h : Sim P R) (hk : P.Ok) (i : Int) (x : Nat) (hx : x < 18446744073709551616) : P.rtE i x = R.rtE i /\ Sim (P.rt i x) (R.rt i x) := by
 unfold PS.rtE PS.rt RS.rtE RS.rt;by_cases c : 0 <= i /\ i < 8
 · rw [if_pos c, if_pos c, if_pos c, if_pos c];exact h.root hk i.toNat x (by omega) hx
 · rw [if_neg c, if_neg c, if_neg c, if_neg c];exact ⟨rfl, h⟩
end
structure Two (w0 W : World) (C d p r c S : Nat) (P : PS) (R : RS) : Prop where
 pag : ∃ Bp, zG W w0.heap.size Bp d p c P /\ w0.heap.size <= Bp
 ref : gI W C r R
 sure : uR W d S
 lt : S < C
 low : w0.heap.size <= C
 hi : C <= W.heap.size
 below : Below w0.heap.size w0 W
section
variable {w0 W W' : World} {C d p r c c' S : Nat} {P P' : PS} {R R' : RS}
theorem rt_pt {w : World} {C Bp q : Nat} (h : RT w C q) : ¬ Po.PT w Bp q := fun k => by
 obtain ⟨-, cs, T, fz, hb, hT⟩ := h;rcases k.2 with ⟨es, ck, e⟩ | ⟨cs', e⟩ | ⟨cs', e⟩
 · rw [hb] at e; cases e
 · unfold Own at e;rw [hb] at e;injection e with e;injection e with e1 e2;rw [e2] at hT;rcases hT with h | h | h | h <;> exact absurd h (by decide)
 · unfold Own at e;rw [hb] at e;injection e with e;injection e with e1 e2;rw [e2] at hT;rcases hT with h | h | h | h <;> exact absurd h (by decide)
theorem rt_ft {w : World} {B C S q : Nat} (h : RT w C q) (hS : S < C) : ¬ FT w B S q := fun k => by
 obtain ⟨h1, cs, T, fz, hb, hT⟩ := h;rcases k.2 with ⟨es, ck, e⟩ | e | ⟨cs', T', fz', e, hT'⟩
 · rw [hb] at e; cases e
 · omega
 · rw [hb] at e;injection e with e;injection e with e1 e2;subst e2;rcases hT with h | h | h | h <;> subst h <;> rcases hT' with h | h | h | h | h | h <;> exact absurd h (by decide)
theorem gI.keep {w w' : World} (h : gI w C r R) {Z : Nat -> Prop} (hc : Chg Z w w') (hz : ∀ q, RT w C q -> ¬ Z q) : gI w' C r R := by
 obtain ⟨sk, sr, sf, wk, wr, wf, vd, h⟩ := h;exact ⟨sk, sr, sf, wk, wr, wf, vd, h.keep hc hz⟩
theorem zG.keep_rt {w w' : World} {B Bp : Nat} (h : zG w B Bp d p c P) (hc : Chg (RT w C) w w') (hS : uR w d S) (hl : S < C) : zG w' B Bp d p c P := by
 obtain ⟨sb, mb, sc, wv, lg, lm, pl, Rf, h⟩ := h;obtain rfl := hS.inj h.disk.sureB;have typed : ∀ {q : Nat} {T : TypeId} {cs : Array Value}, w.heap[q]? = some (.cells cs T (0, 0)) -> T ≠ 61 -> T ≠ 3 -> T ≠ 9 -> T ≠ 4 -> ¬ RT w C q := fun ho h1 h2 h3 h4 k => by
   obtain ⟨-, cs', T', fz, e, hT⟩ := k;rw [ho] at e;injection e with e;injection e with e1 e2;subst e2;rcases hT with h | h | h | h
   · exact h1 h
   · exact h2 h
   · exact h3 h
   · exact h4 h
 have mapped : ∀ {q : Nat}, (∃ es ck, w.heap[q]? = some (.map es ck)) -> ¬ RT w C q := fun ⟨es, ck, ho⟩ k => by
   obtain ⟨-, cs', T', fz, e, -⟩ := k;rw [ho] at e;cases e
 refine ⟨_, mb, sc, wv, lg, lm, pl, Rf, h.keep hc fun q hq => ?_⟩;rcases hq with e | e | e | (e | e | e | e) | e
 · subst e; exact typed h.log (by decide) (by decide) (by decide) (by decide)
 · subst e; exact typed h.own (by decide) (by decide) (by decide) (by decide)
 · subst e;obtain ⟨es, ck, hb, _⟩ := h.map;exact mapped ⟨es, ck, hb⟩
 · subst e; exact typed h.disk.own (by decide) (by decide) (by decide) (by decide)
 · subst e; exact fun k => by have := k.1; omega
 · subst e;obtain ⟨es, ck, hb, _⟩ := h.disk.map;exact mapped ⟨es, ck, hb⟩
 · rcases h.disk.wrs.2 with ⟨h6, _⟩ | ⟨g6, c6, u6, h6, _, h7, _⟩
   · rw [h6] at e; cases e
   · rw [h6] at e;injection e with e;have e : g6 = q := e;subst e;exact typed h7 (by decide) (by decide) (by decide) (by decide)
 · rcases e.2 with e | ⟨cs, e⟩ | ⟨cs, e⟩
   · exact mapped e
   · exact typed e (by decide) (by decide) (by decide) (by decide)
   · exact typed e (by decide) (by decide) (by decide) (by decide)
def vQ (C : Nat) (W W' : World) : Prop := ∀ x cs, C <= x -> Own W x 44 cs -> Own W' x 44 cs
theorem vQ.refl (C : Nat) (W : World) : vQ C W W := fun _ _ _ h => h
theorem vQ.trans {C : Nat} {a b c : World} (h : vQ C a b) (k : vQ C b c) : vQ C a c := fun x cs hx ho => k x cs hx (h x cs hx ho)
theorem Ji {C : Nat} {W W' : World} (h : Below W.heap.size W W') : vQ C W W' := fun x cs _ ho => ho.keep h
theorem zA7 {C B : Nat} {W W' : World} (hc : Chg (Po.PT W B) W W') : vQ C W W' := fun x cs _ ho => yX hc ho (by decide) (by decide)
theorem zNx {C B : Nat} {W W' : World} (hc : Chg (RT W B) W W') : vQ C W W' := fun x cs _ ho => (hc.block x ho.in_ fun k => by
 obtain ⟨-, cs', T', fz, e, hT⟩ := k;unfold Own at ho;rw [ho] at e;injection e with e;injection e with e1 e2;subst e2;rcases hT with h | h | h | h <;> exact absurd h (by decide)).trans ho
theorem zMq {C B S : Nat} {W W' : World} (hS : S < C) (hc : Chg (FT W B S) W W') : vQ C W W' := fun x cs hx ho => (hc.block x ho.in_ fun k => by
 unfold Own at ho;rcases k.2 with ⟨es, ck, e⟩ | e | ⟨cs', T', fz', e, hT⟩
 · rw [ho] at e; cases e
 · omega
 · rw [ho] at e;injection e with e;injection e with e1 e2;subst e2;rcases hT with h | h | h | h | h | h <;> exact absurd h (by decide)).trans ho
theorem Two.ok (h : Two w0 W C d p r c S P R) : P.Ok := by obtain ⟨Bp, h1, -⟩ := h.pag; exact h1.ok
theorem Two.more (h : Two w0 W C d p r c S P R) (hc : c <= c') : Two w0 W C d p r c' S P R := by
 obtain ⟨Bp, h1, h2⟩ := h.pag;exact { h with pag := ⟨Bp, h1.more hc, h2⟩ }
theorem Two.mem (h : Two w0 W C d p r c S P R) (hb : Below W.heap.size W W') : Two w0 W' C d p r c S P R := by
 obtain ⟨Bp, h1, h2⟩ := h.pag;obtain ⟨n, cc, hs⟩ := h.sure;exact ⟨⟨Bp, h1.below hb, h2⟩, h.ref.below hb, ⟨n, cc, (Chg.of (S := fun _ => False) hb).cell hs id⟩, h.lt, h.low, Nat.le_trans h.hi hb.size, then_ h.below hb h.below.size⟩
theorem Two.ask (h : Two w0 W C d p r c S P R) {Bp : Nat} (h1 : zG W w0.heap.size Bp d p c P) (h2 : w0.heap.size <= Bp) (hA : Ask W W' w0.heap.size Bp d p c' P') : Two w0 W' C d p r c' S P' R /\ vQ C W W' :=
 ⟨⟨⟨Bp, hA.1, h2⟩, h.ref.keep hA.2 fun q hq => rt_pt hq, h1.sure_ask hA.2 h.sure, h.lt, h.low, Nat.le_trans h.hi hA.2.size, h.below.trans (Xr h1 hA.2)⟩, zA7 hA.2⟩
theorem Two.refd (h : Two w0 W C d p r c S P R) (hr : gI W' C r R') (hc : Chg (RT W C) W W') : Two w0 W' C d p r c S P R' /\ vQ C W W' := by
 refine ⟨?_, zNx hc⟩;obtain ⟨Bp, h1, h2⟩ := h.pag;have hn : ¬ RT W C d := fun k => by
   obtain ⟨sb, mb, sc, wv, lg, lm, pl, Rf, h⟩ := h1;obtain ⟨-, cs', T', fz, e, hT⟩ := k;have ho := h.disk.own;unfold Own at ho;rw [ho] at e;injection e with e;injection e with e1 e2;subst e2;rcases hT with h | h | h | h <;> exact absurd h (by decide)
 obtain ⟨n, cc, hs⟩ := h.sure;exact ⟨⟨Bp, h1.keep_rt hc h.sure h.lt, h2⟩, hr, ⟨n, cc, hc.cell hs hn⟩, h.lt, h.low, Nat.le_trans h.hi hc.size, h.below.trans (hc.below (by have := h.hi; have := h.low; omega) fun q hq => by have := hq.1; have := h.low; omega)⟩
theorem Two.live (h : Two w0 W C d p r c S P R) {Bp : Nat} (h2 : w0.heap.size <= Bp) (h3 : zG W' w0.heap.size Bp d p c' P') (hc : ∀ S, uR W d S -> uR W' d S /\ Chg (FT W w0.heap.size S) W W') : Two w0 W' C d p r c' S P' R /\ vQ C W W' := by
 obtain ⟨k1, k2⟩ := hc S h.sure;exact ⟨⟨⟨Bp, h3, h2⟩, h.ref.keep k2 fun q hq => rt_ft hq h.lt, k1, h.lt, h.low, Nat.le_trans h.hi k2.size, h.below.trans (k2.below (by have := h.hi; have := h.low; omega) fun q hq => hq.1)⟩, zMq h.lt k2⟩
theorem Two.alloc (h : Two w0 W C d p r c S P R) (k : Int) (hc : c + 6 < 1000000) : Calls Tryz.prog 17 #[.pointer (some ⟨p, 0, none⟩), .int .i64 k] W fun e w' => e = .returned (.tuple #[.int .i64 (P.alN k : Int), .int .i64 (P.alE k)]) /\ Two w0 w' C d p r (c + 6) S (P.al k) R /\ vQ C W w' := by
 obtain ⟨Bp, h1, h2⟩ := h.pag;exact (Xv h1 k hc).mono fun e w' ⟨a1, a2⟩ => ⟨a1, h.ask h1 h2 a2⟩
theorem Two.write (h : Two w0 W C d p r c S P R) (no k : Int) (t : ByteArray) (hc : c + 4 < 1000000) : Calls Tryz.prog 18 #[.pointer (some ⟨p, 0, none⟩), .int .i64 no, .int .i64 k, .string t] W fun e w' => e = .returned (.int .i64 (P.wrE no k t)) /\ Two w0 w' C d p r (c + 4) S (P.wr no k t) R /\ vQ C W w' := by
 obtain ⟨Bp, h1, h2⟩ := h.pag;exact (zB1 h1 no k t hc).mono fun e w' ⟨a1, a2⟩ => ⟨a1, h.ask h1 h2 a2⟩
theorem Two.free (h : Two w0 W C d p r c S P R) (no : Int) (hc : c + 8 < 1000000) : Calls Tryz.prog 20 #[.pointer (some ⟨p, 0, none⟩), .int .i64 no] W fun e w' => e = .returned (.int .i64 (P.frEI no)) /\ Two w0 w' C d p r (c + 8) S (P.freI no) R /\ vQ C W w' := by
 obtain ⟨Bp, h1, h2⟩ := h.pag;unfold PS.frEI PS.freI;cases ho : P.others no with
 | false => exact (zNa h1 no ho (by omega)).mono fun e w' ⟨a1, a2⟩ => ⟨a1, (h.ask h1 h2 a2).1.more (by omega), (h.ask h1 h2 a2).2⟩
 | true =>
   have hn : 1 <= no := by unfold PS.others at ho; simp at ho; exact ho.1
   have e : ((no.toNat : Nat) : Int) = no := Int.toNat_of_nonneg (by omega);have := zNd h1 no.toNat (by rw [e]; exact ho) hc;rw [e] at this;exact this.mono fun e w' ⟨a1, a2⟩ => ⟨a1, h.ask h1 h2 a2⟩
theorem Two.root (h : Two w0 W C d p r c S P R) (hd : P.s.down = false) (i : Int) (x : Nat) (hx : x < 18446744073709551616) (hc : c + 4 < 1000000) : Calls Tryz.prog 21 #[.pointer (some ⟨p, 0, none⟩), .int .i64 i, .int .u64 (x : Int)] W fun e w' => e = .returned (.int .i64 (P.rtE i x)) /\ Two w0 w' C d p r (c + 4) S (P.rt i x) R /\ vQ C W w' := by
 obtain ⟨Bp, h1, h2⟩ := h.pag;unfold PS.rtE PS.rt;by_cases c : 0 <= i /\ i < 8
 · have e : ((i.toNat : Nat) : Int) = i := Int.toNat_of_nonneg (by omega);have := zEo h1 hd i.toNat (by omega) x hx hc;rw [e] at this;rw [if_pos c, if_pos c];exact this.mono fun e w' ⟨a1, a2⟩ => ⟨a1, h.ask h1 h2 a2⟩
 · rw [if_neg c, if_neg c];exact (zC1 p i (x : Int) (by omega) W).mono fun e w' ⟨a1, a2⟩ => ⟨a1, (h.mem a2).more (by omega), Ji a2⟩
theorem Two.abort (h : Two w0 W C d p r c S P R) : Calls Tryz.prog 23 #[.pointer (some ⟨p, 0, none⟩)] W fun e w' => e = .returned (.tuple #[]) /\ Two w0 w' C d p r c S P.abort R /\ vQ C W w' := by
 obtain ⟨Bp, h1, h2⟩ := h.pag;exact (zH8 h1).mono fun e w' ⟨a1, a2⟩ => ⟨a1, h.ask h1 h2 a2⟩
theorem Two.commit (h : Two w0 W C d p r c S P R) (hf : P.failed = false) (hd : P.s.down = false) (hlf : P.l.failed = false) (hq : P.seq + 1 <= 18446744073709551615) (hfew : P.s.wr.length <= 20000) (hT : P.T.length <= 10000) (hc : c + 10000 < 1000000) : Calls Tryz.prog 22 #[.pointer (some ⟨p, 0, none⟩)] W fun e w' => e = .returned (.int .i64 P.comE) /\ Two w0 w' C d p r (c + P.T.length) S P.com R /\ vQ C W w' := by
 obtain ⟨Bp, h1, h2⟩ := h.pag;exact (Vu h1 hf hd hlf hq hfew (by omega)).mono fun e w' ⟨a1, a2, a3⟩ => ⟨a1, h.live h2 a2 a3⟩
theorem Two.check (h : Two w0 W C d p r c S P R) (hf : P.failed = false) (hd : P.s.down = false) (hlf : P.l.failed = false) (hq : P.seq + 1 <= 18446744073709551615) (hfew : P.s.wr.length <= 20000) : Calls Tryz.prog 24 #[.pointer (some ⟨p, 0, none⟩)] W fun e w' => e = .returned (.int .i64 P.ckE) /\ Two w0 w' C d p r c S P.ck R /\ vQ C W w' := by
 obtain ⟨Bp, h1, h2⟩ := h.pag;by_cases hT : P.T = []
 · unfold PS.ckE PS.ck;rw [if_neg (by rw [hf, hT]; simp), if_neg (by rw [hf, hT]; simp)];exact (Xn h1 hf hT hd hlf hq hfew).mono fun e w' ⟨a1, a2, a3⟩ => ⟨a1, h.live h2 a2 a3⟩
 · unfold PS.ckE PS.ck;rw [if_pos (.inr hT), if_pos (.inr hT)];exact (zDm h1 hf hT).mono fun e w' ⟨a1, a2⟩ => ⟨a1, h.mem a2, Ji a2⟩
theorem Two.rabort (h : Two w0 W C d p r c S P R) (hok : R.Ok) : Calls Tryz.prog 30 #[.pointer (some ⟨r, 0, none⟩)] W fun e w' => e = .returned (.tuple #[]) /\ Two w0 w' C d p r c S P R.abort /\ vQ C W w' := by
 obtain ⟨sk, sr, sf, wk, wr, wf, vd, hR⟩ := h.ref;exact (zEz hR hok h.hi).mono fun e w' ⟨a1, a2, a3⟩ => ⟨a1, h.refd a2 a3⟩
theorem Two.rkeep (h : Two w0 W C d p r c S P R) (hok : R.Ok) : Calls Tryz.prog 35 #[.pointer (some ⟨r, 0, none⟩)] W fun e w' => e = .returned (.tuple #[]) /\ Two w0 w' C d p r c S P R.keep /\ vQ C W w' := by
 obtain ⟨sk, sr, sf, wk, wr, wf, vd, hR⟩ := h.ref;exact (zH4 hR hok h.hi).mono fun e w' ⟨a1, a2, a3⟩ => ⟨a1, h.refd a2 a3⟩
theorem Two.rcount (h : Two w0 W C d p r c S P R) : Calls Tryz.prog 34 #[.pointer (some ⟨r, 0, none⟩)] W fun e w' => e = .returned (.int .i64 (R.count : Int)) /\ Below W.heap.size W w' := by
 obtain ⟨sk, sr, sf, wk, wr, wf, vd, hR⟩ := h.ref;exact Zd hR
theorem Two.rwrite (h : Two w0 W C d p r c S P R) (hok : R.Ok) (no k : Int) (t : ByteArray) : Calls Tryz.prog 31 #[.pointer (some ⟨r, 0, none⟩), .int .i64 no, .int .i64 k, .string t] W fun e w' => e = .returned (.int .i64 (R.wrE no k t)) /\ Two w0 w' C d p r c S P (R.wr no k t) /\ vQ C W w' := by
 obtain ⟨sk, sr, sf, wk, wr, wf, vd, hR⟩ := h.ref;exact (zFf hR hok no k t).mono fun e w' ⟨a1, a2, a3⟩ => ⟨a1, h.refd ⟨_, _, _, _, _, _, _, a2⟩ a3⟩
theorem Two.rroot (h : Two w0 W C d p r c S P R) (hok : R.Ok) (i : Int) (x : Nat) (hx : x < 18446744073709551616) : Calls Tryz.prog 33 #[.pointer (some ⟨r, 0, none⟩), .int .i64 i, .int .u64 (x : Int)] W fun e w' => e = .returned (.int .i64 (R.rtE i)) /\ Two w0 w' C d p r c S P (R.rt i x) /\ vQ C W w' := by
 obtain ⟨sk, sr, sf, wk, wr, wf, vd, hR⟩ := h.ref;unfold RS.rtE RS.rt;by_cases c : 0 <= i /\ i < 8
 · have e : ((i.toNat : Nat) : Int) = i := Int.toNat_of_nonneg (by omega);have := zDx hR hok i.toNat (by omega) x hx;rw [e] at this;rw [if_pos c, if_pos c];exact this.mono fun e w' ⟨a1, a2, a3⟩ => ⟨a1, h.refd ⟨_, _, _, _, _, _, _, a2⟩ a3⟩
 · rw [if_neg c, if_neg c];exact (zBq hR i (x : Int) (by omega)).mono fun e w' ⟨a1, a2⟩ => ⟨a1, a2 ▸ ⟨h, vQ.refl _ _⟩⟩
theorem Two.ralloc (h : Two w0 W C d p r c S P R) (hs : Sim P' R) (hok : R.Ok) (k : Nat) : Calls Tryz.prog 29 #[.pointer (some ⟨r, 0, none⟩), .int .i64 (k : Int)] W fun e w' => e = .returned (.tuple #[.int .i64 (R.alN k : Int), .int .i64 (R.alE k)]) /\ Two w0 w' C d p r c S P (R.al k) /\ vQ C W w' := by
 obtain ⟨sk, sr, sf, wk, wr, wf, vd, hR⟩ := h.ref;unfold RS.al RS.alN;by_cases c1 : 2 <= k /\ k <= 254
 · by_cases c2 : R.way.free = [] /\ R.most <= R.way.kinds.length
   · have e : R.alE k = 8 := by unfold RS.alE; rw [if_pos c1, if_pos c2]
     rw [e];exact (zCj hR (k : Int) (by omega) (by omega) c2.1 c2.2).mono fun e w' ⟨a1, a2⟩ => ⟨a1, a2 ▸ ⟨h, vQ.refl _ _⟩⟩
   · have e : R.alE k = if R.big [R.alNo, 0] then 10 else 0 := by unfold RS.alE; rw [if_pos c1, if_neg c2]
     have key : Calls Tryz.prog 29 #[.pointer (some ⟨r, 0, none⟩), .int .i64 (k : Int)] W fun e w' => e = .returned (.tuple #[.int .i64 ((if R.big [R.alNo, 0] then 0 else R.alNo : Nat) : Int), .int .i64 (if R.big [R.alNo, 0] then 10 else 0)]) /\ gI w' C r (if R.big [R.alNo, 0] then R else R.alK k) /\ Chg (RT W C) W w' := by
       by_cases c3 : R.way.free = []
       · exact zFn hR hok h.hi k c1.1 c1.2 c3 (by
           by_cases c4 : R.way.kinds.length < R.most
           · exact c4
           · exact absurd ⟨c3, by omega⟩ c2)
       · exact zEg hR hok h.hi k c1.1 c1.2 c3 hs.way.first_lt
     rw [e];refine key.mono fun e w' ⟨a1, a2, a3⟩ => ?_
     cases hb : R.big [R.alNo, 0] with
     | true => rw [hb] at a1 a2; exact ⟨a1, h.refd a2 a3⟩
     | false => rw [hb] at a1 a2; exact ⟨a1, h.refd a2 a3⟩
 · have e : R.alE k = 1 := by unfold RS.alE; rw [if_neg c1]
   rw [e];exact (zDa hR (k : Int) (by omega)).mono fun e w' ⟨a1, a2⟩ => ⟨a1, a2 ▸ ⟨h, vQ.refl _ _⟩⟩
theorem Two.rrel (h : Two w0 W C d p r c S P R) (hs : Sim P' R) (hok : R.Ok) (no : Int) : Calls Tryz.prog 32 #[.pointer (some ⟨r, 0, none⟩), .int .i64 no] W fun e w' => e = .returned (.int .i64 (R.relE no)) /\ Two w0 w' C d p r c S P (R.rel no) /\ vQ C W w' := by
 obtain ⟨sk, sr, sf, wk, wr, wf, vd, hR⟩ := h.ref;unfold RS.rel;by_cases c1 : 1 <= no /\ no < (R.way.kinds.length : Int)
 · have en : ((no.toNat : Nat) : Int) = no := Int.toNat_of_nonneg (by omega);by_cases c2 : R.way.kinds.getD no.toNat 0 = 255
   · have e : R.relE no = 6 := by unfold RS.relE; rw [if_pos c1, if_pos c2]
     have := zHp hR no.toNat (by omega) (by omega) c2;rw [en] at this;rw [e];exact this.mono fun e w' ⟨a1, a2⟩ => ⟨a1, a2 ▸ ⟨h, vQ.refl _ _⟩⟩
   · have e : R.relE no = if R.big [no.toNat, 0] then 10 else 0 := by unfold RS.relE; rw [if_pos c1, if_neg c2]
     have h8 := hs.way.m8;have hfl := hs.way.first_lt;have hhi := hs.way.hi;have h5 : ((R.laid no.toNat 255 (yI R.way.first)).more no.toNat).way.free.length <= 100000 := by
       show (R.way.free ++ [no.toNat]).length <= _
       have := hs.way.fl_;simp;omega
     have key : Calls Tryz.prog 32 #[.pointer (some ⟨r, 0, none⟩), .int .i64 no] W fun e w' => e = .returned (.int .i64 (if R.big [no.toNat, 0] then 10 else 0)) /\ gI w' C r (if R.big [no.toNat, 0] then R else R.relK no.toNat) /\ Chg (RT W C) W w' := by
       by_cases c3 : R.way.free = []
       · have := zKg hR hok h.hi no.toNat (by omega) (by omega) c2 (by omega) h5 c3;rw [en] at this;exact this
       · have := zLt hR hok h.hi no.toNat (by omega) (by omega) c2 (by omega) h5 c3;rw [en] at this;exact this
     rw [e];refine key.mono fun e w' ⟨a1, a2, a3⟩ => ?_
     cases hb : R.big [no.toNat, 0] with
     | true => rw [hb] at a1 a2; exact ⟨a1, h.refd a2 a3⟩
     | false => rw [hb] at a1 a2; exact ⟨a1, h.refd a2 a3⟩
 · have e : R.relE no = 1 := by unfold RS.relE; rw [if_neg c1]
   rw [e];exact (zKp hR no (by omega)).mono fun e w' ⟨a1, a2⟩ => ⟨a1, a2 ▸ ⟨h, vQ.refl _ _⟩⟩
end
end Go.Proofs.YtndhmidgnpobjaaGreatDoor
