import Derived.Test.YtndhmidgnpobjaaGreatDoorPguF
import Derived.Test.YtndhmidgnpobjaaGreatDoorCraR
import Derived.Test.YtndhmidgnpobjaaGreatDoorPguG
import Derived.Test.YtndhmidgnpobjaaGreatDoorPguC
import Derived.Test.YtndhmidgnpobjaaGreatDoorPguI
set_option linter.unusedVariables false
set_option linter.unusedSimpArgs false
namespace Go.Proofs.YtndhmidgnpobjaaGreatDoor
open Go.ChangeShapes Go.WideShapes Go.ChangeAt Go.RowKit
section
def jM (N : Nat) (s : St) (l : yM) (ps : List ByteArray) : Int × St × yM :=
 if 1 + 9 * ps.length <= l.left then
   if (vV N s (2 + l.used) l.next (1 + 9 * ps.length) (2 + l.size)).1 = 0 then fG N (vV N s (2 + l.used) l.next (1 + 9 * ps.length) (2 + l.size)).2 l ps
   else ((vV N s (2 + l.used) l.next (1 + 9 * ps.length) (2 + l.size)).1, (vV N s (2 + l.used) l.next (1 + 9 * ps.length) (2 + l.size)).2, l)
 else fG N s l ps
theorem zHi (N : Nat) (s : St) (at_ q k en : Nat) : (vV N s at_ q k en).2.wr.length <= s.wr.length + 4 := by
 have h1 := Nat.le_trans (uD N (yN s at_ q) (0, s)) (Nat.add_le_add_left (Uq s at_ q) _);rw [gG rfl];obtain ⟨x, hx⟩ : ∃ x, x = zV N (yN s at_ q) (0, s) := ⟨_, rfl⟩
 rw [<- hx] at h1 ⊢;simp only at h1;split
 · have h2 := Nat.le_trans (uD N (yN x.2 (at_ + k) ((q + 1) % 18446744073709551616)) (0, x.2)) (Nat.add_le_add_left (Uq _ _ _) _);simp only at h2;omega
 · omega
section
variable {w w1 w2 : World} {p lg d sb mb sc : Nat} {wv : Value} {N ll : Nat} {s s1 : St} {l : yM} {x2 x4 x5 x6 x7 : Value} {r : St × yM}
theorem xD.behind {wv1 : Value} (hc : Chg (fp d sb mb wv) w w1) (hv : wv1.ownBlock = wv.ownBlock \/ wv1.ownBlock = none \/ ∃ g, wv1.ownBlock = some g /\ w.heap.size <= g) (h : xD w1 w2 lg d sb mb sc wv1 N r) : xD w w2 lg d sb mb sc wv N r := by
 obtain ⟨wv', h1, h2, h3, h4⟩ := h;refine ⟨wv', h1, h2, (hc.mono fun q _ e => .inl e).trans h3 fun q hq e => ?_, ?_⟩
 · rcases e with e | e
   · exact (uZ hv e).elim .inl fun h => absurd hq (by omega)
   · exact .inr e
 · rcases h4 with h | h | ⟨g, h, hg⟩
   · rw [h]; exact hv
   · exact .inr (.inl h)
   · exact .inr (.inr ⟨g, h, Nat.le_trans hc.size hg⟩)
theorem xD.below (h : xD w w1 lg d sb mb sc wv N r) (hb : Below w1.heap.size w1 w2) : xD w w2 lg d sb mb sc wv N r := by
 obtain ⟨wv', h1, h2, h3, h4⟩ := h;exact ⟨wv', h1.below hb, Own.keep h2 hb, h3.call hb, h4⟩
theorem Wrt.appended (h : Wrt w w1 d sb mb sc wv N s1) (hL : yD w1 lg d l) : xD w w1 lg d sb mb sc wv N (s1, l) := by
 obtain ⟨wv', h1, h2, h3⟩ := h;exact ⟨wv', h1, hL, h2.mono fun q _ e => .inl e, h3⟩
set_option maxRecDepth 10000 in
set_option maxHeartbeats 2000000 in
theorem zKf (hD : zI w d sb mb sc wv N s) (hd : s.down = false) (hL : yD w lg d l) (hk : l.Ok) (hf : l.failed = false) (hsz : l.size = ll) (hO : Own w p 131 #[.pointer (some ⟨d, 0, none⟩), .int .i64 (ll : Int), x2, .pointer (some ⟨lg, 0, none⟩), x4, x5, x6, x7]) (hfit : 2 + ll <= N) (v : Value) (ps : List ByteArray) (hps : yO w (fun b => ¬ fp d sb mb wv b) v ps) (hn : ps.length <= 1000) (hfew : s.wr.length <= 90000) :
   Calls Tryz.prog 149 #[.pointer (some ⟨p, 0, none⟩), v] w fun e w' => e = .returned (.int .i64 (jM N s l ps).1) /\ xD w w' lg d sb mb sc wv N (jM N s l ps).2 := by
 have nl := hD.no_own (show Own w lg 207 (l.cells d) from hL) (by decide) (by decide) (by simp [yM.cells]);have np := hD.no_own hO (by decide) (by decide) (by simp);have hps2 : yO w (fun b => ¬ fp d sb mb wv b /\ b < w.heap.size) v ps := hps.mono fun b hb h => ⟨h, hb⟩
 obtain ⟨a, cp, rfl, -, -, -⟩ := hps.open_;have HLE := Lh (fun W (hb : Below w.heap.size w W) => (show Calls Tryz.prog 188 #[.pointer (some ⟨lg, 0, none⟩)] W fun e w' => e = .returned (.int .i64 (l.left : Nat)) /\ Below W.heap.size W w' from by
   refine (fP (show yD W lg d l from Own.keep hL hb) hk).mono ?_;rintro e w' ⟨rfl, q, rfl⟩;exact ⟨rfl, zJ (Below.refl _ _) q⟩))
 have HSO := Lh (fun W => zCi a ps.length cp W (by omega));have HKEEP := Lh (fun W s1 (hWr : Wrt w W d sb mb sc wv N s1) => (show yD W lg d l /\ Own W p 131 #[.pointer (some ⟨d, 0, none⟩), .int .i64 (ll : Int), x2, .pointer (some ⟨lg, 0, none⟩), x4, x5, x6, x7] from by
   obtain ⟨wv', h1, h2, h3⟩ := hWr;exact ⟨h2.own (show Own w lg 207 (l.cells d) from hL) nl, h2.own hO np⟩))
 have HAP := Lh (fun W s1 (hlen : s1.wr.length <= 100000) (hWr : Wrt w W d sb mb sc wv N s1) => (show Calls Tryz.prog 202 #[.pointer (some ⟨lg, 0, none⟩), .slice a ps.length cp] W fun e w' => e = .returned (.int .i64 (fG N s1 l ps).1) /\ xD w w' lg d sb mb sc wv N (fG N s1 l ps).2 from by
   obtain ⟨wv', h1, h2, h3⟩ := hWr;refine (zFa (show yD W lg d l from h2.own (show Own w lg 207 (l.cells d) from hL) nl) hk h1 (.slice a ps.length cp) ps ((hps2.keep h2 fun b hb h => h.1).mono fun b hb h e => ?_) hlen (h1.no_own (show Own W lg 207 (l.cells d) from h2.own (show Own w lg 207 (l.cells d) from hL) nl) (by decide) (by decide) (by simp [yM.cells]))).mono ?_
   · rcases uZ h3 e with e | e
     · exact h.1 e
     · exact absurd h.2 (by omega)
   · rintro e w' ⟨rfl, h⟩;exact ⟨rfl, xD.behind h2 h3 h⟩))
 have HSAME := Lh (fun W (hb : Below w.heap.size w W) => (Wrt.same hD).below hb);obtain ⟨n, hn2⟩ : ∃ n, n = ps.length := ⟨_, rfl⟩
 have HADD := Lh (show jM N s l ps = _ from rfl);by_cases hle : 1 + 9 * ps.length <= l.left
 · have E : jM N s l ps = if (vV N s (2 + l.used) l.next (1 + 9 * ps.length) (2 + l.size)).1 = 0 then fG N (vV N s (2 + l.used) l.next (1 + 9 * ps.length) (2 + l.size)).2 l ps else ((vV N s (2 + l.used) l.next (1 + 9 * ps.length) (2 + l.size)).1, (vV N s (2 + l.used) l.next (1 + 9 * ps.length) (2 + l.size)).2, l) := if_pos hle
   have HPR := Lh (fun W (hb : Below w.heap.size w W) => zCy (hD.below hb) hd (show yD W lg d l from Own.keep hL hb) hk hf hsz (hO.keep hb) hfit (1 + 9 * ps.length) (by omega) hle (by omega));have hpl := zHi N s (2 + l.used) l.next (1 + 9 * ps.length) (2 + l.size);rw [<- hsz] at HPR;obtain ⟨x, hx⟩ : ∃ x, x = vV N s (2 + l.used) l.next (1 + 9 * ps.length) (2 + l.size) := ⟨_, rfl⟩
   rw [<- hx] at E HPR hpl;obtain ⟨r, hr⟩ : ∃ r, r = jM N s l ps := ⟨_, rfl⟩
   rw [<- hr];rw [<- hr] at E;have HE := Lh (fun (h : x.1 = 0) => (E.trans (if_pos h)));have HNE := Lh (fun (h : x.1 ≠ 0) => (E.trans (if_neg h)));rw [<- hn2] at HSO HPR HAP hle ⊢;obtain ⟨L, hL2⟩ : ∃ L, L = l.left := ⟨_, rfl⟩
   rw [<- hL2] at HLE hle;obtain ⟨K, hK⟩ : ∃ K, K = 1 + 9 * n := ⟨_, rfl⟩
   rw [<- hK] at HSO HPR hle;have tt : decide (K <= L) = true := by simpa using hle
   have HO := Lh hO;clear HADD hL2 hK hx E hr hD hd hL hk hf hO hps hps2 hn hn2 nl np hle;obtain ⟨e1, s1⟩ := x;simp only at HPR hpl HE HNE;go_enter Tryz.func149, Tryz.ntmps149;go_upto_region 1 with fail;refine zA (fun W => Own W p 131 #[.pointer (some ⟨d, 0, none⟩), .int .i64 (ll : Int), x2, .pointer (some ⟨lg, 0, none⟩), x4, x5, x6, x7]) (0 :: 2 :: 3 :: 4 :: 5 :: 7 :: []) (5 :: []) (0 :: 2 :: 3 :: 4 :: 5 :: 1 :: 6 :: 7 :: []) (by kernel_rfl) (by kernel_rfl) rfl (by kernel_rfl) rfl (HO.out.drawn) (by simp only [zQ, List.filterMap_cons, List.filterMap_nil, List.getElem?_cons_zero, List.getElem?_cons_succ, Option.map_some]; exact rfl) ?_;iterate 5
     refine zC (v := ?_) rfl rfl (fun W hS => ?_) ?_;rotate_left
     · first
         | (conv => lhs; simp [go_sem, tt]
            first | done | exact rfl)
         | (have hS := hS rfl
            obtain ⟨q1, q4, q5⟩ := Own.at_ hS;conv => lhs; simp [go_sem, *, tt]
            first | done | exact rfl)
     simp only [Act.put, lA, lZ, lS]
   refine zK rfl rfl fun K hK => ?_
   go_wp2_with (go_at_call 150; refine (HSO.out _).mono ?_; rintro e w3 ⟨rfl, rfl⟩)
   refine hK _ _ HO.out.drawn ?_;clear hK K;refine zK rfl rfl fun K hK => ?_
   go_wp2_with (go_at_call 188; refine (HLE.out _ ((Below.refl _ _).drew)).mono ?_; rintro e w3 ⟨rfl, hw3⟩)
   have B3 := Lh (then_ (Below.refl w.heap.size w).drew hw3 (Below.refl w.heap.size w).drew.size);clear hw3;have O3 := Lh (HO.out.keep B3.out);refine hK _ _ O3.out ?_;clear hK K;iterate 1
     refine zC (v := ?_) rfl rfl (fun W hS => ?_) ?_;rotate_left
     · first
         | (conv => lhs; simp [go_sem, tt]
            first | done | exact rfl)
         | (have hS := hS rfl
            obtain ⟨q1, q4, q5⟩ := Own.at_ hS;conv => lhs; simp [go_sem, *, tt]
            first | done | exact rfl)
     simp only [Act.put, lA, lZ, lS]
   refine zN ?_;by_cases c : e1 = 0
   · subst c;have HE2 := Lh (HE.out rfl);clear HE HNE;go_wp2_with (first
       | (go_at_call 150; refine (HSO.out _).mono ?_; rintro e w4 ⟨rfl, rfl⟩)
       | (go_at_call 201; refine (HPR.out _ B3.out).mono ?_; rintro e w5 ⟨rfl, hw5⟩; have R5 := Lh (Wrt.from_ hw5 B3.out); clear hw5; obtain ⟨q1, q2, q3⟩ := (HKEEP.out _ _ R5.out).2.at_)
       | (go_at_call 202; refine (HAP.out _ _ (by omega) R5.out).mono ?_; rintro e w6 ⟨rfl, hw6⟩; have R6 := Lh hw6; clear hw6))
     go_ret;rw [HE2.out];exact ⟨rfl, R6.out⟩
   · have HE2 := Lh (HNE.out c);clear HE HNE;have t1 : (e1 != 0) = true := by simpa using c
     clear c;go_wp2_with (first
       | (go_at_call 150; refine (HSO.out _).mono ?_; rintro e w4 ⟨rfl, rfl⟩)
       | (go_at_call 201; refine (HPR.out _ B3.out).mono ?_; rintro e w5 ⟨rfl, hw5⟩; have R5 := Lh (Wrt.appended (Wrt.from_ hw5 B3.out) (HKEEP.out _ _ (Wrt.from_ hw5 B3.out)).1); clear hw5))
     go_ret;rw [HE2.out];exact ⟨rfl, R5.out⟩
 · have E : jM N s l ps = fG N s l ps := if_neg hle;rw [E];rw [<- hn2] at HSO HAP hle ⊢;obtain ⟨L, hL2⟩ : ∃ L, L = l.left := ⟨_, rfl⟩
   rw [<- hL2] at HLE hle;obtain ⟨K, hK⟩ : ∃ K, K = 1 + 9 * n := ⟨_, rfl⟩
   rw [<- hK] at HSO hle;have tt : decide (K <= L) = false := by simpa using hle
   have HO := Lh hO;clear HADD hL2 hK E hD hd hL hk hf hO hps hps2 hn hn2 nl np hle;go_enter Tryz.func149, Tryz.ntmps149;go_upto_region 1 with fail;refine zA (fun W => Own W p 131 #[.pointer (some ⟨d, 0, none⟩), .int .i64 (ll : Int), x2, .pointer (some ⟨lg, 0, none⟩), x4, x5, x6, x7]) (0 :: 2 :: 3 :: 4 :: 5 :: 7 :: []) (5 :: []) (0 :: 2 :: 3 :: 4 :: 5 :: 1 :: 6 :: 7 :: []) (by kernel_rfl) (by kernel_rfl) rfl (by kernel_rfl) rfl (HO.out.drawn) (by simp only [zQ, List.filterMap_cons, List.filterMap_nil, List.getElem?_cons_zero, List.getElem?_cons_succ, Option.map_some]; exact rfl) ?_;iterate 5
     refine zC (v := ?_) rfl rfl (fun W hS => ?_) ?_;rotate_left
     · first
         | (conv => lhs; simp [go_sem, tt]
            first | done | exact rfl)
         | (have hS := hS rfl
            obtain ⟨q1, q4, q5⟩ := Own.at_ hS;conv => lhs; simp [go_sem, *, tt]
            first | done | exact rfl)
     simp only [Act.put, lA, lZ, lS]
   refine zK rfl rfl fun K hK => ?_
   go_wp2_with (go_at_call 150; refine (HSO.out _).mono ?_; rintro e w3 ⟨rfl, rfl⟩)
   refine hK _ _ HO.out.drawn ?_;clear hK K;refine zK rfl rfl fun K hK => ?_
   go_wp2_with (go_at_call 188; refine (HLE.out _ ((Below.refl _ _).drew)).mono ?_; rintro e w3 ⟨rfl, hw3⟩)
   have B3 := Lh (then_ (Below.refl w.heap.size w).drew hw3 (Below.refl w.heap.size w).drew.size);clear hw3;have O3 := Lh (HO.out.keep B3.out);refine hK _ _ O3.out ?_;clear hK K;iterate 1
     refine zC (v := ?_) rfl rfl (fun W hS => ?_) ?_;rotate_left
     · first
         | (conv => lhs; simp [go_sem, tt]
            first | done | exact rfl)
         | (have hS := hS rfl
            obtain ⟨q1, q4, q5⟩ := Own.at_ hS;conv => lhs; simp [go_sem, *, tt]
            first | done | exact rfl)
     simp only [Act.put, lA, lZ, lS]
   refine zN ?_;obtain ⟨q1, q2, q3⟩ := O3.out.at_;go_wp2_with (go_at_call 202; refine (HAP.out _ _ (by omega) (HSAME.out _ B3.out)).mono ?_; rintro e w6 ⟨rfl, hw6⟩; have R6 := Lh hw6; clear hw6)
   go_ret;exact ⟨rfl, R6.out⟩
end
end
section
theorem zDv (x : Nat × ByteArray) (l : List (Nat × ByteArray)) (i : Int) : xY (x :: l) i = match xY l i with | some y => some y | none => if (x.1 : Int) = i then some x else none := by
 unfold xY;rw [List.reverse_cons, List.find?_append];cases h : l.reverse.find? fun x => (x.1 : Int) == i with
 | some y => rfl
 | none =>
   show (none : Option (Nat × ByteArray)).or _ = _
   rw [Option.none_or, List.find?_cons];by_cases c : (x.1 : Int) = i
   · simp [c]
   · have c2 : ((x.1 : Int) == i) = false := by simpa using c
     rw [if_neg c, c2];rfl
structure Sd (N : Nat) (s : St) : Prop where
 len : s.sure.length = N * 64
 fits : Uj N s.wr
theorem Sd.of {N : Nat} {s : St} (h : s.Ok N) : Sd N s := ⟨h.len, h.wr⟩
theorem Ye (N : Nat) : ∀ (l : List (Nat × ByteArray)) (j : Nat) (L : List UInt8), L.length = N * 64 -> Uj N l -> ∀ k : Nat, xN (yK (fun _ => 64) l j L) (k : Int) = match xY l (k : Int) with | some x => x.2 | none => xN L (k : Int)
 | [], _, _, _, _, _ => rfl
 | x :: l, j, L, h, hx, k => by
   have h1 := hx x (by simp);have hl := Xb (k := 64) h h1.1 h1.2;rw [zDv];have ih := Ye N l (j + 1) _ hl hx.tail k;show xN (yK (fun _ => 64) l (j + 1) (Jf L (x.1 * 64) (x.2.extract 0 64))) (k : Int) = _
   rw [ih];cases xY l (k : Int) with
   | some y => rfl
   | none =>
     simp only;by_cases c : x.1 = k
     · subst c;rw [if_pos rfl];exact Ub L x.1 x.2 h1.2 (by omega)
     · rw [if_neg (by omega)];exact Jq L x.1 k _ c (by rw [ByteArray.size_extract]; omega) (by omega)
theorem zHw (s : St) : (vH s).2.sure = s.sure /\ (vH s).2.wr = s.wr := by
 unfold vH;split
 · exact ⟨rfl, rfl⟩
 · split <;> exact ⟨rfl, rfl⟩
def vwO (k : Nat) (v : ByteArray) : Dop -> ByteArray
 | some (a, t) => if a = k then t else v
 | none => v
theorem zN1 {s s' : St} (h1 : s'.sure = s.sure) (h2 : s'.wr = s.wr) (k : Nat) : vw s' k = vw s k := by unfold vw; rw [h1, h2]
theorem zBf {N : Nat} {s : St} (h : Sd N s) (o : Dop) (ho : Jc N o) (k : Nat) : Sd N (uX N s o).2 /\ (((uX N s o).1 = 0 -> vw (uX N s o).2 k = vwO k (vw s k) o) /\ ((uX N s o).1 ≠ 0 -> vw (uX N s o).2 k = vw s k)) := by
 obtain ⟨b1, b2⟩ := zHw s;cases o with
 | some x =>
   obtain ⟨a, t⟩ := x;obtain ⟨ha, ht⟩ := ho;show Sd N (xE N s (a : Int) t).2 /\ _
   by_cases hd : s.down = true
   · have e : xE N s (a : Int) t = (11, s) := by unfold xE; rw [if_pos hd]
     rw [show uX N s (some (a, t)) = xE N s (a : Int) t from rfl, e];exact ⟨h, fun e => absurd e (show (11 : Int) ≠ 0 by decide), fun _ => rfl⟩
   · by_cases hb : (vH s).1 = true
     · have e : xE N s (a : Int) t = (0, { (vH s).2 with wr := s.wr ++ [(a, t)] }) := by
         unfold xE;rw [if_neg hd, if_neg (by omega), if_pos hb, Int.toNat_natCast]
       rw [show uX N s (some (a, t)) = xE N s (a : Int) t from rfl, e];refine ⟨⟨by simp only; rw [b1]; exact h.len, fun y hy => ?_⟩, fun _ => ?_, fun e => absurd rfl e⟩
       · rcases List.mem_append.1 hy with hy | hy
         · exact h.fits y hy
         · obtain rfl : y = (a, t) := by simpa using hy
           exact ⟨ha, ht⟩
       · unfold vw vwO;simp only;rw [Vr, b1];by_cases c : a = k
         · subst c; simp
         · rw [if_neg (by simp only; omega), if_neg c]
     · have e : xE N s (a : Int) t = (11, (vH s).2) := by
         unfold xE;rw [if_neg hd, if_neg (by omega), if_neg hb]
       rw [show uX N s (some (a, t)) = xE N s (a : Int) t from rfl, e];exact ⟨⟨by simp only; rw [b1]; exact h.len, by simp only; rw [b2]; exact h.fits⟩, fun e => absurd e (show (11 : Int) ≠ 0 by decide), fun _ => zN1 b1 b2 k⟩
 | none =>
   show Sd N (vB s).2 /\ _
   rw [show uX N s none = vB s from rfl];by_cases hd : s.down = true
   · have e : vB s = (11, s) := by unfold vB; rw [if_pos hd]
     rw [e];exact ⟨h, fun e => absurd e (show (11 : Int) ≠ 0 by decide), fun _ => rfl⟩
   · by_cases hb : (vH s).1 = true
     · have e : vB s = (0, ⟨yK (fun _ => 64) s.wr 0 s.sure, [], (vH s).2.fuse, (vH s).2.down⟩) := by unfold vB; rw [if_neg hd, if_pos hb]
       rw [e];refine ⟨⟨jQ _ N _ _ _ h.len h.fits, fun y hy => by cases hy⟩, fun _ => ?_, fun e => absurd rfl e⟩;show xN (yK (fun _ => 64) s.wr 0 s.sure) (k : Int) = vw s k
       rw [Ye N s.wr 0 s.sure h.len h.fits k];rfl
     · have e : vB s = (11, (vH s).2) := by unfold vB; rw [if_neg hd, if_neg hb]
       rw [e];exact ⟨⟨by simp only; rw [b1]; exact h.len, by simp only; rw [b2]; exact h.fits⟩, fun e => absurd e (show (11 : Int) ≠ 0 by decide), fun _ => zN1 b1 b2 k⟩
def noD (k : Nat) : Dop -> Prop
 | some (a, _) => a ≠ k
 | none => True
theorem Vn (N : Nat) (o : Dop) (ops : List Dop) (s : St) : zV N (o :: ops) (0, s) = zV N ops (uX N s o) := by
 show zV N ops (xI N (0, s) o) = _
 congr 1
theorem Ua (N : Nat) : ∀ (ops : List Dop) (s : St), Sd N s -> (∀ o ∈ ops, Jc N o) -> Sd N (zV N ops (0, s)).2
 | [], s, h, _ => h
 | o :: ops, s, h, hf => by
   rw [Vn];have h1 := (zBf h o (hf o (by simp)) 0).1;by_cases c : (uX N s o).1 = 0
   · have e : uX N s o = (0, (uX N s o).2) := by rw [<- c]
     rw [e];exact Ua N ops _ h1 fun o ho => hf o (by simp [ho])
   · rw [uB N ops _ c]; exact h1
theorem zAh (N k : Nat) : ∀ (ops : List Dop) (s : St), Sd N s -> (∀ o ∈ ops, Jc N o) -> (∀ o ∈ ops, noD k o) -> vw (zV N ops (0, s)).2 k = vw s k
 | [], s, h, _, _ => rfl
 | o :: ops, s, h, hf, hn => by
   rw [Vn];obtain ⟨h1, h2, h3⟩ := zBf h o (hf o (by simp)) k;by_cases c : (uX N s o).1 = 0
   · have e : uX N s o = (0, (uX N s o).2) := by rw [<- c]
     have hv : vw (uX N s o).2 k = vw s k := by
       rw [h2 c];have := hn o (by simp);cases o with
       | none => rfl
       | some x => unfold vwO; exact if_neg this
     rw [e, zAh N k ops _ h1 (fun o ho => hf o (by simp [ho])) (fun o ho => hn o (by simp [ho])), hv]
   · rw [uB N ops _ c]; exact h3 c
theorem Vm (N k : Nat) : ∀ (ops : List Dop) (s : St), Sd N s -> (∀ o ∈ ops, Jc N o) -> (zV N ops (0, s)).1 = 0 -> vw (zV N ops (0, s)).2 k = ops.foldl (vwO k) (vw s k)
 | [], s, h, _, _ => rfl
 | o :: ops, s, h, hf, h0 => by
   rw [Vn] at h0 ⊢;obtain ⟨h1, h2, h3⟩ := zBf h o (hf o (by simp)) k;by_cases c : (uX N s o).1 = 0
   · have e : uX N s o = (0, (uX N s o).2) := by rw [<- c]
     rw [e] at h0 ⊢;rw [Vm N k ops _ h1 (fun o ho => hf o (by simp [ho])) h0, h2 c];rfl
   · rw [uB N ops _ c] at h0; exact absurd h0 c
theorem qA (k : Nat) : ∀ (ops : List Dop) (v : ByteArray), (∀ o ∈ ops, noD k o) -> ops.foldl (vwO k) v = v
 | [], v, _ => rfl
 | o :: ops, v, h => by
   have h1 := h o (by simp);have e : vwO k v o = v := by
     cases o with
     | none => rfl
     | some x => unfold vwO; exact if_neg h1
   rw [List.foldl_cons, e];exact qA k ops v fun o ho => h o (by simp [ho])
theorem mG (at_ : Nat) (g : Nat -> ByteArray) (i : Nat) (v : ByteArray) : ∀ n, (yG at_ g n).foldl (vwO (at_ + i)) v = if i < n then g i else v
 | 0 => rfl
 | n + 1 => by
   rw [fJ, List.foldl_append, mG at_ g i v n];show (if at_ + n = at_ + i then g n else _) = _
   by_cases c : n = i
   · subst c; rw [if_pos rfl, if_pos (by omega)]
   · rw [if_neg (by omega)];by_cases c2 : i < n
     · rw [if_pos c2, if_pos (by omega)]
     · rw [if_neg c2, if_neg (by omega)]
theorem zHk {s s' : St} {p p' : Nat} (h : ∀ i, i < 8 -> vw s' (p' + i) = vw s (p + i)) : dby s' p' = dby s p := by
 unfold dby dbl;have e : (List.range 8).map (fun i => (vw s' (p' + i)).data.toList) = (List.range 8).map fun i => (vw s (p + i)).data.toList := List.map_congr_left fun i hi => by rw [h i (List.mem_range.1 hi)]
 rw [List.flatMap_def, List.flatMap_def, e]
end
section
theorem Xg : ∀ (l : List (Nat × Pag)) (lo hi : Nat), asc l -> (∀ q ∈ l, lo <= q.1 /\ q.1 < hi) -> l.length <= hi - lo
 | [], _, _, _, _ => Nat.zero_le _
 | x :: l, lo, hi, h, hb => by
   obtain ⟨h1, h2⟩ := xV.1 h;have hx := hb x (by simp);have := Xg l (x.1 + 1) hi h2 fun q hq => ⟨h1 q hq, (hb q (by simp [hq])).2⟩
   rw [List.length_cons];omega
structure Raw (w : World) (p lg lm d sb mb sc : Nat) (wv x5 x6 : Value) (P : PS) : Prop where
 disk : zI w d sb mb sc wv P.N P.s
 log : yD w lg d P.l
 own : Own w p 131 #[.pointer (some ⟨d, 0, none⟩), .int .i64 (P.ll : Int), .int .u64 (P.seq : Int), .pointer (some ⟨lg, 0, none⟩), .map (some lm), x5, x6, .bool P.failed]
 map : yA w lm .i64 (P.M.map uP)
 ne : lm ≠ mb
def xZ (w w' : World) (p lg lm d sb mb sc : Nat) (wv x5 x6 : Value) (P' : PS) : Prop :=
 ∃ wv', Raw w' p lg lm d sb mb sc wv' x5 x6 P' /\ Chg (fun q => fp d sb mb wv q \/ q = p \/ q = lm \/ q = lg) w w' /\ (wv'.ownBlock = wv.ownBlock \/ wv'.ownBlock = none \/ ∃ g, wv'.ownBlock = some g /\ w.heap.size <= g)
section
variable {w w' w1 w2 : World} {p lg lm d sb mb sc : Nat} {wv x5 x6 : Value} {P P' : PS}
theorem Raw.np (h : Raw w p lg lm d sb mb sc wv x5 x6 P) : ¬ fp d sb mb wv p := h.disk.no_own h.own (by decide) (by decide) (by simp)
theorem Raw.nl (h : Raw w p lg lm d sb mb sc wv x5 x6 P) : ¬ fp d sb mb wv lg := h.disk.no_own (show Own w lg 207 (P.l.cells d) from h.log) (by decide) (by decide) (by simp [yM.cells])
theorem Raw.nm (h : Raw w p lg lm d sb mb sc wv x5 x6 P) : ¬ fp d sb mb wv lm := Vb h.disk h.map h.ne
theorem Raw.npl (h : Raw w p lg lm d sb mb sc wv x5 x6 P) : p ≠ lg := h.own.type_ne (show Own w lg _ _ from h.log) (by decide)
theorem Raw.npm (h : Raw w p lg lm d sb mb sc wv x5 x6 P) : lm ≠ p := h.map.ne h.own
theorem Raw.nlm (h : Raw w p lg lm d sb mb sc wv x5 x6 P) : lm ≠ lg := h.map.ne (show Own w lg 207 (P.l.cells d) from h.log)
theorem Raw.below (h : Raw w p lg lm d sb mb sc wv x5 x6 P) (hb : Below w.heap.size w w') : Raw w' p lg lm d sb mb sc wv x5 x6 P :=
 ⟨h.disk.below hb, Own.keep h.log hb, h.own.keep hb, h.map.keep (hb.block lm h.map.in_), h.ne⟩
theorem Raw.out (h : Raw w p lg lm d sb mb sc wv x5 x6 P) {q : Nat} {T : TypeId} {cs : Array Value} (ho : Own w q T cs) (h1 : T ≠ 148) (h2 : T ≠ 232) (h3 : T ≠ 207) (h4 : T ≠ 131) (h0 : ∀ x, cs[0]? ≠ some (.int .u8 x)) : ¬ (fp d sb mb wv q \/ q = p \/ q = lm \/ q = lg) := fun k => by
 rcases k with k | k | k | k
 · exact h.disk.no_own ho h1 h2 h0 k
 · exact ho.type_ne h.own h4 k
 · exact h.map.ne ho k.symm
 · exact ho.type_ne (show Own w lg 207 (P.l.cells d) from h.log) h3 k
theorem xZ.same (h : Raw w p lg lm d sb mb sc wv x5 x6 P) : xZ w w p lg lm d sb mb sc wv x5 x6 P := ⟨wv, h, Chg.refl _ _, .inl rfl⟩
theorem xZ.below (h : xZ w w1 p lg lm d sb mb sc wv x5 x6 P) (hb : Below w1.heap.size w1 w2) : xZ w w2 p lg lm d sb mb sc wv x5 x6 P := by
 obtain ⟨wv', h1, h2, h3⟩ := h;exact ⟨wv', h1.below hb, h2.call hb, h3⟩
theorem xZ.from_ (h : xZ w1 w2 p lg lm d sb mb sc wv x5 x6 P) (hb : Below w.heap.size w w1) : xZ w w2 p lg lm d sb mb sc wv x5 x6 P := by
 obtain ⟨wv', h1, h2, h3⟩ := h;refine ⟨wv', h1, (Chg.of hb).same h2, ?_⟩;rcases h3 with h | h | ⟨g, h, hg⟩
 · exact .inl h
 · exact .inr (.inl h)
 · exact .inr (.inr ⟨g, h, Nat.le_trans hb.size hg⟩)
theorem xZ.then_ {wv1 : Value} (hc : Chg (fun q => fp d sb mb wv q \/ q = p \/ q = lm \/ q = lg) w w1) (hv : wv1.ownBlock = wv.ownBlock \/ wv1.ownBlock = none \/ ∃ g, wv1.ownBlock = some g /\ w.heap.size <= g) (h : xZ w1 w2 p lg lm d sb mb sc wv1 x5 x6 P) : xZ w w2 p lg lm d sb mb sc wv x5 x6 P := by
 obtain ⟨wv', h1, h2, h3⟩ := h;refine ⟨wv', h1, hc.trans h2 fun q hq e => ?_, ?_⟩
 · rcases e with e | e
   · exact (uZ hv e).elim .inl fun h => absurd hq (by omega)
   · exact .inr e
 · rcases h3 with h | h | ⟨g, h, hg⟩
   · rw [h]; exact hv
   · exact .inr (.inl h)
   · exact .inr (.inr ⟨g, h, Nat.le_trans hc.size hg⟩)
def PS.addR (P : PS) (ps : List ByteArray) : Int × St × yM := jM P.N P.s P.l ps
def PS.addP (P : PS) (ps : List ByteArray) : PS := { P with s := (P.addR ps).2.1, l := (P.addR ps).2.2 }
theorem zDj (h : Raw w p lg lm d sb mb sc wv x5 x6 P) (hd : P.s.down = false) (hk : P.l.Ok) (hf : P.l.failed = false) (hsz : P.l.size = P.ll) (hfit : 2 + P.ll <= P.N) (b n : Nat) (g : Nat -> ByteArray) (hb : Own w b 9 (vK n g n)) (hg : ∀ i, i < n -> (g i).size <= maxLen) (hn : n <= 1000) (hfew : P.s.wr.length <= 90000) :
   Calls Tryz.prog 149 #[.pointer (some ⟨p, 0, none⟩), .slice (some ⟨b, 0, none⟩) n n] w fun e w' => e = .returned (.int .i64 (P.addR ((List.range n).map g)).1) /\ xZ w w' p lg lm d sb mb sc wv x5 x6 (P.addP ((List.range n).map g)) := by
 have hb0 : ∀ x, (vK n g n)[0]? ≠ some (.int .u8 x) := fun x hx => by
   cases n with
   | zero => simp [vK] at hx
   | succ n => rw [xS (n + 1) g (n + 1) 0 (by omega)] at hx; cases hx
 have nb := h.disk.no_own hb (by decide) (by decide) hb0;have hps := yO.row (S := fun q => ¬ fp d sb mb wv q) hb (by unfold maxLen; omega) hg nb;refine (zKf h.disk hd h.log hk hf hsz h.own hfit (.slice (some ⟨b, 0, none⟩) n n) ((List.range n).map g) hps (by simpa using hn) hfew).mono ?_;rintro e w' ⟨rfl, wv', h1, h2, h3, h4⟩;refine ⟨rfl, wv', ⟨h1, h2, ?_, ?_, h.ne⟩, h3.mono fun q _ e => e.elim .inl fun e => .inr (.inr (.inr e)), h4⟩
 · exact h3.own h.own fun e => e.elim h.np h.npl
 · exact h.map.keep (h3.block lm h.map.in_ fun e => e.elim h.nm h.nlm)
def PS.empR (P : PS) : Int × St := zV P.N (vF P.ll P.M P.seq P.l.next) (0, P.s)
def PS.emp (P : PS) : PS := if P.empR.1 = 0 then { P with s := P.empR.2, seq := P.seq + 1, M := [], l := { P.l with used := 0 } } else { P with s := P.empR.2 }
theorem zDr (h : Raw w p lg lm d sb mb sc wv x5 x6 P) (hk : P.l.Ok) (hf : P.l.failed = false) (hM : Qz P.most P.M) (hm : P.most <= 8191) (hll : P.ll <= 70000) (hfew : P.s.wr.length <= 300000) (hseq : P.seq + 1 <= 18446744073709551615) :
   Calls Tryz.prog 87 #[.pointer (some ⟨p, 0, none⟩)] w fun e w' => e = .returned (.int .i64 P.empR.1) /\ xZ w w' p lg lm d sb mb sc wv x5 x6 P.emp := by
 have hlen : P.M.length <= 8192 := by
   have := Xg P.M 0 8191 hM.1 fun q hq => ⟨Nat.zero_le _, by have := (hM.2 q hq).1; omega⟩
   omega
 refine (zIp h.disk h.log hk hf h.own h.map h.ne hM.1 (fun q hq => ⟨by have := (hM.2 q hq).1; omega, (hM.2 q hq).2⟩) hlen hll hfew hseq).mono ?_;rintro e w' ⟨rfl, h1, h2⟩;refine ⟨rfl, ?_⟩;by_cases c : P.empR.1 = 0
 · obtain ⟨wv', k1, k2, k3, k4, k5, k6⟩ := h1 c;have e1 : P.emp = { P with s := P.empR.2, seq := P.seq + 1, M := [], l := { P.l with used := 0 } } := if_pos c;rw [e1];exact ⟨wv', ⟨k1, k2, k3, k4, h.ne⟩, k5.mono fun q _ e => e, k6⟩
 · obtain ⟨wv', k1, k2, k3⟩ := h2 c;have e1 : P.emp = { P with s := P.empR.2 } := if_neg c;rw [e1];exact ⟨wv', ⟨k1, k2.own (show Own w lg 207 (P.l.cells d) from h.log) h.nl, k2.own h.own h.np, h.map.keep (k2.block lm h.map.in_ h.nm), h.ne⟩, k2.mono fun q _ e => .inl e, k3⟩
def PS.told (e : Int) (P : PS) : PS := if e = 11 then { P with failed := true } else P
theorem Zs (h : Raw w p lg lm d sb mb sc wv x5 x6 P) (e : Int) :
   Calls Tryz.prog 86 #[.pointer (some ⟨p, 0, none⟩), .int .i64 e] w fun en w' => en = .returned (.int .i64 e) /\ xZ w w' p lg lm d sb mb sc wv x5 x6 (PS.told e P) := by
 by_cases c : e = 11
 · subst c;refine (zIy h.own).mono ?_;rintro en w' ⟨rfl, h1, h2, h3⟩;refine ⟨rfl, wv, ⟨h.disk.keep h2 fun q hq e => h.np (by rw [show q = p from e] at hq; exact hq), h2.own (show Own w lg 207 (P.l.cells d) from h.log) (fun e => h.npl (Eq.symm e)), h1, h.map.keep (h2.block lm h.map.in_ h.npm), h.ne⟩, h2.mono fun q _ e => .inr (.inl e), .inl rfl⟩
 · refine (zH3 p e c w).mono ?_;rintro en w' ⟨rfl, rfl⟩;refine ⟨rfl, ?_⟩;rw [show PS.told e P = P from if_neg c];exact xZ.same h
end
end
end Go.Proofs.YtndhmidgnpobjaaGreatDoor
