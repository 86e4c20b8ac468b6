import Derived.Test.YthijgebmoadgkaaGreatDoorPguD
import Derived.Test.YthijgebmoadgkaaGreatDoorCraR
import Derived.Test.YthijgebmoadgkaaGreatDoorPguG
import Derived.Test.YthijgebmoadgkaaGreatDoorPguC
import Derived.Test.YthijgebmoadgkaaGreatDoorPguI
set_option linter.unusedVariables false
set_option linter.unusedSimpArgs false
namespace Go.Proofs.YthijgebmoadgkaaGreatDoor
open Go.ChangeShapes Go.WideShapes Go.ChangeAt Go.RowKit
section
def uX (N : Nat) (s : St) (l : yH) (ps : List ByteArray) : Int × St × yH :=
 if 1 + 9 * ps.length <= l.left then
   if (vN N s (2 + l.used) l.next (1 + 9 * ps.length) (2 + l.size)).1 = 0 then uN N (vN N s (2 + l.used) l.next (1 + 9 * ps.length) (2 + l.size)).2 l ps
   else ((vN N s (2 + l.used) l.next (1 + 9 * ps.length) (2 + l.size)).1, (vN N s (2 + l.used) l.next (1 + 9 * ps.length) (2 + l.size)).2, l)
 else uN N s l ps
theorem zH1 (N : Nat) (s : St) (at_ q k en : Nat) : (vN N s at_ q k en).2.wr.length <= s.wr.length + 4 := by
 have h1 := Nat.le_trans (vE N (yM s at_ q) (0, s)) (Nat.add_le_add_left (Uv s at_ q) _);rw [gD rfl];obtain ⟨x, hx⟩ : ∃ x, x = zP N (yM s at_ q) (0, s) := ⟨_, rfl⟩
 rw [<- hx] at h1 ⊢;simp only at h1;split
 · have h2 := Nat.le_trans (vE N (yM x.2 (at_ + k) ((q + 1) % 18446744073709551616)) (0, x.2)) (Nat.add_le_add_left (Uv _ _ _) _);simp only at h2;omega
 · omega
section
variable {w w1 w2 : World} {p lg d sb mb sc : Nat} {wv : Value} {N ll : Nat} {s s1 : St} {l : yH} {x2 x4 x5 x6 x7 : Value} {r : St × yH}
theorem yS.behind {wv1 : Value} (hc : Chg (fp d sb mb wv) w w1) (hv : wv1.ownBlock = wv.ownBlock \/ wv1.ownBlock = none \/ ∃ g, wv1.ownBlock = some g /\ w.heap.size <= g) (h : yS w1 w2 lg d sb mb sc wv1 N r) : yS w w2 lg d sb mb sc wv N r := by
 obtain ⟨wv', h1, h2, h3, h4⟩ := h;refine ⟨wv', h1, h2, (hc.mono fun q _ e => .inl e).trans h3 fun q hq e => ?_, ?_⟩
 · rcases e with e | e
   · exact (vR hv e).elim .inl fun h => absurd hq (by omega)
   · exact .inr e
 · rcases h4 with h | h | ⟨g, h, hg⟩
   · rw [h]; exact hv
   · exact .inr (.inl h)
   · exact .inr (.inr ⟨g, h, Nat.le_trans hc.size hg⟩)
theorem yS.below (h : yS w w1 lg d sb mb sc wv N r) (hb : Below w1.heap.size w1 w2) : yS w w2 lg d sb mb sc wv N r := by
 obtain ⟨wv', h1, h2, h3, h4⟩ := h;exact ⟨wv', h1.below hb, Own.keep h2 hb, h3.call hb, h4⟩
theorem yS.from_ (h : yS w1 w2 lg d sb mb sc wv N r) (hb : Below w.heap.size w w1) : yS w w2 lg d sb mb sc wv N r := by
 obtain ⟨wv', h1, h2, h3, h4⟩ := h;refine ⟨wv', h1, h2, (Chg.of hb).trans h3 fun q hq e => e, ?_⟩;rcases h4 with h | h | ⟨g, h, hg⟩
 · exact .inl h
 · exact .inr (.inl h)
 · exact .inr (.inr ⟨g, h, Nat.le_trans hb.size hg⟩)
theorem Wrt.appended (h : Wrt w w1 d sb mb sc wv N s1) (hL : yA w1 lg d l) : yS w w1 lg d sb mb sc wv N (s1, l) := by
 obtain ⟨wv', h1, h2, h3⟩ := h;exact ⟨wv', h1, hL, h2.mono fun q _ e => .inl e, h3⟩
set_option maxRecDepth 10000 in
set_option maxHeartbeats 2000000 in
theorem zIq (hD : zI w d sb mb sc wv N s) (hd : s.down = false) (hL : yA w lg d l) (hk : l.Ok) (hf : l.failed = false) (hsz : l.size = ll) (hO : Own w p 150 #[.pointer (some ⟨d, 0, none⟩), .int .i64 (ll : Int), x2, .pointer (some ⟨lg, 0, none⟩), x4, x5, x6, x7]) (hfit : 2 + ll <= N) (v : Value) (ps : List ByteArray) (hps : yJ w (fun b => ¬ fp d sb mb wv b) v ps) (hn : ps.length <= 1000) (hfew : s.wr.length <= 90000) :
   Calls Tryz.prog 178 #[.pointer (some ⟨p, 0, none⟩), v] w fun e w' => e = .returned (.int .i64 (uX N s l ps).1) /\ yS w w' lg d sb mb sc wv N (uX N s l ps).2 := by
 have nl := hD.no_own (show Own w lg 246 (l.cells d) from hL) (by decide) (by decide) (by simp [yH.cells]);have np := hD.no_own hO (by decide) (by decide) (by simp);have hps2 : yJ w (fun b => ¬ fp d sb mb wv b /\ b < w.heap.size) v ps := hps.mono fun b hb h => ⟨h, hb⟩
 obtain ⟨a, cp, rfl, -, -, -⟩ := hps.open_;have HLE := Lh (fun W (hb : Below w.heap.size w W) => (show Calls Tryz.prog 233 #[.pointer (some ⟨lg, 0, none⟩)] W fun e w' => e = .returned (.int .i64 (l.left : Nat)) /\ Below W.heap.size W w' from by
   refine (fW (show yA W lg d l from Own.keep hL hb) hk).mono ?_;rintro e w' ⟨rfl, q, rfl⟩;exact ⟨rfl, zM (Below.refl _ _) q⟩))
 have HSO := Lh (fun W => zD0 a ps.length cp W (by omega));have HKEEP := Lh (fun W s1 (hWr : Wrt w W d sb mb sc wv N s1) => (show yA W lg d l /\ Own W p 150 #[.pointer (some ⟨d, 0, none⟩), .int .i64 (ll : Int), x2, .pointer (some ⟨lg, 0, none⟩), x4, x5, x6, x7] from by
   obtain ⟨wv', h1, h2, h3⟩ := hWr;exact ⟨h2.own (show Own w lg 246 (l.cells d) from hL) nl, h2.own hO np⟩))
 have HAP := Lh (fun W s1 (hlen : s1.wr.length <= 100000) (hWr : Wrt w W d sb mb sc wv N s1) => (show Calls Tryz.prog 247 #[.pointer (some ⟨lg, 0, none⟩), .slice a ps.length cp] W fun e w' => e = .returned (.int .i64 (uN N s1 l ps).1) /\ yS w w' lg d sb mb sc wv N (uN N s1 l ps).2 from by
   obtain ⟨wv', h1, h2, h3⟩ := hWr;refine (Xi (show yA W lg d l from h2.own (show Own w lg 246 (l.cells d) from hL) nl) hk h1 (.slice a ps.length cp) ps ((hps2.keep h2 fun b hb h => h.1).mono fun b hb h e => ?_) hlen (h1.no_own (show Own W lg 246 (l.cells d) from h2.own (show Own w lg 246 (l.cells d) from hL) nl) (by decide) (by decide) (by simp [yH.cells]))).mono ?_
   · rcases vR h3 e with e | e
     · exact h.1 e
     · exact absurd h.2 (by omega)
   · rintro e w' ⟨rfl, h⟩;exact ⟨rfl, yS.behind h2 h3 h⟩))
 have HSAME := Lh (fun W (hb : Below w.heap.size w W) => (Wrt.same hD).below hb);obtain ⟨n, hn2⟩ : ∃ n, n = ps.length := ⟨_, rfl⟩
 have HADD := Lh (show uX N s l ps = _ from rfl);by_cases hle : 1 + 9 * ps.length <= l.left
 · have E : uX N s l ps = if (vN N s (2 + l.used) l.next (1 + 9 * ps.length) (2 + l.size)).1 = 0 then uN N (vN N s (2 + l.used) l.next (1 + 9 * ps.length) (2 + l.size)).2 l ps else ((vN N s (2 + l.used) l.next (1 + 9 * ps.length) (2 + l.size)).1, (vN N s (2 + l.used) l.next (1 + 9 * ps.length) (2 + l.size)).2, l) := if_pos hle
   have HPR := Lh (fun W (hb : Below w.heap.size w W) => zDn (hD.below hb) hd (show yA W lg d l from Own.keep hL hb) hk hf hsz (hO.keep hb) hfit (1 + 9 * ps.length) (by omega) hle (by omega));have hpl := zH1 N s (2 + l.used) l.next (1 + 9 * ps.length) (2 + l.size);rw [<- hsz] at HPR;obtain ⟨x, hx⟩ : ∃ x, x = vN N s (2 + l.used) l.next (1 + 9 * ps.length) (2 + l.size) := ⟨_, rfl⟩
   rw [<- hx] at E HPR hpl;obtain ⟨r, hr⟩ : ∃ r, r = uX N s l ps := ⟨_, rfl⟩
   rw [<- hr];rw [<- hr] at E;have HE := Lh (fun (h : x.1 = 0) => (E.trans (if_pos h)));have HNE := Lh (fun (h : x.1 ≠ 0) => (E.trans (if_neg h)));rw [<- hn2] at HSO HPR HAP hle ⊢;obtain ⟨L, hL2⟩ : ∃ L, L = l.left := ⟨_, rfl⟩
   rw [<- hL2] at HLE hle;obtain ⟨K, hK⟩ : ∃ K, K = 1 + 9 * n := ⟨_, rfl⟩
   rw [<- hK] at HSO HPR hle;have tt : decide (K <= L) = true := by simpa using hle
   have HO := Lh hO;clear HADD hL2 hK hx E hr hD hd hL hk hf hO hps hps2 hn hn2 nl np hle;obtain ⟨e1, s1⟩ := x;simp only at HPR hpl HE HNE;go_enter Tryz.func178, Tryz.ntmps178;go_upto_region 1 with fail;refine zA (fun W => Own W p 150 #[.pointer (some ⟨d, 0, none⟩), .int .i64 (ll : Int), x2, .pointer (some ⟨lg, 0, none⟩), x4, x5, x6, x7]) (0 :: 2 :: 3 :: 4 :: 5 :: 7 :: []) (5 :: []) (0 :: 2 :: 3 :: 4 :: 5 :: 1 :: 6 :: 7 :: []) (by kernel_rfl) (by kernel_rfl) rfl (by kernel_rfl) rfl (HO.out.drawn) (by simp only [zU, List.filterMap_cons, List.filterMap_nil, List.getElem?_cons_zero, List.getElem?_cons_succ, Option.map_some]; exact rfl) ?_;iterate 5
     refine zC (v := ?_) rfl rfl (fun W hS => ?_) ?_;rotate_left
     · first
         | (conv => lhs; simp [go_sem, tt]
            first | done | exact rfl)
         | (have hS := hS rfl
            obtain ⟨q1, q4, q5⟩ := Own.at_ hS;conv => lhs; simp [go_sem, *, tt]
            first | done | exact rfl)
     simp only [Act.put, lA, lZ, lS]
   refine zQ rfl rfl fun K hK => ?_
   go_wp2_with (go_at_call 179; refine (HSO.out _).mono ?_; rintro e w3 ⟨rfl, rfl⟩)
   refine hK _ _ HO.out.drawn ?_;clear hK K;refine zQ rfl rfl fun K hK => ?_
   go_wp2_with (go_at_call 233; refine (HLE.out _ ((Below.refl _ _).drew)).mono ?_; rintro e w3 ⟨rfl, hw3⟩)
   have B3 := Lh (then_ (Below.refl w.heap.size w).drew hw3 (Below.refl w.heap.size w).drew.size);clear hw3;have O3 := Lh (HO.out.keep B3.out);refine hK _ _ O3.out ?_;clear hK K;iterate 1
     refine zC (v := ?_) rfl rfl (fun W hS => ?_) ?_;rotate_left
     · first
         | (conv => lhs; simp [go_sem, tt]
            first | done | exact rfl)
         | (have hS := hS rfl
            obtain ⟨q1, q4, q5⟩ := Own.at_ hS;conv => lhs; simp [go_sem, *, tt]
            first | done | exact rfl)
     simp only [Act.put, lA, lZ, lS]
   refine zR ?_;by_cases c : e1 = 0
   · subst c;have HE2 := Lh (HE.out rfl);clear HE HNE;go_wp2_with (first
       | (go_at_call 179; refine (HSO.out _).mono ?_; rintro e w4 ⟨rfl, rfl⟩)
       | (go_at_call 246; refine (HPR.out _ B3.out).mono ?_; rintro e w5 ⟨rfl, hw5⟩; have R5 := Lh (Wrt.from_ hw5 B3.out); clear hw5; obtain ⟨q1, q2, q3⟩ := (HKEEP.out _ _ R5.out).2.at_)
       | (go_at_call 247; refine (HAP.out _ _ (by omega) R5.out).mono ?_; rintro e w6 ⟨rfl, hw6⟩; have R6 := Lh hw6; clear hw6))
     go_ret;rw [HE2.out];exact ⟨rfl, R6.out⟩
   · have HE2 := Lh (HNE.out c);clear HE HNE;have t1 : (e1 != 0) = true := by simpa using c
     clear c;go_wp2_with (first
       | (go_at_call 179; refine (HSO.out _).mono ?_; rintro e w4 ⟨rfl, rfl⟩)
       | (go_at_call 246; refine (HPR.out _ B3.out).mono ?_; rintro e w5 ⟨rfl, hw5⟩; have R5 := Lh (Wrt.appended (Wrt.from_ hw5 B3.out) (HKEEP.out _ _ (Wrt.from_ hw5 B3.out)).1); clear hw5))
     go_ret;rw [HE2.out];exact ⟨rfl, R5.out⟩
 · have E : uX N s l ps = uN N s l ps := if_neg hle;rw [E];rw [<- hn2] at HSO HAP hle ⊢;obtain ⟨L, hL2⟩ : ∃ L, L = l.left := ⟨_, rfl⟩
   rw [<- hL2] at HLE hle;obtain ⟨K, hK⟩ : ∃ K, K = 1 + 9 * n := ⟨_, rfl⟩
   rw [<- hK] at HSO hle;have tt : decide (K <= L) = false := by simpa using hle
   have HO := Lh hO;clear HADD hL2 hK E hD hd hL hk hf hO hps hps2 hn hn2 nl np hle;go_enter Tryz.func178, Tryz.ntmps178;go_upto_region 1 with fail;refine zA (fun W => Own W p 150 #[.pointer (some ⟨d, 0, none⟩), .int .i64 (ll : Int), x2, .pointer (some ⟨lg, 0, none⟩), x4, x5, x6, x7]) (0 :: 2 :: 3 :: 4 :: 5 :: 7 :: []) (5 :: []) (0 :: 2 :: 3 :: 4 :: 5 :: 1 :: 6 :: 7 :: []) (by kernel_rfl) (by kernel_rfl) rfl (by kernel_rfl) rfl (HO.out.drawn) (by simp only [zU, List.filterMap_cons, List.filterMap_nil, List.getElem?_cons_zero, List.getElem?_cons_succ, Option.map_some]; exact rfl) ?_;iterate 5
     refine zC (v := ?_) rfl rfl (fun W hS => ?_) ?_;rotate_left
     · first
         | (conv => lhs; simp [go_sem, tt]
            first | done | exact rfl)
         | (have hS := hS rfl
            obtain ⟨q1, q4, q5⟩ := Own.at_ hS;conv => lhs; simp [go_sem, *, tt]
            first | done | exact rfl)
     simp only [Act.put, lA, lZ, lS]
   refine zQ rfl rfl fun K hK => ?_
   go_wp2_with (go_at_call 179; refine (HSO.out _).mono ?_; rintro e w3 ⟨rfl, rfl⟩)
   refine hK _ _ HO.out.drawn ?_;clear hK K;refine zQ rfl rfl fun K hK => ?_
   go_wp2_with (go_at_call 233; refine (HLE.out _ ((Below.refl _ _).drew)).mono ?_; rintro e w3 ⟨rfl, hw3⟩)
   have B3 := Lh (then_ (Below.refl w.heap.size w).drew hw3 (Below.refl w.heap.size w).drew.size);clear hw3;have O3 := Lh (HO.out.keep B3.out);refine hK _ _ O3.out ?_;clear hK K;iterate 1
     refine zC (v := ?_) rfl rfl (fun W hS => ?_) ?_;rotate_left
     · first
         | (conv => lhs; simp [go_sem, tt]
            first | done | exact rfl)
         | (have hS := hS rfl
            obtain ⟨q1, q4, q5⟩ := Own.at_ hS;conv => lhs; simp [go_sem, *, tt]
            first | done | exact rfl)
     simp only [Act.put, lA, lZ, lS]
   refine zR ?_;obtain ⟨q1, q2, q3⟩ := O3.out.at_;go_wp2_with (go_at_call 247; refine (HAP.out _ _ (by omega) (HSAME.out _ B3.out)).mono ?_; rintro e w6 ⟨rfl, hw6⟩; have R6 := Lh hw6; clear hw6)
   go_ret;exact ⟨rfl, R6.out⟩
end
end
section
theorem zCu (x : Nat × ByteArray) (l : List (Nat × ByteArray)) (i : Int) : xR (x :: l) i = match xR l i with | some y => some y | none => if (x.1 : Int) = i then some x else none := by
 unfold xR;rw [List.reverse_cons, List.find?_append];cases h : l.reverse.find? fun x => (x.1 : Int) == i with
 | some y => rfl
 | none =>
   show (none : Option (Nat × ByteArray)).or _ = _
   rw [Option.none_or, List.find?_cons];by_cases c : (x.1 : Int) = i
   · simp [c]
   · have c2 : ((x.1 : Int) == i) = false := by simpa using c
     rw [if_neg c, c2];rfl
structure Sd (N : Nat) (s : St) : Prop where
 len : s.sure.length = N * 64
 fits : Up N s.wr
theorem Sd.of {N : Nat} {s : St} (h : s.Ok N) : Sd N s := ⟨h.len, h.wr⟩
theorem Yv (N : Nat) : ∀ (l : List (Nat × ByteArray)) (j : Nat) (L : List UInt8), L.length = N * 64 -> Up N l -> ∀ k : Nat, xH (yI (fun _ => 64) l j L) (k : Int) = match xR l (k : Int) with | some x => x.2 | none => xH L (k : Int)
 | [], _, _, _, _, _ => rfl
 | x :: l, j, L, h, hx, k => by
   have h1 := hx x (by simp);have hl := Vv (k := 64) h h1.1 h1.2;rw [zCu];have ih := Yv N l (j + 1) _ hl hx.tail k;show xH (yI (fun _ => 64) l (j + 1) (mW L (x.1 * 64) (x.2.extract 0 64))) (k : Int) = _
   rw [ih];cases xR l (k : Int) with
   | some y => rfl
   | none =>
     simp only;by_cases c : x.1 = k
     · subst c;rw [if_pos rfl];exact Qm L x.1 x.2 h1.2 (by omega)
     · rw [if_neg (by omega)];exact Jo L x.1 k _ c (by rw [ByteArray.size_extract]; omega) (by omega)
theorem zHu (s : St) : (vC s).2.sure = s.sure /\ (vC s).2.wr = s.wr := by
 unfold vC;split
 · exact ⟨rfl, rfl⟩
 · split <;> exact ⟨rfl, rfl⟩
def vwO (k : Nat) (v : ByteArray) : Dop -> ByteArray
 | some (a, t) => if a = k then t else v
 | none => v
theorem zFp {s s' : St} (h1 : s'.sure = s.sure) (h2 : s'.wr = s.wr) (k : Nat) : vw s' k = vw s k := by unfold vw; rw [h1, h2]
theorem zA3 {N : Nat} {s : St} (h : Sd N s) (o : Dop) (ho : mZ N o) (k : Nat) : Sd N (uA N s o).2 /\ (((uA N s o).1 = 0 -> vw (uA N s o).2 k = vwO k (vw s k) o) /\ ((uA N s o).1 ≠ 0 -> vw (uA N s o).2 k = vw s k)) := by
 obtain ⟨b1, b2⟩ := zHu s;cases o with
 | some x =>
   obtain ⟨a, t⟩ := x;obtain ⟨ha, ht⟩ := ho;show Sd N (xC N s (a : Int) t).2 /\ _
   by_cases hd : s.down = true
   · have e : xC N s (a : Int) t = (11, s) := by unfold xC; rw [if_pos hd]
     rw [show uA N s (some (a, t)) = xC N s (a : Int) t from rfl, e];exact ⟨h, fun e => absurd e (show (11 : Int) ≠ 0 by decide), fun _ => rfl⟩
   · by_cases hb : (vC s).1 = true
     · have e : xC N s (a : Int) t = (0, { (vC s).2 with wr := s.wr ++ [(a, t)] }) := by
         unfold xC;rw [if_neg hd, if_neg (by omega), if_pos hb, Int.toNat_natCast]
       rw [show uA N s (some (a, t)) = xC N s (a : Int) t from rfl, e];refine ⟨⟨by simp only; rw [b1]; exact h.len, fun y hy => ?_⟩, fun _ => ?_, fun e => absurd rfl e⟩
       · rcases List.mem_append.1 hy with hy | hy
         · exact h.fits y hy
         · obtain rfl : y = (a, t) := by simpa using hy
           exact ⟨ha, ht⟩
       · unfold vw vwO;simp only;rw [Vj, b1];by_cases c : a = k
         · subst c; simp
         · rw [if_neg (by simp only; omega), if_neg c]
     · have e : xC N s (a : Int) t = (11, (vC s).2) := by
         unfold xC;rw [if_neg hd, if_neg (by omega), if_neg hb]
       rw [show uA N s (some (a, t)) = xC N s (a : Int) t from rfl, e];exact ⟨⟨by simp only; rw [b1]; exact h.len, by simp only; rw [b2]; exact h.fits⟩, fun e => absurd e (show (11 : Int) ≠ 0 by decide), fun _ => zFp b1 b2 k⟩
 | none =>
   show Sd N (xQ s).2 /\ _
   rw [show uA N s none = xQ s from rfl];by_cases hd : s.down = true
   · have e : xQ s = (11, s) := by unfold xQ; rw [if_pos hd]
     rw [e];exact ⟨h, fun e => absurd e (show (11 : Int) ≠ 0 by decide), fun _ => rfl⟩
   · by_cases hb : (vC s).1 = true
     · have e : xQ s = (0, ⟨yI (fun _ => 64) s.wr 0 s.sure, [], (vC s).2.fuse, (vC s).2.down⟩) := by unfold xQ; rw [if_neg hd, if_pos hb]
       rw [e];refine ⟨⟨jJ _ N _ _ _ h.len h.fits, fun y hy => by cases hy⟩, fun _ => ?_, fun e => absurd rfl e⟩;show xH (yI (fun _ => 64) s.wr 0 s.sure) (k : Int) = vw s k
       rw [Yv N s.wr 0 s.sure h.len h.fits k];rfl
     · have e : xQ s = (11, (vC s).2) := by unfold xQ; rw [if_neg hd, if_neg hb]
       rw [e];exact ⟨⟨by simp only; rw [b1]; exact h.len, by simp only; rw [b2]; exact h.fits⟩, fun e => absurd e (show (11 : Int) ≠ 0 by decide), fun _ => zFp b1 b2 k⟩
def noD (k : Nat) : Dop -> Prop
 | some (a, _) => a ≠ k
 | none => True
theorem Vb (N : Nat) (o : Dop) (ops : List Dop) (s : St) : zP N (o :: ops) (0, s) = zP N ops (uA N s o) := by
 show zP N ops (xA N (0, s) o) = _
 congr 1
theorem Qo (N : Nat) : ∀ (ops : List Dop) (s : St), Sd N s -> (∀ o ∈ ops, mZ N o) -> Sd N (zP N ops (0, s)).2
 | [], s, h, _ => h
 | o :: ops, s, h, hf => by
   rw [Vb];have h1 := (zA3 h o (hf o (by simp)) 0).1;by_cases c : (uA N s o).1 = 0
   · have e : uA N s o = (0, (uA N s o).2) := by rw [<- c]
     rw [e];exact Qo N ops _ h1 fun o ho => hf o (by simp [ho])
   · rw [xX N ops _ c]; exact h1
theorem Zw (N k : Nat) : ∀ (ops : List Dop) (s : St), Sd N s -> (∀ o ∈ ops, mZ N o) -> (∀ o ∈ ops, noD k o) -> vw (zP N ops (0, s)).2 k = vw s k
 | [], s, h, _, _ => rfl
 | o :: ops, s, h, hf, hn => by
   rw [Vb];obtain ⟨h1, h2, h3⟩ := zA3 h o (hf o (by simp)) k;by_cases c : (uA N s o).1 = 0
   · have e : uA N s o = (0, (uA N s o).2) := by rw [<- c]
     have hv : vw (uA N s o).2 k = vw s k := by
       rw [h2 c];have := hn o (by simp);cases o with
       | none => rfl
       | some x => unfold vwO; exact if_neg this
     rw [e, Zw N k ops _ h1 (fun o ho => hf o (by simp [ho])) (fun o ho => hn o (by simp [ho])), hv]
   · rw [xX N ops _ c]; exact h3 c
theorem Uw (N k : Nat) : ∀ (ops : List Dop) (s : St), Sd N s -> (∀ o ∈ ops, mZ N o) -> (zP N ops (0, s)).1 = 0 -> vw (zP N ops (0, s)).2 k = ops.foldl (vwO k) (vw s k)
 | [], s, h, _, _ => rfl
 | o :: ops, s, h, hf, h0 => by
   rw [Vb] at h0 ⊢;obtain ⟨h1, h2, h3⟩ := zA3 h o (hf o (by simp)) k;by_cases c : (uA N s o).1 = 0
   · have e : uA N s o = (0, (uA N s o).2) := by rw [<- c]
     rw [e] at h0 ⊢;rw [Uw N k ops _ h1 (fun o ho => hf o (by simp [ho])) h0, h2 c];rfl
   · rw [xX N ops _ c] at h0; exact absurd h0 c
theorem jQ (k : Nat) : ∀ (ops : List Dop) (v : ByteArray), (∀ o ∈ ops, noD k o) -> ops.foldl (vwO k) v = v
 | [], v, _ => rfl
 | o :: ops, v, h => by
   have h1 := h o (by simp);have e : vwO k v o = v := by
     cases o with
     | none => rfl
     | some x => unfold vwO; exact if_neg h1
   rw [List.foldl_cons, e];exact jQ k ops v fun o ho => h o (by simp [ho])
theorem fZ (at_ : Nat) (g : Nat -> ByteArray) (i : Nat) (v : ByteArray) : ∀ n, (yE at_ g n).foldl (vwO (at_ + i)) v = if i < n then g i else v
 | 0 => rfl
 | n + 1 => by
   rw [fL, List.foldl_append, fZ at_ g i v n];show (if at_ + n = at_ + i then g n else _) = _
   by_cases c : n = i
   · subst c; rw [if_pos rfl, if_pos (by omega)]
   · rw [if_neg (by omega)];by_cases c2 : i < n
     · rw [if_pos c2, if_pos (by omega)]
     · rw [if_neg c2, if_neg (by omega)]
theorem zGw {s s' : St} {p p' : Nat} (h : ∀ i, i < 8 -> vw s' (p' + i) = vw s (p + i)) : dby s' p' = dby s p := by
 unfold dby dbl;have e : (List.range 8).map (fun i => (vw s' (p' + i)).data.toList) = (List.range 8).map fun i => (vw s (p + i)).data.toList := List.map_congr_left fun i hi => by rw [h i (List.mem_range.1 hi)]
 rw [List.flatMap_def, List.flatMap_def, e]
end
section
theorem Qa : ∀ (l : List (Nat × Pag)) (lo hi : Nat), asc l -> (∀ q ∈ l, lo <= q.1 /\ q.1 < hi) -> l.length <= hi - lo
 | [], _, _, _, _ => Nat.zero_le _
 | x :: l, lo, hi, h, hb => by
   obtain ⟨h1, h2⟩ := xN.1 h;have hx := hb x (by simp);have := Qa l (x.1 + 1) hi h2 fun q hq => ⟨h1 q hq, (hb q (by simp [hq])).2⟩
   rw [List.length_cons];omega
structure Raw (w : World) (p lg lm d sb mb sc : Nat) (wv x5 x6 : Value) (P : PS) : Prop where
 disk : zI w d sb mb sc wv P.N P.s
 log : yA w lg d P.l
 own : Own w p 150 #[.pointer (some ⟨d, 0, none⟩), .int .i64 (P.ll : Int), .int .u64 (P.seq : Int), .pointer (some ⟨lg, 0, none⟩), .map (some lm), x5, x6, .bool P.failed]
 map : zW w lm .i64 (P.M.map uD)
 ne : lm ≠ mb
def xS (w w' : World) (p lg lm d sb mb sc : Nat) (wv x5 x6 : Value) (P' : PS) : Prop :=
 ∃ wv', Raw w' p lg lm d sb mb sc wv' x5 x6 P' /\ Chg (fun q => fp d sb mb wv q \/ q = p \/ q = lm \/ q = lg) w w' /\ (wv'.ownBlock = wv.ownBlock \/ wv'.ownBlock = none \/ ∃ g, wv'.ownBlock = some g /\ w.heap.size <= g)
section
variable {w w' w1 w2 : World} {p lg lm d sb mb sc : Nat} {wv x5 x6 : Value} {P P' : PS}
theorem Raw.np (h : Raw w p lg lm d sb mb sc wv x5 x6 P) : ¬ fp d sb mb wv p := h.disk.no_own h.own (by decide) (by decide) (by simp)
theorem Raw.nl (h : Raw w p lg lm d sb mb sc wv x5 x6 P) : ¬ fp d sb mb wv lg := h.disk.no_own (show Own w lg 246 (P.l.cells d) from h.log) (by decide) (by decide) (by simp [yH.cells])
theorem Raw.nm (h : Raw w p lg lm d sb mb sc wv x5 x6 P) : ¬ fp d sb mb wv lm := Um h.disk h.map h.ne
theorem Raw.npl (h : Raw w p lg lm d sb mb sc wv x5 x6 P) : p ≠ lg := h.own.type_ne (show Own w lg _ _ from h.log) (by decide)
theorem Raw.npm (h : Raw w p lg lm d sb mb sc wv x5 x6 P) : lm ≠ p := h.map.ne h.own
theorem Raw.nlm (h : Raw w p lg lm d sb mb sc wv x5 x6 P) : lm ≠ lg := h.map.ne (show Own w lg 246 (P.l.cells d) from h.log)
theorem Raw.below (h : Raw w p lg lm d sb mb sc wv x5 x6 P) (hb : Below w.heap.size w w') : Raw w' p lg lm d sb mb sc wv x5 x6 P :=
 ⟨h.disk.below hb, Own.keep h.log hb, h.own.keep hb, h.map.keep (hb.block lm h.map.in_), h.ne⟩
theorem Raw.out (h : Raw w p lg lm d sb mb sc wv x5 x6 P) {q : Nat} {T : TypeId} {cs : Array Value} (ho : Own w q T cs) (h1 : T ≠ 167) (h2 : T ≠ 271) (h3 : T ≠ 246) (h4 : T ≠ 150) (h0 : ∀ x, cs[0]? ≠ some (.int .u8 x)) : ¬ (fp d sb mb wv q \/ q = p \/ q = lm \/ q = lg) := fun k => by
 rcases k with k | k | k | k
 · exact h.disk.no_own ho h1 h2 h0 k
 · exact ho.type_ne h.own h4 k
 · exact h.map.ne ho k.symm
 · exact ho.type_ne (show Own w lg 246 (P.l.cells d) from h.log) h3 k
theorem xS.same (h : Raw w p lg lm d sb mb sc wv x5 x6 P) : xS w w p lg lm d sb mb sc wv x5 x6 P := ⟨wv, h, Chg.refl _ _, .inl rfl⟩
theorem xS.below (h : xS w w1 p lg lm d sb mb sc wv x5 x6 P) (hb : Below w1.heap.size w1 w2) : xS w w2 p lg lm d sb mb sc wv x5 x6 P := by
 obtain ⟨wv', h1, h2, h3⟩ := h;exact ⟨wv', h1.below hb, h2.call hb, h3⟩
theorem xS.from_ (h : xS w1 w2 p lg lm d sb mb sc wv x5 x6 P) (hb : Below w.heap.size w w1) : xS w w2 p lg lm d sb mb sc wv x5 x6 P := by
 obtain ⟨wv', h1, h2, h3⟩ := h;refine ⟨wv', h1, (Chg.of hb).same h2, ?_⟩;rcases h3 with h | h | ⟨g, h, hg⟩
 · exact .inl h
 · exact .inr (.inl h)
 · exact .inr (.inr ⟨g, h, Nat.le_trans hb.size hg⟩)
theorem xS.then_ {wv1 : Value} (hc : Chg (fun q => fp d sb mb wv q \/ q = p \/ q = lm \/ q = lg) w w1) (hv : wv1.ownBlock = wv.ownBlock \/ wv1.ownBlock = none \/ ∃ g, wv1.ownBlock = some g /\ w.heap.size <= g) (h : xS w1 w2 p lg lm d sb mb sc wv1 x5 x6 P) : xS w w2 p lg lm d sb mb sc wv x5 x6 P := by
 obtain ⟨wv', h1, h2, h3⟩ := h;refine ⟨wv', h1, hc.trans h2 fun q hq e => ?_, ?_⟩
 · rcases e with e | e
   · exact (vR hv e).elim .inl fun h => absurd hq (by omega)
   · exact .inr e
 · rcases h3 with h | h | ⟨g, h, hg⟩
   · rw [h]; exact hv
   · exact .inr (.inl h)
   · exact .inr (.inr ⟨g, h, Nat.le_trans hc.size hg⟩)
def PS.addR (P : PS) (ps : List ByteArray) : Int × St × yH := uX P.N P.s P.l ps
def PS.addP (P : PS) (ps : List ByteArray) : PS := { P with s := (P.addR ps).2.1, l := (P.addR ps).2.2 }
theorem zC6 (h : Raw w p lg lm d sb mb sc wv x5 x6 P) (hd : P.s.down = false) (hk : P.l.Ok) (hf : P.l.failed = false) (hsz : P.l.size = P.ll) (hfit : 2 + P.ll <= P.N) (b n : Nat) (g : Nat -> ByteArray) (hb : Own w b 9 (vG n g n)) (hg : ∀ i, i < n -> (g i).size <= maxLen) (hn : n <= 1000) (hfew : P.s.wr.length <= 90000) :
   Calls Tryz.prog 178 #[.pointer (some ⟨p, 0, none⟩), .slice (some ⟨b, 0, none⟩) n n] w fun e w' => e = .returned (.int .i64 (P.addR ((List.range n).map g)).1) /\ xS w w' p lg lm d sb mb sc wv x5 x6 (P.addP ((List.range n).map g)) := by
 have hb0 : ∀ x, (vG n g n)[0]? ≠ some (.int .u8 x) := fun x hx => by
   cases n with
   | zero => simp [vG] at hx
   | succ n => rw [xK (n + 1) g (n + 1) 0 (by omega)] at hx; cases hx
 have nb := h.disk.no_own hb (by decide) (by decide) hb0;have hps := yJ.row (S := fun q => ¬ fp d sb mb wv q) hb (by unfold maxLen; omega) hg nb;refine (zIq h.disk hd h.log hk hf hsz h.own hfit (.slice (some ⟨b, 0, none⟩) n n) ((List.range n).map g) hps (by simpa using hn) hfew).mono ?_;rintro e w' ⟨rfl, wv', h1, h2, h3, h4⟩;refine ⟨rfl, wv', ⟨h1, h2, ?_, ?_, h.ne⟩, h3.mono fun q _ e => e.elim .inl fun e => .inr (.inr (.inr e)), h4⟩
 · exact h3.own h.own fun e => e.elim h.np h.npl
 · exact h.map.keep (h3.block lm h.map.in_ fun e => e.elim h.nm h.nlm)
def PS.empR (P : PS) : Int × St := zP P.N (xZ P.ll P.M P.seq P.l.next) (0, P.s)
def PS.emp (P : PS) : PS := if P.empR.1 = 0 then { P with s := P.empR.2, seq := P.seq + 1, M := [], l := { P.l with used := 0 } } else { P with s := P.empR.2 }
theorem zD4 (h : Raw w p lg lm d sb mb sc wv x5 x6 P) (hk : P.l.Ok) (hf : P.l.failed = false) (hM : Qj P.most P.M) (hm : P.most <= 8191) (hll : P.ll <= 70000) (hfew : P.s.wr.length <= 300000) (hseq : P.seq + 1 <= 18446744073709551615) :
   Calls Tryz.prog 97 #[.pointer (some ⟨p, 0, none⟩)] w fun e w' => e = .returned (.int .i64 P.empR.1) /\ xS w w' p lg lm d sb mb sc wv x5 x6 P.emp := by
 have hlen : P.M.length <= 8192 := by
   have := Qa P.M 0 8191 hM.1 fun q hq => ⟨Nat.zero_le _, by have := (hM.2 q hq).1; omega⟩
   omega
 refine (zH8 h.disk h.log hk hf h.own h.map h.ne hM.1 (fun q hq => ⟨by have := (hM.2 q hq).1; omega, (hM.2 q hq).2⟩) hlen hll hfew hseq).mono ?_;rintro e w' ⟨rfl, h1, h2⟩;refine ⟨rfl, ?_⟩;by_cases c : P.empR.1 = 0
 · obtain ⟨wv', k1, k2, k3, k4, k5, k6⟩ := h1 c;have e1 : P.emp = { P with s := P.empR.2, seq := P.seq + 1, M := [], l := { P.l with used := 0 } } := if_pos c;rw [e1];exact ⟨wv', ⟨k1, k2, k3, k4, h.ne⟩, k5.mono fun q _ e => e, k6⟩
 · obtain ⟨wv', k1, k2, k3⟩ := h2 c;have e1 : P.emp = { P with s := P.empR.2 } := if_neg c;rw [e1];exact ⟨wv', ⟨k1, k2.own (show Own w lg 246 (P.l.cells d) from h.log) h.nl, k2.own h.own h.np, h.map.keep (k2.block lm h.map.in_ h.nm), h.ne⟩, k2.mono fun q _ e => .inl e, k3⟩
def PS.told (e : Int) (P : PS) : PS := if e = 11 then { P with failed := true } else P
theorem zAr (h : Raw w p lg lm d sb mb sc wv x5 x6 P) (e : Int) :
   Calls Tryz.prog 96 #[.pointer (some ⟨p, 0, none⟩), .int .i64 e] w fun en w' => en = .returned (.int .i64 e) /\ xS w w' p lg lm d sb mb sc wv x5 x6 (PS.told e P) := by
 by_cases c : e = 11
 · subst c;refine (zH4 h.own).mono ?_;rintro en w' ⟨rfl, h1, h2, h3⟩;refine ⟨rfl, wv, ⟨h.disk.keep h2 fun q hq e => h.np (by rw [show q = p from e] at hq; exact hq), h2.own (show Own w lg 246 (P.l.cells d) from h.log) (fun e => h.npl (Eq.symm e)), h1, h.map.keep (h2.block lm h.map.in_ h.npm), h.ne⟩, h2.mono fun q _ e => .inr (.inl e), .inl rfl⟩
 · refine (zG4 p e c w).mono ?_;rintro en w' ⟨rfl, rfl⟩;refine ⟨rfl, ?_⟩;rw [show PS.told e P = P from if_neg c];exact xS.same h
end
end
end Go.Proofs.YthijgebmoadgkaaGreatDoor
