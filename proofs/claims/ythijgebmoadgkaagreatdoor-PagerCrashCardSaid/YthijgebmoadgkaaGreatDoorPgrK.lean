import Derived.Test.YthijgebmoadgkaaGreatDoorPgrG
import Derived.Laws.EntriesVeiled
set_option linter.unusedVariables false
set_option linter.unusedSimpArgs false
namespace Go.Proofs.YthijgebmoadgkaaGreatDoor
open Go.ChangeShapes Go.WideShapes Go.ChangeAt Go.RowKit
section
def yE (at_ : Nat) (g : Nat -> ByteArray) (n : Nat) : List Dop := (List.range n).map fun i => some (at_ + i, g i)
theorem fL (at_ : Nat) (g : Nat -> ByteArray) (n : Nat) : yE at_ g (n + 1) = yE at_ g n ++ [some (at_ + n, g n)] := by simp [yE, List.range_succ]
theorem qB (at_ : Nat) (g : Nat -> ByteArray) (n : Nat) : (yE at_ g n).length = n := by simp [yE]
section
variable {w : World} {bl pe pf b4 b6 b7 d sb mb sc : Nat} {wv : Value} {N : Nat} {s : St} {ll : Nat}
set_option maxRecDepth 10000 in
set_option maxHeartbeats 1000000 in
theorem sub97 (hB : Own w bl 124 #[.pointer (some ⟨d, 0, none⟩), .int .i64 (ll : Int)]) (at_ i : Nat) (t : ByteArray) (h4 : Own w b4 3 #[.int .i64 (at_ : Int)]) (h6 : Own w b6 3 #[.int .i64 (i : Int)]) (h7 : Own w b7 9 #[.string t])
   (hD : zI w d sb mb sc wv N s) (hat : at_ <= 1000000) (hi : i <= 1000000) (ht : t.size <= maxLen) (hl : s.wr.length < 1000000) :
   Calls Tryz.prog 152 #[.pointer (some ⟨bl, 0, none⟩), .pointer (some ⟨b4, 0, none⟩), .pointer (some ⟨b6, 0, none⟩), .pointer (some ⟨b7, 0, none⟩)] w fun e w' => e = .returned (.int .i64 (xC N s ((at_ + i : Nat) : Int) t).1) /\ Qb w w' d sb mb sc wv N (xC N s ((at_ + i : Nat) : Int) t).2 := by
 have HW := Lh (zAg hD ((at_ + i : Nat) : Int) t (gM (by omega) (by omega)) ht hl);have e1 : ((at_ + i : Nat) : Int) = (at_ : Int) + (i : Int) := by omega
 rw [e1] at HW ⊢;clear e1;obtain ⟨q1, q2, q3⟩ := hB.at_;obtain ⟨q4, q5, q6⟩ := h4.at_;obtain ⟨q7, q8, q9⟩ := h6.at_;obtain ⟨qa, qb, qc⟩ := h7.at_;clear hB h4 h6 h7 hD;go_enter Tryz.func152, Tryz.ntmps152;go_wp2_with (go_at_call 153; refine HW.out.mono ?_; rintro e w2 ⟨rfl, hw2⟩)
 go_ret;exact ⟨rfl, hw2⟩
set_option maxRecDepth 10000 in
theorem zI0 (a : Value) (e0 : Int) (hE : Own w pe 26 #[.int .i64 e0]) (h0 : e0 ≠ 0) : Calls Tryz.prog 150 #[a, .pointer (some ⟨pe, 0, none⟩)] w fun e w' => e = .returned (.tuple #[]) /\ w = w' := by
 have t0 : (e0 == 0) = false := by simpa using h0
 obtain ⟨o1, o2, o3⟩ := hE.at_;clear hE h0;go_enter Tryz.func150, Tryz.ntmps150;go_wp2;go_end0
 exact ⟨rfl, rfl⟩
set_option maxRecDepth 10000 in
theorem zLg (R : World -> Int -> Prop) (hE : Own w pe 26 #[.int .i64 0])
   (HC : Calls Tryz.prog 152 #[.pointer (some ⟨bl, 0, none⟩), .pointer (some ⟨b4, 0, none⟩), .pointer (some ⟨b6, 0, none⟩), .pointer (some ⟨b7, 0, none⟩)] w fun e w' => ∃ c : Int, e = .returned (.int .i64 c) /\ R w' c /\ Own w' pe 26 #[.int .i64 0]) :
   Calls Tryz.prog 150 #[.func (.func 152) #[] #[.pointer (some ⟨bl, 0, none⟩), .pointer (some ⟨b4, 0, none⟩), .pointer (some ⟨b6, 0, none⟩), .pointer (some ⟨b7, 0, none⟩)], .pointer (some ⟨pe, 0, none⟩)] w fun e w' => e = .returned (.tuple #[]) /\ ∃ w1 c, R w1 c /\ Own w1 pe 26 #[.int .i64 0] /\ w' = w1.setCell ⟨pe, 0, none⟩ (.int .i64 c) := by
 have HC := Lh HC;obtain ⟨o1, o2, o3⟩ := hE.at_;clear hE;go_enter Tryz.func150, Tryz.ntmps150;go_wp2_with fail;refine HC.out.mono ?_;rintro e w1 ⟨c, rfl, hR, hE1⟩;have HE1 := Lh hE1;obtain ⟨o4, o5, o6⟩ := hE1.at_;clear hE1;go_wp2;go_end0
 exact ⟨rfl, w1, c, hR, HE1.out, rfl⟩
set_option maxRecDepth 10000 in
theorem zHy (R : World -> Int -> Prop) (hE : Own w pe 26 #[.int .i64 0])
   (HC : Calls Tryz.prog 154 #[.pointer (some ⟨d, 0, none⟩)] w fun e w' => ∃ c : Int, e = .returned (.int .i64 c) /\ R w' c /\ Own w' pe 26 #[.int .i64 0]) :
   Calls Tryz.prog 150 #[.func (.func 154) #[.pointer (some ⟨d, 0, none⟩)] #[], .pointer (some ⟨pe, 0, none⟩)] w fun e w' => e = .returned (.tuple #[]) /\ ∃ w1 c, R w1 c /\ Own w1 pe 26 #[.int .i64 0] /\ w' = w1.setCell ⟨pe, 0, none⟩ (.int .i64 c) := by
 have HC := Lh HC;obtain ⟨o1, o2, o3⟩ := hE.at_;clear hE;go_enter Tryz.func150, Tryz.ntmps150;go_wp2_with fail;refine HC.out.mono ?_;rintro e w1 ⟨c, rfl, hR, hE1⟩;have HE1 := Lh hE1;obtain ⟨o4, o5, o6⟩ := hE1.at_;clear hE1;go_wp2;go_end0
 exact ⟨rfl, w1, c, hR, HE1.out, rfl⟩
theorem zIk {x : Int × St} (hE : Own w pe 26 #[.int .i64 x.1]) (hD : zI w d sb mb sc wv N x.2) (hap : ¬ fp d sb mb wv pe) :
   Calls Tryz.prog 150 #[.func (.func 154) #[.pointer (some ⟨d, 0, none⟩)] #[], .pointer (some ⟨pe, 0, none⟩)] w fun e w' => e = .returned (.tuple #[]) /\ zK w w' pe d sb mb sc wv N (xA N x none) := by
 obtain ⟨x1, x2⟩ := x;simp only at hE hD;by_cases h0 : x1 = 0
 · subst h0;refine (zHy (fun w' c => ∃ wv', zI w' d sb mb sc wv' N (xQ x2).2 /\ Chg (fp d sb mb wv) w w' /\ (wv'.ownBlock = none \/ wv'.ownBlock = wv.ownBlock) /\ c = (xQ x2).1) hE ((zAi hD).mono ?_)).mono ?_
   · rintro e w2 ⟨rfl, wv2, hd2, hc2, hw2⟩;exact ⟨_, rfl, ⟨wv2, hd2, hc2, hw2, rfl⟩, hc2.own hE hap⟩
   · rintro e w2 ⟨rfl, w1, c, ⟨wv2, hd2, hc2, hw2, rfl⟩, hE1, rfl⟩;refine ⟨rfl, ?_⟩;have := zK.set hE1 wv2 hd2 hc2 (hw2.elim (fun h => .inr (.inl h)) .inl) hap hE.in_ (c := (xQ x2).1);exact this
 · refine (zI0 _ x1 hE h0).mono ?_;rintro e w2 ⟨rfl, rfl⟩;refine ⟨rfl, ?_⟩;have e1 : xA N (x1, x2) none = (x1, x2) := by unfold xA; rw [if_neg h0]
   rw [e1];exact zK.same hD hE
end
end
section
section
variable {w : World} {bl pe pf b4 b6 b7 d sb mb sc : Nat} {wv : Value} {N : Nat} {s : St} {ll : Nat}
theorem pput1 (x : Int × St) (hB : Own w bl 124 #[.pointer (some ⟨d, 0, none⟩), .int .i64 (ll : Int)]) (hE : Own w pe 26 #[.int .i64 x.1]) (at_ i : Nat) (t : ByteArray) (h4 : Own w b4 3 #[.int .i64 (at_ : Int)]) (h6 : Own w b6 3 #[.int .i64 (i : Int)]) (h7 : Own w b7 9 #[.string t])
   (hD : zI w d sb mb sc wv N x.2) (hat : at_ <= 1000000) (hi : i <= 1000000) (ht : t.size <= maxLen) (hl : x.2.wr.length < 1000000) (hap : ¬ fp d sb mb wv pe) :
   Calls Tryz.prog 150 #[.func (.func 152) #[] #[.pointer (some ⟨bl, 0, none⟩), .pointer (some ⟨b4, 0, none⟩), .pointer (some ⟨b6, 0, none⟩), .pointer (some ⟨b7, 0, none⟩)], .pointer (some ⟨pe, 0, none⟩)] w fun e w' => e = .returned (.tuple #[]) /\ zK w w' pe d sb mb sc wv N (xA N x (some (at_ + i, t))) := by
 obtain ⟨x1, x2⟩ := x;simp only at hE hD hl;by_cases h0 : x1 = 0
 · subst h0;refine (zLg (fun w' c => ∃ wv', zI w' d sb mb sc wv' N (xC N x2 ((at_ + i : Nat) : Int) t).2 /\ Chg (fp d sb mb wv) w w' /\ (wv'.ownBlock = wv.ownBlock \/ ∃ g, wv'.ownBlock = some g /\ w.heap.size <= g) /\ c = (xC N x2 ((at_ + i : Nat) : Int) t).1) hE ((sub97 hB at_ i t h4 h6 h7 hD hat hi ht hl).mono ?_)).mono ?_
   · rintro e w2 ⟨rfl, wv2, hd2, hc2, hw2⟩;exact ⟨_, rfl, ⟨wv2, hd2, hc2, hw2, rfl⟩, hc2.own hE hap⟩
   · rintro e w2 ⟨rfl, w1, c, ⟨wv2, hd2, hc2, hw2, rfl⟩, hE1, rfl⟩;exact ⟨rfl, zK.set hE1 wv2 hd2 hc2 (hw2.elim .inl fun h => .inr (.inr h)) hap hE.in_⟩
 · refine (zI0 _ x1 hE h0).mono ?_;rintro e w2 ⟨rfl, rfl⟩;have e1 : xA N (x1, x2) (some (at_ + i, t)) = (x1, x2) := by unfold xA; rw [if_neg h0]
   rw [e1];exact ⟨rfl, zK.same hD hE⟩
theorem Own.type_ne {w : World} {p q : Nat} {T T' : TypeId} {cs cs' : Array Value} (h : Own w p T cs) (k : Own w q T' cs') (hT : T ≠ T') : p ≠ q := by
 rintro rfl;unfold Own at h k;rw [h] at k;injection k with k;injection k with k1 k2;exact hT k2
theorem zI.no_own (hD : zI w d sb mb sc wv N s) {b : Nat} {T : TypeId} {cs : Array Value} (ho : Own w b T cs) (h1 : T ≠ 167) (h2 : T ≠ 271) (h0 : ∀ x, cs[0]? ≠ some (.int .u8 x)) : ¬ fp d sb mb wv b := fun h => by
 rcases h with e | e | e | e
 · exact (ho.type_ne hD.own h1) e
 · subst e;have hl := hD.ok.len;have hp := hD.ok.pos;have h5 := hD.sure.cell 0 (by omega);rw [ho.at_.1 0] at h5;exact h0 _ h5
 · exact (hD.map.ne ho) e.symm
 · rcases hD.wrs.2 with ⟨h6, _⟩ | ⟨g6, c6, u6, h6, _, h7, _⟩
   · rw [h6] at e; cases e
   · rw [h6] at e;injection e with e;have e : g6 = b := e;subst e;unfold Own at ho;rw [ho] at h7;injection h7 with h7;injection h7 with h8 h9;exact h2 h9
set_option maxRecDepth 10000 in
set_option maxHeartbeats 1000000 in
theorem put96 (x : Int × St) (hB : Own w bl 124 #[.pointer (some ⟨d, 0, none⟩), .int .i64 (ll : Int)]) (hF : Own w pf 234 #[.func (.func 150) #[] #[.pointer (some ⟨pe, 0, none⟩)]]) (hE : Own w pe 26 #[.int .i64 x.1])
   (hD : zI w d sb mb sc wv N x.2) (at_ n : Nat) (g : Nat -> ByteArray) (b : Nat) (cs : Array Value) (hS : Own w b 9 cs) (hcs : ∀ i, i < n -> cs[i]? = some (.string (g i))) (hg : ∀ i, i < n -> (g i).size <= maxLen) (hn : n <= 1000) (h1 : 1 <= n) (hat : at_ <= 1000000) (hl : x.2.wr.length <= 900000)
   (hap : ∀ q, fp d sb mb wv q -> q ≠ bl /\ q ≠ pf /\ q ≠ pe) :
   Calls Tryz.prog 151 #[.int .i64 (at_ : Int), .slice (some ⟨b, 0, none⟩) n n, .pointer (some ⟨pf, 0, none⟩), .pointer (some ⟨bl, 0, none⟩)] w fun e w' => e = .returned (.tuple #[]) /\ zK w w' pe d sb mb sc wv N (zP N (yE at_ g n) x) := by
 have nbe : bl ≠ pe := hB.type_ne hE (by decide);have nfe : pf ≠ pe := hF.type_ne hE (by decide);have nse : b ≠ pe := hS.type_ne hE (by decide);have zD : ∀ q, fp d sb mb wv q -> q < w.heap.size := fun q hq => hD.in_ hq
 have zE := hE.in_;have zS := hS.in_;have HB := Lh hB;have HF := Lh hF;have HE := Lh hE;have HD := Lh hD;have HS := Lh hS;have HCS := Lh hcs;have HG := Lh hg;have HAP := Lh hap;have HZD := Lh zD;have S0 : zK w (w.alloc (.cells #[.int .i64 (at_ : Int)] 3)) pe d sb mb sc wv N x := (zK.same hD hE).below (zG _ _ _);have P0 := Own.made w 3 #[.int .i64 (at_ : Int)];have Q0 := hS.more (.cells #[.int .i64 (at_ : Int)] 3);clear hB hF hE hD hS hcs hg hap zD;go_enter Tryz.func151, Tryz.ntmps151;go_upto_region 1 with fail;go_name_world W0 hW0;rw [hW0] at S0 P0 Q0;have z0 : W0.heap.size = w.heap.size + 1 := by rw [<- hW0]; simp
 have B0 : Below w.heap.size w W0 := hW0 ▸ zG _ _ _;clear hW0;replace z0 := Lh z0;replace S0 := Lh S0;replace P0 := Lh P0;replace Q0 := Lh Q0;replace B0 := Lh B0;go_wp2;go_loopw [10] (fun i wr => ∃ k : Nat, k <= n /\ i = .int .i64 (k : Int) /\ zK w wr pe d sb mb sc wv N (zP N (yE at_ g k) x) /\ Own wr w.heap.size 3 #[.int .i64 (at_ : Int)] /\ Own wr b 9 cs) (fun i wr => n - (intOf i).toNat)
 case atStart => exact ⟨0, by omega, rfl, S0.out, P0.out, Q0.out⟩
 case round =>
   clear S0 P0 Q0 B0;obtain ⟨k, hk, rfl, hS, hP, hQ⟩ := hrel;by_cases hlt : k < n
   · obtain ⟨wv1, hD1, hE1, hc1, hv1⟩ := hS;have hB1 : Own wr bl 124 _ := hc1.own HB.out fun h => h.elim (fun h => (HAP.out _ h).1 rfl) nbe
     have hF1 : Own wr pf 234 _ := hc1.own HF.out fun h => h.elim (fun h => (HAP.out _ h).2.1 rfl) nfe
     have hap1 : ¬ fp d sb mb wv1 pe := fun h => by
       rcases vR hv1 h with h | h
       · exact (HAP.out _ h).2.2 rfl
       · omega
     have hrl := vE N (yE at_ g k) x;rw [qB] at hrl;have hgk := HG.out k hlt;have hck : wr.cell? ⟨b, k, none⟩ = some (.string (g k)) := by rw [hQ.at_.1 k, HCS.out k hlt]
     obtain ⟨t, ht⟩ : ∃ t, t = g k := ⟨_, rfl⟩
     have BB : Below wr.heap.size wr ((wr.alloc (.cells #[.int .i64 (k : Int)] 3)).alloc (.cells #[.string t] 9)) := (zG _ _ _).alloc (by simp) _;have h6 : Own ((wr.alloc (.cells #[.int .i64 (k : Int)] 3)).alloc (.cells #[.string t] 9)) wr.heap.size 3 #[.int .i64 (k : Int)] := (Own.made _ _ _).more _;have h7 : Own ((wr.alloc (.cells #[.int .i64 (k : Int)] 3)).alloc (.cells #[.string t] 9)) (wr.heap.size + 1) 9 #[.string t] := Own.made_at (by simp);have C1 := Lh (And.intro hD1 (And.intro hc1 hv1));have HPUT := pput1 (zP N (yE at_ g k) x) (hB1.keep BB) (hE1.keep BB) at_ k t (hP.keep BB) h6 h7 (hD1.below BB) hat (by omega) (by rw [ht]; exact hgk) (by omega) hap1;rw [ht, <- mP, <- fL, <- ht] at HPUT;have hF2 := (hF1.keep BB).at_;rw [<- ht] at hck;have P2 := hP.keep BB;have Q2 := hQ.keep BB;have D2 := hD1.below BB;have nP : ¬ (fp d sb mb wv1 w.heap.size \/ w.heap.size = pe) := fun h => by
       rcases h with h | h
       · exact hD1.no_own hP (by decide) (by decide) (fun x => by simp) h
       · omega
     have nQ : ¬ (fp d sb mb wv1 b \/ b = pe) := fun h => h.elim (hD1.not_str hQ (HCS.out 0 (by omega))) nse
     replace HPUT := Lh HPUT;replace P2 := Lh P2;replace Q2 := Lh Q2;replace BB := Lh BB;replace nP := Lh nP;replace nQ := Lh nQ;clear hD1 hE1 hc1 hv1 hB1 hF1 hap1 hrl hgk ht h6 h7 D2 hP hQ;obtain ⟨f1, f2, f3⟩ := hF2;go_wp2_with fail;refine HPUT.out.mono ?_;rintro e w5 ⟨rfl, hS5⟩;have hS6 := zK.then_ (C1.out.1.below BB.out) (C1.out.2.1.call BB.out) C1.out.2.2 hS5;have hP6 : Own w5 w.heap.size 3 #[.int .i64 (at_ : Int)] := by
       obtain ⟨wv2, -, -, hc2, -⟩ := hS5;exact hc2.own P2.out nP.out
     have hQ6 : Own w5 b 9 cs := by
       obtain ⟨wv2, -, -, hc2, -⟩ := hS5;exact hc2.own Q2.out nQ.out
     replace hS6 := Lh hS6;replace hP6 := Lh hP6;replace hQ6 := Lh hQ6;clear hS5 f1 f2 f3;go_wp2;go_roundw
     case rel => exact ⟨k + 1, by omega, by go_num, hS6.out, hP6.out, hQ6.out⟩
     case measure => simp [intOf]; omega
   · obtain rfl : k = n := by omega
     replace hS := Lh hS;clear hP hQ;go_wp2;go_end0
     exact ⟨rfl, hS.out⟩
end
end
section
def yV (op : Nat -> List Dop) (n : Nat) : List Dop := (List.range n).flatMap fun k => op k ++ [none]
theorem yX (op : Nat -> List Dop) (n : Nat) : yV op (n + 1) = yV op n ++ op n ++ [none] := by simp [yV, List.range_succ]
def zCc (w W : World) (Z : Nat -> Prop) : Prop := w.heap.size <= W.heap.size /\ ∀ q, q < w.heap.size -> ¬ Z q -> W.heap[q]? = w.heap[q]?
theorem zCc.own {w W : World} {Z : Nat -> Prop} (h : zCc w W Z) {p : Nat} {T : TypeId} {cs : Array Value} (ho : Own w p T cs) (hn : ¬ Z p) : Own W p T cs := (h.2 p ho.in_ hn).trans ho
def mV (pf bl : Nat) : Value := .func (.func 151) #[] #[.pointer (some ⟨pf, 0, none⟩), .pointer (some ⟨bl, 0, none⟩)]
def zK0 (w : World) (d sb mb sc : Nat) (wv : Value) (N ll : Nat) (gf : Nat) (cp : Array Value) (op : List Dop) : Prop :=
 ∀ (W : World) (x : Int × St) (bl pe pf : Nat) (wv1 : Value), zCc w W (fp d sb mb wv) -> zI W d sb mb sc wv1 N x.2 -> Own W bl 124 #[.pointer (some ⟨d, 0, none⟩), .int .i64 (ll : Int)] ->
   Own W pf 234 #[.func (.func 150) #[] #[.pointer (some ⟨pe, 0, none⟩)]] -> Own W pe 26 #[.int .i64 x.1] -> (∀ q, fp d sb mb wv1 q -> q ≠ bl /\ q ≠ pf /\ q ≠ pe) -> x.2.wr.length <= 800000 -> w.heap.size <= bl -> w.heap.size <= pe -> w.heap.size <= pf ->
   (∀ q, fp d sb mb wv1 q -> fp d sb mb wv q \/ w.heap.size <= q) ->
   Calls Tryz.prog gf (#[mV pf bl] ++ cp) W fun e w' => e = .returned (.tuple #[]) /\ zK W w' pe d sb mb sc wv1 N (zP N op x)
section
variable {w : World} {d sb mb sc : Nat} {wv : Value} {N : Nat} {s : St}
set_option maxRecDepth 10000 in
set_option maxHeartbeats 2000000 in
theorem Js (hD : zI w d sb mb sc wv N s) (ll n : Nat) (gf : Nat -> Nat) (cp : Nat -> Array Value) (op : Nat -> List Dop) (bs : Nat) (cs : Array Value) (hS : Own w bs 128 cs)
   (hcs : ∀ k, k < n -> cs[k]? = some (.func (.func (gf k)) #[] (cp k))) (HE : ∀ k, k < n -> ∀ (args : Array Value) (W : World), (callFunc (gf k) args).run Tryz.prog W = .ok (.enter (gf k) args) W)
   (HK : ∀ k, k < n -> zK0 w d sb mb sc wv N ll (gf k) (cp k) (op k)) (hn : n <= 1000) (h1 : 1 <= n) (hlen : ∀ k, k <= n -> s.wr.length + (yV op k).length <= 700000) :
   Calls Tryz.prog 74 #[uM d ll, .slice (some ⟨bs, 0, none⟩) n n] w fun e w' => e = .returned (.int .i64 (zP N (yV op n) (0, s)).1) /\
     ∃ wv', zI w' d sb mb sc wv' N (zP N (yV op n) (0, s)).2 /\ Chg (fp d sb mb wv) w w' /\ (wv'.ownBlock = wv.ownBlock \/ wv'.ownBlock = none \/ ∃ g, wv'.ownBlock = some g /\ w.heap.size <= g) := by
 have zD : ∀ q, fp d sb mb wv q -> q < w.heap.size := fun q hq => hD.in_ hq
 have zS := hS.in_;have nS : ¬ fp d sb mb wv bs := hD.no_own hS (by decide) (by decide) (fun x => by rw [hcs 0 (by omega)]; simp);have HD := Lh hD;have HS := Lh hS;have HCS := Lh hcs;have HKh := Lh HK;have HEh := Lh HE;have HL := Lh hlen;have HZD := Lh zD;have NS := Lh nS;clear hD hS hcs HK HE hlen zD nS;unfold uM;go_enter Tryz.func74, Tryz.ntmps74;go_upto_region 3 with fail;have o1 : Own (((w.alloc (.cells #[.pointer (some ⟨d, 0, none⟩), .int .i64 (ll : Int)] 124)).alloc (.cells #[.int .i64 0] 26)).alloc (.cells #[.func (.func 150) #[] #[.pointer (some ⟨w.heap.size + 1, 0, none⟩)]] 234)) w.heap.size 124 #[.pointer (some ⟨d, 0, none⟩), .int .i64 (ll : Int)] := ((Own.made w _ _).more _).more _;have o2 : Own (((w.alloc (.cells #[.pointer (some ⟨d, 0, none⟩), .int .i64 (ll : Int)] 124)).alloc (.cells #[.int .i64 0] 26)).alloc (.cells #[.func (.func 150) #[] #[.pointer (some ⟨w.heap.size + 1, 0, none⟩)]] 234)) (w.heap.size + 1) 26 #[.int .i64 0] := (Own.made_at (by simp)).more _;have o3 : Own (((w.alloc (.cells #[.pointer (some ⟨d, 0, none⟩), .int .i64 (ll : Int)] 124)).alloc (.cells #[.int .i64 0] 26)).alloc (.cells #[.func (.func 150) #[] #[.pointer (some ⟨w.heap.size + 1, 0, none⟩)]] 234)) (w.heap.size + 1 + 1) 234 #[.func (.func 150) #[] #[.pointer (some ⟨w.heap.size + 1, 0, none⟩)]] := Own.made_at (by simp);go_name_world W0 hW0;rw [hW0] at o1 o2 o3;have B0 : Below w.heap.size w W0 := hW0 ▸ (((Below.refl _ _).alloc (Nat.le_refl _) _).alloc (by simp) _).alloc (by simp; omega) _
 clear hW0;obtain ⟨bl, hbl⟩ : ∃ bl, bl = w.heap.size := ⟨_, rfl⟩
 obtain ⟨pe, hpe⟩ : ∃ pe, pe = bl + 1 := ⟨_, rfl⟩
 obtain ⟨pf, hpf⟩ : ∃ pf, pf = pe + 1 := ⟨_, rfl⟩
 rw [<- hbl, <- hpe, <- hpf] at o3;rw [<- hbl, <- hpe] at o2;rw [<- hbl] at o1;have e2 : w.heap.size + 2 = pf := by omega
 try rw [e2]
 rw [<- hbl, <- hpe];try rw [<- hpf]
 have z0 : pf < W0.heap.size := o3.in_;have z1 : bl < pe := by omega
 have z2 : pe < pf := by omega
 have S0 : zK W0 W0 pe d sb mb sc wv N (0, s) := zK.same (HD.out.below B0) o2;have HZ2 : Hid (∀ q, fp d sb mb wv q -> q < bl) := Lh (by rw [hbl]; exact HZD.out);have hap : Hid (∀ q, fp d sb mb wv q -> q ≠ bl /\ q ≠ pf /\ q ≠ pe) := Lh fun q hq => by have := HZ2.out q hq; exact ⟨by omega, by omega, by omega⟩
 replace o1 := Lh o1;replace o3 := Lh o3;replace S0 := Lh S0;have HBL := Lh hbl;replace B0 := Lh B0;clear hbl hpe hpf o2 e2;have GET : Hid (∀ (W : World) (x : Int × St), zK W0 W pe d sb mb sc wv N x -> ∃ wv1, zI W d sb mb sc wv1 N x.2 /\ Own W pe 26 #[.int .i64 x.1] /\ Chg (fun q => fp d sb mb wv q \/ q = pe) W0 W /\ (wv1.ownBlock = wv.ownBlock \/ wv1.ownBlock = none \/ ∃ g, wv1.ownBlock = some g /\ W0.heap.size <= g) /\
     Own W bl 124 #[.pointer (some ⟨d, 0, none⟩), .int .i64 (ll : Int)] /\ Own W pf 234 #[.func (.func 150) #[] #[.pointer (some ⟨pe, 0, none⟩)]] /\ (∀ q, fp d sb mb wv1 q -> q ≠ bl /\ q ≠ pf /\ q ≠ pe) /\ zCc w W (fp d sb mb wv) /\ Own W bs 128 cs) := Lh fun W x h => by
   obtain ⟨wv1, hD1, hE1, hc1, hv1⟩ := h;have hk1 : ∀ q, q < W0.heap.size -> ¬ fp d sb mb wv q -> q ≠ pe -> W.heap[q]? = W0.heap[q]? := fun q h1 h2 h3 => hc1.block q h1 (fun h => by rcases h with h | h; exact h2 h; exact h3 h)
   have hb := HBL.out;have hs := B0.out.size;have hs1 := hc1.size;have hSi : zCc w W (fp d sb mb wv) := ⟨by omega, fun q hq hz => (hk1 q (by omega) hz (by omega)).trans (B0.out.block q hq)⟩
   refine ⟨wv1, hD1, hE1, hc1, hv1, (hk1 bl o1.out.in_ (fun h => (hap.out bl h).1 rfl) (by omega)).trans o1.out, (hk1 pf o3.out.in_ (fun h => (hap.out pf h).2.1 rfl) (by omega)).trans o3.out, fun q hq => ?_, hSi, hSi.own HS.out NS.out⟩;rcases vR hv1 hq with h | h
   · exact hap.out q h
   · exact ⟨by omega, by omega, by omega⟩
 go_wp2;go_loopw [12] (fun i wr => ∃ k : Nat, k <= n /\ i = .int .i64 k /\ zK W0 wr pe d sb mb sc wv N (zP N (yV op k) (0, s))) (fun i wr => n - (intOf i).toNat)
 case atStart => exact ⟨0, by omega, rfl, S0.out⟩
 case round =>
   obtain ⟨k, hk, rfl, hSt⟩ := hrel;by_cases hlt : k < n
   · obtain ⟨wv1, hD1, hE1, hc1, hv1, L1, F1, hap1, hSi, hQ⟩ := GET.out _ _ hSt;have hrl := vE N (yV op k) (0, s);have hll := HL.out k hk;have hck : wr.cell? ⟨bs, k, none⟩ = some (.func (.func (gf k)) #[] (cp k)) := by rw [hQ.at_.1 k, HCS.out k hlt]
     have HEk := HEh.out k hlt;have hb := HBL.out;have hbs := B0.out.size;have HKk := HKh.out k hlt wr (zP N (yV op k) (0, s)) bl pe pf wv1 hSi hD1 L1 F1 hE1 hap1 (by simp only at hrl; omega) (by omega) (by omega) (by omega) (fun q hq => (vR hv1 hq).imp_right fun h => by omega);rw [<- jI] at HKk;unfold mV at HKk;have C1 := Lh (And.intro hD1 (And.intro hc1 hv1));have HA := Lh (yX op k);obtain ⟨G, hG⟩ : ∃ G, G = gf k := ⟨_, rfl⟩
     obtain ⟨cpk, hcp⟩ : ∃ cpk, cpk = cp k := ⟨_, rfl⟩
     rw [<- hG, <- hcp] at hck HKk;rw [<- hG] at HEk;replace HKk := Lh HKk;clear hD1 hE1 hc1 hv1 L1 F1 hap1 hSi hQ hSt hrl hll hb hbs hG hcp;go_wp2_with fail;refine HKk.out.mono ?_;rintro e w5 ⟨rfl, hS5⟩;have hS6 := zK.then_ C1.out.1 C1.out.2.1 C1.out.2.2 hS5;obtain ⟨wv2, hD2, hE2, hc2, hv2, L2, F2, hap2, hSi2, hQ2⟩ := GET.out _ _ hS6;have HF2 := zIk hE2 hD2 (fun h => (hap2 pe h).2.2 rfl);rw [<- mP, <- HA.out] at HF2;replace HF2 := Lh HF2;have C2 := Lh (And.intro hD2 (And.intro hc2 hv2));obtain ⟨l1, l2, l3⟩ := L2.at_;obtain ⟨f1, f2, f3⟩ := F2.at_;clear hS5 hS6 hD2 hE2 hc2 hv2 L2 F2 hap2 hSi2 hQ2 hck HEk;go_wp2_with fail;refine HF2.out.mono ?_;rintro e w7 ⟨rfl, hS7⟩;have hS8 := Lh (zK.then_ C2.out.1 C2.out.2.1 C2.out.2.2 hS7);clear hS7 l1 l2 l3 f1 f2 f3;go_wp2;go_roundw
     case rel => exact ⟨k + 1, by omega, by go_num, hS8.out⟩
     case measure => simp [intOf]; omega
   · obtain rfl : k = n := by omega
     obtain ⟨wv1, hD1, hE1, hc1, hv1, L1, F1, hap1, hSi, hQ⟩ := GET.out _ _ hSt;obtain ⟨x, hx⟩ : ∃ x, x = zP N (yV op k) (0, s) := ⟨_, rfl⟩
     rw [<- hx] at hD1 hE1 hSt;have HX := Lh hx;obtain ⟨e1, e2, e3⟩ := hE1.at_;have C1 := Lh (And.intro hD1 (And.intro hc1 hv1));clear hx hD1 hE1 hc1 hv1 L1 F1 hap1 hSi hQ hSt;go_wp2;go_ret;have hb := HBL.out;have hbs := B0.out.size;rw [<- HX.out];refine ⟨rfl, wv1, C1.out.1, (Chg.of B0.out).trans C1.out.2.1 fun q hq h => h.elim id fun h => by omega, ?_⟩;rcases C1.out.2.2 with h | h | ⟨g, h, hg⟩
     · exact .inl h
     · exact .inr (.inl h)
     · exact .inr (.inr ⟨g, h, by omega⟩)
end
end
section
structure fS (W : World) (bl pe pf d sb mb sc : Nat) (wv : Value) (N ll : Nat) (x : Int × St) : Prop where
 disk : zI W d sb mb sc wv N x.2
 lay : Own W bl 124 #[.pointer (some ⟨d, 0, none⟩), .int .i64 (ll : Int)]
 fn : Own W pf 234 #[.func (.func 150) #[] #[.pointer (some ⟨pe, 0, none⟩)]]
 err : Own W pe 26 #[.int .i64 x.1]
 apart : ∀ q, fp d sb mb wv q -> q ≠ bl /\ q ≠ pf /\ q ≠ pe
section
variable {W W' : World} {bl pe pf d sb mb sc : Nat} {wv : Value} {N ll : Nat} {x y : Int × St}
theorem fS.below (h : fS W bl pe pf d sb mb sc wv N ll x) (hb : Below W.heap.size W W') : fS W' bl pe pf d sb mb sc wv N ll x :=
 ⟨h.disk.below hb, h.lay.keep hb, h.fn.keep hb, h.err.keep hb, h.apart⟩
theorem fS.next (h : fS W bl pe pf d sb mb sc wv N ll x) (hs : zK W W' pe d sb mb sc wv N y) : ∃ wv', fS W' bl pe pf d sb mb sc wv' N ll y /\ Chg (fun q => fp d sb mb wv q \/ q = pe) W W' /\ (wv'.ownBlock = wv.ownBlock \/ wv'.ownBlock = none \/ ∃ g, wv'.ownBlock = some g /\ W.heap.size <= g) := by
 obtain ⟨wv', hD, hE, hc, hv⟩ := hs;have hbl : bl ≠ pe := h.lay.type_ne h.err (by decide);have hpf : pf ≠ pe := h.fn.type_ne h.err (by decide);refine ⟨wv', ⟨hD, hc.own h.lay fun k => k.elim (fun k => (h.apart bl k).1 rfl) hbl, hc.own h.fn fun k => k.elim (fun k => (h.apart pf k).2.1 rfl) hpf, hE, fun q hq => ?_⟩, hc, hv⟩;rcases vR hv hq with k | k
 · exact h.apart q k
 · have h1 := h.lay.in_;have h2 := h.fn.in_;have h3 := h.err.in_;exact ⟨by omega, by omega, by omega⟩
theorem fS.put (h : fS W bl pe pf d sb mb sc wv N ll x) (at_ n : Nat) (g : Nat -> ByteArray) (b : Nat) (cs : Array Value) (hS : Own W b 9 cs) (hcs : ∀ i, i < n -> cs[i]? = some (.string (g i))) (hg : ∀ i, i < n -> (g i).size <= maxLen) (hn : n <= 1000) (h1 : 1 <= n) (hat : at_ <= 1000000) (hl : x.2.wr.length <= 900000) :
   Calls Tryz.prog 151 #[.int .i64 (at_ : Int), .slice (some ⟨b, 0, none⟩) n n, .pointer (some ⟨pf, 0, none⟩), .pointer (some ⟨bl, 0, none⟩)] W fun e w' => e = .returned (.tuple #[]) /\ zK W w' pe d sb mb sc wv N (zP N (yE at_ g n) x) :=
 put96 x h.lay h.fn h.err h.disk at_ n g b cs hS hcs hg hn h1 hat hl h.apart
theorem zK.from_ {w1 : World} (h : zK w1 W' pe d sb mb sc wv N y) (hb : Below W.heap.size W w1) : zK W W' pe d sb mb sc wv N y := by
 obtain ⟨wv', hD, hE, hc, hv⟩ := h;refine ⟨wv', hD, hE, (Chg.of hb).same hc, ?_⟩;have := hb.size;rcases hv with h | h | ⟨g, h, hg⟩
 · exact .inl h
 · exact .inr (.inl h)
 · exact .inr (.inr ⟨g, h, by omega⟩)
def vV (ll no : Nat) (x : Pag) : List Dop := yE (2 + ll + no * 8) (Pg.secB (pgB x.1 no x.2)) 8
set_option maxRecDepth 10000 in
set_option maxHeartbeats 1000000 in
theorem zI2 (h : fS W bl pe pf d sb mb sc wv N ll x) (no : Nat) (pg : Pag) (hp : xW pg) (hno : no <= 100000) (hll : ll <= 100000) (hl : x.2.wr.length <= 900000) (b1 b2 : Nat) (h1 : Own W b1 124 #[.pointer (some ⟨d, 0, none⟩), .int .i64 (ll : Int)]) (h2 : Own W b2 131 #[.int .i64 (no : Int), .int .i64 (pg.1 : Int), .string pg.2]) :
   Calls Tryz.prog 144 #[mV pf bl, .pointer (some ⟨b1, 0, none⟩), .pointer (some ⟨b2, 0, none⟩)] W fun e w' => e = .returned (.tuple #[]) /\ zK W w' pe d sb mb sc wv N (zP N (vV ll no pg) x) := by
 have HP := Lh (fun W => zAf d ll no W hll (by omega));have HB := Lh (fun W => Zs no pg W hp (by omega));have hz : (pgB pg.1 no pg.2).size = 512 := vF _ _ _ (by have := hp.size; omega);have HC := Lh (fun W => Pg.cut_yes (pgB pg.1 no pg.2) W hz);have HSZ := Lh (fun i hi => Pg.secB_size (pgB pg.1 no pg.2) i hz hi);have HCG := Lh (fun i (hi : i < 8) => show (Pg.cutC (pgB pg.1 no pg.2) 8)[i]? = some (.string (Pg.secB (pgB pg.1 no pg.2) i)) from by rw [Pg.cutC_get _ 8 i hi]; unfold Pg.cutV; rw [if_pos hi]);have HH := Lh h;have H1 := Lh h1;have H2 := Lh h2;have HO := Lh (show vV ll no pg = yE (2 + ll + no * 8) (Pg.secB (pgB pg.1 no pg.2)) 8 from rfl);rw [HO.out];obtain ⟨G, hG⟩ : ∃ G, G = pgB pg.1 no pg.2 := ⟨_, rfl⟩
 rw [<- hG] at HB HC HSZ HCG ⊢;unfold uM at HP;unfold shV at HB;obtain ⟨p, hpp⟩ : ∃ p, p = 2 + ll + no * 8 := ⟨_, rfl⟩
 have hp6 : p <= 1000000 := by omega
 rw [<- hpp] at HP ⊢;clear h h1 h2 hp hz HO hG hpp;unfold mV;go_enter Tryz.func144, Tryz.ntmps144;go_upto_region 0 with fail;refine zA (fun W1 => Own W1 b1 124 #[.pointer (some ⟨d, 0, none⟩), .int .i64 (ll : Int)] /\ Own W1 b2 131 #[.int .i64 (no : Int), .int .i64 (pg.1 : Int), .string pg.2]) (0 :: 1 :: 2 :: 3 :: 5 :: []) (1 :: 3 :: 5 :: []) (0 :: 1 :: 2 :: 3 :: 5 :: 4 :: 6 :: 7 :: 8 :: []) (by kernel_rfl) (by kernel_rfl) rfl (by kernel_rfl) rfl (⟨H1.out.drawn, H2.out.drawn⟩) (by simp only [zU, List.filterMap_cons, List.filterMap_nil, List.getElem?_cons_zero, List.getElem?_cons_succ, Option.map_some]; exact rfl) ?_;iterate 5
   refine zC (v := ?_) rfl rfl (fun W hS => ?_) ?_;rotate_left
   · first
       | (conv => lhs; simp [go_sem]
          first | done | exact rfl)
       | (have hS := hS rfl
          obtain ⟨q1, q2⟩ := hS;obtain ⟨q1, q3, q4⟩ := Own.at_ q1;obtain ⟨q2, q5, q6⟩ := Own.at_ q2;conv => lhs; simp [go_sem, *]
          first | done | exact rfl)
   simp only [Act.put, lA, lZ, lS]
 refine zQ rfl rfl fun K hK => ?_
 go_wp2_with (go_at_call 145; refine (HP.out _).mono ?_; rintro e w2 ⟨rfl, hb2⟩)
 have B2 := Lh (then_ (Below.refl W.heap.size W).drew hb2 (Nat.le_refl _));refine hK _ _ ⟨H1.out.keep B2.out, H2.out.keep B2.out⟩ ?_;clear hK K hb2;refine zQ rfl rfl fun K hK => ?_
 go_wp2_with (go_at_call 147; refine (HB.out _).mono ?_; rintro e w3 ⟨rfl, hb3⟩)
 have B3 := Lh (then_ B2.out hb3 B2.out.size);refine hK _ _ ⟨H1.out.keep B3.out, H2.out.keep B3.out⟩ ?_;clear hK K hb3;refine zQ rfl rfl fun K hK => ?_
 go_wp2_with (go_at_call 146; refine (HC.out _).mono ?_; rintro e w4 ⟨rfl, ho4, hb4⟩)
 have B4 := Lh (then_ B3.out hb4 B3.out.size);have O4 := Lh ho4;refine hK _ _ ⟨H1.out.keep B4.out, H2.out.keep B4.out⟩ ?_;clear hK K hb4 ho4;have HPUT := Lh ((HH.out.below B4.out).put p 8 (Pg.secB G) w3.heap.size (Pg.cutC G 8) O4.out HCG.out (fun i hi => by rw [HSZ.out i hi]; unfold maxLen; omega) (by omega) (by omega) hp6 hl);refine zQ rfl rfl fun K hK => ?_
 go_wp2_with fail;refine HPUT.out.mono ?_;rintro e w5 ⟨rfl, hS5⟩;have K1 : Own w5 b1 124 #[.pointer (some ⟨d, 0, none⟩), .int .i64 (ll : Int)] := by
   obtain ⟨wv', -, -, hc, -⟩ := hS5;exact hc.own (H1.out.keep B4.out) fun k => k.elim (HH.out.disk.no_own H1.out (by decide) (by decide) (by simp)) (H1.out.type_ne HH.out.err (by decide))
 have K2 : Own w5 b2 131 #[.int .i64 (no : Int), .int .i64 (pg.1 : Int), .string pg.2] := by
   obtain ⟨wv', -, -, hc, -⟩ := hS5;exact hc.own (H2.out.keep B4.out) fun k => k.elim (HH.out.disk.no_own H2.out (by decide) (by decide) (by simp)) (H2.out.type_ne HH.out.err (by decide))
 have hS6 := Lh (zK.from_ hS5 B4.out);replace K1 := Lh K1;replace K2 := Lh K2;clear hS5;go_wp2;refine hK _ _ ⟨K1.out, K2.out⟩ ?_;clear hK K;refine zR ?_;go_wp2;go_end0
 exact ⟨rfl, hS6.out⟩
set_option maxRecDepth 10000 in
theorem zGh (h : fS W bl pe pf d sb mb sc wv N ll x) (seq : Nat) (t : ByteArray) (hs : seq <= 18446744073709551615) (ht : t.size <= maxLen) (hl : x.2.wr.length <= 900000) (b1 b2 : Nat) (h1 : Own W b1 35 #[.int .u64 (seq : Int)]) (h2 : Own W b2 9 #[.string t]) :
   Calls Tryz.prog 157 #[mV pf bl, .pointer (some ⟨b1, 0, none⟩), .pointer (some ⟨b2, 0, none⟩)] W fun e w' => e = .returned (.tuple #[]) /\ zK W w' pe d sb mb sc wv N (zP N [some (seq % 2, t)] x) := by
 have hcs : ∀ i, i < 1 -> (#[Value.string t] : Array Value)[i]? = some (.string t) := fun i hi => by
   have : i = 0 := by omega
   subst this; rfl
 have hm2 : seq % 2 <= 1000000 := by omega
 have HPUT := Lh ((h.below (zG W 9 #[.string t])).put (seq % 2) 1 (fun _ => t) W.heap.size #[.string t] (Own.made _ _ _) hcs (fun i hi => ht) (by omega) (by omega) hm2 hl);rw [show yE (seq % 2) (fun _ => t) 1 = [some (seq % 2, t)] from rfl] at HPUT;have w1 : IntKind.i64.wrap ((seq : Int) % 2) = ((seq % 2 : Nat) : Int) := by rw [IntKind.wrap_i64]; omega
 have B1 := Lh (zG W 9 #[.string t]);obtain ⟨q1, q2, q3⟩ := h1.at_;obtain ⟨q4, q5, q6⟩ := h2.at_;clear h h1 h2;obtain ⟨sq, hsq⟩ : ∃ sq : Nat, sq = seq % 2 := ⟨_, rfl⟩
 rw [<- hsq] at HPUT w1 ⊢;clear hsq;unfold mV;go_enter Tryz.func157, Tryz.ntmps157;go_wp2_with fail;refine HPUT.out.mono ?_;rintro e w5 ⟨rfl, hS5⟩;have hS6 := Lh (zK.from_ hS5 B1.out);clear hS5;go_wp2;go_end0
 exact ⟨rfl, hS6.out⟩
set_option maxRecDepth 10000 in
theorem fmt46 (h : fS W bl pe pf d sb mb sc wv N ll x) (t : ByteArray) (ht : t.size <= maxLen) (hl : x.2.wr.length <= 900000) (b1 : Nat) (h1 : Own W b1 9 #[.string t]) :
   Calls Tryz.prog 70 #[mV pf bl, .pointer (some ⟨b1, 0, none⟩)] W fun e w' => e = .returned (.tuple #[]) /\ zK W w' pe d sb mb sc wv N (zP N (yE 0 (fun _ => t) 2) x) := by
 have HPUT := Lh ((h.below (zG W 9 #[.string t, .string t])).put 0 2 (fun _ => t) W.heap.size #[.string t, .string t] (Own.made _ _ _) (fun i hi => by rcases (by omega : i = 0 \/ i = 1) with rfl | rfl <;> rfl) (fun i hi => ht) (by omega) (by omega) (by omega) hl);have B1 := Lh (zG W 9 #[.string t, .string t]);obtain ⟨q1, q2, q3⟩ := h1.at_;clear h h1;unfold mV;go_enter Tryz.func70, Tryz.ntmps70;go_wp2_with fail;refine HPUT.out.mono ?_;rintro e w5 ⟨rfl, hS5⟩;have hS6 := Lh (zK.from_ hS5 B1.out);clear hS5;go_wp2;go_end0
 exact ⟨rfl, hS6.out⟩
end
end
end Go.Proofs.YthijgebmoadgkaaGreatDoor
