import Derived.Test.YthijgebmoadgkaaGreatDoorPgrZ
set_option linter.unusedVariables false
set_option linter.unusedSimpArgs false
namespace Go.Proofs.YthijgebmoadgkaaGreatDoor
open Go.ChangeShapes Go.WideShapes Go.ChangeAt Go.RowKit
section
theorem zNy {P : PS} (h : P.Ok) (u f : Nat) (r : Nat -> Nat) (L : List (Nat × Pag)) (hL : ∀ q ∈ L, q.1 ≠ 0) : (P.put ((0, (1, zJ u f r)) :: L)).view 0 = ((1, zJ u f r), 0) := by
 have e : fl (zJ u f r) = zJ u f r := vL _ (yO u f r);have key : ∀ (L T : List (Nat × Pag)), asc T -> (∀ q ∈ L, q.1 ≠ 0) -> lk T 0 = some (1, zJ u f r) -> lk (yF T (L.map wh)) 0 = some (1, zJ u f r) := by
   intro L;induction L with
   | nil => intro T _ _ h; exact h
   | cons q L ih =>
     intro T hT hq h;refine ih _ (qR _ _ hT) (fun q' h' => hq q' (by simp [h'])) ?_;rw [gR _ _ _ _ hT, if_neg (show ¬ (wh q).1 = 0 from hq q (by simp))];exact h
 have h1 := key L (ins 0 (1, fl (zJ u f r)) P.T) (qR _ _ h.T.1) hL (by rw [gR _ _ _ _ h.T.1, if_pos rfl, e]);unfold PS.view;show (match lk (yF (ins 0 (1, fl (zJ u f r)) P.T) (L.map wh)) 0 with | some x => (x, 0) | none => P.base 0) = _
 rw [h1]
theorem PS.root_lt (P : PS) (i : Nat) : P.root i < 18446744073709551616 := zK8 _ i
theorem Ub {P : PS} (h : P.Ok) {u f : Nat} (h1 : 1 <= u) (h2 : u <= P.most) (h3 : f < u) (r : Nat -> Nat) (hr : ∀ i, i < 8 -> r i < 18446744073709551616) (L : List (Nat × Pag)) (hL : ∀ q ∈ L, q.1 ≠ 0) :
   Jq P.most ((P.put ((0, (1, zJ u f r)) :: L)).view 0).1 /\ ((P.put ((0, (1, zJ u f r)) :: L)).view 0).2 = 0 := by
 rw [zNy h u f r L hL];have := h.most;exact ⟨Jq.mk' h1 h2 h3 (by omega) hr, rfl⟩
theorem PS.tk_ok {P : PS} (h : P.Ok) (h0 : P.tk.2.1 = 0) : 1 <= P.tk.1 /\ P.tk.1 < P.most /\ 1 <= P.tk.2.2.1 /\ P.tk.2.2.1 <= P.most /\ P.tk.2.2.2 < P.tk.2.2.1 := by
 have hu := h.used;unfold PS.tk at h0 ⊢;by_cases hf : P.free = 0
 · rw [if_pos hf] at h0 ⊢;by_cases hm : P.most <= P.used
   · rw [if_pos hm] at h0; simp at h0
   · rw [if_neg hm]; simp only; omega
 · rw [if_neg hf] at h0 ⊢;by_cases hv : (P.view P.free).2 = 0
   · rw [if_pos hv] at h0 ⊢;cases hn : nxt P.used (P.view P.free).1 with
     | none => rw [hn] at h0; simp at h0
     | some n =>
       simp only;have : n < P.used := by
         unfold nxt at hn;split at hn
         · rename_i c; injection hn with hn; omega
         · cases hn
       omega
   · rw [if_neg hv] at h0;simp only at h0;omega
section
variable {w w' w2 w3 : World} {B Bp d p c : Nat} {P P' : PS}
theorem Ask.thenQ {c1 c2 q : Nat} (h : Ask w w2 B Bp d p c1 P) (k : Jn w2 w3 B Bp d p c2 q P') (hq : w.heap.size <= q) : Ask w w3 B Bp d p c2 P' := ⟨k.1, h.2.trans k.2 fun b hb hf => by
 rcases hf with e | hf
 · omega
 · by_cases c : Po.PT w Bp b
   · exact c
   · exact zDo (h.2.block b hb c) hf⟩
end
def PS.kd (k : Int) : Bool := decide (2 <= k) && decide (k <= 254)
def PS.alL (P : PS) (k : Int) : List (Nat × Pag) := [(0, (1, zJ P.tk.2.2.1 P.tk.2.2.2 P.root)), (P.tk.1, (k.toNat, ⟨#[]⟩))]
def PS.alE (P : PS) (k : Int) : Int := if PS.kd k then if P.s.down then 11 else if P.tk.2.1 = 0 then P.chgE (P.alL k) else P.tk.2.1 else 1
def PS.alN (P : PS) (k : Int) : Nat := if P.alE k = 0 then P.tk.1 else 0
def PS.al (P : PS) (k : Int) : PS := if PS.kd k then if P.s.down then P else if P.tk.2.1 = 0 then P.chg (P.alL k) else P else P
section
variable {w w' w2 w3 : World} {B Bp d p c : Nat} {P P' : PS}
theorem zFc (h : zF w B Bp d p c P) (k : Int) (hk : PS.kd k = false) : Calls Tryz.prog 20 #[.pointer (some ⟨p, 0, none⟩), .int .i64 k] w fun e w' => e = .returned (.tuple #[.int .i64 0, .int .i64 1]) /\ w = w' := by
 have HK := Lh (fun W => Qv k W);have e : (decide (2 <= k) && decide (k <= 254)) = false := hk;rw [e] at HK;clear e hk h;go_enter Tryz.func20, Tryz.ntmps20;go_wp2_with (go_at_call 84; refine (HK.out _).mono ?_; rintro e w3 ⟨rfl, rfl⟩)
 go_ret2;exact ⟨rfl, rfl⟩
theorem zEu (h : zF w B Bp d p c P) (k : Int) (hk : PS.kd k = true) (hd : P.s.down = true) : Calls Tryz.prog 20 #[.pointer (some ⟨p, 0, none⟩), .int .i64 k] w fun e w' => e = .returned (.tuple #[.int .i64 0, .int .i64 11]) /\ w = w' := by
 have HK := Lh (fun W => Qv k W);have e : (decide (2 <= k) && decide (k <= 254)) = true := hk;rw [e] at HK;have HD := Lh (jB h);rw [hd] at HD;obtain ⟨lg, lm, pl, ho⟩ := h.cells;obtain ⟨q1, q2, q3⟩ := ho.at_;clear e hk h hd ho;go_enter Tryz.func20, Tryz.ntmps20;go_wp2_with (first | (go_at_call 84; refine (HK.out _).mono ?_; rintro e w3 ⟨rfl, rfl⟩) | (go_at_call 76; refine HD.out.mono ?_; rintro e w2 ⟨rfl, rfl⟩))
 go_ret2;exact ⟨rfl, rfl⟩
set_option maxRecDepth 10000 in
set_option maxHeartbeats 1000000 in
theorem zJs (h : zF w B Bp d p c P) (k : Int) (hk : PS.kd k = true) (hd : P.s.down = false) (hc : c + 6 < 1000000) : Calls Tryz.prog 20 #[.pointer (some ⟨p, 0, none⟩), .int .i64 k] w fun e w' => e = .returned (.tuple #[.int .i64 (P.alN k : Int), .int .i64 (P.alE k)]) /\ Ask w w' B Bp d p (c + 6) (P.al k) := by
 have hok := h.ok;have HK := Lh (fun W => Qv k W);have e : (decide (2 <= k) && decide (k <= 254)) = true := hk;rw [e] at HK;have hk2 : 2 <= k /\ k <= 254 := by simpa using e
 have HD := Lh (jB h);rw [hd] at HD;have HH := mD h hd (by omega);unfold hV hC at HH;replace HH := Lh HH;obtain ⟨tn, te, tu, tf, htk⟩ : ∃ a b c d, P.tk = (a, b, c, d) := by
   rcases P.tk with ⟨a, b, c, d⟩
   exact ⟨a, b, c, d, rfl⟩
 have TKO := fun h0 => PS.tk_ok hok h0
 obtain ⟨r, hr⟩ : ∃ r, r = P.root := ⟨_, rfl⟩
 have hrl : ∀ i, r i < 18446744073709551616 := fun i => by rw [hr]; exact P.root_lt i
 have AL : P.alL k = [(0, (1, zJ tu tf r)), (tn, (k.toNat, ⟨#[]⟩))] := by unfold PS.alL; rw [htk, <- hr]
 have EE : P.alE k = (if P.tk.2.1 = 0 then P.chgE (P.alL k) else P.tk.2.1) /\ P.al k = if P.tk.2.1 = 0 then P.chg (P.alL k) else P := by unfold PS.alE PS.al; simp only [hk, hd, if_true, Bool.false_eq_true, if_false]; exact ⟨trivial, trivial⟩
 have EN : P.alN k = if P.alE k = 0 then P.tk.1 else 0 := rfl
 have TK : ∀ W, zF W B Bp d p (c + 2) P -> Calls Tryz.prog 86 #[.pointer (some ⟨p, 0, none⟩), .pointer (some ⟨W.heap.size, 0, none⟩)] (W.alloc (.cells (hC P.used P.free P.root) 133)) fun e w' => e = .returned (.tuple #[.int .i64 (P.tk.1 : Int), .int .i64 P.tk.2.1]) /\ Own w' W.heap.size 133 (hC P.tk.2.2.1 P.tk.2.2.2 P.root) /\ Jn (W.alloc (.cells (hC P.used P.free P.root) 133)) w' B Bp d p (c + 4) W.heap.size P := fun W hW => zHa (hW.below (zG W _ _)) hd (by omega) W.heap.size (Own.made W _ _)
 rw [htk] at EE EN TK TKO;rw [AL] at EE;simp only at EE EN TK TKO;replace EE := Lh EE;replace EN := Lh EN;replace TK := Lh TK;have CH := fun (h0 : te = 0) W (hW : zF W B Bp d p (c + 4) P) => fA (hW.below (zG W 131 #[.int .i64 0, .int .i64 1, .string (zJ tu tf r), .int .i64 (tn : Int), .int .i64 k, .string ⟨#[]⟩])) [(0, (1, zJ tu tf r)), (tn, (k.toNat, ⟨#[]⟩))] (by simp) (fun q hq => by
   obtain ⟨a1, a2, a3, a4, a5⟩ := TKO h0;simp only [List.mem_cons, List.not_mem_nil, or_false] at hq;rcases hq with rfl | rfl
   · exact ⟨by have := hok.most; simp only; omega, by simp, by simp, by simp only; rw [yO]; omega⟩
   · exact ⟨a2, by simp only; omega, by simp only; omega, Nat.zero_le _⟩) (by omega) (by
   obtain ⟨a1, a2, a3, a4, a5⟩ := TKO h0;exact Ub hok a3 a4 a5 r (fun i _ => hrl i) _ (fun q hq => by simp only [List.mem_singleton] at hq; subst hq; simp only; omega)) W.heap.size _ (Own.made W _ _) (fun i q hq => by
   have ek : ((k.toNat : Nat) : Int) = k := Int.toNat_of_nonneg (by omega);rcases i with _ | _ | i
   · simp only [List.getElem?_cons_zero, Option.some.injEq] at hq;subst hq;simp
   · simp only [List.getElem?_cons_succ, List.getElem?_cons_zero, Option.some.injEq] at hq;subst hq;simp [ek]
   · simp at hq)
 have HS : ∀ h0 : te = 0, ∀ W, Calls Tryz.prog 73 #[hV tu tf r] W fun e w' => e = .returned (shV 0 (1, zJ tu tf r)) /\ Below W.heap.size W w' := fun h0 W => by
   obtain ⟨a1, a2, a3, a4, a5⟩ := TKO h0;have := hok.most;exact qD _ _ _ W (by omega) (by omega) fun i _ => hrl i
 obtain ⟨lg, lm, pl, ho⟩ := h.cells;obtain ⟨q1, q2, q3⟩ := ho.at_;obtain ⟨u, hu⟩ : ∃ u, u = P.used := ⟨_, rfl⟩
 obtain ⟨f, hf⟩ : ∃ f, f = P.free := ⟨_, rfl⟩
 rw [<- hu, <- hf, <- hr] at HH TK;unfold hV hC at HS;unfold hC at TK;clear h hk hd e ho hu hf hr htk hok TKO AL hrl;by_cases h0 : te = 0
 · subst h0;replace CH := CH rfl;replace HS : ∀ W, Calls Tryz.prog 73 #[.agg #[.int .i64 (tu : Int), .int .i64 (tf : Int), .int .u64 (r 0 : Int), .int .u64 (r 1 : Int), .int .u64 (r 2 : Int), .int .u64 (r 3 : Int), .int .u64 (r 4 : Int), .int .u64 (r 5 : Int), .int .u64 (r 6 : Int), .int .u64 (r 7 : Int)]] W fun e w' => e = .returned (.agg #[.int .i64 0, .int .i64 1, .string (zJ tu tf r)]) /\ Below W.heap.size W w' := HS rfl
   replace HS := Lh HS;rw [if_pos rfl, if_pos rfl] at EE;rw [show ([(0, (1, zJ tu tf r)), (tn, (k.toNat, (⟨#[]⟩ : ByteArray)))] : List (Nat × Pag)).length = 2 from rfl] at CH;have ce := P.chgE [(0, (1, zJ tu tf r)), (tn, (k.toNat, (⟨#[]⟩ : ByteArray)))];have HCE : P.chgE [(0, (1, zJ tu tf r)), (tn, (k.toNat, (⟨#[]⟩ : ByteArray)))] = 0 \/ P.chgE [(0, (1, zJ tu tf r)), (tn, (k.toNat, (⟨#[]⟩ : ByteArray)))] = 10 := by
     unfold PS.chgE;split
     · exact .inl rfl
     · exact .inr rfl
   obtain ⟨P', hP'⟩ : ∃ P', P' = P.chg [(0, (1, zJ tu tf r)), (tn, (k.toNat, (⟨#[]⟩ : ByteArray)))] := ⟨_, rfl⟩
   obtain ⟨y, hy⟩ : ∃ y, y = P.chgE [(0, (1, zJ tu tf r)), (tn, (k.toNat, (⟨#[]⟩ : ByteArray)))] := ⟨_, rfl⟩
   rw [<- hP', <- hy] at EE CH;rw [<- hy] at HCE;replace CH := Lh CH;clear hk2 hP' hy ce;obtain ⟨hr, hhr⟩ : ∃ s, s = zJ tu tf r := ⟨_, rfl⟩
   rw [<- hhr] at CH HS;clear hhr;rcases HCE with rfl | rfl
   · have E2 : Hid (P.alN k = tn) := Lh (by rw [EN.out, EE.out.1, if_pos rfl]);go_enter Tryz.func20, Tryz.ntmps20;go_wp2_with (first | (go_at_call 84; refine (HK.out _).mono ?_; rintro e w3 ⟨rfl, rfl⟩) | (go_at_call 76; refine HD.out.mono ?_; rintro e w2 ⟨rfl, rfl⟩) | (go_at_call 85; refine HH.out.mono ?_; rintro e w2 ⟨rfl, hA⟩; have A2 := Lh hA; clear hA) | (go_at_call 86; refine (TK.out _ A2.out.1).mono ?_; rintro e w4 ⟨rfl, hq4, hA4⟩; have hA5 : Ask w w4 B Bp d p (c + 4) P := (A2.out.below (zG w2 _ _)).thenQ hA4 A2.out.2.size; have A4 := Lh hA5; clear hA4 hA5; obtain ⟨s1, s2, s3⟩ := hq4.at_; clear hq4) | (go_at_call 73; refine (HS.out _).mono ?_; rintro e w5 ⟨rfl, hb5⟩; have A5 := Lh (A4.out.below hb5); clear hb5) | (go_at_call 87; refine (CH.out _ A5.out.1).mono ?_; rintro e w6 ⟨rfl, hA6⟩; have hA7 : Ask w w6 B Bp d p (c + 6) P' := A5.out.then2 (Ask.from_ (zG w5 _ _) hA6); have A6 := Lh hA7; clear hA6 hA7))
     go_ret2;rw [EE.out.1, EE.out.2, E2.out];exact ⟨rfl, A6.out⟩
   · have E2 : Hid (P.alN k = 0) := Lh (by rw [EN.out, EE.out.1, if_neg (by decide)]);go_enter Tryz.func20, Tryz.ntmps20;go_wp2_with (first | (go_at_call 84; refine (HK.out _).mono ?_; rintro e w3 ⟨rfl, rfl⟩) | (go_at_call 76; refine HD.out.mono ?_; rintro e w2 ⟨rfl, rfl⟩) | (go_at_call 85; refine HH.out.mono ?_; rintro e w2 ⟨rfl, hA⟩; have A2 := Lh hA; clear hA) | (go_at_call 86; refine (TK.out _ A2.out.1).mono ?_; rintro e w4 ⟨rfl, hq4, hA4⟩; have hA5 : Ask w w4 B Bp d p (c + 4) P := (A2.out.below (zG w2 _ _)).thenQ hA4 A2.out.2.size; have A4 := Lh hA5; clear hA4 hA5; obtain ⟨s1, s2, s3⟩ := hq4.at_; clear hq4) | (go_at_call 73; refine (HS.out _).mono ?_; rintro e w5 ⟨rfl, hb5⟩; have A5 := Lh (A4.out.below hb5); clear hb5) | (go_at_call 87; refine (CH.out _ A5.out.1).mono ?_; rintro e w6 ⟨rfl, hA6⟩; have hA7 : Ask w w6 B Bp d p (c + 6) P' := A5.out.then2 (Ask.from_ (zG w5 _ _) hA6); have A6 := Lh hA7; clear hA6 hA7))
     go_ret2;rw [EE.out.1, EE.out.2, E2.out];exact ⟨rfl, A6.out⟩
 · rw [if_neg h0, if_neg h0] at EE;have h1 : (te != 0) = true := by rw [bne_iff_ne]; exact h0
   have E2 : Hid (P.alN k = 0) := Lh (by rw [EN.out, EE.out.1, if_neg h0]);clear CH HS hk2;go_enter Tryz.func20, Tryz.ntmps20;go_wp2_with (first | (go_at_call 84; refine (HK.out _).mono ?_; rintro e w3 ⟨rfl, rfl⟩) | (go_at_call 76; refine HD.out.mono ?_; rintro e w2 ⟨rfl, rfl⟩) | (go_at_call 85; refine HH.out.mono ?_; rintro e w2 ⟨rfl, hA⟩; have A2 := Lh hA; clear hA) | (go_at_call 86; refine (TK.out _ A2.out.1).mono ?_; rintro e w4 ⟨rfl, hq4, hA4⟩; have A4 := Lh hA4; clear hA4))
   go_ret2;rw [EE.out.1, EE.out.2, E2.out];exact ⟨rfl, ((A2.out.below (zG w2 _ _)).thenQ A4.out A2.out.2.size).more (by omega)⟩
theorem Ya (h : zF w B Bp d p c P) (k : Int) (hc : c + 6 < 1000000) : Calls Tryz.prog 20 #[.pointer (some ⟨p, 0, none⟩), .int .i64 k] w fun e w' => e = .returned (.tuple #[.int .i64 (P.alN k : Int), .int .i64 (P.alE k)]) /\ Ask w w' B Bp d p (c + 6) (P.al k) := by
 cases hk : PS.kd k with
 | false =>
   have e1 : P.alE k = 1 := by unfold PS.alE; simp only [hk, Bool.false_eq_true, if_false]
   have e2 : P.al k = P := by unfold PS.al; simp only [hk, Bool.false_eq_true, if_false]
   have e3 : P.alN k = 0 := by unfold PS.alN; rw [e1, if_neg (by decide)]
   rw [e1, e2, e3];refine (zFc h k hk).mono ?_;rintro e w' ⟨rfl, rfl⟩;exact ⟨rfl, (Ask.same h).more (by omega)⟩
 | true =>
   cases hd : P.s.down with
   | true =>
     have e1 : P.alE k = 11 := by unfold PS.alE; simp only [hk, hd, if_true]
     have e2 : P.al k = P := by unfold PS.al; simp only [hk, hd, if_true]
     have e3 : P.alN k = 0 := by unfold PS.alN; rw [e1, if_neg (by decide)]
     rw [e1, e2, e3];refine (zEu h k hk hd).mono ?_;rintro e w' ⟨rfl, rfl⟩;exact ⟨rfl, (Ask.same h).more (by omega)⟩
   | false => exact zJs h k hk hd hc
end
end
section
def PS.frL (P : PS) (n : Nat) : List (Nat × Pag) := [(0, (1, zJ P.used n P.root)), (n, (255, yY P.free))]
def PS.frE (P : PS) (n : Nat) : Int := if P.others (n : Int) then if (P.view n).2 = 0 then if (P.view n).1.1 = 255 then 6 else P.chgE (P.frL n) else ((P.view n).2 : Int) else 1
def PS.fre (P : PS) (n : Nat) : PS := if P.others (n : Int) then if (P.view n).2 = 0 then if (P.view n).1.1 = 255 then P else P.chg (P.frL n) else P else P
section
variable {w w' w2 w3 : World} {B Bp d p c : Nat} {P P' : PS}
theorem zMb (h : zF w B Bp d p c P) (no : Int) (ho : P.others no = false) (hc : c + 2 < 1000000) : Calls Tryz.prog 23 #[.pointer (some ⟨p, 0, none⟩), .int .i64 no] w fun e w' => e = .returned (.int .i64 1) /\ Ask w w' B Bp d p (c + 2) P := by
 have HO := Lh (Jd h no hc);rw [ho] at HO;clear h ho;go_enter Tryz.func23, Tryz.ntmps23;go_wp2_with (go_at_call 88; refine HO.out.mono ?_; rintro e w2 ⟨rfl, hA⟩)
 go_ret;exact ⟨rfl, hA⟩
set_option maxRecDepth 10000 in
set_option maxHeartbeats 1000000 in
theorem zMx (h : zF w B Bp d p c P) (n : Nat) (ho : P.others (n : Int) = true) (hc : c + 8 < 1000000) : Calls Tryz.prog 23 #[.pointer (some ⟨p, 0, none⟩), .int .i64 (n : Int)] w fun e w' => e = .returned (.int .i64 (P.frE n)) /\ Ask w w' B Bp d p (c + 8) (P.fre n) := by
 have hok := h.ok;have hno : 1 <= n /\ n < P.pages := by
   have : (1 : Int) <= (n : Int) /\ (n : Int) < (P.pages : Int) := by simpa [PS.others] using ho
   omega
 have hd : P.s.down = false := by
   cases e : P.s.down with
   | false => rfl
   | true =>
     have := hno.2;unfold PS.pages at this;rw [if_pos e] at this;omega
 have hpu : P.pages = P.used := by unfold PS.pages; rw [if_neg (by rw [hd]; simp)]
 have hm := hok.most;have hu := hok.used;have HO := Lh (Jd h (n : Int) (by omega));rw [ho] at HO;have FD : ∀ W, zF W B Bp d p (c + 2) P -> _ := fun W hW => mO hW hd n (by omega) (by omega)
 have HH : ∀ W, zF W B Bp d p (c + 4) P -> _ := fun W hW => mD hW hd (by omega)
 have EE : P.frE n = (if (P.view n).2 = 0 then if (P.view n).1.1 = 255 then 6 else P.chgE (P.frL n) else ((P.view n).2 : Int)) /\ P.fre n = if (P.view n).2 = 0 then if (P.view n).1.1 = 255 then P else P.chg (P.frL n) else P := by unfold PS.frE PS.fre; simp only [ho, if_true]; exact ⟨trivial, trivial⟩
 obtain ⟨r, hr⟩ : ∃ r, r = P.root := ⟨_, rfl⟩
 have hrl : ∀ i, r i < 18446744073709551616 := fun i => by rw [hr]; exact P.root_lt i
 obtain ⟨u, hu2⟩ : ∃ u, u = P.used := ⟨_, rfl⟩
 obtain ⟨f, hf2⟩ : ∃ f, f = P.free := ⟨_, rfl⟩
 have FL : P.frL n = [(0, (1, zJ u n r)), (n, (255, yY f))] := by unfold PS.frL; rw [<- hu2, <- hf2, <- hr]
 rw [FL] at EE;rw [<- hu2, <- hf2, <- hr] at HH;rw [<- hu2, <- hf2] at hu;rw [<- hu2] at hpu;have CH := fun W (hW : zF W B Bp d p (c + 6) P) => fA (hW.below (zG W 131 #[.int .i64 0, .int .i64 1, .string (zJ u n r), .int .i64 (n : Int), .int .i64 255, .string (yY f)])) [(0, (1, zJ u n r)), (n, (255, yY f))] (by simp) (fun q hq => by
   simp only [List.mem_cons, List.not_mem_nil, or_false] at hq;rcases hq with rfl | rfl
   · exact ⟨by simp only; omega, by simp, by simp, by simp only; rw [yO]; omega⟩
   · exact ⟨by simp only; omega, by simp, by simp, by simp only; rw [Jt]; omega⟩) (by omega) (Ub hok (by omega) (by omega) (by omega) r (fun i _ => hrl i) _ (fun q hq => by simp only [List.mem_singleton] at hq; subst hq; simp only; omega)) W.heap.size _ (Own.made W _ _) (fun i q hq => by
   rcases i with _ | _ | i
   · simp only [List.getElem?_cons_zero, Option.some.injEq] at hq;subst hq;simp
   · simp only [List.getElem?_cons_succ, List.getElem?_cons_zero, Option.some.injEq] at hq;subst hq;simp
   · simp at hq)
 rw [show ([(0, (1, zJ u n r)), (n, (255, yY f))] : List (Nat × Pag)).length = 2 from rfl] at CH;have HS : ∀ W, Calls Tryz.prog 73 #[.agg #[.int .i64 (u : Int), .int .i64 (n : Int), .int .u64 (r 0 : Int), .int .u64 (r 1 : Int), .int .u64 (r 2 : Int), .int .u64 (r 3 : Int), .int .u64 (r 4 : Int), .int .u64 (r 5 : Int), .int .u64 (r 6 : Int), .int .u64 (r 7 : Int)]] W fun e w' => e = .returned (.agg #[.int .i64 0, .int .i64 1, .string (zJ u n r)]) /\ Below W.heap.size W w' := fun W => qD u n r W (by omega) (by omega) fun i _ => hrl i
 have HF : ∀ W, Calls Tryz.prog 89 #[.int .i64 (n : Int), .int .i64 (f : Int)] W fun e w' => e = .returned (.agg #[.int .i64 (n : Int), .int .i64 255, .string (yY f)]) /\ Below W.heap.size W w' := fun W => zAw n f W (by omega)
 have HCE : P.chgE [(0, (1, zJ u n r)), (n, (255, yY f))] = 0 \/ P.chgE [(0, (1, zJ u n r)), (n, (255, yY f))] = 10 := by
   unfold PS.chgE;split
   · exact .inl rfl
   · exact .inr rfl
 obtain ⟨P', hP'⟩ : ∃ P', P' = P.chg [(0, (1, zJ u n r)), (n, (255, yY f))] := ⟨_, rfl⟩
 obtain ⟨y, hy⟩ : ∃ y, y = P.chgE [(0, (1, zJ u n r)), (n, (255, yY f))] := ⟨_, rfl⟩
 rw [<- hP', <- hy] at EE CH;rw [<- hy] at HCE;obtain ⟨v, hv⟩ : ∃ v, v = P.view n := ⟨_, rfl⟩
 rw [<- hv] at EE FD;unfold mY at FD;unfold hV hC at HH;obtain ⟨X, hX⟩ : ∃ X, X = zJ u n r := ⟨_, rfl⟩
 rw [<- hX] at CH HS;obtain ⟨Y, hY⟩ : ∃ Y, Y = yY f := ⟨_, rfl⟩
 rw [<- hY] at CH HF;replace CH := Lh CH;replace HS := Lh HS;replace HF := Lh HF;replace HH := Lh HH;clear hok hno hd hpu hm hu ho hr hrl hu2 hf2 FL hP' hy hv hX hY h HCE;by_cases h0 : v.2 = 0
 · rw [if_pos h0, if_pos h0] at EE;simp only [if_pos h0] at FD;rw [h0] at FD;obtain ⟨x, hx⟩ : ∃ x, x = v.1 := ⟨_, rfl⟩
   rw [<- hx] at EE FD;unfold shV at FD;have FDh := Lh FD;clear FD hx h0;by_cases h1 : x.1 = 255
   · rw [if_pos h1, if_pos h1] at EE;have t1 : (x.1 : Int) = 255 := by omega
     clear h1;go_enter Tryz.func23, Tryz.ntmps23;go_wp2_with (first | (go_at_call 88; refine HO.out.mono ?_; rintro e w2 ⟨rfl, hA⟩; have A2 := Lh hA; clear hA) | (go_at_call 82; refine (FDh.out _ A2.out.1).mono ?_; rintro e w3 ⟨rfl, hA⟩; have hA3 : Ask w w3 B Bp d p (c + 4) P := A2.out.then_ hA; have A3 := Lh hA3; clear hA hA3))
     go_ret;rw [EE.1, EE.2];exact ⟨rfl, (A3.out.below (zG w3 _ _)).more (by omega)⟩
   · rw [if_neg h1, if_neg h1] at EE;have t1 : ¬ (x.1 : Int) = 255 := by omega
     clear h1;go_enter Tryz.func23, Tryz.ntmps23;go_wp2_with (first | (go_at_call 88; refine HO.out.mono ?_; rintro e w2 ⟨rfl, hA⟩; have A2 := Lh hA; clear hA) | (go_at_call 82; refine (FDh.out _ A2.out.1).mono ?_; rintro e w3 ⟨rfl, hA⟩; have hA3 : Ask w w3 B Bp d p (c + 4) P := A2.out.then_ hA; have A3 := Lh hA3; clear hA hA3) | (go_at_call 85; refine (HH.out _ (A3.out.1.below (zG w3 _ _))).mono ?_; rintro e w4 ⟨rfl, hA⟩; have hA4 : Ask w w4 B Bp d p (c + 6) P := (A3.out.below (zG w3 _ _)).then_ hA; have A4 := Lh hA4; have S4 := Lh (yZ hA.2 (Own.made w3 131 #[.int .i64 (n : Int), .int .i64 (x.1 : Int), .string x.2]) (by decide) (by decide)); clear hA hA4) | (go_at_call 73; refine (HS.out _).mono ?_; rintro e w5 ⟨rfl, hb5⟩; have hA5 : Ask w w5 B Bp d p (c + 6) P := (A4.out.below (zG w4 _ _)).below hb5; have A5 := Lh hA5; clear hA5 hb5) | (go_at_call 89; refine (HF.out _).mono ?_; rintro e w6 ⟨rfl, hb6⟩; have A6 := Lh (A5.out.below hb6); clear hb6) | (go_at_call 87; refine (CH.out _ A6.out.1).mono ?_; rintro e w7 ⟨rfl, hA⟩; have hA7 : Ask w w7 B Bp d p (c + 8) P' := A6.out.then2 (Ask.from_ (zG w6 _ _) hA); have A7 := Lh hA7; clear hA hA7))
     go_ret;rw [EE.1, EE.2];exact ⟨rfl, A7.out⟩
 · rw [if_neg h0, if_neg h0] at EE;simp only [if_neg h0] at FD;obtain ⟨z, hz⟩ : ∃ z, z = v.2 := ⟨_, rfl⟩
   rw [<- hz] at EE FD h0;have h1 : ¬ (z : Int) = 0 := by omega
   have h2 : ((z : Int) != 0) = true := by rw [bne_iff_ne]; exact h1
   unfold fR at FD;have FDh := Lh FD;clear FD hz;go_enter Tryz.func23, Tryz.ntmps23;go_wp2_with (first | (go_at_call 88; refine HO.out.mono ?_; rintro e w2 ⟨rfl, hA⟩; have A2 := Lh hA; clear hA) | (go_at_call 82; refine (FDh.out _ A2.out.1).mono ?_; rintro e w3 ⟨rfl, hA⟩; have hA3 : Ask w w3 B Bp d p (c + 4) P := A2.out.then_ hA; have A3 := Lh hA3; clear hA hA3))
   go_ret;rw [EE.1, EE.2];exact ⟨rfl, (A3.out.below (zG w3 _ _)).more (by omega)⟩
end
end
section
def upR (r : Nat -> Nat) (i n : Nat) : Nat -> Nat := fun k => if k = i then n else r k
theorem zNe (u f : Nat) (r : Nat -> Nat) {i : Nat} (h : i < 8) (n : Nat) : (hC u f r).setIfInBounds (2 + i) (.int .u64 (n : Int)) = hC u f (upR r i n) := by
 rcases Xk h with rfl | rfl | rfl | rfl | rfl | rfl | rfl | rfl <;> rfl
def PS.srL (P : PS) (i n : Nat) : List (Nat × Pag) := [(0, (1, zJ P.used P.free (upR P.root i n)))]
section
variable {w w' w2 w3 : World} {B Bp d p c : Nat} {P P' : PS}
theorem Vk (p : Nat) (i n : Int) (hi : i < 0 \/ 8 <= i) (w : World) : Calls Tryz.prog 24 #[.pointer (some ⟨p, 0, none⟩), .int .i64 i, .int .u64 n] w fun e w' => e = .returned (.int .i64 1) /\ Below w.heap.size w w' := by
 have HR := Lh (zE3 p i hi w);unfold zH at HR;go_enter Tryz.func24, Tryz.ntmps24;go_wp2_with (go_at_call 90; refine HR.out.mono ?_; rintro e w2 ⟨rfl, hb⟩)
 go_ret;exact ⟨rfl, hb.alloc hb.size _⟩
theorem zBr (h : zF w B Bp d p c P) (hd : P.s.down = true) (i : Nat) (hi : i < 8) (n : Int) : Calls Tryz.prog 24 #[.pointer (some ⟨p, 0, none⟩), .int .i64 (i : Int), .int .u64 n] w fun e w' => e = .returned (.int .i64 11) /\ Below w.heap.size w w' := by
 have HR := Lh (Vi h hd i hi);unfold zH at HR;clear h hd;go_enter Tryz.func24, Tryz.ntmps24;go_wp2_with (go_at_call 90; refine HR.out.mono ?_; rintro e w2 ⟨rfl, hb⟩)
 go_ret;exact ⟨rfl, hb.alloc hb.size _⟩
set_option maxRecDepth 10000 in
set_option maxHeartbeats 1000000 in
theorem zFg (h : zF w B Bp d p c P) (hd : P.s.down = false) (i : Nat) (hi : i < 8) (n : Nat) (hn : n < 18446744073709551616) (hc : c + 4 < 1000000) : Calls Tryz.prog 24 #[.pointer (some ⟨p, 0, none⟩), .int .i64 (i : Int), .int .u64 (n : Int)] w fun e w' => e = .returned (.int .i64 (P.chgE (P.srL i n))) /\ Ask w w' B Bp d p (c + 4) (P.chg (P.srL i n)) := by
 have hok := h.ok;have hm := hok.most;have hu := hok.used;have HR := Zu h hd i hi (by omega);obtain ⟨r, hr⟩ : ∃ r, r = P.root := ⟨_, rfl⟩
 have hrl : ∀ j, upR r i n j < 18446744073709551616 := fun j => by
   unfold upR;split
   · exact hn
   · rw [hr]; exact P.root_lt j
 obtain ⟨u, hu2⟩ : ∃ u, u = P.used := ⟨_, rfl⟩
 obtain ⟨f, hf2⟩ : ∃ f, f = P.free := ⟨_, rfl⟩
 have FL : P.srL i n = [(0, (1, zJ u f (upR r i n)))] := by unfold PS.srL; rw [<- hu2, <- hf2, <- hr]
 rw [FL];rw [<- hu2, <- hf2, <- hr] at HR;rw [<- hu2, <- hf2] at hu;have CH := fun W (hW : zF W B Bp d p (c + 2) P) => fA (hW.below (zG W 131 #[.int .i64 0, .int .i64 1, .string (zJ u f (upR r i n))])) [(0, (1, zJ u f (upR r i n)))] (by simp) (fun q hq => by
   simp only [List.mem_singleton] at hq;subst hq;exact ⟨by simp only; omega, by simp, by simp, by simp only; rw [yO]; omega⟩) (by omega) (Ub hok (by omega) (by omega) (by omega) _ (fun j _ => hrl j) [] (fun q hq => by simp at hq)) W.heap.size _ (Own.made W _ _) (fun j q hq => by
   rcases j with _ | j
   · simp only [List.getElem?_cons_zero, Option.some.injEq] at hq;subst hq;simp
   · simp at hq)
 rw [show ([(0, (1, zJ u f (upR r i n)))] : List (Nat × Pag)).length = 1 from rfl] at CH;have HS : ∀ W, Calls Tryz.prog 73 #[hV u f (upR r i n)] W fun e w' => e = .returned (.agg #[.int .i64 0, .int .i64 1, .string (zJ u f (upR r i n))]) /\ Below W.heap.size W w' := fun W => qD u f (upR r i n) W (by omega) (by omega) fun j _ => hrl j
 obtain ⟨P', hP'⟩ : ∃ P', P' = P.chg [(0, (1, zJ u f (upR r i n)))] := ⟨_, rfl⟩
 obtain ⟨y, hy⟩ : ∃ y, y = P.chgE [(0, (1, zJ u f (upR r i n)))] := ⟨_, rfl⟩
 rw [<- hP', <- hy];rw [<- hP', <- hy] at CH;obtain ⟨X, hX⟩ : ∃ X, X = zJ u f (upR r i n) := ⟨_, rfl⟩
 rw [<- hX] at CH HS;have HC := Lh (fun n => zNe u f r hi n);have HV := Lh (show hC u f r = #[.int .i64 (u : Int), .int .i64 (f : Int), .int .u64 (r 0 : Int), .int .u64 (r 1 : Int), .int .u64 (r 2 : Int), .int .u64 (r 3 : Int), .int .u64 (r 4 : Int), .int .u64 (r 5 : Int), .int .u64 (r 6 : Int), .int .u64 (r 7 : Int)] from rfl);replace CH := Lh CH;obtain ⟨r2, hr2⟩ : ∃ r2, r2 = upR r i n := ⟨_, rfl⟩
 rw [<- hr2] at HS;have HC2 : Hid ((hC u f r).setIfInBounds (2 + i) (.int .u64 (n : Int)) = hC u f r2) := Lh (by rw [hr2]; exact zNe u f r hi n);unfold hV hC at HR HS;replace HR := Lh HR;replace HS := Lh HS;clear h hd hok hm hu hr hrl hu2 hf2 FL hP' hy hX hr2 HC hn;go_enter Tryz.func24, Tryz.ntmps24;go_upto_region 4 with (go_at_call 90; refine HR.out.mono ?_; rintro e w2 ⟨rfl, hA⟩; have A2 := Lh hA; clear hA)
 have O2 := Own.made w2 133 (hC u f r);have A3 := Lh (A2.out.below (zG w2 133 (hC u f r)));rw [HV.out] at O2 A3;have zz : w.heap.size <= w2.heap.size := A2.out.2.size;go_name_world W3 hW3;rw [hW3] at O2 A3;clear hW3;have O4 := O2.put (2 + i) (.int .u64 (n : Int));have A4 : Ask w (W3.setCell ⟨w2.heap.size, 2 + i, none⟩ (.int .u64 (n : Int))) B Bp d p (c + 2) P := ⟨A3.out.1.cell O2 (by unfold PgT; decide) (by simp) _ _, A3.out.2.set ⟨_, 2 + i, none⟩ (.inr zz) _⟩
 rw [<- HV.out, HC2.out] at O4;unfold hC at O4;replace A4 := Lh A4;obtain ⟨o1, o2, o3⟩ := O2.at_;have hx : W3.cell? ⟨w2.heap.size, 2 + i, none⟩ = some (.int .u64 (r i : Int)) := by rw [o1, <- HV.out, zKy u f r hi]
 have hy := o2 (2 + i);clear o1 o2;go_upto_region 5 with fail;go_name_world W4 hW4;rw [hW4] at O4 A4;clear hW4 hx hy o3 HV HC2;obtain ⟨o1, o2, o3⟩ := O4.at_;go_wp2_with (first | (go_at_call 73; refine (HS.out _).mono ?_; rintro e w5 ⟨rfl, hb5⟩; have A5 := Lh (A4.out.below hb5); clear hb5) | (go_at_call 87; refine (CH.out _ A5.out.1).mono ?_; rintro e w7 ⟨rfl, hA⟩; have hA7 : Ask w w7 B Bp d p (c + 4) P' := A5.out.then2 (Ask.from_ (zG w5 _ _) hA); have A7 := Lh hA7; clear hA hA7))
 go_ret;exact ⟨rfl, A7.out⟩
end
end
end Go.Proofs.YthijgebmoadgkaaGreatDoor
