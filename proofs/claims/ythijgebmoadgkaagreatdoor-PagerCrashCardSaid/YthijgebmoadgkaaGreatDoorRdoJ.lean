import Derived.Test.YthijgebmoadgkaaGreatDoorRdoG
import Derived.Laws.EntriesVeiled
set_option linter.unusedVariables false
set_option linter.unusedSimpArgs false
namespace Go.Proofs.YthijgebmoadgkaaGreatDoor
open Go.ChangeShapes Go.WideShapes Go.ChangeAt Go.RowKit
section
abbrev Dop := Option (Nat × ByteArray)
def uA (n : Nat) (s : St) : Dop -> Int × St
 | some (i, t) => xC n s (i : Int) t
 | none => xQ s
def xA (n : Nat) (x : Int × St) (o : Dop) : Int × St := if x.1 = 0 then uA n x.2 o else x
def zP (n : Nat) (ops : List Dop) (x : Int × St) : Int × St := ops.foldl (xA n) x
theorem zJm (n : Nat) (s : St) (o : Dop) : (uA n s o).2.wr.length <= s.wr.length + 1 := by
 have hb := (Qr s).1;cases o with
 | none =>
   show (xQ s).2.wr.length <= _
   unfold xQ;split
   · exact Nat.le_succ _
   · split
     · exact Nat.zero_le _
     · rw [hb]; exact Nat.le_succ _
 | some x =>
   obtain ⟨i, t⟩ := x;show (xC n s (i : Int) t).2.wr.length <= _
   unfold xC;split
   · exact Nat.le_succ _
   · split
     · exact Nat.le_succ _
     · split
       · simp
       · rw [hb]; exact Nat.le_succ _
theorem zAj (n : Nat) (x : Int × St) (o : Dop) : (xA n x o).2.wr.length <= x.2.wr.length + 1 := by
 unfold xA; split
 · exact zJm n x.2 o
 · exact Nat.le_succ _
theorem vE (n : Nat) : ∀ (ops : List Dop) (x : Int × St), (zP n ops x).2.wr.length <= x.2.wr.length + ops.length
 | [], x => Nat.le_refl _
 | o :: ops, x => by
   have h1 := zAj n x o;have h2 := vE n ops (xA n x o);show (zP n ops (xA n x o)).2.wr.length <= x.2.wr.length + (ops.length + 1)
   omega
theorem mP (n : Nat) (ops : List Dop) (o : Dop) (x : Int × St) : zP n (ops ++ [o]) x = xA n (zP n ops x) o := by simp [zP]
theorem jI (n : Nat) (a b : List Dop) (x : Int × St) : zP n (a ++ b) x = zP n b (zP n a x) := by simp [zP]
section
variable {w : World} {lg pl pe pf b4 b5 d sb mb sc : Nat} {wv : Value} {N : Nat} {s : St} {l : yH}
set_option maxRecDepth 10000 in
set_option maxHeartbeats 1000000 in
theorem zLp (hL : yA w lg d l) (hk : l.Ok) (hP : Own w pl 139 #[.pointer (some ⟨lg, 0, none⟩)]) (at_ : Nat) (t : ByteArray) (h4 : Own w b4 3 #[.int .i64 (at_ : Int)]) (h5 : Own w b5 9 #[.string t])
   (hD : zI w d sb mb sc wv N s) (hat : at_ <= 1000000) (ht : t.size <= maxLen) (hl : s.wr.length < 1000000) (hap : ∀ q, fp d sb mb wv q -> q ≠ lg /\ q ≠ pl /\ q ≠ b4 /\ q ≠ b5) :
   Calls Tryz.prog 332 #[.pointer (some ⟨pl, 0, none⟩), .pointer (some ⟨b4, 0, none⟩), .pointer (some ⟨b5, 0, none⟩)] w fun e w' => e = .returned (.int .i64 (xC N s ((l.from_ + l.used + at_ : Nat) : Int) t).1) /\ Qb w w' d sb mb sc wv N (xC N s ((l.from_ + l.used + at_ : Nat) : Int) t).2 := by
 have h1 := hk.used;have h2 := hk.fit;have HW := Lh (zAg (hD.below (Below.refl w.heap.size w).drew) ((l.from_ + l.used + at_ : Nat) : Int) t (gM (by omega) (by omega)) ht hl);obtain ⟨fr, sz, us, nx, fl⟩ := l;unfold yA yH.cells at hL;simp only at hL h1 h2 HW;have e1 : ((fr + us + at_ : Nat) : Int) = (fr : Int) + (us : Int) + (at_ : Int) := by omega
 rw [e1] at HW ⊢;clear e1;have HL := Lh hL;have HP := Lh hP;have H4 := Lh h4;have H5 := Lh h5;clear hL hP h4 h5 hD hk;go_enter Tryz.func332, Tryz.ntmps332;go_upto_region 1 with fail;refine zA (fun W => Own W lg 246 #[.pointer (some ⟨d, 0, none⟩), .int .i64 (fr : Int), .int .i64 (sz : Int), .int .i64 (us : Int), .int .u64 (nx : Int), .bool fl] /\ Own W pl 139 #[.pointer (some ⟨lg, 0, none⟩)] /\ Own W b4 3 #[.int .i64 (at_ : Int)] /\ Own W b5 9 #[.string t]) (0 :: 1 :: 2 :: 3 :: 4 :: 5 :: 6 :: 7 :: 8 :: 9 :: 10 :: 11 :: 12 :: 13 :: 14 :: 15 :: 17 :: []) (0 :: 3 :: 4 :: 7 :: 8 :: 11 :: 13 :: 15 :: []) (0 :: 1 :: 2 :: 3 :: 4 :: 5 :: 6 :: 7 :: 8 :: 9 :: 10 :: 11 :: 12 :: 13 :: 14 :: 15 :: 16 :: 17 :: []) (by kernel_rfl) (by kernel_rfl) rfl (by kernel_rfl) rfl (⟨HL.out, HP.out, H4.out, H5.out⟩) (by simp only [zU, List.filterMap_cons, List.filterMap_nil, List.getElem?_cons_zero, List.getElem?_cons_succ, Option.map_some]; exact rfl) ?_;iterate 16
   refine zC (v := ?_) rfl rfl (fun W hS => ?_) ?_;rotate_left
   · first
       | (conv => lhs; simp [go_sem]
          first | done | exact rfl)
       | (have hS := hS rfl
          obtain ⟨q1, q2, q3, q4⟩ := hS;obtain ⟨q1, q5, q6⟩ := Own.at_ q1;obtain ⟨q2, q7, q8⟩ := Own.at_ q2;obtain ⟨q3, q9, qa⟩ := Own.at_ q3;obtain ⟨q4, qb, qc⟩ := Own.at_ q4;conv => lhs; simp [go_sem, *]
          first | done | exact rfl)
   simp only [Act.put, lA, lZ, lS]
 refine zQ rfl rfl fun K hK => ?_
 go_wp2_with fail;refine HW.out.mono ?_;rintro e w2 ⟨rfl, wv2, hd2, hc2, hw2⟩;go_wp2;have a1 : Own w2 lg 246 _ := hc2.own HL.out fun h => (hap _ h).1 rfl
 have a2 : Own w2 pl 139 _ := hc2.own HP.out fun h => (hap _ h).2.1 rfl
 have a3 : Own w2 b4 3 _ := hc2.own H4.out fun h => (hap _ h).2.2.1 rfl
 have a4 : Own w2 b5 9 _ := hc2.own H5.out fun h => (hap _ h).2.2.2 rfl
 refine hK _ _ ⟨a1, a2, a3, a4⟩ ?_;clear hK K;iterate 1
   refine zC (v := ?_) rfl rfl (fun W hS => ?_) ?_;rotate_left
   · conv => lhs; simp [go_sem]
     first | done | exact rfl
   simp only [Act.put, lA, lZ, lS]
 refine zR ?_;go_wp2;go_ret;exact ⟨rfl, wv2, hd2, (Chg.refl _ w).drew.same hc2, hw2⟩
end
end
section
section
variable {w : World} {lg pl pe pf b4 b5 d sb mb sc : Nat} {wv : Value} {N : Nat} {s : St} {l : yH}
set_option maxRecDepth 10000 in
theorem zNk (a : Value) (e0 : Int) (hE : Own w pe 26 #[.int .i64 e0]) (h0 : e0 ≠ 0) : Calls Tryz.prog 330 #[a, .pointer (some ⟨pe, 0, none⟩)] w fun e w' => e = .returned (.tuple #[]) /\ w = w' := by
 have t0 : (e0 == 0) = false := by simpa using h0
 obtain ⟨o1, o2, o3⟩ := hE.at_;clear hE h0;go_enter Tryz.func330, Tryz.ntmps330;go_wp2;go_end0
 exact ⟨rfl, rfl⟩
set_option maxRecDepth 10000 in
theorem zNz (R : World -> Int -> Prop) (hE : Own w pe 26 #[.int .i64 0])
   (HC : Calls Tryz.prog 332 #[.pointer (some ⟨pl, 0, none⟩), .pointer (some ⟨b4, 0, none⟩), .pointer (some ⟨b5, 0, none⟩)] w fun e w' => ∃ c : Int, e = .returned (.int .i64 c) /\ R w' c /\ Own w' pe 26 #[.int .i64 0]) :
   Calls Tryz.prog 330 #[.func (.func 332) #[] #[.pointer (some ⟨pl, 0, none⟩), .pointer (some ⟨b4, 0, none⟩), .pointer (some ⟨b5, 0, none⟩)], .pointer (some ⟨pe, 0, none⟩)] w fun e w' => e = .returned (.tuple #[]) /\ ∃ w1 c, R w1 c /\ Own w1 pe 26 #[.int .i64 0] /\ w' = w1.setCell ⟨pe, 0, none⟩ (.int .i64 c) := by
 have HC := Lh HC;obtain ⟨o1, o2, o3⟩ := hE.at_;clear hE;go_enter Tryz.func330, Tryz.ntmps330;go_wp2_with fail;refine HC.out.mono ?_;rintro e w1 ⟨c, rfl, hR, hE1⟩;have HE1 := Lh hE1;obtain ⟨o4, o5, o6⟩ := hE1.at_;clear hE1;go_wp2;go_end0
 exact ⟨rfl, w1, c, hR, HE1.out, rfl⟩
set_option maxRecDepth 10000 in
theorem zJr (R : World -> Int -> Prop) (hE : Own w pe 26 #[.int .i64 0])
   (HC : Calls Tryz.prog 154 #[.pointer (some ⟨d, 0, none⟩)] w fun e w' => ∃ c : Int, e = .returned (.int .i64 c) /\ R w' c /\ Own w' pe 26 #[.int .i64 0]) :
   Calls Tryz.prog 330 #[.func (.func 154) #[.pointer (some ⟨d, 0, none⟩)] #[], .pointer (some ⟨pe, 0, none⟩)] w fun e w' => e = .returned (.tuple #[]) /\ ∃ w1 c, R w1 c /\ Own w1 pe 26 #[.int .i64 0] /\ w' = w1.setCell ⟨pe, 0, none⟩ (.int .i64 c) := by
 have HC := Lh HC;obtain ⟨o1, o2, o3⟩ := hE.at_;clear hE;go_enter Tryz.func330, Tryz.ntmps330;go_wp2_with fail;refine HC.out.mono ?_;rintro e w1 ⟨c, rfl, hR, hE1⟩;have HE1 := Lh hE1;obtain ⟨o4, o5, o6⟩ := hE1.at_;clear hE1;go_wp2;go_end0
 exact ⟨rfl, w1, c, hR, HE1.out, rfl⟩
def zK (w w' : World) (pe d sb mb sc : Nat) (wv : Value) (N : Nat) (x : Int × St) : Prop :=
 ∃ wv', zI w' d sb mb sc wv' N x.2 /\ Own w' pe 26 #[.int .i64 x.1] /\ Chg (fun q => fp d sb mb wv q \/ q = pe) w w' /\ (wv'.ownBlock = wv.ownBlock \/ wv'.ownBlock = none \/ ∃ g, wv'.ownBlock = some g /\ w.heap.size <= g)
theorem zK.set {w w1 : World} {c : Int} {x : St} (hE : Own w1 pe 26 #[.int .i64 0]) (wv' : Value) (hD : zI w1 d sb mb sc wv' N x) (hc : Chg (fp d sb mb wv) w w1) (hv : wv'.ownBlock = wv.ownBlock \/ wv'.ownBlock = none \/ ∃ g, wv'.ownBlock = some g /\ w.heap.size <= g) (hpe : ¬ fp d sb mb wv pe) (hlt : pe < w.heap.size) :
   zK w (w1.setCell ⟨pe, 0, none⟩ (.int .i64 c)) pe d sb mb sc wv N (c, x) := by
 have hc2 := yT w1 pe 0 (.int .i64 c);refine ⟨wv', hD.keep hc2 fun q hq e => ?_, Own.put hE 0 _, (hc.mono fun q _ h => .inl h).same (hc2.mono fun q _ h => .inr h), hv⟩;subst e;rcases hq with h | h | h | h
 · exact hpe (.inl h)
 · exact hpe (.inr (.inl h))
 · exact hpe (.inr (.inr (.inl h)))
 · rcases hv with hv | hv | ⟨g, hv, hg⟩
   · exact hpe (.inr (.inr (.inr (hv ▸ h))))
   · rw [hv] at h; cases h
   · rw [hv] at h; injection h with h; omega
theorem zK.same {w : World} {x : Int × St} (hD : zI w d sb mb sc wv N x.2) (hE : Own w pe 26 #[.int .i64 x.1]) : zK w w pe d sb mb sc wv N x := ⟨wv, hD, hE, Chg.refl _ _, .inl rfl⟩
set_option maxRecDepth 10000 in
set_option maxHeartbeats 1000000 in
theorem put_any (x : Int × St) (hL : yA w lg d l) (hk : l.Ok) (hP : Own w pl 139 #[.pointer (some ⟨lg, 0, none⟩)]) (hF : Own w pf 234 #[.func (.func 330) #[] #[.pointer (some ⟨pe, 0, none⟩)]]) (hE : Own w pe 26 #[.int .i64 x.1])
   (hD : zI w d sb mb sc wv N x.2) (at_ : Nat) (t : ByteArray) (hat : at_ <= 1000000) (ht : t.size <= maxLen) (hl : x.2.wr.length < 1000000) (hap : ∀ q, fp d sb mb wv q -> q ≠ lg /\ q ≠ pl /\ q ≠ pf /\ q ≠ pe) (hne : lg ≠ pe /\ pl ≠ pe) :
   Calls Tryz.prog 331 #[.int .i64 (at_ : Int), .string t, .pointer (some ⟨pf, 0, none⟩), .pointer (some ⟨pl, 0, none⟩)] w fun e w' => e = .returned (.tuple #[]) /\ zK w w' pe d sb mb sc wv N (xA N x (some (l.from_ + l.used + at_, t))) := by
 obtain ⟨x1, x2⟩ := x;simp only at hE hD hl;obtain ⟨o1, o2, o3⟩ := hF.at_;have zD : ∀ q, fp d sb mb wv q -> q < w.heap.size := fun q hq => hD.in_ hq
 have HL := Lh hL;have HK := Lh hk;have HP := Lh hP;have HF := Lh hF;have HE := Lh hE;have HD := Lh hD;have ZD := Lh zD;clear hL hk hP hF hE hD zD;go_enter Tryz.func331, Tryz.ntmps331;go_wp2_with fail;have O4 : Own ((w.alloc (.cells #[.int .i64 (at_ : Int)] 3)).alloc (.cells #[.string t] 9)) w.heap.size 3 #[.int .i64 (at_ : Int)] := (Own.made w _ _).more _;have O5 : Own ((w.alloc (.cells #[.int .i64 (at_ : Int)] 3)).alloc (.cells #[.string t] 9)) (w.heap.size + 1) 9 #[.string t] := Own.made_at (by simp);have B0 : Below w.heap.size w ((w.alloc (.cells #[.int .i64 (at_ : Int)] 3)).alloc (.cells #[.string t] 9)) := ((Below.refl _ _).alloc (Nat.le_refl _) _).alloc (by simp) _;obtain ⟨W0, hW0⟩ : ∃ W0, W0 = (w.alloc (.cells #[.int .i64 (at_ : Int)] 3)).alloc (.cells #[.string t] 9) := ⟨_, rfl⟩
 rw [<- hW0] at O4 O5 B0 ⊢;clear hW0;have E0 : Own W0 pe 26 #[.int .i64 x1] := HE.out.keep B0;have D0 := HD.out.below B0;have hz := B0.size;by_cases h0 : x1 = 0
 · subst h0;have hd0 : ∀ q, fp d sb mb wv q -> q ≠ lg /\ q ≠ pl /\ q ≠ w.heap.size /\ q ≠ w.heap.size + 1 := fun q hq => by
     have h1 := hap q hq;have h2 := ZD.out q hq;exact ⟨h1.1, h1.2.1, by omega, by omega⟩
   have HS := zLp (show yA W0 lg d l from Own.keep HL.out B0) HK.out (HP.out.keep B0) at_ t O4 O5 D0 hat ht hl hd0;have hpe : ¬ fp d sb mb wv pe := fun h => (hap pe h).2.2.2 rfl
   have hpl := HE.out.in_;refine (zNz (fun w' c => ∃ wv', zI w' d sb mb sc wv' N (xC N x2 ((l.from_ + l.used + at_ : Nat) : Int) t).2 /\ Chg (fp d sb mb wv) W0 w' /\ (wv'.ownBlock = wv.ownBlock \/ ∃ g, wv'.ownBlock = some g /\ W0.heap.size <= g) /\ c = (xC N x2 ((l.from_ + l.used + at_ : Nat) : Int) t).1) E0 (HS.mono ?_)).mono ?_
   · rintro e w2 ⟨rfl, wv2, hd2, hc2, hw2⟩;exact ⟨_, rfl, ⟨wv2, hd2, hc2, hw2, rfl⟩, hc2.own E0 hpe⟩
   · rintro e w2 ⟨rfl, w1, c, ⟨wv2, hd2, hc2, hw2, rfl⟩, hE1, rfl⟩;have HX : zK w _ pe d sb mb sc wv N ((xC N x2 ((l.from_ + l.used + at_ : Nat) : Int) t).1, (xC N x2 ((l.from_ + l.used + at_ : Nat) : Int) t).2) :=
       zK.set hE1 wv2 hd2 ((Chg.of B0).same hc2) (hw2.imp_right fun ⟨g, h1, h2⟩ => .inr ⟨g, h1, by omega⟩) hpe hpl
     replace HX := Lh HX;clear HS hd0 hd2 hc2 hw2 hE1;go_wp2;go_end0
     exact ⟨rfl, HX.out⟩
 · refine (zNk _ x1 E0 h0).mono ?_;rintro e w2 ⟨rfl, rfl⟩;have e1 : xA N (x1, x2) (some (l.from_ + l.used + at_, t)) = (x1, x2) := by unfold xA; rw [if_neg h0]
   replace e1 := Lh e1;replace B0 := Lh B0;clear h0;go_wp2;go_end0
   refine ⟨rfl, ?_⟩;rw [e1.out];exact ⟨wv, D0, E0, Chg.of B0.out, .inl rfl⟩
end
end
section
def uB (base k : Nat) (p : ByteArray) (j : Nat) : List Dop := (List.range j).map fun i => some (base + (1 + 9 * k + i), secB p i)
theorem zD8 (base k : Nat) (p : ByteArray) (j : Nat) : uB base k p (j + 1) = uB base k p j ++ [some (base + (1 + 9 * k + j), secB p j)] := by simp [uB, List.range_succ]
def uH (base : Nat) (ps : List ByteArray) (k : Nat) : List Dop := (List.range k).flatMap fun j => uB base j (ps.getD j ⟨#[]⟩) 9
theorem zFb (base : Nat) (ps : List ByteArray) (k : Nat) (p : ByteArray) (hp : ps[k]? = some p) : uH base ps (k + 1) = uH base ps k ++ uB base k p 9 := by
 simp [uH, List.range_succ, List.getD_eq_getElem?_getD, hp]
theorem Uf (base : Nat) (ps : List ByteArray) (k : Nat) : (uH base ps k).length = 9 * k := by
 induction k with
 | zero => rfl
 | succ k ih =>
   have e : uH base ps (k + 1) = uH base ps k ++ uB base k (ps.getD k ⟨#[]⟩) 9 := by simp [uH, List.range_succ]
   rw [e, List.length_append, ih];simp [uB];omega
def yB (base : Nat) (ps : List ByteArray) (seq : Nat) : List Dop := uH base ps ps.length ++ [none, some (base, yN seq ps.length), none]
section
variable {w w0 w1 w2 : World} {lg pl pe pf d sb mb sc : Nat} {wv wv1 : Value} {N : Nat} {s : St} {l : yH} {x y : Int × St}
theorem zK.then_ (h1 : zI w1 d sb mb sc wv1 N x.2) (hc : Chg (fun q => fp d sb mb wv q \/ q = pe) w0 w1) (hv : wv1.ownBlock = wv.ownBlock \/ wv1.ownBlock = none \/ ∃ g, wv1.ownBlock = some g /\ w0.heap.size <= g)
   (h2 : zK w1 w2 pe d sb mb sc wv1 N y) : zK w0 w2 pe d sb mb sc wv N y := by
 obtain ⟨wv2, hD2, hE2, hc2, hv2⟩ := h2;have hz := hc.size;refine ⟨wv2, hD2, hE2, hc.trans hc2 fun q hq h => ?_, ?_⟩
 · rcases h with (h | h | h | h) | h
   · exact .inl (.inl h)
   · exact .inl (.inr (.inl h))
   · exact .inl (.inr (.inr (.inl h)))
   · rcases hv with hv | hv | ⟨g, hv, hg⟩
     · exact .inl (.inr (.inr (.inr (hv ▸ h))))
     · rw [hv] at h; cases h
     · rw [hv] at h; injection h with h; omega
   · exact .inr h
 · rcases hv2 with h | h | ⟨g, h, hg⟩
   · rcases hv with hv | hv | ⟨g, hv, hg⟩
     · exact .inl (h.trans hv)
     · exact .inr (.inl (h.trans hv))
     · exact .inr (.inr ⟨g, h.trans hv, hg⟩)
   · exact .inr (.inl h)
   · exact .inr (.inr ⟨g, h, by omega⟩)
theorem vR {q : Nat} (hv : wv1.ownBlock = wv.ownBlock \/ wv1.ownBlock = none \/ ∃ g, wv1.ownBlock = some g /\ w0.heap.size <= g) (hq : fp d sb mb wv1 q) : fp d sb mb wv q \/ w0.heap.size <= q := by
 rcases hq with h | h | h | h
 · exact .inl (.inl h)
 · exact .inl (.inr (.inl h))
 · exact .inl (.inr (.inr (.inl h)))
 · rcases hv with hv | hv | ⟨g, hv, hg⟩
   · exact .inl (.inr (.inr (.inr (hv ▸ h))))
   · rw [hv] at h; cases h
   · rw [hv] at h; injection h with h; exact .inr (by omega)
theorem zI.not_str (hD : zI w d sb mb sc wv N s) {b : Nat} {cs : Array Value} (ho : Own w b 9 cs) {x : ByteArray} (h0 : cs[0]? = some (.string x)) : ¬ fp d sb mb wv b := by
 have c0 := (ho.at_.1 0).trans h0;rintro (rfl | rfl | rfl | h)
 · have := (hD.own.at_.1 0).symm.trans c0;simp at this
 · have := (hD.sure.cell 0 (by have := hD.ok.pos; rw [hD.ok.len]; omega)).symm.trans c0;cases this
 · exact hD.map.ne ho rfl
 · rcases hD.wrs.2 with ⟨rfl, _⟩ | ⟨g, cap, cur, rfl, _, hg, _⟩
   · cases h
   · obtain rfl : g = b := by simpa [Value.ownBlock] using h
     unfold Own at ho;rw [ho] at hg;injection hg with hg;injection hg with _ hg _;exact absurd hg (by decide)
theorem zK.below (h : zK w0 w1 pe d sb mb sc wv N x) (hb : Below w1.heap.size w1 w2) : zK w0 w2 pe d sb mb sc wv N x := by
 obtain ⟨wv', h1, h2, h3, h4⟩ := h;exact ⟨wv', h1.below hb, h2.keep hb, h3.call hb, h4⟩
set_option maxRecDepth 10000 in
set_option maxHeartbeats 1000000 in
theorem zC4 (hE : Own w pe 26 #[.int .i64 x.1]) (hD : zI w d sb mb sc wv N x.2) (hap : ¬ fp d sb mb wv pe) :
   Calls Tryz.prog 330 #[.func (.func 154) #[.pointer (some ⟨d, 0, none⟩)] #[], .pointer (some ⟨pe, 0, none⟩)] w fun e w' => e = .returned (.tuple #[]) /\ zK w w' pe d sb mb sc wv N (xA N x none) := by
 obtain ⟨x1, x2⟩ := x;simp only at hE hD;by_cases h0 : x1 = 0
 · subst h0;refine (zJr (fun w' c => ∃ wv', zI w' d sb mb sc wv' N (xQ x2).2 /\ Chg (fp d sb mb wv) w w' /\ (wv'.ownBlock = none \/ wv'.ownBlock = wv.ownBlock) /\ c = (xQ x2).1) hE ((zAi hD).mono ?_)).mono ?_
   · rintro e w2 ⟨rfl, wv2, hd2, hc2, hw2⟩;exact ⟨_, rfl, ⟨wv2, hd2, hc2, hw2, rfl⟩, hc2.own hE hap⟩
   · rintro e w2 ⟨rfl, w1, c, ⟨wv2, hd2, hc2, hw2, rfl⟩, hE1, rfl⟩;exact ⟨rfl, zK.set hE1 wv2 hd2 hc2 (by rcases hw2 with h | h; exact .inr (.inl h); exact .inl h) hap hE.in_⟩
 · refine (zNk _ x1 hE h0).mono ?_;rintro e w2 ⟨rfl, rfl⟩;have e1 : xA N (x1, x2) none = (x1, x2) := by unfold xA; rw [if_neg h0]
   rw [e1];exact ⟨rfl, wv, hD, hE, Chg.refl _ _, .inl rfl⟩
set_option maxRecDepth 10000 in
set_option maxHeartbeats 4000000 in
theorem zE0 (hL : yA w lg d l) (hk : l.Ok) (hD : zI w d sb mb sc wv N s) (v : Value) (ps : List ByteArray) (hps : yJ w (fun b => ¬ fp d sb mb wv b) v ps) (hsz : ∀ p ∈ ps, p.size = 512) (hlen : ps.length <= 1000)
   (hfew : s.wr.length <= 100000) (hlg : ¬ fp d sb mb wv lg) :
   Calls Tryz.prog 297 #[.pointer (some ⟨lg, 0, none⟩), v] w fun e w' => e = .returned (.int .i64 (zP N (yB (l.from_ + l.used) ps l.next) (0, s)).1) /\
     ∃ wv', zI w' d sb mb sc wv' N (zP N (yB (l.from_ + l.used) ps l.next) (0, s)).2 /\ Chg (fp d sb mb wv) w w' /\ (wv'.ownBlock = wv.ownBlock \/ wv'.ownBlock = none \/ ∃ g, wv'.ownBlock = some g /\ w.heap.size <= g) := by
 obtain ⟨pa, pc, rfl, hp1, hp2, hp3⟩ := hps.open_;have zl := hL.in_;have HL := Lh hL;have HK := Lh hk;have HD := Lh hD;have HP := Lh hps;have HSZ := Lh hsz;have HFEW := Lh hfew;obtain ⟨n, hn⟩ : ∃ n, n = ps.length := ⟨_, rfl⟩
 rw [<- hn] at hp1 hlen ⊢;have HNL := Lh hn;clear hL hk hD hps hsz hp3 hn hfew;go_enter Tryz.func297, Tryz.ntmps297;go_upto_region 4 with fail;have o1 : Own (((w.alloc (.cells #[.pointer (some ⟨lg, 0, none⟩)] 139)).alloc (.cells #[.int .i64 0] 26)).alloc (.cells #[.func (.func 330) #[] #[.pointer (some ⟨w.heap.size + 1, 0, none⟩)]] 234)) w.heap.size 139 #[.pointer (some ⟨lg, 0, none⟩)] := ((Own.made w _ _).more _).more _;have o2 : Own (((w.alloc (.cells #[.pointer (some ⟨lg, 0, none⟩)] 139)).alloc (.cells #[.int .i64 0] 26)).alloc (.cells #[.func (.func 330) #[] #[.pointer (some ⟨w.heap.size + 1, 0, none⟩)]] 234)) (w.heap.size + 1) 26 #[.int .i64 0] := (Own.made_at (by simp)).more _;have o3 : Own (((w.alloc (.cells #[.pointer (some ⟨lg, 0, none⟩)] 139)).alloc (.cells #[.int .i64 0] 26)).alloc (.cells #[.func (.func 330) #[] #[.pointer (some ⟨w.heap.size + 1, 0, none⟩)]] 234)) (w.heap.size + 1 + 1) 234 #[.func (.func 330) #[] #[.pointer (some ⟨w.heap.size + 1, 0, none⟩)]] := Own.made_at (by simp);go_name_world W0 hW0;rw [hW0] at o1 o2 o3;have B0 : Below w.heap.size w W0 := hW0 ▸ (((Below.refl _ _).alloc (Nat.le_refl _) _).alloc (by simp) _).alloc (by simp; omega) _;clear hW0;have zD : ∀ q, fp d sb mb wv q -> q < w.heap.size := fun q hq => HD.out.in_ hq
 obtain ⟨pl, hpl⟩ : ∃ pl, pl = w.heap.size := ⟨_, rfl⟩
 obtain ⟨pe, hpe⟩ : ∃ pe, pe = pl + 1 := ⟨_, rfl⟩
 obtain ⟨pf, hpf⟩ : ∃ pf, pf = pe + 1 := ⟨_, rfl⟩
 have b1 : lg < pl := by omega
 have hap : ∀ q, fp d sb mb wv q -> q ≠ lg /\ q ≠ pl /\ q ≠ pf /\ q ≠ pe := fun q hq => by
   have := zD q hq;exact ⟨fun e => hlg (e ▸ hq), by omega, by omega, by omega⟩
 rw [<- hpl, <- hpe, <- hpf] at o3;rw [<- hpl, <- hpe] at o2;rw [<- hpl] at o1;rw [<- hpl, <- hpe, <- hpf];have z0 : pf < W0.heap.size := o3.in_;have z1 : pl < pe := by omega
 have z2 : pe < pf := by omega
 have L0 : yA W0 lg d l := Own.keep HL.out B0;have S0 : zK W0 W0 pe d sb mb sc wv N (0, s) := zK.same (HD.out.below B0) o2;have HZD : Hid (∀ q, fp d sb mb wv q -> q < pl) := Lh (by rw [hpl]; exact zD);replace o1 := Lh o1;replace o3 := Lh o3;replace L0 := Lh L0;replace S0 := Lh S0;replace hap := Lh hap;have HPL := Lh hpl;replace B0 := Lh B0;clear hpl hpe hpf o2 zD zl hlg;have GET : Hid (∀ (W : World) (x : Int × St), zK W0 W pe d sb mb sc wv N x -> ∃ wv1, zI W d sb mb sc wv1 N x.2 /\ Own W pe 26 #[.int .i64 x.1] /\ Chg (fun q => fp d sb mb wv q \/ q = pe) W0 W /\ (wv1.ownBlock = wv.ownBlock \/ wv1.ownBlock = none \/ ∃ g, wv1.ownBlock = some g /\ W0.heap.size <= g) /\
     yA W lg d l /\ Own W pl 139 #[.pointer (some ⟨lg, 0, none⟩)] /\ Own W pf 234 #[.func (.func 330) #[] #[.pointer (some ⟨pe, 0, none⟩)]] /\ (∀ q, fp d sb mb wv1 q -> q ≠ lg /\ q ≠ pl /\ q ≠ pf /\ q ≠ pe)) := Lh fun W x h => by
   obtain ⟨wv1, hD1, hE1, hc1, hv1⟩ := h;have hk1 : ∀ q, q < W0.heap.size -> ¬ fp d sb mb wv q -> q ≠ pe -> W.heap[q]? = W0.heap[q]? := fun q h1 h2 h3 => hc1.block q h1 (fun h => by rcases h with h | h; exact h2 h; exact h3 h)
   refine ⟨wv1, hD1, hE1, hc1, hv1, (hk1 lg L0.out.in_ (fun h => (hap.out lg h).1 rfl) (by omega)).trans L0.out, (hk1 pl o1.out.in_ (fun h => (hap.out pl h).2.1 rfl) (by omega)).trans o1.out, (hk1 pf o3.out.in_ (fun h => (hap.out pf h).2.2.1 rfl) (by omega)).trans o3.out, fun q hq => ?_⟩;rcases vR hv1 hq with h | h
   · exact hap.out q h
   · exact ⟨by omega, by omega, by omega, by omega⟩
 go_wp2;go_loopw [16] (fun i wr => ∃ k : Nat, k <= n /\ i = .int .i64 k /\ zK W0 wr pe d sb mb sc wv N (zP N (uH (l.from_ + l.used) ps k) (0, s))) (fun i wr => n - (intOf i).toNat)
 case atStart => exact ⟨0, by omega, rfl, S0.out⟩
 case round =>
   obtain ⟨k, hk, rfl, hS⟩ := hrel;by_cases hlt : k < n
   · have hkl : k < ps.length := by rw [<- HNL.out]; exact hlt
     have hsz := HSZ.out _ (List.getElem_mem hkl);obtain ⟨b, o, hpa, hnb, hbl, hcell⟩ : ∃ b o, pa = some ⟨b, o, none⟩ /\ ¬ fp d sb mb wv b /\ b < w.heap.size /\ w.cell? ⟨b, o + k, none⟩ = some (.string (ps[k]'hkl)) := by
       obtain ⟨a', c', e, _, _, h⟩ := HP.out.open_;obtain ⟨-, b, o, h1, h2, h3, h4⟩ := h k hkl;exact ⟨b, o, (Value.slice.inj e).1.trans h1, h2, h3, h4⟩
     subst hpa;have hget : ps[k]? = some (ps[k]'hkl) := List.getElem?_eq_getElem hkl;have HO1 := Lh (zFb (l.from_ + l.used) ps k _ hget);obtain ⟨p, hp⟩ : ∃ p, p = ps[k]'hkl := ⟨_, rfl⟩
     rw [<- hp] at hsz hcell HO1;have hcell1 : wr.cell? ⟨b, o + k, none⟩ = some (.string p) := by
       obtain ⟨wv', -, -, hc, -⟩ := hS;refine hc.cell (keep B0.out hcell) fun h => ?_
       rcases h with h | h
       · exact hnb h
       · have := HPL.out; omega
     have HSP := Lh (Yi p wr (by omega));have HSEC := Lh (secB_size p (by omega));replace hS := Lh hS;have Hsz := Lh hsz;clear hp hcell hget hsz;go_upto_region 8 with (go_at_call 282; refine HSP.out.mono ?_; rintro e w3 ⟨b3, rfl, h3, z3, hb3⟩)
     have S3 := hS.out.below hb3;have h35 : pf < b3 := by
       obtain ⟨wv', -, -, hc, -⟩ := hS.out;have := hc.size; omega
     replace h3 := Lh h3;replace S3 := Lh S3;clear hb3 z3;obtain ⟨wo, hwo⟩ : ∃ wo : World, wo = wr := ⟨_, rfl⟩
     subst hwo;go_loopw [24] (fun i wr => ∃ j : Nat, j <= 9 /\ i = .int .i64 j /\ zK W0 wr pe d sb mb sc wv N (zP N (uH (l.from_ + l.used) ps k ++ uB (l.from_ + l.used) k p j) (0, s)) /\ Own wr b3 9 (vG 9 (secB p) 9)) (fun i wr => 9 - (intOf i).toNat)
     case atStart => exact ⟨0, by omega, rfl, by simpa [uB] using S3.out, h3.out⟩
     case round =>
       clear h3 S3;obtain ⟨j, hj, rfl, hS, hO⟩ := hrel;by_cases hlj : j < 9
       · have hcj : wr.cell? ⟨b3, j, none⟩ = some (.string (secB p j)) := by
           rw [hO.at_.1 j, xK 9 _ 9 j hlj, if_pos hlj]
         have hzj := HSEC.out j hlj;obtain ⟨t, ht⟩ : ∃ t, t = secB p j := ⟨_, rfl⟩
         rw [<- ht] at hcj hzj;obtain ⟨wv1, hD1, hE1, hc1, hv1, L1, P1, F1, hap1⟩ := GET.out _ _ hS;have hrl := vE N (uH (l.from_ + l.used) ps k ++ uB (l.from_ + l.used) k p j) (0, s);have hol : (uH (l.from_ + l.used) ps k ++ uB (l.from_ + l.used) k p j).length <= 20000 := by
           rw [List.length_append, Uf]; simp [uB]; omega
         have hnb3 : ¬ fp d sb mb wv1 b3 := hD1.not_str hO (x := secB p 0) (by rw [xK 9 _ 9 0 (by omega), if_pos (by omega)]);have HPUT := put_any _ L1 HK.out P1 F1 hE1 hD1 (1 + 9 * k + j) t (by omega) (by rw [hzj]; unfold maxLen; omega) (by have := HFEW.out; simp only at hrl; omega) hap1 ⟨by omega, by omega⟩;have eat : ((1 + 9 * k + j : Nat) : Int) = 1 + (k : Int) * 9 + (j : Int) := by omega
         rw [eat, ht, <- mP, List.append_assoc, <- zD8, <- ht] at HPUT;replace HPUT := Lh HPUT;have O1 := Lh hO;have C1 := Lh (And.intro hD1 (And.intro hc1 hv1));have N3 := Lh hnb3;clear eat hrl hol hnb3 L1 P1 F1 hap1 hD1 hE1 hc1 hv1 hO ht hzj;go_wp2_with fail;refine HPUT.out.mono ?_;rintro e w5 ⟨rfl, hS5⟩;have hS6 := zK.then_ C1.out.1 C1.out.2.1 C1.out.2.2 hS5;have hO6 : Own w5 b3 9 (vG 9 (secB p) 9) := by
           obtain ⟨wv2, -, -, hc2, -⟩ := hS5;exact hc2.own O1.out fun h => by rcases h with h | h; exact N3.out h; omega
         replace hS6 := Lh hS6;replace hO6 := Lh hO6;clear hS5;go_wp2;go_roundw
         case rel => exact ⟨j + 1, by omega, by go_num, hS6.out, hO6.out⟩
         case measure => simp [intOf]; omega
       · obtain rfl : j = 9 := by omega
         rw [<- HO1.out] at hS;replace hS := Lh hS;clear hO;go_wp2;go_roundw
         case rel => exact ⟨k + 1, by omega, by go_num, hS.out⟩
         case measure => simp [intOf]; omega
   · obtain rfl : k = n := by omega
     obtain ⟨wv1, hD1, hE1, hc1, hv1, L1, P1, F1, hap1⟩ := GET.out _ _ hS;have HF1 := Lh (zC4 (hE1.drawn) (hD1.below (Below.refl _ _).drew) (fun h => (hap1 pe h).2.2.2 rfl));have C1 := Lh (And.intro hD1 (And.intro hc1 hv1));have hrl := vE N (uH (l.from_ + l.used) ps k) (0, s);rw [Uf] at hrl;obtain ⟨x1, hx1⟩ : ∃ x1, x1 = zP N (uH (l.from_ + l.used) ps k) (0, s) := ⟨_, rfl⟩
     rw [<- hx1] at HF1 C1 hrl;have X1 := Lh hx1;have L1 := Lh L1;have P1 := Lh P1;have F1 := Lh F1;have RL := Lh (show x1.2.wr.length <= s.wr.length + 9 * k from hrl);clear hD1 hE1 hc1 hv1 hap1 hS hx1 hrl;have LC := Lh (show l.cells d = #[.pointer (some ⟨d, 0, none⟩), .int .i64 (l.from_ : Int), .int .i64 (l.size : Int), .int .i64 (l.used : Int), .int .u64 (l.next : Int), .bool l.failed] from rfl);have L1c : Own wr lg 246 #[.pointer (some ⟨d, 0, none⟩), .int .i64 (l.from_ : Int), .int .i64 (l.size : Int), .int .i64 (l.used : Int), .int .u64 (l.next : Int), .bool l.failed] := L1.out;replace L1c := Lh L1c;go_upto_region 13 with fail;refine zA (fun W => Own W lg 246 #[.pointer (some ⟨d, 0, none⟩), .int .i64 (l.from_ : Int), .int .i64 (l.size : Int), .int .i64 (l.used : Int), .int .u64 (l.next : Int), .bool l.failed] /\ Own W pl 139 #[.pointer (some ⟨lg, 0, none⟩)] /\ Own W pf 234 #[.func (.func 330) #[] #[.pointer (some ⟨pe, 0, none⟩)]]) (0 :: 1 :: 2 :: 3 :: 4 :: 5 :: []) (0 :: 1 :: 4 :: []) (0 :: 1 :: 2 :: 3 :: 4 :: 5 :: 6 :: []) (by kernel_rfl) (by kernel_rfl) rfl (by kernel_rfl) rfl (⟨L1c.out.drawn, P1.out.drawn, F1.out.drawn⟩) (by simp only [zU, List.filterMap_cons, List.filterMap_nil, List.getElem?_cons_zero, List.getElem?_cons_succ, Option.map_some]; exact rfl) ?_;iterate 6
       refine zC (v := ?_) rfl rfl (fun W hS => ?_) ?_;rotate_left
       · first
           | (conv => lhs; simp [go_sem]
              first | done | exact rfl)
           | (have hS := hS rfl
              obtain ⟨q1, q2, q3⟩ := hS;obtain ⟨q1, q5, q6⟩ := Own.at_ q1;obtain ⟨q2, q7, q8⟩ := Own.at_ q2;obtain ⟨q3, q9, qa⟩ := Own.at_ q3;conv => lhs; simp [go_sem, *]
              first | done | exact rfl)
       simp only [Act.put, lA, lZ, lS]
     refine zQ rfl rfl fun K hK => ?_
     go_wp2_with fail;refine HF1.out.mono ?_;rintro e w2 ⟨rfl, hS2⟩;have S2 := zK.then_ (C1.out.1.below (Below.refl _ _).drew) C1.out.2.1.drew C1.out.2.2 hS2;obtain ⟨wv2, hD2, hE2, hc2, hv2, L2, P2, F2, hap2⟩ := GET.out _ _ S2;have hrl2 := zAj N x1 none;obtain ⟨x2, hx2⟩ : ∃ x2, x2 = xA N x1 none := ⟨_, rfl⟩
     rw [<- hx2] at S2 hD2 hE2 hrl2;have X2 := Lh hx2;have RL2 := Lh hrl2;have HMK := Lh (zFy l.next k w2 HK.out.next (by omega));have HPUT := fun (W : World) (hb : Below w2.heap.size w2 W) => put_any x2 (show yA W lg d l from Own.keep L2 hb) HK.out (P2.keep hb) (F2.keep hb) (hE2.keep hb) (hD2.below hb) 0 (yN l.next k) (by omega) (by rw [uZ]; unfold maxLen; omega) (by have := RL.out; have := RL2.out; have := HFEW.out; omega) hap2 ⟨by omega, by omega⟩
     rw [show ((0 : Nat) : Int) = 0 from rfl] at HPUT;replace HPUT := Lh HPUT;have C2 := Lh (And.intro hD2 (And.intro hc2 hv2));have E2 := Lh hE2;have L2c : Own w2 lg 246 #[.pointer (some ⟨d, 0, none⟩), .int .i64 (l.from_ : Int), .int .i64 (l.size : Int), .int .i64 (l.used : Int), .int .u64 (l.next : Int), .bool l.failed] := L2;clear hS2 hx2 hrl2 hD2 hE2 hc2 hv2 hap2 HF1;replace S2 := Lh S2;go_wp2;refine hK _ _ ⟨L2c, P2, F2⟩ ?_;clear hK K;refine zR ?_;obtain ⟨l1, l2, l3⟩ := Own.at_ L2c;obtain ⟨p1, p2, p3⟩ := Own.at_ P2;go_wp2_with (go_at_call 280; refine HMK.out.mono ?_; rintro e w3 ⟨rfl, hb3⟩)
     refine (HPUT.out w3 hb3).mono ?_;rintro e w4 ⟨rfl, hS4⟩;have S4 := zK.then_ (C2.out.1.below hb3) (C2.out.2.1.call hb3) C2.out.2.2 hS4;obtain ⟨wv4, hD4, hE4, hc4, hv4, L4, P4, F4, hap4⟩ := GET.out _ _ S4;obtain ⟨x3, hx3⟩ : ∃ x3, x3 = xA N x2 (some (l.from_ + l.used + 0, yN l.next k)) := ⟨_, rfl⟩
     rw [<- hx3] at S4 hD4 hE4;have X3 := Lh hx3;have HF4 := Lh (zC4 (hE4.drawn) (hD4.below (Below.refl _ _).drew) (fun h => (hap4 pe h).2.2.2 rfl));have C4 := Lh (And.intro hD4 (And.intro hc4 hv4));have L4c : Own w4 lg 246 #[.pointer (some ⟨d, 0, none⟩), .int .i64 (l.from_ : Int), .int .i64 (l.size : Int), .int .i64 (l.used : Int), .int .u64 (l.next : Int), .bool l.failed] := L4;replace L4c := Lh L4c;replace P4 := Lh P4;replace F4 := Lh F4;clear hS4 hx3 hD4 hE4 hc4 hv4 hap4 L4 S4 l1 l2 l3 p1 p2 p3 L2c P2 F2 L2 hb3;go_upto_region 15 with fail;refine zA (fun W => Own W lg 246 #[.pointer (some ⟨d, 0, none⟩), .int .i64 (l.from_ : Int), .int .i64 (l.size : Int), .int .i64 (l.used : Int), .int .u64 (l.next : Int), .bool l.failed] /\ Own W pl 139 #[.pointer (some ⟨lg, 0, none⟩)] /\ Own W pf 234 #[.func (.func 330) #[] #[.pointer (some ⟨pe, 0, none⟩)]]) (0 :: 1 :: 2 :: 3 :: 4 :: 5 :: []) (0 :: 1 :: 4 :: []) (0 :: 1 :: 2 :: 3 :: 4 :: 5 :: 6 :: []) (by kernel_rfl) (by kernel_rfl) rfl (by kernel_rfl) rfl (⟨L4c.out.drawn, P4.out.drawn, F4.out.drawn⟩) (by simp only [zU, List.filterMap_cons, List.filterMap_nil, List.getElem?_cons_zero, List.getElem?_cons_succ, Option.map_some]; exact rfl) ?_;iterate 6
       refine zC (v := ?_) rfl rfl (fun W hS => ?_) ?_;rotate_left
       · first
           | (conv => lhs; simp [go_sem]
              first | done | exact rfl)
           | (have hS := hS rfl
              obtain ⟨q1, q2, q3⟩ := hS;obtain ⟨q1, q5, q6⟩ := Own.at_ q1;obtain ⟨q2, q7, q8⟩ := Own.at_ q2;obtain ⟨q3, q9, qa⟩ := Own.at_ q3;conv => lhs; simp [go_sem, *]
              first | done | exact rfl)
       simp only [Act.put, lA, lZ, lS]
     refine zQ rfl rfl fun K hK => ?_
     go_wp2_with fail;refine HF4.out.mono ?_;rintro e w5 ⟨rfl, hS2⟩;have S5 := zK.then_ (C4.out.1.below (Below.refl _ _).drew) C4.out.2.1.drew C4.out.2.2 hS2;obtain ⟨wv5, hD5, hE5, hc5, hv5, L5, P5, F5, hap5⟩ := GET.out _ _ S5;obtain ⟨x4, hx4⟩ : ∃ x4, x4 = xA N x3 none := ⟨_, rfl⟩
     rw [<- hx4] at S5 hD5 hE5;have X4 := Lh hx4;clear hS2 hx4 HF4;obtain ⟨e1, e2, e3⟩ := Own.at_ hE5;have RES : Hid (zP N (yB (l.from_ + l.used) ps l.next) (0, s) = x4) := Lh (by
       unfold yB;rw [<- HNL.out, jI, X4.out, X3.out, X2.out, X1.out];rfl)
     have FIN := Lh (And.intro hD5 (And.intro hc5 hv5));clear hD5 hc5 hv5 hap5 hE5;go_wp2;refine hK _ _ ⟨L5, P5, F5⟩ ?_;clear hK K;refine zR ?_;go_wp2;go_ret;rw [RES.out];have z0 := B0.out.size;refine ⟨rfl, wv5, FIN.out.1, ?_, ?_⟩
     · refine (Chg.of B0.out).trans FIN.out.2.1 fun q hq h => ?_
       rcases h with h | h
       · exact h
       · have := HPL.out; omega
     · rcases FIN.out.2.2 with h | h | ⟨g, h, hg⟩
       · exact .inl h
       · exact .inr (.inl h)
       · exact .inr (.inr ⟨g, h, by omega⟩)
end
end
end Go.Proofs.YthijgebmoadgkaaGreatDoor
