import Derived.Test.YthijgebmoadgkaaGreatDoorRdoJ
import Derived.Test.YthijgebmoadgkaaGreatDoorPgrD
set_option linter.unusedVariables false
set_option linter.unusedSimpArgs false
namespace Go.Proofs.YthijgebmoadgkaaGreatDoor
open Go.ChangeShapes Go.WideShapes Go.ChangeAt Go.RowKit
section
def uN (N : Nat) (s : St) (l : yH) (ps : List ByteArray) : Int × St × yH :=
 if uQ ps = false then (1, s, l) else if l.failed = true then (17, s, l) else if 64 < ps.length then (10, s, l) else if l.left < 1 + 9 * ps.length then (9, s, l) else
   if (zP N (yB (l.from_ + l.used) ps l.next) (0, s)).1 = 0 then (0, (zP N (yB (l.from_ + l.used) ps l.next) (0, s)).2, l.plus ps.length)
   else ((zP N (yB (l.from_ + l.used) ps l.next) (0, s)).1, (zP N (yB (l.from_ + l.used) ps l.next) (0, s)).2, { l with failed := true })
def yS (w w' : World) (lg d sb mb sc : Nat) (wv : Value) (N : Nat) (r : St × yH) : Prop :=
 ∃ wv', zI w' d sb mb sc wv' N r.1 /\ yA w' lg d r.2 /\ Chg (fun q => fp d sb mb wv q \/ q = lg) w w' /\ (wv'.ownBlock = wv.ownBlock \/ wv'.ownBlock = none \/ ∃ g, wv'.ownBlock = some g /\ w.heap.size <= g)
section
variable {w : World} {lg d sb mb sc : Nat} {wv : Value} {N : Nat} {s : St} {l : yH}
theorem yS.same (hD : zI w d sb mb sc wv N s) (hL : yA w lg d l) : yS w w lg d sb mb sc wv N (s, l) := ⟨wv, hD, hL, Chg.refl _ _, .inl rfl⟩
theorem yS.drawn (hD : zI w d sb mb sc wv N s) (hL : yA w lg d l) (q : Nat) : yS w (w.drewN q) lg d sb mb sc wv N (s, l) := ⟨wv, hD.below (zM (Below.refl _ _) q), hL, (Chg.refl _ _).drewN q, .inl rfl⟩
theorem nil_append (v : Value) (w : World) : Calls Tryz.prog 247 #[.pointer none, v] w fun e w' => e = .returned (.int .i64 1) /\ w = w' := by
 go_enter Tryz.func247, Tryz.ntmps247;go_wp2;go_ret;exact ⟨rfl, rfl⟩
set_option maxRecDepth 10000 in
set_option maxHeartbeats 2000000 in
theorem Xi (hL : yA w lg d l) (hk : l.Ok) (hD : zI w d sb mb sc wv N s) (v : Value) (ps : List ByteArray) (hps : yJ w (fun b => ¬ fp d sb mb wv b) v ps) (hfew : s.wr.length <= 100000) (hlg : ¬ fp d sb mb wv lg) :
   Calls Tryz.prog 247 #[.pointer (some ⟨lg, 0, none⟩), v] w fun e w' => e = .returned (.int .i64 (uN N s l ps).1) /\ yS w w' lg d sb mb sc wv N (uN N s l ps).2 := by
 have HA := Lh (zMu w _ v ps hps);have HLeft := Lh (fW hL hk);have HW := Lh (fun (h1 : ∀ p ∈ ps, p.size = 512) (h2 : ps.length <= 1000) (q : Nat) => zE0 (show yA (w.drewN q) lg d l from hL) hk (hD.below (zM (Below.refl _ _) q)) v ps (hps.below (zM (Below.refl _ _) q)) h1 h2 hfew hlg);obtain ⟨pa, pc, rfl, hp1, hp2, hp3⟩ := hps.open_;obtain ⟨o1, o2, o3⟩ := Own.at_ (show Own w lg 246 #[.pointer (some ⟨d, 0, none⟩), .int .i64 (l.from_ : Int), .int .i64 (l.size : Int), .int .i64 (l.used : Int), .int .u64 (l.next : Int), .bool l.failed] from hL);have HSAME := Lh (yS.same hD hL);have HDRAW := Lh (yS.drawn hD hL);have HL := Lh hL;have HK := Lh hk;have HD := Lh hD;obtain ⟨R, hR⟩ : ∃ R, R = uN N s l ps := ⟨_, rfl⟩
 have HR := Lh hR;rw [<- hR];obtain ⟨n, hn⟩ : ∃ n, n = ps.length := ⟨_, rfl⟩
 have HN := Lh hn;rw [<- hn] at HA HW hp1 ⊢;clear hL hk hD hps hp3 hR hn hfew;cases ca : uQ ps with
 | false =>
   rw [ca] at HA;have e : R = (1, s, l) := by rw [HR.out]; unfold uN; rw [if_pos ca]
   have E := Lh e;clear e HR;go_enter Tryz.func247, Tryz.ntmps247;go_wp2_with (go_at_call 296; refine HA.out.mono ?_; rintro e w' ⟨rfl, rfl⟩)
   go_ret;rw [E.out];exact ⟨rfl, HSAME.out⟩
 | true =>
   rw [ca] at HA;have hall : ∀ p ∈ ps, p.size = 512 := (of_decide_eq_true ca).2;have e1 : R = if l.failed = true then (17, s, l) else if 64 < ps.length then (10, s, l) else if l.left < 1 + 9 * ps.length then (9, s, l) else
       if (zP N (yB (l.from_ + l.used) ps l.next) (0, s)).1 = 0 then (0, (zP N (yB (l.from_ + l.used) ps l.next) (0, s)).2, l.plus ps.length)
       else ((zP N (yB (l.from_ + l.used) ps l.next) (0, s)).1, (zP N (yB (l.from_ + l.used) ps l.next) (0, s)).2, { l with failed := true }) := by
     rw [HR.out]; unfold uN; rw [if_neg (by rw [ca]; simp)]
   have E1 := Lh e1;have HALL := Lh hall;clear HR ca e1 hall;by_cases cf : l.failed = true
   · have e := E1.out;rw [if_pos cf] at e;have E := Lh e;rw [cf] at o1;clear e E1 cf;go_enter Tryz.func247, Tryz.ntmps247;go_wp2_with (go_at_call 296; refine HA.out.mono ?_; rintro e w' ⟨rfl, rfl⟩)
     go_ret;rw [E.out];exact ⟨rfl, HSAME.out⟩
   have cf : l.failed = false := by simpa using cf
   have E2 := E1.out;rw [if_neg (by rw [cf]; simp)] at E2;rw [cf] at o1;have CF := Lh cf;replace E2 := Lh E2;clear E1 cf;rw [<- HN.out] at E2;by_cases c6 : 64 < n
   · have d6 : decide ((64 : Int) < (n : Int)) = true := by simp; omega
     have e := E2.out;rw [if_pos c6] at e;have E := Lh e;clear e E2 c6;go_enter Tryz.func247, Tryz.ntmps247;go_wp2_with (go_at_call 296; refine HA.out.mono ?_; rintro e w' ⟨rfl, rfl⟩)
     go_ret;rw [E.out];exact ⟨rfl, HSAME.out⟩
   have d6 : decide ((64 : Int) < (n : Int)) = false := by simp; omega
   have E3 := E2.out;rw [if_neg c6] at E3;replace E3 := Lh E3;have HS := Lh (fun w => zA7 n w (by omega));obtain ⟨LE, hLE⟩ : ∃ LE, LE = l.left := ⟨_, rfl⟩
   rw [<- hLE] at HLeft E3;have HLE := Lh hLE;clear E2 hLE;by_cases c7 : LE < 1 + 9 * n
   · have d7 : decide ((LE : Int) < 1 + 9 * (n : Int)) = true := by simp; omega
     have e := E3.out;rw [if_pos c7] at e;have E := Lh e;clear e E3 c7;go_enter Tryz.func247, Tryz.ntmps247;go_wp2_with (first
       | (go_at_call 296; refine HA.out.mono ?_; rintro e w' ⟨rfl, rfl⟩)
       | (go_at_call 237; refine (HS.out _).mono ?_; rintro e w' ⟨rfl, rfl⟩)
       | (go_at_call 233; refine HLeft.out.mono ?_; rintro e w' ⟨rfl, q, rfl⟩))
     go_ret;rw [E.out];exact ⟨rfl, HDRAW.out q⟩
   have d7 : decide ((LE : Int) < 1 + 9 * (n : Int)) = false := by simp; omega
   have E4 := E3.out;rw [if_neg c7] at E4;obtain ⟨r, hr⟩ : ∃ r, r = zP N (yB (l.from_ + l.used) ps l.next) (0, s) := ⟨_, rfl⟩
   have HW2 := HW.out HALL.out (by omega);rw [<- hr] at HW2 E4;replace HW2 := Lh HW2;replace E4 := Lh E4;clear E3 HW hr;obtain ⟨r1, r2⟩ := r;by_cases c8 : r1 = 0
   · have e := E4.out;rw [if_pos c8] at e;have E := Lh e;subst c8;clear e E4;go_enter Tryz.func247, Tryz.ntmps247;go_upto_region 14 with (first
       | (go_at_call 296; refine HA.out.mono ?_; rintro e w' ⟨rfl, rfl⟩)
       | (go_at_call 237; refine (HS.out _).mono ?_; rintro e w' ⟨rfl, rfl⟩)
       | (go_at_call 233; refine HLeft.out.mono ?_; rintro e w' ⟨rfl, q, rfl⟩)
       | (go_at_call 297; refine (HW2.out q).mono ?_; rintro e w2 ⟨rfl, wv2, hD2, hc2, hv2⟩))
     have hL2 : yA w2 lg d l := hc2.own HL.out hlg;have HADD := Lh (zGn hL2 HK.out n (by omega));have hlg2 : ∀ q, fp d sb mb wv2 q -> q ≠ lg := fun q hq e => by
       rcases vR hv2 hq with h | h
       · exact hlg (e ▸ h)
       · have : w.heap.size <= q := h;omega
     have C2 := Lh (And.intro hD2 (And.intro hc2 hv2));clear hD2 hc2 hv2 hL2;go_wp2_with (go_at_call 164; refine HADD.out.mono ?_; rintro e w3 ⟨rfl, hL3, hc3, hz3⟩; replace hz3 := Lh hz3)
     go_ret;rw [E.out];refine ⟨rfl, wv2, C2.out.1.keep hc3 fun q hq e => hlg2 q hq e, hL3, ?_, C2.out.2.2⟩;exact ((Chg.refl _ w).drewN q).same ((C2.out.2.1.mono fun q _ h => .inl h).same (hc3.mono fun q _ h => .inr h))
   · have e := E4.out;rw [if_neg c8] at e;have E := Lh e;have t8 : (r1 == 0) = false := by simpa using c8
     have t9 : (r1 != 0) = true := by simpa using c8
     clear e E4 c8;go_enter Tryz.func247, Tryz.ntmps247;go_upto_region 12 with (first
       | (go_at_call 296; refine HA.out.mono ?_; rintro e w' ⟨rfl, rfl⟩)
       | (go_at_call 237; refine (HS.out _).mono ?_; rintro e w' ⟨rfl, rfl⟩)
       | (go_at_call 233; refine HLeft.out.mono ?_; rintro e w' ⟨rfl, q, rfl⟩)
       | (go_at_call 297; refine (HW2.out q).mono ?_; rintro e w2 ⟨rfl, wv2, hD2, hc2, hv2⟩))
     have hL2 : yA w2 lg d l := hc2.own HL.out hlg;have hlg2 : ∀ q, fp d sb mb wv2 q -> q ≠ lg := fun q hq e => by
       rcases vR hv2 hq with h | h
       · exact hlg (e ▸ h)
       · have : w.heap.size <= q := h;omega
     obtain ⟨p1, p2, p3⟩ := Own.at_ (show Own w2 lg 246 #[.pointer (some ⟨d, 0, none⟩), .int .i64 (l.from_ : Int), .int .i64 (l.size : Int), .int .i64 (l.used : Int), .int .u64 (l.next : Int), .bool l.failed] from hL2);have C2 := Lh (And.intro hD2 (And.intro hc2 hv2));replace hL2 := Lh hL2;clear hD2 hc2 hv2;go_wp2;go_ret;rw [E.out];have hc3 := yT w2 lg 5 (.bool true);refine ⟨rfl, wv2, C2.out.1.keep hc3 fun q hq e => hlg2 q hq e, Own.put hL2.out 5 (.bool true), ?_, C2.out.2.2⟩;exact ((Chg.refl _ w).drewN q).same ((C2.out.2.1.mono fun q _ h => .inl h).same (hc3.mono fun q _ h => .inr h))
end
end
section
def fF (s : ByteArray) : Bool := s.data.toList.all (· == 0)
theorem Za (l : List UInt8) : Lib.trimB l 0 = [] ↔ l.all (· == 0) = true := by
 unfold Lib.trimB Lib.trimLeftB Lib.trimRightB;have dw : ∀ m : List UInt8, m.dropWhile (· == 0) = [] ↔ m.all (· == 0) = true := by
   intro m;induction m with
   | nil => simp
   | cons x m ih =>
     by_cases h : (x == 0) = true
     · simp only [List.dropWhile_cons, h, if_true, List.all_cons, Bool.true_and]; exact ih
     · simp [List.dropWhile_cons, h]
 constructor
 · intro h;have h1 := (dw _).1 h;rw [List.all_reverse] at h1;cases hm : l.reverse.dropWhile (· == 0) with
   | nil =>
     have := (dw _).1 hm;rwa [List.all_reverse] at this
   | cons x m =>
     rw [hm] at h1;have hx : ¬ (x == 0) = true := by
       have := List.head?_dropWhile_not (· == (0 : UInt8)) l.reverse;rw [hm] at this;simpa using this
     simp at h1;exact absurd (by simpa using h1.1) hx
 · intro h;have h1 : l.reverse.dropWhile (· == 0) = [] := (dw _).2 (by rwa [List.all_reverse]);rw [h1];rfl
theorem zIg (s : ByteArray) (w : World) (hs : s.size <= 9223372036854775807) : Calls Tryz.prog 162 #[.string s] w fun e w' => e = .returned (.bool (fF s)) /\ Below w.heap.size w w' := by
 have HT := Lh (Tryz.strings_Trim_one s 0 (by decide) w hs);have E0 : (⟨#[]⟩ : ByteArray).toList = [] := by kernel_rfl
 have HB : (⟨(Lib.trimB s.data.toList 0).toArray⟩ : ByteArray).toList.isEmpty = fF s := by
   unfold fF;cases h : s.data.toList.all (· == 0) with
   | true =>
     rw [(Za _).2 h, show (⟨([] : List UInt8).toArray⟩ : ByteArray) = ⟨#[]⟩ from rfl, E0];rfl
   | false =>
     have key := zA8 (a := ⟨(Lib.trimB s.data.toList 0).toArray⟩) (b := ⟨#[]⟩) fun e => ?_
     · rw [E0] at key;simpa using key
     have : Lib.trimB s.data.toList 0 = [] := by
       have := congrArg (fun x : ByteArray => x.data.toList) e;simpa using this
     rw [(Za _).1 this] at h;cases h
 obtain ⟨T, hT⟩ : ∃ T : ByteArray, T = ⟨(Lib.trimB s.data.toList 0).toArray⟩ := ⟨_, rfl⟩
 rw [<- hT] at HT HB;clear hT;obtain ⟨b, hb⟩ : ∃ b, b = fF s := ⟨_, rfl⟩
 rw [<- hb] at HB ⊢;clear hb E0;go_enter Tryz.func162, Tryz.ntmps162;go_wp2_with (go_at_call 232; refine HT.out.mono ?_; rintro e w' ⟨rfl, hw⟩)
 go_ret;exact ⟨rfl, by rcases hw with rfl | rfl; exact Below.refl _ _; exact (Below.refl _ _).drew⟩
section
variable {w : World} {d sb mb sc : Nat} {wv : Value} {N : Nat} {s : St}
theorem Qh (hD : zI w d sb mb sc wv N s) (ll : Nat) (h : ll + 10 <= N) : Calls Tryz.prog 80 #[uM d ll] w fun e w' => e = .returned (.int .i64 (((N - 2 - ll) / 8 : Nat) : Int)) /\ Below w.heap.size w w' := by
 have hN := hD.ok.max;have HL := Lh (fun W (hb : Below w.heap.size w W) => Vy (hD.below hb));clear hD;unfold uM;go_enter Tryz.func80, Tryz.ntmps80;go_upto_region 1 with fail;have O := Own.made w 124 #[.pointer (some ⟨d, 0, none⟩), .int .i64 (ll : Int)];have B0 := zG w 124 #[.pointer (some ⟨d, 0, none⟩), .int .i64 (ll : Int)];go_name_world W0 hW0;rw [hW0] at O B0;clear hW0;have w1 : IntKind.i64.wrap ((N : Int) - 2) = (N : Int) - 2 := by rw [IntKind.wrap_i64]; omega
 have w2 : IntKind.i64.wrap ((N : Int) - 2 - (ll : Int)) = (N : Int) - 2 - (ll : Int) := by rw [IntKind.wrap_i64]; omega
 have w3 : IntKind.i64.wrap (((N : Int) - 2 - (ll : Int)).tdiv 8) = (((N - 2 - ll) / 8 : Nat) : Int) := by
   rw [Int.tdiv_eq_ediv_of_nonneg (by omega), IntKind.wrap_i64]; omega
 refine zA (fun W => Own W w.heap.size 124 #[.pointer (some ⟨d, 0, none⟩), .int .i64 (ll : Int)]) (0 :: 1 :: 3 :: 4 :: 5 :: 6 :: 7 :: 8 :: []) (1 :: 5 :: []) (0 :: 1 :: 4 :: 5 :: 2 :: 3 :: 6 :: 7 :: 8 :: []) (by kernel_rfl) (by kernel_rfl) rfl (by kernel_rfl) rfl (O.drawn) (by simp only [zU, List.filterMap_cons, List.filterMap_nil, List.getElem?_cons_zero, List.getElem?_cons_succ, Option.map_some]; exact rfl) ?_;iterate 4
   refine zC (v := ?_) rfl rfl (fun W hS => ?_) ?_;rotate_left
   · first
       | (conv => lhs; simp [go_sem, w1, w2, w3]
          first | done | exact rfl)
       | (have hS := hS rfl
          obtain ⟨q1, q3, q4⟩ := Own.at_ hS;conv => lhs; simp [go_sem, *, w1, w2, w3]
          first | done | exact rfl)
   simp only [Act.put, lA, lZ, lS]
 refine zQ rfl rfl fun K hK => ?_
 go_wp2_with (go_at_call 137; refine (HL.out _ B0.drew).mono ?_; rintro e w3 ⟨rfl, rfl⟩)
 refine hK _ _ O.drawn ?_;clear hK K;iterate 4
   refine zC (v := ?_) rfl rfl (fun W hS => ?_) ?_;rotate_left
   · first
       | (conv => lhs; simp [go_sem, w1, w2, w3]
          first | done | exact rfl)
       | (have hS := hS rfl
          obtain ⟨q1, q3, q4⟩ := Own.at_ hS;conv => lhs; simp [go_sem, *, w1, w2, w3]
          first | done | exact rfl)
   simp only [Act.put, lA, lZ, lS]
 refine zR ?_;go_wp2;go_ret;exact ⟨jK (by omega), B0.drew⟩
end
end
section
def dbl (s : St) (p k : Nat) : List UInt8 := (List.range k).flatMap fun i => (vw s (p + i)).data.toList
def dby (s : St) (p : Nat) : ByteArray := ⟨(dbl s p 8).toArray⟩
theorem zCp (s : St) (p k : Nat) : dbl s p (k + 1) = dbl s p k ++ (vw s (p + k)).data.toList := by simp [dbl, List.range_succ]
theorem zBa {N : Nat} {s : St} (h : s.Ok N) (p : Nat) : ∀ k, p + k <= N -> (dbl s p k).length = k * 64
 | 0, _ => rfl
 | k + 1, hk => by
   have := mF h (p + k) (by omega);rw [zCp, List.length_append, zBa h p k (by omega), uO, this];omega
theorem zDe {N : Nat} {s : St} (h : s.Ok N) (p : Nat) (hp : p + 8 <= N) : (dby s p).size = 512 := by
 unfold dby;rw [zZ, zBa h p 8 hp]
theorem zAh {T e : TypeId} {B b : Nat} {bs : List Value} {W W' : World} (h : Lib.IsBuilder T e B b bs W) (hb : Below W.heap.size W W') : Lib.IsBuilder T e B b bs W' := by
 have key : ∀ p, Lib.BuilderAt T e B b p bs W -> Lib.BuilderAt T e B b p bs W' := fun p h => by
   have hlt := h.lt;obtain ⟨hB, v, hv, hown, hne⟩ := h;exact ⟨hB, v, (hb.block b hlt).trans hv, hown.kept (row := none) ⟨hb.os, hb.tape, hb.output, hb.size, fun k hk _ => hb.block k hk⟩ (Classical.em _), hne⟩
 exact h.elim (fun x => .inl (key _ x)) (fun x => .inr (key _ x))
section
variable {w : World} {d sb mb sc : Nat} {wv : Value} {N : Nat} {s : St}
set_option maxRecDepth 10000 in
theorem zDa (hD : zI w d sb mb sc wv N s) (x : Int) (hx : (Lit.int .i64 x).wf = true) : Calls Tryz.prog 68 #[.agg #[.pointer (some ⟨d, 0, none⟩), .int .i64 x]] w fun e w' => e = .returned (.bool (decide (10 <= x) && decide (x <= (N : Int) - 10))) /\ Below w.heap.size w w' := by
 have hN := hD.ok.max;have hx := zJc hx;have HL := Lh (fun W (hb : Below w.heap.size w W) => Vy (hD.below hb));clear hD;go_enter Tryz.func68, Tryz.ntmps68;go_upto_region 1 with fail;have O := Own.made w 124 #[.pointer (some ⟨d, 0, none⟩), .int .i64 x];have B0 := zG w 124 #[.pointer (some ⟨d, 0, none⟩), .int .i64 x];go_name_world W0 hW0;rw [hW0] at O B0;clear hW0;have w1 : IntKind.i64.wrap ((N : Int) - 2) = (N : Int) - 2 := by rw [IntKind.wrap_i64]; omega
 have w2 : IntKind.i64.wrap ((N : Int) - 2 - 8) = (N : Int) - 10 := by rw [IntKind.wrap_i64]; omega
 by_cases c : 10 <= x
 · have d1 : decide ((10 : Int) <= x) = true := by simpa using c
   have tt := And.intro d1 (And.intro w1 w2);refine zA (fun W => Own W w.heap.size 124 #[.pointer (some ⟨d, 0, none⟩), .int .i64 x]) (0 :: 1 :: 2 :: 3 :: 4 :: 5 :: 6 :: 7 :: 9 :: 10 :: 11 :: 12 :: 13 :: []) (1 :: 5 :: 7 :: []) (0 :: 1 :: 2 :: 3 :: 4 :: 5 :: 6 :: 7 :: 8 :: 9 :: 10 :: 11 :: 12 :: 13 :: []) (by kernel_rfl) (by kernel_rfl) rfl (by kernel_rfl) rfl (O.drawn) (by simp only [zU, List.filterMap_cons, List.filterMap_nil, List.getElem?_cons_zero, List.getElem?_cons_succ, Option.map_some]; exact rfl) ?_;iterate 8
     refine zC (v := ?_) rfl rfl (fun W hS => ?_) ?_;rotate_left
     · first
         | (conv => lhs; simp [go_sem, tt]
            first | done | exact rfl)
         | (have hS := hS rfl
            obtain ⟨q1, q3, q4⟩ := Own.at_ hS;conv => lhs; simp [go_sem, *, tt]
            first | done | exact rfl)
     simp only [Act.put, lA, lZ, lS]
   refine zQ rfl rfl fun K hK => ?_
   go_wp2_with (go_at_call 137; refine (HL.out _ B0.drew).mono ?_; rintro e w3 ⟨rfl, rfl⟩)
   refine hK _ _ O.drawn ?_;clear hK K;iterate 5
     refine zC (v := ?_) rfl rfl (fun W hS => ?_) ?_;rotate_left
     · first
         | (conv => lhs; simp [go_sem, tt]
            first | done | exact rfl)
         | (have hS := hS rfl
            obtain ⟨q1, q3, q4⟩ := Own.at_ hS;conv => lhs; simp [go_sem, *, tt]
            first | done | exact rfl)
     simp only [Act.put, lA, lZ, lS]
   refine zR ?_;go_wp2;go_ret;exact ⟨xP (by simp [c]), B0.drew⟩
 · have tt : decide ((10 : Int) <= x) = false := by simpa using c
   refine zA (fun W => Own W w.heap.size 124 #[.pointer (some ⟨d, 0, none⟩), .int .i64 x]) (0 :: 1 :: 2 :: 3 :: 4 :: 5 :: 6 :: 7 :: 9 :: 10 :: 11 :: 12 :: 13 :: []) (1 :: 5 :: 7 :: []) (0 :: 1 :: 2 :: 3 :: 4 :: 5 :: 6 :: 7 :: 8 :: 9 :: 10 :: 11 :: 12 :: 13 :: []) (by kernel_rfl) (by kernel_rfl) rfl (by kernel_rfl) rfl (O.drawn) (by simp only [zU, List.filterMap_cons, List.filterMap_nil, List.getElem?_cons_zero, List.getElem?_cons_succ, Option.map_some]; exact rfl) ?_;iterate 4
     refine zC (v := ?_) rfl rfl (fun W hS => ?_) ?_;rotate_left
     · first
         | (conv => lhs; simp [go_sem, tt]
            first | done | exact rfl)
         | (have hS := hS rfl
            obtain ⟨q1, q3, q4⟩ := Own.at_ hS;conv => lhs; simp [go_sem, *, tt]
            first | done | exact rfl)
     simp only [Act.put, lA, lZ, lS]
   refine zO rfl rfl ?_;simp only [Act.put, lA, lZ, lS];refine zO rfl rfl ?_;simp only [Act.put, lA, lZ, lS];refine zO rfl rfl ?_;simp only [Act.put, lA, lZ, lS];refine zO rfl rfl ?_;simp only [Act.put, lA, lZ, lS];refine zQ rfl rfl fun K hK => ?_
   go_wp2;refine hK _ _ O.drawn ?_;clear hK K;refine zO rfl rfl ?_;simp only [Act.put, lA, lZ, lS];refine zO rfl rfl ?_;simp only [Act.put, lA, lZ, lS];refine zO rfl rfl ?_;simp only [Act.put, lA, lZ, lS];iterate 2
     refine zC (v := ?_) rfl rfl (fun W hS => ?_) ?_;rotate_left
     · first
         | (conv => lhs; simp [go_sem, tt]
            first | done | exact rfl)
         | (have hS := hS rfl
            obtain ⟨q1, q3, q4⟩ := Own.at_ hS;conv => lhs; simp [go_sem, *, tt]
            first | done | exact rfl)
     simp only [Act.put, lA, lZ, lS]
   refine zR ?_;go_wp2;go_ret;exact ⟨xP (by simp; omega), B0.drew⟩
set_option maxRecDepth 10000 in
set_option maxHeartbeats 1000000 in
theorem zAq (hD : zI w d sb mb sc wv N s) (hd : s.down = false) (ll no : Nat) (hfit : 2 + ll + no * 8 + 8 <= N) : Calls Tryz.prog 169 #[uM d ll, .int .i64 (no : Int)] w fun e w' =>
   e = .returned (.tuple #[.string (dby s (2 + ll + no * 8)), .int .i64 0]) /\ Below w.heap.size w w' := by
 have hN := hD.ok.max;have hlen := fun k (hk : k <= 8) => zBa hD.ok (2 + ll + no * 8) k (by omega)
 have HP := Lh (fun W => zAf d ll no W (by omega) (by omega));have HR := Lh (fun (k : Nat) (hk : k < 8) (W : World) (hb : Below w.heap.size w W) => show Calls Tryz.prog 158 #[.pointer (some ⟨d, 0, none⟩), .int .i64 (((2 + ll + no * 8 : Nat) : Int) + (k : Int))] W fun e w' => e = .returned (.tuple #[.string (vw s (2 + ll + no * 8 + k)), .int .i64 0]) /\ Below W.heap.size W w' from (by
   have := gJ (hD.below hb) ((2 + ll + no * 8 + k : Nat) : Int) (gM (by omega) (by omega));rw [Vz N s hd _ (by omega)] at this;rw [show ((2 + ll + no * 8 + k : Nat) : Int) = ((2 + ll + no * 8 : Nat) : Int) + (k : Int) by omega] at this;exact this))
 have HZ := Lh (fun k (hk : k < 8) => mF hD.ok (2 + ll + no * 8 + k) (by omega));have HS := Lh (zCp s (2 + ll + no * 8));have HL := Lh hlen;have HDB := Lh (show dby s (2 + ll + no * 8) = ⟨(dbl s (2 + ll + no * 8) 8).toArray⟩ from rfl);rw [HDB.out];unfold uM at HP ⊢;obtain ⟨p, hp⟩ : ∃ p, p = 2 + ll + no * 8 := ⟨_, rfl⟩
 rw [<- hp] at HP HR HZ HS HL ⊢;have hp6 : p <= 65536 := by omega
 clear hD hd hlen hfit HDB hp;obtain ⟨f, hf⟩ : ∃ f : Nat -> ByteArray, f = fun k => vw s (p + k) := ⟨_, rfl⟩
 obtain ⟨D, hDl⟩ : ∃ D : Nat -> List UInt8, D = dbl s p := ⟨_, rfl⟩
 have hf' : ∀ k, vw s (p + k) = f k := fun k => by rw [hf]
 simp only [hf'] at HR HZ HS;rw [<- hDl] at HS HL ⊢;have HD0 : D 0 = [] := by rw [hDl]; rfl
 clear hf hf' hDl;go_enter Tryz.func169, Tryz.ntmps169;go_upto_region 2 with fail;have O := (Own.made w 124 #[.pointer (some ⟨d, 0, none⟩), .int .i64 (ll : Int)]).more (.cells #[.pointer none, .slice none 0 0] tB);have IB := Lib.fresh_isBuilder tB t8 (w.alloc (.cells #[.pointer (some ⟨d, 0, none⟩), .int .i64 (ll : Int)] 124));have B0 := (zG w 124 #[.pointer (some ⟨d, 0, none⟩), .int .i64 (ll : Int)]).alloc (by simp) (.cells #[.pointer none, .slice none 0 0] tB);rw [show ((w.alloc (.cells #[.pointer (some ⟨d, 0, none⟩), .int .i64 (ll : Int)] 124)).heap.size) = w.heap.size + 1 by simp] at IB;go_name_world W0 hW0;rw [hW0] at O IB B0;have z0 := O.in_;have z1 : w.heap.size + 1 < W0.heap.size := by rw [<- hW0]; simp
 clear hW0;replace IB := Lh IB;replace O := Lh O;replace B0 := Lh B0;go_wp2;go_loopw [10] (fun i wr => ∃ k : Nat, k <= 8 /\ i = .int .i64 (k : Int) /\ Lib.IsBuilder tB t8 (w.heap.size + 1) (w.heap.size + 1) (Lib.byteCells (D k)) wr /\ Own wr w.heap.size 124 #[.pointer (some ⟨d, 0, none⟩), .int .i64 (ll : Int)] /\ Below w.heap.size w wr /\ w.heap.size + 1 < wr.heap.size) (fun i wr => 8 - (intOf i).toNat)
 case atStart => exact ⟨0, by omega, rfl, by rw [HD0]; exact IB.out, O.out, B0.out, z1⟩
 case round =>
   clear IB O B0 z0 z1;obtain ⟨k, hk, rfl, hI, hO, hB, hz⟩ := hrel;replace hI := Lh hI;replace hB := Lh hB;have hO := Lh hO;by_cases hlt : k < 8
   · have w1 : IntKind.i64.wrap ((p : Int) + (k : Int)) = (p : Int) + (k : Int) := by rw [IntKind.wrap_i64]; omega
     go_upto_region 5 with fail;refine zA (fun W => Own W w.heap.size 124 #[.pointer (some ⟨d, 0, none⟩), .int .i64 (ll : Int)]) (0 :: 1 :: 2 :: 3 :: 5 :: 6 :: 8 :: 9 :: 10 :: 11 :: 12 :: []) (1 :: 2 :: []) (0 :: 1 :: 2 :: 3 :: 5 :: 4 :: 6 :: 7 :: 8 :: 9 :: 10 :: 11 :: 12 :: []) (by kernel_rfl) (by kernel_rfl) rfl (by kernel_rfl) rfl (hO.out.drawn) (by simp only [zU, List.filterMap_cons, List.filterMap_nil, List.getElem?_cons_zero, List.getElem?_cons_succ, Option.map_some]; exact rfl) ?_;iterate 5
       refine zC (v := ?_) rfl rfl (fun W hS => ?_) ?_;rotate_left
       · first
           | (conv => lhs; simp [go_sem, w1]
              first | done | exact rfl)
           | (have hS := hS rfl
              obtain ⟨q1, q3, q4⟩ := Own.at_ hS;conv => lhs; simp [go_sem, *, w1]
              first | done | exact rfl)
       simp only [Act.put, lA, lZ, lS]
     refine zQ rfl rfl fun K hK => ?_
     go_wp2_with (go_at_call 145; refine (HP.out _).mono ?_; rintro e w2 ⟨rfl, hb2⟩)
     have O2 := Lh (Own.keep hO.out.drawn hb2);have B2 := Lh (then_ hB.out.drew hb2 hB.out.drew.size);have hz2 : w.heap.size + 1 < w2.heap.size := Nat.lt_of_lt_of_le hz hb2.size;have I2 : Hid (Lib.IsBuilder tB t8 (w.heap.size + 1) (w.heap.size + 1) (Lib.byteCells (D k)) w2) := Lh (zAh (W := wr.drew) (by exact hI.out) hb2);refine hK _ _ O2.out ?_;clear hK K hb2;iterate 1
       refine zC (v := ?_) rfl rfl (fun W hS => ?_) ?_;rotate_left
       · first
           | (conv => lhs; simp [go_sem, w1]
              first | done | exact rfl)
           | (have hS := hS rfl
              obtain ⟨q1, q3, q4⟩ := Own.at_ hS;conv => lhs; simp [go_sem, *, w1]
              first | done | exact rfl)
       simp only [Act.put, lA, lZ, lS]
     refine zQ rfl rfl fun K hK => ?_
     go_wp2_with (go_at_call 158; refine (HR.out k hlt _ B2.out).mono ?_; rintro e w3 ⟨rfl, hb3⟩)
     have O3 := Lh (Own.keep O2.out hb3);have B3 := Lh (then_ B2.out hb3 B2.out.size);have hz3 : w.heap.size + 1 < w3.heap.size := Nat.lt_of_lt_of_le hz2 hb3.size;have I3 : Hid (Lib.IsBuilder tB t8 (w.heap.size + 1) (w.heap.size + 1) (Lib.byteCells (D k)) w3) := Lh (zAh I2.out hb3);refine hK _ _ O3.out ?_;clear hK K hb3;iterate 5
       refine zC (v := ?_) rfl rfl (fun W hS => ?_) ?_;rotate_left
       · first
           | (conv => lhs; simp [go_sem, w1]
              first | done | exact rfl)
           | (have hS := hS rfl
              obtain ⟨q1, q3, q4⟩ := Own.at_ hS;conv => lhs; simp [go_sem, *, w1]
              first | done | exact rfl)
       simp only [Act.put, lA, lZ, lS]
     refine zR ?_;have hlen := HL.out k hk;have hfz := HZ.out k hlt;have hsn := HS.out k;have HW := zD1 (w.heap.size + 1) (w.heap.size + 1) _ (f k) w3 I3.out (by rw [Lib.byteCells_length, hlen]; omega) (Nat.le_of_lt hz3);have hI4 : ∀ w4, Lib.BuilderAt tB t8 (w.heap.size + 1) (w.heap.size + 1) (.pointer (some ⟨w.heap.size + 1, 0, none⟩)) (Lib.byteCells (D k) ++ Lib.strCells (f k)) w4 -> Lib.IsBuilder tB t8 (w.heap.size + 1) (w.heap.size + 1) (Lib.byteCells (D (k + 1))) w4 := fun w4 h => by
       rw [hsn];have : Lib.byteCells (D k ++ (f k).data.toList) = Lib.byteCells (D k) ++ Lib.strCells (f k) := by simp [Lib.byteCells, Lib.strCells]
       rw [this];exact .inr h
     replace HW := Lh HW;replace hI4 := Lh hI4;clear hlen hfz hsn I2 I3 O2 w1;go_wp2_with (go_at_call 141; refine HW.out.mono ?_; rintro e w4 ⟨rfl, hBa, hb4⟩)
     have O4 : Own w4 w.heap.size 124 #[.pointer (some ⟨d, 0, none⟩), .int .i64 (ll : Int)] := (hb4.block _ (by omega)).trans O3.out;have I4 := hI4.out _ hBa;have B4 := B3.out.trans (hb4.mono (by omega));have z4 := Nat.lt_of_lt_of_le hz3 hb4.size;replace O4 := Lh O4;replace I4 := Lh I4;replace B4 := Lh B4;clear hBa hb4;go_roundw
     case rel => exact ⟨k + 1, by omega, by go_num, I4.out, O4.out, B4.out, z4⟩
     case measure => simp [intOf]; omega
   · obtain rfl : k = 8 := by omega
     have hS := Tryz.Builder_String_any (w.heap.size + 1) (w.heap.size + 1) _ wr hI.out (Nat.le_of_lt hz);replace hS := Lh hS;go_wp2_with (go_at_call 143; refine hS.out.mono ?_; rintro e w2 ⟨rfl, hb2⟩)
     go_ret2;exact ⟨rfl, hB.out.trans (hb2.mono (by omega))⟩
end
end
end Go.Proofs.YthijgebmoadgkaaGreatDoor
