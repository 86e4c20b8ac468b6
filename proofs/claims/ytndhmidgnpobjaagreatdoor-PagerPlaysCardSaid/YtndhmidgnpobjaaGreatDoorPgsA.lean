import Derived.Test.YtndhmidgnpobjaaGreatDoorPgrX
set_option linter.unusedVariables false
set_option linter.unusedSimpArgs false
namespace Go.Proofs.YtndhmidgnpobjaaGreatDoor
open Go.ChangeShapes Go.WideShapes Go.ChangeAt Go.RowKit
section
def PS.others (P : PS) (no : Int) : Bool := decide (1 <= no) && decide (no < (P.pages : Int))
section
variable {w w' : World} {B Bp d p c : Nat} {P : PS}
theorem Ju (h : zG w B Bp d p c P) (no : Int) (hc : c + 2 < 1000000) : Calls Tryz.prog 79 #[.pointer (some ⟨p, 0, none⟩), .int .i64 no] w fun e w' => e = .returned (.bool (P.others no)) /\ Ask w w' B Bp d p (c + 2) P := by
 have HP := Lh (zIe h hc);have HS := Lh ((Ask.same h).more (show c <= c + 2 by omega));have E := Lh (show P.others no = (decide (1 <= no) && decide (no < (P.pages : Int))) from rfl);obtain ⟨u, hu⟩ : ∃ u, u = P.pages := ⟨_, rfl⟩
 rw [<- hu] at E HP;clear h hu;by_cases h1 : 1 <= no
 · by_cases h2 : no < (u : Int)
   · go_enter Tryz.func79, Tryz.ntmps79;go_wp2_with (go_at_call 37; refine HP.out.mono ?_; rintro e w2 ⟨rfl, hA⟩)
     go_ret;rw [E.out];exact ⟨by simp [h1, h2], hA⟩
   · go_enter Tryz.func79, Tryz.ntmps79;go_wp2_with (go_at_call 37; refine HP.out.mono ?_; rintro e w2 ⟨rfl, hA⟩)
     go_ret;rw [E.out];exact ⟨by simp [h1, h2], hA⟩
 · go_enter Tryz.func79, Tryz.ntmps79;go_wp2;go_ret;rw [E.out];exact ⟨by simp; omega, HS.out⟩
end
def PS.wrC (P : PS) (no k : Int) : Bool := P.others no && (decide (2 <= k) && decide (k <= 254))
def PS.wrE (P : PS) (no k : Int) (s : ByteArray) : Int := if P.wrC no k then if s.size <= 496 then P.chgE [(no.toNat, (k.toNat, s))] else 3 else 1
def PS.wr (P : PS) (no k : Int) (s : ByteArray) : PS := if P.wrC no k then if s.size <= 496 then P.chg [(no.toNat, (k.toNat, s))] else P else P
theorem PS.pages_le {P : PS} (h : P.Ok) : P.pages <= P.most := by
 unfold PS.pages;split
 · omega
 · exact h.used.2.1
theorem zIj {P : PS} (h : P.Ok) {n : Nat} (hn : n ≠ 0) (x : Pag) : (P.put [(n, x)]).view 0 = P.view 0 := by
 unfold PS.view;show (match lk (ins n _ P.T) 0 with | some x => (x, 0) | none => P.base 0) = _
 rw [gW n _ P.T 0 h.T.1, if_neg hn];cases lk P.T 0 <;> rfl
section
variable {w w' : World} {B Bp d p c : Nat} {P : PS}
theorem Ask.then2 {c1 c2 : Nat} {P' : PS} {w2 : World} (h : Ask w w' B Bp d p c1 P) (k : Ask w' w2 B Bp d p c2 P') : Ask w w2 B Bp d p c2 P' := ⟨k.1, yV h.2 k.2⟩
set_option maxRecDepth 10000 in
theorem zB1 (h : zG w B Bp d p c P) (no k : Int) (s : ByteArray) (hc : c + 4 < 1000000) : Calls Tryz.prog 18 #[.pointer (some ⟨p, 0, none⟩), .int .i64 no, .int .i64 k, .string s] w fun e w' => e = .returned (.int .i64 (P.wrE no k s)) /\ Ask w w' B Bp d p (c + 4) (P.wr no k s) := by
 have HO := Lh (Ju h no (by omega));have HK := Lh (fun W => Qr k W);have hok := h.ok;clear h;cases h1 : P.others no with
 | false =>
   have E : Hid (P.wrE no k s = 1 /\ P.wr no k s = P) := Lh (by unfold PS.wrE PS.wr PS.wrC; rw [h1]; exact ⟨rfl, rfl⟩);rw [h1] at HO;clear h1 hok;go_enter Tryz.func18, Tryz.ntmps18;go_wp2_with (go_at_call 79; refine HO.out.mono ?_; rintro e w2 ⟨rfl, hA⟩)
   go_ret;rw [E.out.1, E.out.2];exact ⟨rfl, hA.more (by omega)⟩
 | true =>
   have hno : 1 <= no /\ no < (P.pages : Int) := by simpa [PS.others] using h1
   have hpm := PS.pages_le hok;rw [h1] at HO;cases h2 : (decide (2 <= k) && decide (k <= 254)) with
   | false =>
     have E : Hid (P.wrE no k s = 1 /\ P.wr no k s = P) := Lh (by unfold PS.wrE PS.wr PS.wrC; rw [h1, h2]; exact ⟨rfl, rfl⟩);rw [h2] at HK;clear h1 h2 hok hno hpm;go_enter Tryz.func18, Tryz.ntmps18;go_wp2_with (first | (go_at_call 79; refine HO.out.mono ?_; rintro e w2 ⟨rfl, hA⟩) | (go_at_call 75; refine (HK.out _).mono ?_; rintro e w3 ⟨rfl, rfl⟩))
     go_ret;rw [E.out.1, E.out.2];exact ⟨rfl, hA.more (by omega)⟩
   | true =>
     have hk : 2 <= k /\ k <= 254 := by simpa using h2
     rw [h2] at HK;by_cases h3 : s.size <= 496
     · have E : Hid (P.wrE no k s = P.chgE [(no.toNat, (k.toNat, s))] /\ P.wr no k s = P.chg [(no.toNat, (k.toNat, s))]) := Lh (by unfold PS.wrE PS.wr PS.wrC; rw [h1, h2, if_pos h3, if_pos h3]; exact ⟨rfl, rfl⟩);have en : ((no.toNat : Nat) : Int) = no := Int.toNat_of_nonneg (by omega);have ek : ((k.toNat : Nat) : Int) = k := Int.toNat_of_nonneg (by omega);have CH : Hid (∀ W, zG W B Bp d p (c + 2) P -> Calls Tryz.prog 78 #[.pointer (some ⟨p, 0, none⟩), .slice (some ⟨W.heap.size, 0, none⟩) 1 1] (W.alloc (.cells #[.int .i64 no, .int .i64 k, .string s] 112)) fun e w' => e = .returned (.int .i64 (P.wrE no k s)) /\ Ask W w' B Bp d p (c + 4) (P.wr no k s)) := Lh fun W hW => by
         have hB := zF W 112 #[.int .i64 no, .int .i64 k, .string s];rw [E.out.1, E.out.2];refine (fE (hW.below hB) [(no.toNat, (k.toNat, s))] (by simp) (fun q hq => by
           simp only [List.mem_singleton] at hq;subst hq;exact ⟨by simp only; omega, by simp only; omega, by simp only; omega, h3⟩) (by omega) (by rw [zIj hok (by omega)]; exact ⟨hok.hd, hok.hd0⟩) W.heap.size _ (Own.made W _ _) (fun i q hq => ?_)).mono ?_
         · rcases i with _ | i
           · simp only [List.getElem?_cons_zero, Option.some.injEq] at hq;subst hq;simp [en, ek]
           · simp at hq
         · rintro e w2 ⟨rfl, hA⟩;exact ⟨rfl, Ask.from_ hB hA⟩
       have h4 : ¬ (496 : Int) < (s.size : Int) := by omega
       clear h1 h2 hok hno hpm hk h3 en ek E;go_enter Tryz.func18, Tryz.ntmps18;go_wp2_with (first | (go_at_call 79; refine HO.out.mono ?_; rintro e w2 ⟨rfl, hA⟩; have A2 := Lh hA; clear hA) | (go_at_call 75; refine (HK.out _).mono ?_; rintro e w3 ⟨rfl, rfl⟩) | (go_at_call 78; refine (CH.out w2 A2.out.1).mono ?_; rintro e w4 ⟨rfl, hA4⟩))
       go_ret;exact ⟨rfl, A2.out.then2 hA4⟩
     · have E : Hid (P.wrE no k s = 3 /\ P.wr no k s = P) := Lh (by unfold PS.wrE PS.wr PS.wrC; rw [h1, h2, if_neg h3, if_neg h3]; exact ⟨rfl, rfl⟩);have h4 : (496 : Int) < (s.size : Int) := by omega
       clear h1 h2 hok hno hpm hk h3;go_enter Tryz.func18, Tryz.ntmps18;go_wp2_with (first | (go_at_call 79; refine HO.out.mono ?_; rintro e w2 ⟨rfl, hA⟩) | (go_at_call 75; refine (HK.out _).mono ?_; rintro e w3 ⟨rfl, rfl⟩))
       go_ret;rw [E.out.1, E.out.2];exact ⟨rfl, hA.more (by omega)⟩
end
end
section
def PS.tk (P : PS) : Nat × Int × Nat × Nat := if P.free = 0 then (if P.most <= P.used then (0, 8, P.used, P.free) else (P.used, 0, P.used + 1, P.free)) else if (P.view P.free).2 = 0 then (match nxt P.used (P.view P.free).1 with
 | none => (0, 19, P.used, P.free)
 | some n => (P.free, 0, P.used, n)) else (0, ((P.view P.free).2 : Int), P.used, P.free)
section
variable {w w' : World} {B Bp d p c : Nat} {P : PS}
def Jt (w w' : World) (B Bp d p c q : Nat) (P : PS) : Prop := zG w' B Bp d p c P /\ Chg (fun b => b = q \/ Po.PT w Bp b) w w'
theorem Ask.q (h : Ask w w' B Bp d p c P) (q : Nat) : Jt w w' B Bp d p c q P := ⟨h.1, h.2.mono fun b _ hb => .inr hb⟩
theorem Jt.cell {q : Nat} {T : TypeId} {cs : Array Value} (h : Jt w w' B Bp d p c q P) (ho : Own w' q T cs) (hT : PgT T) (h0 : ∀ x, cs[0]? ≠ some (.int .u8 x)) (i : Nat) (v : Value) : Jt w (w'.setCell ⟨q, i, none⟩ v) B Bp d p c q P :=
 ⟨h.1.cell ho hT h0 i v, h.2.set ⟨q, i, none⟩ (.inl (.inl rfl)) _⟩
theorem Jt.below {q : Nat} {w2 : World} (h : Jt w w' B Bp d p c q P) (hb : Below w'.heap.size w' w2) : Jt w w2 B Bp d p c q P := ⟨h.1.below hb, h.2.trans (Chg.of (S := fun _ => False) hb) fun b _ e => e.elim⟩
theorem Jt.more {q : Nat} (h : Jt w w' B Bp d p c q P) {c' : Nat} (hc : c <= c') : Jt w w' B Bp d p c' q P := ⟨h.1.more hc, h.2⟩
set_option maxRecDepth 10000 in
theorem zKa (h : zG w B Bp d p c P) (hf : P.free = 0) (q : Nat) (hq : Own w q 114 (hC P.used P.free P.root)) :
   Calls Tryz.prog 77 #[.pointer (some ⟨p, 0, none⟩), .pointer (some ⟨q, 0, none⟩)] w fun e w' => e = .returned (.tuple #[.int .i64 (P.tk.1 : Int), .int .i64 P.tk.2.1]) /\ Own w' q 114 (hC P.tk.2.2.1 P.tk.2.2.2 P.root) /\ Jt w w' B Bp d p c q P := by
 have hok := h.ok;have hm := hok.most;have hu := hok.used;have HM : Hid (∀ W, Below w.heap.size w W -> Calls Tryz.prog 71 #[.agg #[.pointer (some ⟨d, 0, none⟩), .int .i64 (P.ll : Int)]] W fun e w' => e = .returned (.int .i64 (P.most : Int)) /\ Below W.heap.size W w') := Lh fun W hW => by
   obtain ⟨sb, mb, sc, wv, lg, lm, pl, R, h⟩ := h.below hW;exact Ui h.disk P.ll h.ok.fit
 have A0 := Lh ((Ask.same h).q q);obtain ⟨lg, lm, pl, ho⟩ := h.cells;have HO := Lh ho;have E := Lh (show P.tk = if P.most <= P.used then (0, 8, P.used, P.free) else (P.used, 0, P.used + 1, P.free) by unfold PS.tk; rw [if_pos hf]);obtain ⟨u, hu2⟩ : ∃ u, u = P.used := ⟨_, rfl⟩
 obtain ⟨f, hf2⟩ : ∃ f, f = P.free := ⟨_, rfl⟩
 obtain ⟨r, hr2⟩ : ∃ r, r = P.root := ⟨_, rfl⟩
 obtain ⟨mo, hmo⟩ : ∃ mo, mo = P.most := ⟨_, rfl⟩
 rw [<- hu2, <- hf2] at E;rw [<- hmo] at E HM;rw [<- hu2, <- hf2, <- hr2] at hq;rw [<- hr2];rw [<- hu2] at hu;rw [<- hmo] at hu hm;have hf0 : f = 0 := by rw [hf2, hf]
 clear hf hf2 hu2 hr2 hmo hok h;subst hf0;unfold hC at hq;have HQ := Lh hq;obtain ⟨q1, q2, q3⟩ := hq.at_;obtain ⟨o1, o2, o3⟩ := ho.at_;by_cases hle : mo <= u
 · rw [if_pos hle] at E;have tt : decide ((mo : Int) <= (u : Int)) = true := by simpa using hle
   go_enter Tryz.func77, Tryz.ntmps77;go_upto_region 3 with fail;have hO := Lh ho;refine zA (fun W => Own W q 114 #[.int .i64 (u : Int), .int .i64 ((0 : Nat) : Int), .int .u64 (r 0 : Int), .int .u64 (r 1 : Int), .int .u64 (r 2 : Int), .int .u64 (r 3 : Int), .int .u64 (r 4 : Int), .int .u64 (r 5 : Int), .int .u64 (r 6 : Int), .int .u64 (r 7 : Int)] /\ Own W p 131 #[.pointer (some ⟨d, 0, none⟩), .int .i64 (P.ll : Int), .int .u64 (P.seq : Int), .pointer (some ⟨lg, 0, none⟩), .map (some lm), .int .i64 (P.room : Int), .pointer (some ⟨pl, 0, none⟩), .bool P.failed]) (0 :: 1 :: 2 :: 3 :: 4 :: 5 :: 6 :: 7 :: 9 :: []) (3 :: 7 :: []) (0 :: 1 :: 2 :: 3 :: 4 :: 5 :: 6 :: 7 :: 8 :: 9 :: []) (by kernel_rfl) (by kernel_rfl) rfl (by kernel_rfl) rfl (⟨HQ.out.drawn, HO.out.drawn⟩) (by simp only [zQ, List.filterMap_cons, List.filterMap_nil, List.getElem?_cons_zero, List.getElem?_cons_succ, Option.map_some]; exact rfl) ?_;iterate 8
     refine zC (v := ?_) rfl rfl (fun W hS => ?_) ?_;rotate_left
     · first
         | (conv => lhs; simp [go_sem, tt]
            first | done | exact rfl)
         | (have hS := hS rfl
            obtain ⟨q1, q2⟩ := hS;obtain ⟨q1, q3, q4⟩ := Own.at_ q1;obtain ⟨q2, q5, q6⟩ := Own.at_ q2;conv => lhs; simp [go_sem, *, tt]
            first | done | exact rfl)
     simp only [Act.put, lA, lZ, lS]
   refine zK rfl rfl fun K hK => ?_
   go_wp2_with (go_at_call 71; refine (HM.out _ (Below.refl _ _).drew).mono ?_; rintro e w3 ⟨rfl, hb3⟩)
   have B3 := Lh (then_ (Below.refl w.heap.size w).drew hb3 (Nat.le_refl _));have Q3 := Lh (HQ.out.keep B3.out);refine hK _ _ ⟨Q3.out, HO.out.keep B3.out⟩ ?_;clear hK K hb3;iterate 1
     refine zC (v := ?_) rfl rfl (fun W hS => ?_) ?_;rotate_left
     · first
         | (conv => lhs; simp [go_sem, tt]
            first | done | exact rfl)
         | (have hS := hS rfl
            obtain ⟨q1, q2⟩ := hS;obtain ⟨q1, q3, q4⟩ := Own.at_ q1;obtain ⟨q2, q5, q6⟩ := Own.at_ q2;conv => lhs; simp [go_sem, *, tt]
            first | done | exact rfl)
     simp only [Act.put, lA, lZ, lS]
   refine zN ?_;obtain ⟨r1, r2, r3⟩ := Q3.out.at_;have t2 : decide (mo <= u) = true := by simpa using hle
   rw [t2];clear tt t2;go_wp2;go_ret2;rw [E.out];exact ⟨rfl, Q3.out, A0.out.below B3.out⟩
 · rw [if_neg hle] at E;have tt : decide ((mo : Int) <= (u : Int)) = false := by simpa using hle
   go_enter Tryz.func77, Tryz.ntmps77;go_upto_region 3 with fail;have hO := Lh ho;refine zA (fun W => Own W q 114 #[.int .i64 (u : Int), .int .i64 ((0 : Nat) : Int), .int .u64 (r 0 : Int), .int .u64 (r 1 : Int), .int .u64 (r 2 : Int), .int .u64 (r 3 : Int), .int .u64 (r 4 : Int), .int .u64 (r 5 : Int), .int .u64 (r 6 : Int), .int .u64 (r 7 : Int)] /\ Own W p 131 #[.pointer (some ⟨d, 0, none⟩), .int .i64 (P.ll : Int), .int .u64 (P.seq : Int), .pointer (some ⟨lg, 0, none⟩), .map (some lm), .int .i64 (P.room : Int), .pointer (some ⟨pl, 0, none⟩), .bool P.failed]) (0 :: 1 :: 2 :: 3 :: 4 :: 5 :: 6 :: 7 :: 9 :: []) (3 :: 7 :: []) (0 :: 1 :: 2 :: 3 :: 4 :: 5 :: 6 :: 7 :: 8 :: 9 :: []) (by kernel_rfl) (by kernel_rfl) rfl (by kernel_rfl) rfl (⟨HQ.out.drawn, HO.out.drawn⟩) (by simp only [zQ, List.filterMap_cons, List.filterMap_nil, List.getElem?_cons_zero, List.getElem?_cons_succ, Option.map_some]; exact rfl) ?_;iterate 8
     refine zC (v := ?_) rfl rfl (fun W hS => ?_) ?_;rotate_left
     · first
         | (conv => lhs; simp [go_sem, tt]
            first | done | exact rfl)
         | (have hS := hS rfl
            obtain ⟨q1, q2⟩ := hS;obtain ⟨q1, q3, q4⟩ := Own.at_ q1;obtain ⟨q2, q5, q6⟩ := Own.at_ q2;conv => lhs; simp [go_sem, *, tt]
            first | done | exact rfl)
     simp only [Act.put, lA, lZ, lS]
   refine zK rfl rfl fun K hK => ?_
   go_wp2_with (go_at_call 71; refine (HM.out _ (Below.refl _ _).drew).mono ?_; rintro e w3 ⟨rfl, hb3⟩)
   have B3 := Lh (then_ (Below.refl w.heap.size w).drew hb3 (Nat.le_refl _));have Q3 := Lh (HQ.out.keep B3.out);refine hK _ _ ⟨Q3.out, HO.out.keep B3.out⟩ ?_;clear hK K hb3;iterate 1
     refine zC (v := ?_) rfl rfl (fun W hS => ?_) ?_;rotate_left
     · first
         | (conv => lhs; simp [go_sem, tt]
            first | done | exact rfl)
         | (have hS := hS rfl
            obtain ⟨q1, q2⟩ := hS;obtain ⟨q1, q3, q4⟩ := Own.at_ q1;obtain ⟨q2, q5, q6⟩ := Own.at_ q2;conv => lhs; simp [go_sem, *, tt]
            first | done | exact rfl)
     simp only [Act.put, lA, lZ, lS]
   refine zN ?_;obtain ⟨r1, r2, r3⟩ := Q3.out.at_;have t2 : decide (mo <= u) = false := by simpa using hle
   rw [t2];clear tt t2;have w1 : IntKind.i64.wrap ((u : Int) + 1) = (u : Int) + 1 := by rw [IntKind.wrap_i64]; omega
   have w2 : IntKind.i64.wrap ((u : Int) + 1 - 1) = (u : Int) := by rw [IntKind.wrap_i64]; omega
   go_wp2;go_ret2;rw [E.out];refine ⟨?_, ?_, ?_⟩
   · rfl
   · exact Q3.out.put 0 (.int .i64 ((u : Int) + 1))
   · exact (A0.out.below B3.out).cell Q3.out (by unfold PgT; decide) (by simp) 0 _
set_option maxRecDepth 10000 in
set_option maxHeartbeats 1000000 in
theorem zJ2 (h : zG w B Bp d p c P) (hd : P.s.down = false) (hf : P.free ≠ 0) (hc : c + 2 < 1000000) (q : Nat) (hq : Own w q 114 (hC P.used P.free P.root)) :
   Calls Tryz.prog 77 #[.pointer (some ⟨p, 0, none⟩), .pointer (some ⟨q, 0, none⟩)] w fun e w' => e = .returned (.tuple #[.int .i64 (P.tk.1 : Int), .int .i64 P.tk.2.1]) /\ Own w' q 114 (hC P.tk.2.2.1 P.tk.2.2.2 P.root) /\ Jt w w' B Bp d p (c + 2) q P := by
 have hok := h.ok;have hm := hok.most;have hu := hok.used;have FD := mX h hd P.free (by omega) hc;have hvf := fun h0 => zAy hok (no := P.free) h0
 have E := Lh (show P.tk = if (P.view P.free).2 = 0 then (match nxt P.used (P.view P.free).1 with | none => (0, 19, P.used, P.free) | some n => (P.free, 0, P.used, n)) else (0, ((P.view P.free).2 : Int), P.used, P.free) by unfold PS.tk; rw [if_neg hf]);obtain ⟨v, hv⟩ : ∃ v, v = P.view P.free := ⟨_, rfl⟩
 rw [<- hv] at E FD hvf;obtain ⟨u, hu2⟩ : ∃ u, u = P.used := ⟨_, rfl⟩
 obtain ⟨f, hf2⟩ : ∃ f, f = P.free := ⟨_, rfl⟩
 obtain ⟨r, hr2⟩ : ∃ r, r = P.root := ⟨_, rfl⟩
 rw [<- hu2, <- hf2] at E;rw [<- hu2, <- hf2, <- hr2] at hq;rw [<- hf2] at FD hf;rw [<- hr2];unfold Je at FD;clear hf2 hu2 hr2 hok h hm hu hv;have hfi : ¬ (f : Int) = 0 := by omega
 unfold hC at hq;have HQ := Lh hq;obtain ⟨q1, q2, q3⟩ := hq.at_;clear hq;by_cases h0 : v.2 = 0
 · rw [if_pos h0] at E FD;rw [h0] at FD;have HX := hvf h0;obtain ⟨x, hx⟩ : ∃ x, x = v.1 := ⟨_, rfl⟩
   rw [<- hx] at E FD HX;have HNX := Lh (fun w => zE3 f u x w HX.size);unfold shV at FD HNX;have FDh := Lh FD;clear hvf HX FD hx h0;cases hn : nxt u x with
   | none =>
     rw [hn] at E HNX;have E : P.tk = (0, 19, u, f) := E.out;replace E := Lh E;clear hn;go_enter Tryz.func77, Tryz.ntmps77;go_upto_region 10 with (go_at_call 73; refine FDh.out.mono ?_; rintro e w2 ⟨rfl, hA⟩; have A2 := Lh hA; have Q2 := Lh (yX hA.2 HQ.out (by decide) (by decide)); clear hA)
     refine zA (fun W => Own W q 114 #[.int .i64 (u : Int), .int .i64 (f : Int), .int .u64 (r 0 : Int), .int .u64 (r 1 : Int), .int .u64 (r 2 : Int), .int .u64 (r 3 : Int), .int .u64 (r 4 : Int), .int .u64 (r 5 : Int), .int .u64 (r 6 : Int), .int .u64 (r 7 : Int)] /\ Own W w2.heap.size 112 #[.int .i64 (f : Int), .int .i64 (x.1 : Int), .string x.2]) (0 :: 1 :: 2 :: 3 :: 4 :: 6 :: 7 :: 8 :: 9 :: 10 :: []) (0 :: 4 :: []) (0 :: 1 :: 2 :: 3 :: 4 :: 5 :: 6 :: 7 :: 8 :: 9 :: 10 :: []) (by kernel_rfl) (by kernel_rfl) rfl (by kernel_rfl) rfl (⟨(Q2.out.keep (zF w2 _ _)).drawn, (Own.made w2 112 #[.int .i64 (f : Int), .int .i64 (x.1 : Int), .string x.2]).drawn⟩) (by simp only [zQ, List.filterMap_cons, List.filterMap_nil, List.getElem?_cons_zero, List.getElem?_cons_succ, Option.map_some]; exact rfl) ?_;iterate 5
       refine zC (v := ?_) rfl rfl (fun W hS => ?_) ?_;rotate_left
       · first
           | (conv => lhs; simp [go_sem, True]
              first | done | exact rfl)
           | (have hS := hS rfl
              obtain ⟨q1, q2⟩ := hS;obtain ⟨q1, q3, q4⟩ := Own.at_ q1;obtain ⟨q2, q5, q6⟩ := Own.at_ q2;conv => lhs; simp [go_sem, *, True]
              first | done | exact rfl)
       simp only [Act.put, lA, lZ, lS]
     refine zK rfl rfl fun K hK => ?_
     go_wp2_with (go_at_call 145; refine (HNX.out _).mono ?_; rintro e w3 ⟨rfl, hb3⟩)
     have B3 := Lh (then_ (zF w2 112 #[.int .i64 (f : Int), .int .i64 (x.1 : Int), .string x.2]).drew hb3 (zF w2 112 #[.int .i64 (f : Int), .int .i64 (x.1 : Int), .string x.2]).drew.size);have Q3 := Lh (Q2.out.keep B3.out);refine hK _ _ ⟨Q3.out, ((Own.made w2 112 #[.int .i64 (f : Int), .int .i64 (x.1 : Int), .string x.2]).drawn).keep hb3⟩ ?_;clear hK K hb3;iterate 5
       refine zC (v := ?_) rfl rfl (fun W hS => ?_) ?_;rotate_left
       · first
           | (conv => lhs; simp [go_sem, True]
              first | done | exact rfl)
           | (have hS := hS rfl
              obtain ⟨q1, q2⟩ := hS;obtain ⟨q1, q3, q4⟩ := Own.at_ q1;obtain ⟨q2, q5, q6⟩ := Own.at_ q2;conv => lhs; simp [go_sem, *, True]
              first | done | exact rfl)
       simp only [Act.put, lA, lZ, lS]
     refine zN ?_;obtain ⟨r1, r2, r3⟩ := Q3.out.at_;go_wp2;go_ret2;rw [E.out];exact ⟨rfl, Q3.out, (A2.out.q q).below B3.out⟩
   | some n =>
     rw [hn] at E HNX;have E : P.tk = (f, 0, u, n) := E.out;replace E := Lh E;clear hn;go_enter Tryz.func77, Tryz.ntmps77;go_upto_region 10 with (go_at_call 73; refine FDh.out.mono ?_; rintro e w2 ⟨rfl, hA⟩; have A2 := Lh hA; have Q2 := Lh (yX hA.2 HQ.out (by decide) (by decide)); clear hA)
     refine zA (fun W => Own W q 114 #[.int .i64 (u : Int), .int .i64 (f : Int), .int .u64 (r 0 : Int), .int .u64 (r 1 : Int), .int .u64 (r 2 : Int), .int .u64 (r 3 : Int), .int .u64 (r 4 : Int), .int .u64 (r 5 : Int), .int .u64 (r 6 : Int), .int .u64 (r 7 : Int)] /\ Own W w2.heap.size 112 #[.int .i64 (f : Int), .int .i64 (x.1 : Int), .string x.2]) (0 :: 1 :: 2 :: 3 :: 4 :: 6 :: 7 :: 8 :: 9 :: 10 :: []) (0 :: 4 :: []) (0 :: 1 :: 2 :: 3 :: 4 :: 5 :: 6 :: 7 :: 8 :: 9 :: 10 :: []) (by kernel_rfl) (by kernel_rfl) rfl (by kernel_rfl) rfl (⟨(Q2.out.keep (zF w2 _ _)).drawn, (Own.made w2 112 #[.int .i64 (f : Int), .int .i64 (x.1 : Int), .string x.2]).drawn⟩) (by simp only [zQ, List.filterMap_cons, List.filterMap_nil, List.getElem?_cons_zero, List.getElem?_cons_succ, Option.map_some]; exact rfl) ?_;iterate 5
       refine zC (v := ?_) rfl rfl (fun W hS => ?_) ?_;rotate_left
       · first
           | (conv => lhs; simp [go_sem, True]
              first | done | exact rfl)
           | (have hS := hS rfl
              obtain ⟨q1, q2⟩ := hS;obtain ⟨q1, q3, q4⟩ := Own.at_ q1;obtain ⟨q2, q5, q6⟩ := Own.at_ q2;conv => lhs; simp [go_sem, *, True]
              first | done | exact rfl)
       simp only [Act.put, lA, lZ, lS]
     refine zK rfl rfl fun K hK => ?_
     go_wp2_with (go_at_call 145; refine (HNX.out _).mono ?_; rintro e w3 ⟨rfl, hb3⟩)
     have B3 := Lh (then_ (zF w2 112 #[.int .i64 (f : Int), .int .i64 (x.1 : Int), .string x.2]).drew hb3 (zF w2 112 #[.int .i64 (f : Int), .int .i64 (x.1 : Int), .string x.2]).drew.size);have Q3 := Lh (Q2.out.keep B3.out);refine hK _ _ ⟨Q3.out, ((Own.made w2 112 #[.int .i64 (f : Int), .int .i64 (x.1 : Int), .string x.2]).drawn).keep hb3⟩ ?_;clear hK K hb3;iterate 5
       refine zC (v := ?_) rfl rfl (fun W hS => ?_) ?_;rotate_left
       · first
           | (conv => lhs; simp [go_sem, True]
              first | done | exact rfl)
           | (have hS := hS rfl
              obtain ⟨q1, q2⟩ := hS;obtain ⟨q1, q3, q4⟩ := Own.at_ q1;obtain ⟨q2, q5, q6⟩ := Own.at_ q2;conv => lhs; simp [go_sem, *, True]
              first | done | exact rfl)
       simp only [Act.put, lA, lZ, lS]
     refine zN ?_;obtain ⟨r1, r2, r3⟩ := Q3.out.at_;go_wp2;go_ret2;rw [E.out];exact ⟨rfl, Q3.out.put 1 (.int .i64 (n : Int)), ((A2.out.q q).below B3.out).cell Q3.out (by unfold PgT; decide) (by simp) 1 _⟩
 · rw [if_neg h0] at E FD;obtain ⟨y, hy⟩ : ∃ y, y = v.2 := ⟨_, rfl⟩
   rw [<- hy] at E FD h0;have h1 : ¬ (y : Int) = 0 := by omega
   have h2 : ((y : Int) != 0) = true := by rw [bne_iff_ne]; exact h1
   unfold fW at FD;have FDh := Lh FD;clear hvf FD hy;go_enter Tryz.func77, Tryz.ntmps77;go_wp2_with (go_at_call 73; refine FDh.out.mono ?_; rintro e w2 ⟨rfl, hA⟩; have A2 := Lh hA; have Q2 := Lh (yX hA.2 HQ.out (by decide) (by decide)); clear hA)
   go_ret2;rw [E.out];exact ⟨rfl, Q2.out.keep (zF w2 _ _), (A2.out.q q).below (zF w2 _ _)⟩
theorem zIk (h : zG w B Bp d p c P) (hd : P.s.down = false) (hc : c + 2 < 1000000) (q : Nat) (hq : Own w q 114 (hC P.used P.free P.root)) :
   Calls Tryz.prog 77 #[.pointer (some ⟨p, 0, none⟩), .pointer (some ⟨q, 0, none⟩)] w fun e w' => e = .returned (.tuple #[.int .i64 (P.tk.1 : Int), .int .i64 P.tk.2.1]) /\ Own w' q 114 (hC P.tk.2.2.1 P.tk.2.2.2 P.root) /\ Jt w w' B Bp d p (c + 2) q P := by
 by_cases hf : P.free = 0
 · refine (zKa h hf q hq).mono ?_;rintro e w2 ⟨rfl, h1, h2⟩;exact ⟨rfl, h1, h2.more (by omega)⟩
 · exact zJ2 h hd hf hc q hq
end
end
section
theorem zOv {P : PS} (h : P.Ok) (u f : Nat) (r : Nat -> Nat) (L : List (Nat × Pag)) (hL : ∀ q ∈ L, q.1 ≠ 0) : (P.put ((0, (1, zM u f r)) :: L)).view 0 = ((1, zM u f r), 0) := by
 have e : fl (zM u f r) = zM u f r := jC _ (xB u f r);have key : ∀ (L T : List (Nat × Pag)), asc T -> (∀ q ∈ L, q.1 ≠ 0) -> lk T 0 = some (1, zM u f r) -> lk (yH T (L.map wh)) 0 = some (1, zM u f r) := by
   intro L;induction L with
   | nil => intro T _ _ h; exact h
   | cons q L ih =>
     intro T hT hq h;refine ih _ (qS _ _ hT) (fun q' h' => hq q' (by simp [h'])) ?_;rw [gW _ _ _ _ hT, if_neg (show ¬ (wh q).1 = 0 from hq q (by simp))];exact h
 have h1 := key L (ins 0 (1, fl (zM u f r)) P.T) (qS _ _ h.T.1) hL (by rw [gW _ _ _ _ h.T.1, if_pos rfl, e]);unfold PS.view;show (match lk (yH (ins 0 (1, fl (zM u f r)) P.T) (L.map wh)) 0 with | some x => (x, 0) | none => P.base 0) = _
 rw [h1]
theorem PS.root_lt (P : PS) (i : Nat) : P.root i < 18446744073709551616 := zLx _ i
theorem Vd {P : PS} (h : P.Ok) {u f : Nat} (h1 : 1 <= u) (h2 : u <= P.most) (h3 : f < u) (r : Nat -> Nat) (hr : ∀ i, i < 8 -> r i < 18446744073709551616) (L : List (Nat × Pag)) (hL : ∀ q ∈ L, q.1 ≠ 0) :
   Um P.most ((P.put ((0, (1, zM u f r)) :: L)).view 0).1 /\ ((P.put ((0, (1, zM u f r)) :: L)).view 0).2 = 0 := by
 rw [zOv h u f r L hL];have := h.most;exact ⟨Um.mk' h1 h2 h3 (by omega) hr, rfl⟩
theorem PS.tk_ok {P : PS} (h : P.Ok) (h0 : P.tk.2.1 = 0) : 1 <= P.tk.1 /\ P.tk.1 < P.most /\ 1 <= P.tk.2.2.1 /\ P.tk.2.2.1 <= P.most /\ P.tk.2.2.2 < P.tk.2.2.1 := by
 have hu := h.used;unfold PS.tk at h0 ⊢;by_cases hf : P.free = 0
 · rw [if_pos hf] at h0 ⊢;by_cases hm : P.most <= P.used
   · rw [if_pos hm] at h0; simp at h0
   · rw [if_neg hm]; simp only; omega
 · rw [if_neg hf] at h0 ⊢;by_cases hv : (P.view P.free).2 = 0
   · rw [if_pos hv] at h0 ⊢;cases hn : nxt P.used (P.view P.free).1 with
     | none => rw [hn] at h0; simp at h0
     | some n =>
       simp only;have : n < P.used := by
         unfold nxt at hn;split at hn
         · rename_i c; injection hn with hn; omega
         · cases hn
       omega
   · rw [if_neg hv] at h0;simp only at h0;omega
section
variable {w w' w2 w3 : World} {B Bp d p c : Nat} {P P' : PS}
theorem Ask.thenQ {c1 c2 q : Nat} (h : Ask w w2 B Bp d p c1 P) (k : Jt w2 w3 B Bp d p c2 q P') (hq : w.heap.size <= q) : Ask w w3 B Bp d p c2 P' := ⟨k.1, h.2.trans k.2 fun b hb hf => by
 rcases hf with e | hf
 · omega
 · by_cases c : Po.PT w Bp b
   · exact c
   · exact zD2 (h.2.block b hb c) hf⟩
end
def PS.kd (k : Int) : Bool := decide (2 <= k) && decide (k <= 254)
def PS.alL (P : PS) (k : Int) : List (Nat × Pag) := [(0, (1, zM P.tk.2.2.1 P.tk.2.2.2 P.root)), (P.tk.1, (k.toNat, ⟨#[]⟩))]
def PS.alE (P : PS) (k : Int) : Int := if PS.kd k then if P.s.down then 11 else if P.tk.2.1 = 0 then P.chgE (P.alL k) else P.tk.2.1 else 1
def PS.alN (P : PS) (k : Int) : Nat := if P.alE k = 0 then P.tk.1 else 0
def PS.al (P : PS) (k : Int) : PS := if PS.kd k then if P.s.down then P else if P.tk.2.1 = 0 then P.chg (P.alL k) else P else P
section
variable {w w' w2 w3 : World} {B Bp d p c : Nat} {P P' : PS}
theorem zFg (h : zG w B Bp d p c P) (k : Int) (hk : PS.kd k = false) : Calls Tryz.prog 17 #[.pointer (some ⟨p, 0, none⟩), .int .i64 k] w fun e w' => e = .returned (.tuple #[.int .i64 0, .int .i64 1]) /\ w = w' := by
 have HK := Lh (fun W => Qr k W);have e : (decide (2 <= k) && decide (k <= 254)) = false := hk;rw [e] at HK;clear e hk h;go_enter Tryz.func17, Tryz.ntmps17;go_wp2_with (go_at_call 75; refine (HK.out _).mono ?_; rintro e w3 ⟨rfl, rfl⟩)
 go_ret2;exact ⟨rfl, rfl⟩
theorem zEf (h : zG w B Bp d p c P) (k : Int) (hk : PS.kd k = true) (hd : P.s.down = true) : Calls Tryz.prog 17 #[.pointer (some ⟨p, 0, none⟩), .int .i64 k] w fun e w' => e = .returned (.tuple #[.int .i64 0, .int .i64 11]) /\ w = w' := by
 have HK := Lh (fun W => Qr k W);have e : (decide (2 <= k) && decide (k <= 254)) = true := hk;rw [e] at HK;have HD := Lh (jI h);rw [hd] at HD;obtain ⟨lg, lm, pl, ho⟩ := h.cells;obtain ⟨q1, q2, q3⟩ := ho.at_;clear e hk h hd ho;go_enter Tryz.func17, Tryz.ntmps17;go_wp2_with (first | (go_at_call 75; refine (HK.out _).mono ?_; rintro e w3 ⟨rfl, rfl⟩) | (go_at_call 67; refine HD.out.mono ?_; rintro e w2 ⟨rfl, rfl⟩))
 go_ret2;exact ⟨rfl, rfl⟩
set_option maxRecDepth 10000 in
set_option maxHeartbeats 1000000 in
theorem zKd (h : zG w B Bp d p c P) (k : Int) (hk : PS.kd k = true) (hd : P.s.down = false) (hc : c + 6 < 1000000) : Calls Tryz.prog 17 #[.pointer (some ⟨p, 0, none⟩), .int .i64 k] w fun e w' => e = .returned (.tuple #[.int .i64 (P.alN k : Int), .int .i64 (P.alE k)]) /\ Ask w w' B Bp d p (c + 6) (P.al k) := by
 have hok := h.ok;have HK := Lh (fun W => Qr k W);have e : (decide (2 <= k) && decide (k <= 254)) = true := hk;rw [e] at HK;have hk2 : 2 <= k /\ k <= 254 := by simpa using e
 have HD := Lh (jI h);rw [hd] at HD;have HH := mS h hd (by omega);unfold hV hC at HH;replace HH := Lh HH;obtain ⟨tn, te, tu, tf, htk⟩ : ∃ a b c d, P.tk = (a, b, c, d) := by
   rcases P.tk with ⟨a, b, c, d⟩
   exact ⟨a, b, c, d, rfl⟩
 have TKO := fun h0 => PS.tk_ok hok h0
 obtain ⟨r, hr⟩ : ∃ r, r = P.root := ⟨_, rfl⟩
 have hrl : ∀ i, r i < 18446744073709551616 := fun i => by rw [hr]; exact P.root_lt i
 have AL : P.alL k = [(0, (1, zM tu tf r)), (tn, (k.toNat, ⟨#[]⟩))] := by unfold PS.alL; rw [htk, <- hr]
 have EE : P.alE k = (if P.tk.2.1 = 0 then P.chgE (P.alL k) else P.tk.2.1) /\ P.al k = if P.tk.2.1 = 0 then P.chg (P.alL k) else P := by unfold PS.alE PS.al; simp only [hk, hd, if_true, Bool.false_eq_true, if_false]; exact ⟨trivial, trivial⟩
 have EN : P.alN k = if P.alE k = 0 then P.tk.1 else 0 := rfl
 have TK : ∀ W, zG W B Bp d p (c + 2) P -> Calls Tryz.prog 77 #[.pointer (some ⟨p, 0, none⟩), .pointer (some ⟨W.heap.size, 0, none⟩)] (W.alloc (.cells (hC P.used P.free P.root) 114)) fun e w' => e = .returned (.tuple #[.int .i64 (P.tk.1 : Int), .int .i64 P.tk.2.1]) /\ Own w' W.heap.size 114 (hC P.tk.2.2.1 P.tk.2.2.2 P.root) /\ Jt (W.alloc (.cells (hC P.used P.free P.root) 114)) w' B Bp d p (c + 4) W.heap.size P := fun W hW => zIk (hW.below (zF W _ _)) hd (by omega) W.heap.size (Own.made W _ _)
 rw [htk] at EE EN TK TKO;rw [AL] at EE;simp only at EE EN TK TKO;replace EE := Lh EE;replace EN := Lh EN;replace TK := Lh TK;have CH := fun (h0 : te = 0) W (hW : zG W B Bp d p (c + 4) P) => fE (hW.below (zF W 112 #[.int .i64 0, .int .i64 1, .string (zM tu tf r), .int .i64 (tn : Int), .int .i64 k, .string ⟨#[]⟩])) [(0, (1, zM tu tf r)), (tn, (k.toNat, ⟨#[]⟩))] (by simp) (fun q hq => by
   obtain ⟨a1, a2, a3, a4, a5⟩ := TKO h0;simp only [List.mem_cons, List.not_mem_nil, or_false] at hq;rcases hq with rfl | rfl
   · exact ⟨by have := hok.most; simp only; omega, by simp, by simp, by simp only; rw [xB]; omega⟩
   · exact ⟨a2, by simp only; omega, by simp only; omega, Nat.zero_le _⟩) (by omega) (by
   obtain ⟨a1, a2, a3, a4, a5⟩ := TKO h0;exact Vd hok a3 a4 a5 r (fun i _ => hrl i) _ (fun q hq => by simp only [List.mem_singleton] at hq; subst hq; simp only; omega)) W.heap.size _ (Own.made W _ _) (fun i q hq => by
   have ek : ((k.toNat : Nat) : Int) = k := Int.toNat_of_nonneg (by omega);rcases i with _ | _ | i
   · simp only [List.getElem?_cons_zero, Option.some.injEq] at hq;subst hq;simp
   · simp only [List.getElem?_cons_succ, List.getElem?_cons_zero, Option.some.injEq] at hq;subst hq;simp [ek]
   · simp at hq)
 have HS : ∀ h0 : te = 0, ∀ W, Calls Tryz.prog 64 #[hV tu tf r] W fun e w' => e = .returned (shV 0 (1, zM tu tf r)) /\ Below W.heap.size W w' := fun h0 W => by
   obtain ⟨a1, a2, a3, a4, a5⟩ := TKO h0;have := hok.most;exact qH _ _ _ W (by omega) (by omega) fun i _ => hrl i
 obtain ⟨lg, lm, pl, ho⟩ := h.cells;obtain ⟨q1, q2, q3⟩ := ho.at_;obtain ⟨u, hu⟩ : ∃ u, u = P.used := ⟨_, rfl⟩
 obtain ⟨f, hf⟩ : ∃ f, f = P.free := ⟨_, rfl⟩
 rw [<- hu, <- hf, <- hr] at HH TK;unfold hV hC at HS;unfold hC at TK;clear h hk hd e ho hu hf hr htk hok TKO AL hrl;by_cases h0 : te = 0
 · subst h0;replace CH := CH rfl;replace HS : ∀ W, Calls Tryz.prog 64 #[.agg #[.int .i64 (tu : Int), .int .i64 (tf : Int), .int .u64 (r 0 : Int), .int .u64 (r 1 : Int), .int .u64 (r 2 : Int), .int .u64 (r 3 : Int), .int .u64 (r 4 : Int), .int .u64 (r 5 : Int), .int .u64 (r 6 : Int), .int .u64 (r 7 : Int)]] W fun e w' => e = .returned (.agg #[.int .i64 0, .int .i64 1, .string (zM tu tf r)]) /\ Below W.heap.size W w' := HS rfl
   replace HS := Lh HS;rw [if_pos rfl, if_pos rfl] at EE;rw [show ([(0, (1, zM tu tf r)), (tn, (k.toNat, (⟨#[]⟩ : ByteArray)))] : List (Nat × Pag)).length = 2 from rfl] at CH;have ce := P.chgE [(0, (1, zM tu tf r)), (tn, (k.toNat, (⟨#[]⟩ : ByteArray)))];have HCE : P.chgE [(0, (1, zM tu tf r)), (tn, (k.toNat, (⟨#[]⟩ : ByteArray)))] = 0 \/ P.chgE [(0, (1, zM tu tf r)), (tn, (k.toNat, (⟨#[]⟩ : ByteArray)))] = 10 := by
     unfold PS.chgE;split
     · exact .inl rfl
     · exact .inr rfl
   obtain ⟨P', hP'⟩ : ∃ P', P' = P.chg [(0, (1, zM tu tf r)), (tn, (k.toNat, (⟨#[]⟩ : ByteArray)))] := ⟨_, rfl⟩
   obtain ⟨y, hy⟩ : ∃ y, y = P.chgE [(0, (1, zM tu tf r)), (tn, (k.toNat, (⟨#[]⟩ : ByteArray)))] := ⟨_, rfl⟩
   rw [<- hP', <- hy] at EE CH;rw [<- hy] at HCE;replace CH := Lh CH;clear hk2 hP' hy ce;obtain ⟨hr, hhr⟩ : ∃ s, s = zM tu tf r := ⟨_, rfl⟩
   rw [<- hhr] at CH HS;clear hhr;rcases HCE with rfl | rfl
   · have E2 : Hid (P.alN k = tn) := Lh (by rw [EN.out, EE.out.1, if_pos rfl]);go_enter Tryz.func17, Tryz.ntmps17;go_wp2_with (first | (go_at_call 75; refine (HK.out _).mono ?_; rintro e w3 ⟨rfl, rfl⟩) | (go_at_call 67; refine HD.out.mono ?_; rintro e w2 ⟨rfl, rfl⟩) | (go_at_call 76; refine HH.out.mono ?_; rintro e w2 ⟨rfl, hA⟩; have A2 := Lh hA; clear hA) | (go_at_call 77; refine (TK.out _ A2.out.1).mono ?_; rintro e w4 ⟨rfl, hq4, hA4⟩; have hA5 : Ask w w4 B Bp d p (c + 4) P := (A2.out.below (zF w2 _ _)).thenQ hA4 A2.out.2.size; have A4 := Lh hA5; clear hA4 hA5; obtain ⟨s1, s2, s3⟩ := hq4.at_; clear hq4) | (go_at_call 64; refine (HS.out _).mono ?_; rintro e w5 ⟨rfl, hb5⟩; have A5 := Lh (A4.out.below hb5); clear hb5) | (go_at_call 78; refine (CH.out _ A5.out.1).mono ?_; rintro e w6 ⟨rfl, hA6⟩; have hA7 : Ask w w6 B Bp d p (c + 6) P' := A5.out.then2 (Ask.from_ (zF w5 _ _) hA6); have A6 := Lh hA7; clear hA6 hA7))
     go_ret2;rw [EE.out.1, EE.out.2, E2.out];exact ⟨rfl, A6.out⟩
   · have E2 : Hid (P.alN k = 0) := Lh (by rw [EN.out, EE.out.1, if_neg (by decide)]);go_enter Tryz.func17, Tryz.ntmps17;go_wp2_with (first | (go_at_call 75; refine (HK.out _).mono ?_; rintro e w3 ⟨rfl, rfl⟩) | (go_at_call 67; refine HD.out.mono ?_; rintro e w2 ⟨rfl, rfl⟩) | (go_at_call 76; refine HH.out.mono ?_; rintro e w2 ⟨rfl, hA⟩; have A2 := Lh hA; clear hA) | (go_at_call 77; refine (TK.out _ A2.out.1).mono ?_; rintro e w4 ⟨rfl, hq4, hA4⟩; have hA5 : Ask w w4 B Bp d p (c + 4) P := (A2.out.below (zF w2 _ _)).thenQ hA4 A2.out.2.size; have A4 := Lh hA5; clear hA4 hA5; obtain ⟨s1, s2, s3⟩ := hq4.at_; clear hq4) | (go_at_call 64; refine (HS.out _).mono ?_; rintro e w5 ⟨rfl, hb5⟩; have A5 := Lh (A4.out.below hb5); clear hb5) | (go_at_call 78; refine (CH.out _ A5.out.1).mono ?_; rintro e w6 ⟨rfl, hA6⟩; have hA7 : Ask w w6 B Bp d p (c + 6) P' := A5.out.then2 (Ask.from_ (zF w5 _ _) hA6); have A6 := Lh hA7; clear hA6 hA7))
     go_ret2;rw [EE.out.1, EE.out.2, E2.out];exact ⟨rfl, A6.out⟩
 · rw [if_neg h0, if_neg h0] at EE;have h1 : (te != 0) = true := by rw [bne_iff_ne]; exact h0
   have E2 : Hid (P.alN k = 0) := Lh (by rw [EN.out, EE.out.1, if_neg h0]);clear CH HS hk2;go_enter Tryz.func17, Tryz.ntmps17;go_wp2_with (first | (go_at_call 75; refine (HK.out _).mono ?_; rintro e w3 ⟨rfl, rfl⟩) | (go_at_call 67; refine HD.out.mono ?_; rintro e w2 ⟨rfl, rfl⟩) | (go_at_call 76; refine HH.out.mono ?_; rintro e w2 ⟨rfl, hA⟩; have A2 := Lh hA; clear hA) | (go_at_call 77; refine (TK.out _ A2.out.1).mono ?_; rintro e w4 ⟨rfl, hq4, hA4⟩; have A4 := Lh hA4; clear hA4))
   go_ret2;rw [EE.out.1, EE.out.2, E2.out];exact ⟨rfl, ((A2.out.below (zF w2 _ _)).thenQ A4.out A2.out.2.size).more (by omega)⟩
theorem Xv (h : zG w B Bp d p c P) (k : Int) (hc : c + 6 < 1000000) : Calls Tryz.prog 17 #[.pointer (some ⟨p, 0, none⟩), .int .i64 k] w fun e w' => e = .returned (.tuple #[.int .i64 (P.alN k : Int), .int .i64 (P.alE k)]) /\ Ask w w' B Bp d p (c + 6) (P.al k) := by
 cases hk : PS.kd k with
 | false =>
   have e1 : P.alE k = 1 := by unfold PS.alE; simp only [hk, Bool.false_eq_true, if_false]
   have e2 : P.al k = P := by unfold PS.al; simp only [hk, Bool.false_eq_true, if_false]
   have e3 : P.alN k = 0 := by unfold PS.alN; rw [e1, if_neg (by decide)]
   rw [e1, e2, e3];refine (zFg h k hk).mono ?_;rintro e w' ⟨rfl, rfl⟩;exact ⟨rfl, (Ask.same h).more (by omega)⟩
 | true =>
   cases hd : P.s.down with
   | true =>
     have e1 : P.alE k = 11 := by unfold PS.alE; simp only [hk, hd, if_true]
     have e2 : P.al k = P := by unfold PS.al; simp only [hk, hd, if_true]
     have e3 : P.alN k = 0 := by unfold PS.alN; rw [e1, if_neg (by decide)]
     rw [e1, e2, e3];refine (zEf h k hk hd).mono ?_;rintro e w' ⟨rfl, rfl⟩;exact ⟨rfl, (Ask.same h).more (by omega)⟩
   | false => exact zKd h k hk hd hc
end
end
end Go.Proofs.YtndhmidgnpobjaaGreatDoor
