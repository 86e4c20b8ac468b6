import Derived.Test.YthijgebmoadgkaaGreatDoorPgrX
set_option linter.unusedVariables false
set_option linter.unusedSimpArgs false
namespace Go.Proofs.YthijgebmoadgkaaGreatDoor
open Go.ChangeShapes Go.WideShapes Go.ChangeAt Go.RowKit
section
def PS.others (P : PS) (no : Int) : Bool := decide (1 <= no) && decide (no < (P.pages : Int))
section
variable {w w' : World} {B Bp d p c : Nat} {P : PS}
theorem Jd (h : zF w B Bp d p c P) (no : Int) (hc : c + 2 < 1000000) : Calls Tryz.prog 88 #[.pointer (some ⟨p, 0, none⟩), .int .i64 no] w fun e w' => e = .returned (.bool (P.others no)) /\ Ask w w' B Bp d p (c + 2) P := by
 have HP := Lh (zG2 h hc);have HS := Lh ((Ask.same h).more (show c <= c + 2 by omega));have E := Lh (show P.others no = (decide (1 <= no) && decide (no < (P.pages : Int))) from rfl);obtain ⟨u, hu⟩ : ∃ u, u = P.pages := ⟨_, rfl⟩
 rw [<- hu] at E HP;clear h hu;by_cases h1 : 1 <= no
 · by_cases h2 : no < (u : Int)
   · go_enter Tryz.func88, Tryz.ntmps88;go_wp2_with (go_at_call 43; refine HP.out.mono ?_; rintro e w2 ⟨rfl, hA⟩)
     go_ret;rw [E.out];exact ⟨by simp [h1, h2], hA⟩
   · go_enter Tryz.func88, Tryz.ntmps88;go_wp2_with (go_at_call 43; refine HP.out.mono ?_; rintro e w2 ⟨rfl, hA⟩)
     go_ret;rw [E.out];exact ⟨by simp [h1, h2], hA⟩
 · go_enter Tryz.func88, Tryz.ntmps88;go_wp2;go_ret;rw [E.out];exact ⟨by simp; omega, HS.out⟩
end
def PS.wrC (P : PS) (no k : Int) : Bool := P.others no && (decide (2 <= k) && decide (k <= 254))
def PS.wrE (P : PS) (no k : Int) (s : ByteArray) : Int := if P.wrC no k then if s.size <= 496 then P.chgE [(no.toNat, (k.toNat, s))] else 3 else 1
def PS.wr (P : PS) (no k : Int) (s : ByteArray) : PS := if P.wrC no k then if s.size <= 496 then P.chg [(no.toNat, (k.toNat, s))] else P else P
theorem PS.pages_le {P : PS} (h : P.Ok) : P.pages <= P.most := by
 unfold PS.pages;split
 · omega
 · exact h.used.2.1
theorem zHz {P : PS} (h : P.Ok) {n : Nat} (hn : n ≠ 0) (x : Pag) : (P.put [(n, x)]).view 0 = P.view 0 := by
 unfold PS.view;show (match lk (ins n _ P.T) 0 with | some x => (x, 0) | none => P.base 0) = _
 rw [gR n _ P.T 0 h.T.1, if_neg hn];cases lk P.T 0 <;> rfl
section
variable {w w' : World} {B Bp d p c : Nat} {P : PS}
theorem Ask.then2 {c1 c2 : Nat} {P' : PS} {w2 : World} (h : Ask w w' B Bp d p c1 P) (k : Ask w' w2 B Bp d p c2 P') : Ask w w2 B Bp d p c2 P' := ⟨k.1, yU h.2 k.2⟩
set_option maxRecDepth 10000 in
theorem zD9 (h : zF w B Bp d p c P) (no k : Int) (s : ByteArray) (hc : c + 4 < 1000000) : Calls Tryz.prog 21 #[.pointer (some ⟨p, 0, none⟩), .int .i64 no, .int .i64 k, .string s] w fun e w' => e = .returned (.int .i64 (P.wrE no k s)) /\ Ask w w' B Bp d p (c + 4) (P.wr no k s) := by
 have HO := Lh (Jd h no (by omega));have HK := Lh (fun W => Qv k W);have hok := h.ok;clear h;cases h1 : P.others no with
 | false =>
   have E : Hid (P.wrE no k s = 1 /\ P.wr no k s = P) := Lh (by unfold PS.wrE PS.wr PS.wrC; rw [h1]; exact ⟨rfl, rfl⟩);rw [h1] at HO;clear h1 hok;go_enter Tryz.func21, Tryz.ntmps21;go_wp2_with (go_at_call 88; refine HO.out.mono ?_; rintro e w2 ⟨rfl, hA⟩)
   go_ret;rw [E.out.1, E.out.2];exact ⟨rfl, hA.more (by omega)⟩
 | true =>
   have hno : 1 <= no /\ no < (P.pages : Int) := by simpa [PS.others] using h1
   have hpm := PS.pages_le hok;rw [h1] at HO;cases h2 : (decide (2 <= k) && decide (k <= 254)) with
   | false =>
     have E : Hid (P.wrE no k s = 1 /\ P.wr no k s = P) := Lh (by unfold PS.wrE PS.wr PS.wrC; rw [h1, h2]; exact ⟨rfl, rfl⟩);rw [h2] at HK;clear h1 h2 hok hno hpm;go_enter Tryz.func21, Tryz.ntmps21;go_wp2_with (first | (go_at_call 88; refine HO.out.mono ?_; rintro e w2 ⟨rfl, hA⟩) | (go_at_call 84; refine (HK.out _).mono ?_; rintro e w3 ⟨rfl, rfl⟩))
     go_ret;rw [E.out.1, E.out.2];exact ⟨rfl, hA.more (by omega)⟩
   | true =>
     have hk : 2 <= k /\ k <= 254 := by simpa using h2
     rw [h2] at HK;by_cases h3 : s.size <= 496
     · have E : Hid (P.wrE no k s = P.chgE [(no.toNat, (k.toNat, s))] /\ P.wr no k s = P.chg [(no.toNat, (k.toNat, s))]) := Lh (by unfold PS.wrE PS.wr PS.wrC; rw [h1, h2, if_pos h3, if_pos h3]; exact ⟨rfl, rfl⟩);have en : ((no.toNat : Nat) : Int) = no := Int.toNat_of_nonneg (by omega);have ek : ((k.toNat : Nat) : Int) = k := Int.toNat_of_nonneg (by omega);have CH : Hid (∀ W, zF W B Bp d p (c + 2) P -> Calls Tryz.prog 87 #[.pointer (some ⟨p, 0, none⟩), .slice (some ⟨W.heap.size, 0, none⟩) 1 1] (W.alloc (.cells #[.int .i64 no, .int .i64 k, .string s] 131)) fun e w' => e = .returned (.int .i64 (P.wrE no k s)) /\ Ask W w' B Bp d p (c + 4) (P.wr no k s)) := Lh fun W hW => by
         have hB := zG W 131 #[.int .i64 no, .int .i64 k, .string s];rw [E.out.1, E.out.2];refine (fA (hW.below hB) [(no.toNat, (k.toNat, s))] (by simp) (fun q hq => by
           simp only [List.mem_singleton] at hq;subst hq;exact ⟨by simp only; omega, by simp only; omega, by simp only; omega, h3⟩) (by omega) (by rw [zHz hok (by omega)]; exact ⟨hok.hd, hok.hd0⟩) W.heap.size _ (Own.made W _ _) (fun i q hq => ?_)).mono ?_
         · rcases i with _ | i
           · simp only [List.getElem?_cons_zero, Option.some.injEq] at hq;subst hq;simp [en, ek]
           · simp at hq
         · rintro e w2 ⟨rfl, hA⟩;exact ⟨rfl, Ask.from_ hB hA⟩
       have h4 : ¬ (496 : Int) < (s.size : Int) := by omega
       clear h1 h2 hok hno hpm hk h3 en ek E;go_enter Tryz.func21, Tryz.ntmps21;go_wp2_with (first | (go_at_call 88; refine HO.out.mono ?_; rintro e w2 ⟨rfl, hA⟩; have A2 := Lh hA; clear hA) | (go_at_call 84; refine (HK.out _).mono ?_; rintro e w3 ⟨rfl, rfl⟩) | (go_at_call 87; refine (CH.out w2 A2.out.1).mono ?_; rintro e w4 ⟨rfl, hA4⟩))
       go_ret;exact ⟨rfl, A2.out.then2 hA4⟩
     · have E : Hid (P.wrE no k s = 3 /\ P.wr no k s = P) := Lh (by unfold PS.wrE PS.wr PS.wrC; rw [h1, h2, if_neg h3, if_neg h3]; exact ⟨rfl, rfl⟩);have h4 : (496 : Int) < (s.size : Int) := by omega
       clear h1 h2 hok hno hpm hk h3;go_enter Tryz.func21, Tryz.ntmps21;go_wp2_with (first | (go_at_call 88; refine HO.out.mono ?_; rintro e w2 ⟨rfl, hA⟩) | (go_at_call 84; refine (HK.out _).mono ?_; rintro e w3 ⟨rfl, rfl⟩))
       go_ret;rw [E.out.1, E.out.2];exact ⟨rfl, hA.more (by omega)⟩
end
end
section
def PS.tk (P : PS) : Nat × Int × Nat × Nat := if P.free = 0 then (if P.most <= P.used then (0, 8, P.used, P.free) else (P.used, 0, P.used + 1, P.free)) else if (P.view P.free).2 = 0 then (match nxt P.used (P.view P.free).1 with
 | none => (0, 19, P.used, P.free)
 | some n => (P.free, 0, P.used, n)) else (0, ((P.view P.free).2 : Int), P.used, P.free)
section
variable {w w' : World} {B Bp d p c : Nat} {P : PS}
def Jn (w w' : World) (B Bp d p c q : Nat) (P : PS) : Prop := zF w' B Bp d p c P /\ Chg (fun b => b = q \/ Po.PT w Bp b) w w'
theorem Ask.q (h : Ask w w' B Bp d p c P) (q : Nat) : Jn w w' B Bp d p c q P := ⟨h.1, h.2.mono fun b _ hb => .inr hb⟩
theorem Jn.cell {q : Nat} {T : TypeId} {cs : Array Value} (h : Jn w w' B Bp d p c q P) (ho : Own w' q T cs) (hT : PgT T) (h0 : ∀ x, cs[0]? ≠ some (.int .u8 x)) (i : Nat) (v : Value) : Jn w (w'.setCell ⟨q, i, none⟩ v) B Bp d p c q P :=
 ⟨h.1.cell ho hT h0 i v, h.2.set ⟨q, i, none⟩ (.inl (.inl rfl)) _⟩
theorem Jn.below {q : Nat} {w2 : World} (h : Jn w w' B Bp d p c q P) (hb : Below w'.heap.size w' w2) : Jn w w2 B Bp d p c q P := ⟨h.1.below hb, h.2.trans (Chg.of (S := fun _ => False) hb) fun b _ e => e.elim⟩
theorem Jn.more {q : Nat} (h : Jn w w' B Bp d p c q P) {c' : Nat} (hc : c <= c') : Jn w w' B Bp d p c' q P := ⟨h.1.more hc, h.2⟩
set_option maxRecDepth 10000 in
theorem zJn (h : zF w B Bp d p c P) (hf : P.free = 0) (q : Nat) (hq : Own w q 133 (hC P.used P.free P.root)) :
   Calls Tryz.prog 86 #[.pointer (some ⟨p, 0, none⟩), .pointer (some ⟨q, 0, none⟩)] w fun e w' => e = .returned (.tuple #[.int .i64 (P.tk.1 : Int), .int .i64 P.tk.2.1]) /\ Own w' q 133 (hC P.tk.2.2.1 P.tk.2.2.2 P.root) /\ Jn w w' B Bp d p c q P := by
 have hok := h.ok;have hm := hok.most;have hu := hok.used;have HM : Hid (∀ W, Below w.heap.size w W -> Calls Tryz.prog 80 #[.agg #[.pointer (some ⟨d, 0, none⟩), .int .i64 (P.ll : Int)]] W fun e w' => e = .returned (.int .i64 (P.most : Int)) /\ Below W.heap.size W w') := Lh fun W hW => by
   obtain ⟨sb, mb, sc, wv, lg, lm, pl, R, h⟩ := h.below hW;exact Qh h.disk P.ll h.ok.fit
 have A0 := Lh ((Ask.same h).q q);obtain ⟨lg, lm, pl, ho⟩ := h.cells;have HO := Lh ho;have E := Lh (show P.tk = if P.most <= P.used then (0, 8, P.used, P.free) else (P.used, 0, P.used + 1, P.free) by unfold PS.tk; rw [if_pos hf]);obtain ⟨u, hu2⟩ : ∃ u, u = P.used := ⟨_, rfl⟩
 obtain ⟨f, hf2⟩ : ∃ f, f = P.free := ⟨_, rfl⟩
 obtain ⟨r, hr2⟩ : ∃ r, r = P.root := ⟨_, rfl⟩
 obtain ⟨mo, hmo⟩ : ∃ mo, mo = P.most := ⟨_, rfl⟩
 rw [<- hu2, <- hf2] at E;rw [<- hmo] at E HM;rw [<- hu2, <- hf2, <- hr2] at hq;rw [<- hr2];rw [<- hu2] at hu;rw [<- hmo] at hu hm;have hf0 : f = 0 := by rw [hf2, hf]
 clear hf hf2 hu2 hr2 hmo hok h;subst hf0;unfold hC at hq;have HQ := Lh hq;obtain ⟨q1, q2, q3⟩ := hq.at_;obtain ⟨o1, o2, o3⟩ := ho.at_;by_cases hle : mo <= u
 · rw [if_pos hle] at E;have tt : decide ((mo : Int) <= (u : Int)) = true := by simpa using hle
   go_enter Tryz.func86, Tryz.ntmps86;go_upto_region 3 with fail;have hO := Lh ho;refine zA (fun W => Own W q 133 #[.int .i64 (u : Int), .int .i64 ((0 : Nat) : Int), .int .u64 (r 0 : Int), .int .u64 (r 1 : Int), .int .u64 (r 2 : Int), .int .u64 (r 3 : Int), .int .u64 (r 4 : Int), .int .u64 (r 5 : Int), .int .u64 (r 6 : Int), .int .u64 (r 7 : Int)] /\ Own W p 150 #[.pointer (some ⟨d, 0, none⟩), .int .i64 (P.ll : Int), .int .u64 (P.seq : Int), .pointer (some ⟨lg, 0, none⟩), .map (some lm), .int .i64 (P.room : Int), .pointer (some ⟨pl, 0, none⟩), .bool P.failed]) (0 :: 1 :: 2 :: 3 :: 4 :: 5 :: 6 :: 7 :: 9 :: []) (3 :: 7 :: []) (0 :: 1 :: 2 :: 3 :: 4 :: 5 :: 6 :: 7 :: 8 :: 9 :: []) (by kernel_rfl) (by kernel_rfl) rfl (by kernel_rfl) rfl (⟨HQ.out.drawn, HO.out.drawn⟩) (by simp only [zU, List.filterMap_cons, List.filterMap_nil, List.getElem?_cons_zero, List.getElem?_cons_succ, Option.map_some]; exact rfl) ?_;iterate 8
     refine zC (v := ?_) rfl rfl (fun W hS => ?_) ?_;rotate_left
     · first
         | (conv => lhs; simp [go_sem, tt]
            first | done | exact rfl)
         | (have hS := hS rfl
            obtain ⟨q1, q2⟩ := hS;obtain ⟨q1, q3, q4⟩ := Own.at_ q1;obtain ⟨q2, q5, q6⟩ := Own.at_ q2;conv => lhs; simp [go_sem, *, tt]
            first | done | exact rfl)
     simp only [Act.put, lA, lZ, lS]
   refine zQ rfl rfl fun K hK => ?_
   go_wp2_with (go_at_call 80; refine (HM.out _ (Below.refl _ _).drew).mono ?_; rintro e w3 ⟨rfl, hb3⟩)
   have B3 := Lh (then_ (Below.refl w.heap.size w).drew hb3 (Nat.le_refl _));have Q3 := Lh (HQ.out.keep B3.out);refine hK _ _ ⟨Q3.out, HO.out.keep B3.out⟩ ?_;clear hK K hb3;iterate 1
     refine zC (v := ?_) rfl rfl (fun W hS => ?_) ?_;rotate_left
     · first
         | (conv => lhs; simp [go_sem, tt]
            first | done | exact rfl)
         | (have hS := hS rfl
            obtain ⟨q1, q2⟩ := hS;obtain ⟨q1, q3, q4⟩ := Own.at_ q1;obtain ⟨q2, q5, q6⟩ := Own.at_ q2;conv => lhs; simp [go_sem, *, tt]
            first | done | exact rfl)
     simp only [Act.put, lA, lZ, lS]
   refine zR ?_;obtain ⟨r1, r2, r3⟩ := Q3.out.at_;have t2 : decide (mo <= u) = true := by simpa using hle
   rw [t2];clear tt t2;go_wp2;go_ret2;rw [E.out];exact ⟨rfl, Q3.out, A0.out.below B3.out⟩
 · rw [if_neg hle] at E;have tt : decide ((mo : Int) <= (u : Int)) = false := by simpa using hle
   go_enter Tryz.func86, Tryz.ntmps86;go_upto_region 3 with fail;have hO := Lh ho;refine zA (fun W => Own W q 133 #[.int .i64 (u : Int), .int .i64 ((0 : Nat) : Int), .int .u64 (r 0 : Int), .int .u64 (r 1 : Int), .int .u64 (r 2 : Int), .int .u64 (r 3 : Int), .int .u64 (r 4 : Int), .int .u64 (r 5 : Int), .int .u64 (r 6 : Int), .int .u64 (r 7 : Int)] /\ Own W p 150 #[.pointer (some ⟨d, 0, none⟩), .int .i64 (P.ll : Int), .int .u64 (P.seq : Int), .pointer (some ⟨lg, 0, none⟩), .map (some lm), .int .i64 (P.room : Int), .pointer (some ⟨pl, 0, none⟩), .bool P.failed]) (0 :: 1 :: 2 :: 3 :: 4 :: 5 :: 6 :: 7 :: 9 :: []) (3 :: 7 :: []) (0 :: 1 :: 2 :: 3 :: 4 :: 5 :: 6 :: 7 :: 8 :: 9 :: []) (by kernel_rfl) (by kernel_rfl) rfl (by kernel_rfl) rfl (⟨HQ.out.drawn, HO.out.drawn⟩) (by simp only [zU, List.filterMap_cons, List.filterMap_nil, List.getElem?_cons_zero, List.getElem?_cons_succ, Option.map_some]; exact rfl) ?_;iterate 8
     refine zC (v := ?_) rfl rfl (fun W hS => ?_) ?_;rotate_left
     · first
         | (conv => lhs; simp [go_sem, tt]
            first | done | exact rfl)
         | (have hS := hS rfl
            obtain ⟨q1, q2⟩ := hS;obtain ⟨q1, q3, q4⟩ := Own.at_ q1;obtain ⟨q2, q5, q6⟩ := Own.at_ q2;conv => lhs; simp [go_sem, *, tt]
            first | done | exact rfl)
     simp only [Act.put, lA, lZ, lS]
   refine zQ rfl rfl fun K hK => ?_
   go_wp2_with (go_at_call 80; refine (HM.out _ (Below.refl _ _).drew).mono ?_; rintro e w3 ⟨rfl, hb3⟩)
   have B3 := Lh (then_ (Below.refl w.heap.size w).drew hb3 (Nat.le_refl _));have Q3 := Lh (HQ.out.keep B3.out);refine hK _ _ ⟨Q3.out, HO.out.keep B3.out⟩ ?_;clear hK K hb3;iterate 1
     refine zC (v := ?_) rfl rfl (fun W hS => ?_) ?_;rotate_left
     · first
         | (conv => lhs; simp [go_sem, tt]
            first | done | exact rfl)
         | (have hS := hS rfl
            obtain ⟨q1, q2⟩ := hS;obtain ⟨q1, q3, q4⟩ := Own.at_ q1;obtain ⟨q2, q5, q6⟩ := Own.at_ q2;conv => lhs; simp [go_sem, *, tt]
            first | done | exact rfl)
     simp only [Act.put, lA, lZ, lS]
   refine zR ?_;obtain ⟨r1, r2, r3⟩ := Q3.out.at_;have t2 : decide (mo <= u) = false := by simpa using hle
   rw [t2];clear tt t2;have w1 : IntKind.i64.wrap ((u : Int) + 1) = (u : Int) + 1 := by rw [IntKind.wrap_i64]; omega
   have w2 : IntKind.i64.wrap ((u : Int) + 1 - 1) = (u : Int) := by rw [IntKind.wrap_i64]; omega
   go_wp2;go_ret2;rw [E.out];refine ⟨?_, ?_, ?_⟩
   · rfl
   · exact Q3.out.put 0 (.int .i64 ((u : Int) + 1))
   · exact (A0.out.below B3.out).cell Q3.out (by unfold PgT; decide) (by simp) 0 _
set_option maxRecDepth 10000 in
set_option maxHeartbeats 1000000 in
theorem zJf (h : zF w B Bp d p c P) (hd : P.s.down = false) (hf : P.free ≠ 0) (hc : c + 2 < 1000000) (q : Nat) (hq : Own w q 133 (hC P.used P.free P.root)) :
   Calls Tryz.prog 86 #[.pointer (some ⟨p, 0, none⟩), .pointer (some ⟨q, 0, none⟩)] w fun e w' => e = .returned (.tuple #[.int .i64 (P.tk.1 : Int), .int .i64 P.tk.2.1]) /\ Own w' q 133 (hC P.tk.2.2.1 P.tk.2.2.2 P.root) /\ Jn w w' B Bp d p (c + 2) q P := by
 have hok := h.ok;have hm := hok.most;have hu := hok.used;have FD := mO h hd P.free (by omega) hc;have hvf := fun h0 => zAk hok (no := P.free) h0
 have E := Lh (show P.tk = if (P.view P.free).2 = 0 then (match nxt P.used (P.view P.free).1 with | none => (0, 19, P.used, P.free) | some n => (P.free, 0, P.used, n)) else (0, ((P.view P.free).2 : Int), P.used, P.free) by unfold PS.tk; rw [if_neg hf]);obtain ⟨v, hv⟩ : ∃ v, v = P.view P.free := ⟨_, rfl⟩
 rw [<- hv] at E FD hvf;obtain ⟨u, hu2⟩ : ∃ u, u = P.used := ⟨_, rfl⟩
 obtain ⟨f, hf2⟩ : ∃ f, f = P.free := ⟨_, rfl⟩
 obtain ⟨r, hr2⟩ : ∃ r, r = P.root := ⟨_, rfl⟩
 rw [<- hu2, <- hf2] at E;rw [<- hu2, <- hf2, <- hr2] at hq;rw [<- hf2] at FD hf;rw [<- hr2];unfold mY at FD;clear hf2 hu2 hr2 hok h hm hu hv;have hfi : ¬ (f : Int) = 0 := by omega
 unfold hC at hq;have HQ := Lh hq;obtain ⟨q1, q2, q3⟩ := hq.at_;clear hq;by_cases h0 : v.2 = 0
 · rw [if_pos h0] at E FD;rw [h0] at FD;have HX := hvf h0;obtain ⟨x, hx⟩ : ∃ x, x = v.1 := ⟨_, rfl⟩
   rw [<- hx] at E FD HX;have HNX := Lh (fun w => zEn f u x w HX.size);unfold shV at FD HNX;have FDh := Lh FD;clear hvf HX FD hx h0;cases hn : nxt u x with
   | none =>
     rw [hn] at E HNX;have E : P.tk = (0, 19, u, f) := E.out;replace E := Lh E;clear hn;go_enter Tryz.func86, Tryz.ntmps86;go_upto_region 10 with (go_at_call 82; refine FDh.out.mono ?_; rintro e w2 ⟨rfl, hA⟩; have A2 := Lh hA; have Q2 := Lh (yZ hA.2 HQ.out (by decide) (by decide)); clear hA)
     refine zA (fun W => Own W q 133 #[.int .i64 (u : Int), .int .i64 (f : Int), .int .u64 (r 0 : Int), .int .u64 (r 1 : Int), .int .u64 (r 2 : Int), .int .u64 (r 3 : Int), .int .u64 (r 4 : Int), .int .u64 (r 5 : Int), .int .u64 (r 6 : Int), .int .u64 (r 7 : Int)] /\ Own W w2.heap.size 131 #[.int .i64 (f : Int), .int .i64 (x.1 : Int), .string x.2]) (0 :: 1 :: 2 :: 3 :: 4 :: 6 :: 7 :: 8 :: 9 :: 10 :: []) (0 :: 4 :: []) (0 :: 1 :: 2 :: 3 :: 4 :: 5 :: 6 :: 7 :: 8 :: 9 :: 10 :: []) (by kernel_rfl) (by kernel_rfl) rfl (by kernel_rfl) rfl (⟨(Q2.out.keep (zG w2 _ _)).drawn, (Own.made w2 131 #[.int .i64 (f : Int), .int .i64 (x.1 : Int), .string x.2]).drawn⟩) (by simp only [zU, List.filterMap_cons, List.filterMap_nil, List.getElem?_cons_zero, List.getElem?_cons_succ, Option.map_some]; exact rfl) ?_;iterate 5
       refine zC (v := ?_) rfl rfl (fun W hS => ?_) ?_;rotate_left
       · first
           | (conv => lhs; simp [go_sem, True]
              first | done | exact rfl)
           | (have hS := hS rfl
              obtain ⟨q1, q2⟩ := hS;obtain ⟨q1, q3, q4⟩ := Own.at_ q1;obtain ⟨q2, q5, q6⟩ := Own.at_ q2;conv => lhs; simp [go_sem, *, True]
              first | done | exact rfl)
       simp only [Act.put, lA, lZ, lS]
     refine zQ rfl rfl fun K hK => ?_
     go_wp2_with (go_at_call 173; refine (HNX.out _).mono ?_; rintro e w3 ⟨rfl, hb3⟩)
     have B3 := Lh (then_ (zG w2 131 #[.int .i64 (f : Int), .int .i64 (x.1 : Int), .string x.2]).drew hb3 (zG w2 131 #[.int .i64 (f : Int), .int .i64 (x.1 : Int), .string x.2]).drew.size);have Q3 := Lh (Q2.out.keep B3.out);refine hK _ _ ⟨Q3.out, ((Own.made w2 131 #[.int .i64 (f : Int), .int .i64 (x.1 : Int), .string x.2]).drawn).keep hb3⟩ ?_;clear hK K hb3;iterate 5
       refine zC (v := ?_) rfl rfl (fun W hS => ?_) ?_;rotate_left
       · first
           | (conv => lhs; simp [go_sem, True]
              first | done | exact rfl)
           | (have hS := hS rfl
              obtain ⟨q1, q2⟩ := hS;obtain ⟨q1, q3, q4⟩ := Own.at_ q1;obtain ⟨q2, q5, q6⟩ := Own.at_ q2;conv => lhs; simp [go_sem, *, True]
              first | done | exact rfl)
       simp only [Act.put, lA, lZ, lS]
     refine zR ?_;obtain ⟨r1, r2, r3⟩ := Q3.out.at_;go_wp2;go_ret2;rw [E.out];exact ⟨rfl, Q3.out, (A2.out.q q).below B3.out⟩
   | some n =>
     rw [hn] at E HNX;have E : P.tk = (f, 0, u, n) := E.out;replace E := Lh E;clear hn;go_enter Tryz.func86, Tryz.ntmps86;go_upto_region 10 with (go_at_call 82; refine FDh.out.mono ?_; rintro e w2 ⟨rfl, hA⟩; have A2 := Lh hA; have Q2 := Lh (yZ hA.2 HQ.out (by decide) (by decide)); clear hA)
     refine zA (fun W => Own W q 133 #[.int .i64 (u : Int), .int .i64 (f : Int), .int .u64 (r 0 : Int), .int .u64 (r 1 : Int), .int .u64 (r 2 : Int), .int .u64 (r 3 : Int), .int .u64 (r 4 : Int), .int .u64 (r 5 : Int), .int .u64 (r 6 : Int), .int .u64 (r 7 : Int)] /\ Own W w2.heap.size 131 #[.int .i64 (f : Int), .int .i64 (x.1 : Int), .string x.2]) (0 :: 1 :: 2 :: 3 :: 4 :: 6 :: 7 :: 8 :: 9 :: 10 :: []) (0 :: 4 :: []) (0 :: 1 :: 2 :: 3 :: 4 :: 5 :: 6 :: 7 :: 8 :: 9 :: 10 :: []) (by kernel_rfl) (by kernel_rfl) rfl (by kernel_rfl) rfl (⟨(Q2.out.keep (zG w2 _ _)).drawn, (Own.made w2 131 #[.int .i64 (f : Int), .int .i64 (x.1 : Int), .string x.2]).drawn⟩) (by simp only [zU, List.filterMap_cons, List.filterMap_nil, List.getElem?_cons_zero, List.getElem?_cons_succ, Option.map_some]; exact rfl) ?_;iterate 5
       refine zC (v := ?_) rfl rfl (fun W hS => ?_) ?_;rotate_left
       · first
           | (conv => lhs; simp [go_sem, True]
              first | done | exact rfl)
           | (have hS := hS rfl
              obtain ⟨q1, q2⟩ := hS;obtain ⟨q1, q3, q4⟩ := Own.at_ q1;obtain ⟨q2, q5, q6⟩ := Own.at_ q2;conv => lhs; simp [go_sem, *, True]
              first | done | exact rfl)
       simp only [Act.put, lA, lZ, lS]
     refine zQ rfl rfl fun K hK => ?_
     go_wp2_with (go_at_call 173; refine (HNX.out _).mono ?_; rintro e w3 ⟨rfl, hb3⟩)
     have B3 := Lh (then_ (zG w2 131 #[.int .i64 (f : Int), .int .i64 (x.1 : Int), .string x.2]).drew hb3 (zG w2 131 #[.int .i64 (f : Int), .int .i64 (x.1 : Int), .string x.2]).drew.size);have Q3 := Lh (Q2.out.keep B3.out);refine hK _ _ ⟨Q3.out, ((Own.made w2 131 #[.int .i64 (f : Int), .int .i64 (x.1 : Int), .string x.2]).drawn).keep hb3⟩ ?_;clear hK K hb3;iterate 5
       refine zC (v := ?_) rfl rfl (fun W hS => ?_) ?_;rotate_left
       · first
           | (conv => lhs; simp [go_sem, True]
              first | done | exact rfl)
           | (have hS := hS rfl
              obtain ⟨q1, q2⟩ := hS;obtain ⟨q1, q3, q4⟩ := Own.at_ q1;obtain ⟨q2, q5, q6⟩ := Own.at_ q2;conv => lhs; simp [go_sem, *, True]
              first | done | exact rfl)
       simp only [Act.put, lA, lZ, lS]
     refine zR ?_;obtain ⟨r1, r2, r3⟩ := Q3.out.at_;go_wp2;go_ret2;rw [E.out];exact ⟨rfl, Q3.out.put 1 (.int .i64 (n : Int)), ((A2.out.q q).below B3.out).cell Q3.out (by unfold PgT; decide) (by simp) 1 _⟩
 · rw [if_neg h0] at E FD;obtain ⟨y, hy⟩ : ∃ y, y = v.2 := ⟨_, rfl⟩
   rw [<- hy] at E FD h0;have h1 : ¬ (y : Int) = 0 := by omega
   have h2 : ((y : Int) != 0) = true := by rw [bne_iff_ne]; exact h1
   unfold fR at FD;have FDh := Lh FD;clear hvf FD hy;go_enter Tryz.func86, Tryz.ntmps86;go_wp2_with (go_at_call 82; refine FDh.out.mono ?_; rintro e w2 ⟨rfl, hA⟩; have A2 := Lh hA; have Q2 := Lh (yZ hA.2 HQ.out (by decide) (by decide)); clear hA)
   go_ret2;rw [E.out];exact ⟨rfl, Q2.out.keep (zG w2 _ _), (A2.out.q q).below (zG w2 _ _)⟩
theorem zHa (h : zF w B Bp d p c P) (hd : P.s.down = false) (hc : c + 2 < 1000000) (q : Nat) (hq : Own w q 133 (hC P.used P.free P.root)) :
   Calls Tryz.prog 86 #[.pointer (some ⟨p, 0, none⟩), .pointer (some ⟨q, 0, none⟩)] w fun e w' => e = .returned (.tuple #[.int .i64 (P.tk.1 : Int), .int .i64 P.tk.2.1]) /\ Own w' q 133 (hC P.tk.2.2.1 P.tk.2.2.2 P.root) /\ Jn w w' B Bp d p (c + 2) q P := by
 by_cases hf : P.free = 0
 · refine (zJn h hf q hq).mono ?_;rintro e w2 ⟨rfl, h1, h2⟩;exact ⟨rfl, h1, h2.more (by omega)⟩
 · exact zJf h hd hf hc q hq
end
end
end Go.Proofs.YthijgebmoadgkaaGreatDoor
