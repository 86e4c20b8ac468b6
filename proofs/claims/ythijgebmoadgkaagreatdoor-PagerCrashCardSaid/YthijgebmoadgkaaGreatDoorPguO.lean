import Derived.Test.YthijgebmoadgkaaGreatDoorPguK
set_option linter.unusedVariables false
set_option linter.unusedSimpArgs false
namespace Go.Proofs.YthijgebmoadgkaaGreatDoor
open Go.ChangeShapes Go.WideShapes Go.ChangeAt Go.RowKit
section
def pgG (T : List (Nat × Pag)) (i : Nat) : ByteArray := match T[i]? with
 | some q => pgB q.2.1 q.1 q.2.2
 | none => ⟨#[]⟩
theorem zGg (P : PS) : (List.range P.T.length).map (pgG P.T) = P.pgs := by
 apply List.ext_getElem?
 intro i;unfold PS.pgs;rw [List.getElem?_map, List.getElem?_map];by_cases hi : i < P.T.length
 · rw [List.getElem?_range hi, List.getElem?_eq_getElem hi];show some (pgG P.T i) = some _
   unfold pgG;rw [List.getElem?_eq_getElem hi]
 · rw [List.getElem?_eq_none (by simp; omega), List.getElem?_eq_none (by omega)];rfl
section
variable {w : World} {p lg lm d sb mb sc B : Nat} {wv x5 x6 : Value} {P : PS}
theorem zDu {w1 w2 : World} {F : Nat -> Prop} {v v' : Value} (hc : Chg F w1 w2) (hv : v'.ownBlock = v.ownBlock \/ v'.ownBlock = none \/ ∃ g, v'.ownBlock = some g /\ w1.heap.size <= g) (hb : Below w.heap.size w w1) : Chg F w w2 /\ (v'.ownBlock = v.ownBlock \/ v'.ownBlock = none \/ ∃ g, v'.ownBlock = some g /\ w.heap.size <= g) := by
 refine ⟨(Chg.of hb).same hc, ?_⟩;rcases hv with h | h | ⟨g, h, hg⟩
 · exact .inl h
 · exact .inr (.inl h)
 · exact .inr (.inr ⟨g, h, Nat.le_trans hb.size hg⟩)
theorem zLy (h : P.Ok) (hfew : P.s.wr.length <= 20000) : P.empR.2.wr.length <= 90000 := by
 have hm := h.most;have h1 := vE P.N (xZ P.ll P.M P.seq P.l.next) (0, P.s);have h2 := Zc P.ll P.M P.seq P.l.next 2 (Nat.le_refl _);have h3 := Qa P.M 0 8191 h.M.1 fun q hq => ⟨Nat.zero_le _, by have := (h.M.2 q hq).1; omega⟩
 have h4 : (xZ P.ll P.M P.seq P.l.next).length <= P.M.length * 8 + 3 := h2;have h5 : P.empR.2.wr.length <= P.s.wr.length + (xZ P.ll P.M P.seq P.l.next).length := h1;omega
set_option maxRecDepth 10000 in
set_option maxHeartbeats 4000000 in
theorem zIi (h : Raw w p lg lm d sb mb sc wv x5 x6 P) (hok : P.Ok) (hd : P.s.down = false) (hf : P.l.failed = false) (h1 : P.T ≠ []) (h64 : P.T.length <= 64) (hq : P.seq + 1 <= 18446744073709551615) (hfew : P.s.wr.length <= 20000) (v : Value) (hv : w.ownsRow B 131 3 v P.T.length (shR P.T)) :
   Calls Tryz.prog 92 #[.pointer (some ⟨p, 0, none⟩), v] w fun e w' => e = .returned (.int .i64 P.entR.1) /\ xS w w' p lg lm d sb mb sc wv x5 x6 P.ent := by
 have hp := hok.pgs h1;have hpl := fK P;have hsd : Sd P.N P.s := Sd.of h.disk.ok;have hN := hok.N;have hfit := hok.fit;have hsz := hok.size;have GS : ∀ i, i < P.T.length -> (pgG P.T i).size <= maxLen := fun i hi => by
   unfold pgG;rw [List.getElem?_eq_getElem hi];have := (hok.T.2 _ (List.getElem_mem hi)).2.size;simp only;rw [vF _ _ _ (by omega)];unfold maxLen; omega
 have HADD := Lh (fun W (hb : Below w.heap.size w W) b (ho : Own W b 9 (vG P.T.length (pgG P.T) P.T.length)) => (show Calls Tryz.prog 178 #[.pointer (some ⟨p, 0, none⟩), .slice (some ⟨b, 0, none⟩) P.T.length P.T.length] W fun e w' => e = .returned (.int .i64 (P.addR P.pgs).1) /\ xS W w' p lg lm d sb mb sc wv x5 x6 (P.addP P.pgs) from by
   have := zC6 (h.below hb) hd hok.log hf hsz (by omega) b P.T.length (pgG P.T) ho GS (by omega) (by omega);rw [zGg] at this;exact this))
 have HGS := Lh GS;have HTOLD := Lh (fun W (Q : PS) (hr : xS w W p lg lm d sb mb sc wv x5 x6 Q) (e : Int) => (show Calls Tryz.prog 96 #[.pointer (some ⟨p, 0, none⟩), .int .i64 e] W fun en w' => en = .returned (.int .i64 e) /\ xS w w' p lg lm d sb mb sc wv x5 x6 (PS.told e Q) from by
   obtain ⟨wv', k1, k2, k3⟩ := hr;refine (zAr k1 e).mono ?_;rintro en w' ⟨rfl, hr⟩;exact ⟨rfl, xS.then_ k2 k3 hr⟩))
 have HB0 := Lh (fun j x (hx : (vG P.T.length (pgG P.T) j)[0]? = some (.int .u8 x)) => (show False from by
   have hpos : 0 < P.T.length := List.length_pos_iff.2 h1;rw [xK P.T.length (pgG P.T) j 0 hpos] at hx;cases hx))
 have HBY := Lh (fun i (hi : i < P.T.length) W => (Zs (P.T[i]'hi).1 (P.T[i]'hi).2 W (hok.T.2 _ (List.getElem_mem hi)).2 (by have := (hok.T.2 _ (List.getElem_mem hi)).1; have := hok.most; omega)));obtain ⟨n, hn⟩ : ∃ n, n = P.T.length := ⟨_, rfl⟩
 have HN := Lh hn;have HM := mM n (by omega) (pgG P.T) w;have HO := Own.made w 9 (vG n (pgG P.T) 0);have L0 : Below w.heap.size w (w.alloc (.cells (vG n (pgG P.T) 0) 9)) := zG _ _ _;obtain ⟨W0, hW0⟩ : ∃ W0, W0 = w.alloc (.cells (vG n (pgG P.T) 0) 9) := ⟨_, rfl⟩
 rw [<- hW0] at HM HO L0;rw [<- hn] at hv h64 HADD HB0;obtain ⟨b, hb⟩ : ∃ b, b = w.heap.size := ⟨_, rfl⟩
 rw [<- hb] at HM HO;have HBZ := Lh hb;obtain ⟨va, vc, rfl⟩ : ∃ va vc, v = .slice va n vc := by
   rcases hv.2 with ⟨e1, e2⟩ | ⟨g, cap, cur, e1, _⟩
   · exact ⟨none, 0, by rw [e1, e2]⟩
   · exact ⟨_, cap, e1⟩
 obtain ⟨r, hr⟩ : ∃ r, r = P.entR := ⟨_, rfl⟩
 have HENT := Lh (show P.ent = PS.told r.1 r.2 by rw [hr]; rfl);have HR := Lh hr;rw [<- hr, HENT.out];have HV := Lh hv;have HH := Lh h;have HOK := Lh hok;have HHO := Lh HO;have HL0 := Lh L0;have HSD := Lh hsd;have HPG := Lh (And.intro hp hpl);have HH1 := Lh (And.intro hd (And.intro hf h1));have zb : b < W0.heap.size := HO.in_;clear hW0 hv h hok HO L0 hr hn hb hsd hp hpl hd hf h1 GS hsz hN hfit;go_enter Tryz.func92, Tryz.ntmps92;go_wp2;clear HM;go_loopw [14] (fun i wr => ∃ k : Nat, k <= n /\ i = .int .i64 (k : Int) /\ Own wr b 9 (vG n (pgG P.T) k) /\ Below w.heap.size w wr) (fun i wr => n - (intOf i).toNat)
 case atStart => exact ⟨0, by omega, rfl, HHO.out, HL0.out⟩
 case round =>
   obtain ⟨k, hk, rfl, hO, hL⟩ := hrel;have hsz := hL.size;have hO := Lh hO;have hL := Lh hL;by_cases hlt : k < n
   · have hlt' : k < P.T.length := by rw [<- HN.out]; exact hlt
     obtain ⟨q, hq2⟩ : ∃ q, q = P.T[k]'hlt' := ⟨_, rfl⟩
     have hqk : P.T[k]? = some q := by rw [hq2]; exact List.getElem?_eq_getElem hlt'
     have BY := HBY.out k hlt';rw [<- hq2] at BY;have hgk : pgG P.T k = pgB q.2.1 q.1 q.2.2 := by unfold pgG; rw [hqk]
     rw [<- hgk] at BY;obtain ⟨G, hG⟩ : ∃ G, G = pgG P.T k := ⟨_, rfl⟩
     rw [<- hG] at BY;have HG := Lh hG;have hV1 : wr.ownsRow B 131 3 (.slice va n vc) n (shR P.T) := Po.ownsRow_keepB HV.out fun g e => hL.out.block g (vM HV.out e).2.1
     obtain ⟨g, rfl⟩ : ∃ g, va = some ⟨g, 0, none⟩ := by
       rcases hV1.2 with ⟨e1, e2⟩ | ⟨g, cap, cur, e1, _⟩
       · omega
       · injection e1 with e1 _ _; exact ⟨g, e1⟩
     obtain ⟨c0, c1, c2⟩ := zBn P.T hqk;have k0 : wr.cell? ⟨g, k * 3, none⟩ = some (.int .i64 (q.1 : Int)) := by rw [World.ownsRow.cellAt hV1 (k * 3) (by omega), c0]
     have k1 : wr.cell? ⟨g, k * 3 + 1, none⟩ = some (.int .i64 (q.2.1 : Int)) := by rw [World.ownsRow.cellAt hV1 (k * 3 + 1) (by omega), c1]
     have k2 : wr.cell? ⟨g, k * 3 + 2, none⟩ = some (.string q.2.2) := by rw [World.ownsRow.cellAt hV1 (k * 3 + 2) (by omega), c2]
     unfold shV at BY;replace BY := Lh BY;clear hq2 hqk hgk hG c0 c1 c2 hV1;go_wp2_with (go_at_call 147; refine (BY.out _).mono ?_; rintro e w3 ⟨rfl, hb3⟩; have B3 := Lh (then_ (hL.out.alloc hsz (.cells #[.int .i64 (q.1 : Int), .int .i64 (q.2.1 : Int), .string q.2.2] 131)) hb3 (by simp; omega)); have O3 := Lh ((hO.out.more (.cells #[.int .i64 (q.1 : Int), .int .i64 (q.2.1 : Int), .string q.2.2] 131)).keep hb3); clear hb3; obtain ⟨c1, c2, c3⟩ := O3.out.at_; have c4 := c1 k; rw [xK n (pgG P.T) k k hlt] at c4; have c5 := c2 k; clear c1 c2)
     go_roundw
     case rel =>
       refine ⟨k + 1, by omega, by go_num, ?_, B3.out.setCell (by rw [HBZ.out]; exact Nat.le_refl _) _⟩;have := O3.out.put k (.string (pgG P.T k));rw [Qp n (pgG P.T) k hlt] at this;rw [HG.out];exact this
     case measure => simp [intOf]; omega
   · obtain rfl : k = n := by omega
     have HSO := Lh (fun W => zD0 (some ⟨b, 0, none⟩) k k W (by omega));have hn := HN.out;by_cases c1 : 1 + 9 * P.T.length <= P.l.left
     · have E : r = ((P.addR P.pgs).1, P.addP P.pgs) := by rw [HR.out]; unfold PS.entR; rw [if_pos c1]
       have h9 : (P.addR P.pgs).1 ≠ 9 := by
         obtain ⟨-, k2, -, -⟩ := PS.add_kin HOK.out HSD.out HH1.out.1 HH1.out.2.1 P.pgs HPG.out.1 (by rw [HPG.out.2]; omega) (by rw [HPG.out.2]; exact c1);rcases k2 with k2 | k2 <;> omega
       have AD := HADD.out _ hL.out b hO.out;obtain ⟨a, ha⟩ : ∃ a, a = P.addR P.pgs := ⟨_, rfl⟩
       rw [<- ha] at E h9 AD;obtain ⟨Q, hQ⟩ : ∃ Q, Q = P.addP P.pgs := ⟨_, rfl⟩
       rw [<- hQ] at E AD;obtain ⟨e0, a0⟩ := a;simp only at E h9 AD;replace E := Lh E;have t9 : (e0 == 9) = false := by simpa using h9
       replace AD := Lh AD;clear ha hQ h9 c1 hn;go_upto_region 8 with (go_at_call 178; refine AD.out.mono ?_; rintro e w4 ⟨rfl, hr4⟩; have R4 := Lh (hr4.from_ hL.out); clear hr4)
       refine zA (fun W => True) (0 :: 1 :: 2 :: 3 :: 5 :: 6 :: 7 :: 8 :: 9 :: 10 :: 11 :: []) ([]) (0 :: 1 :: 2 :: 3 :: 5 :: 6 :: 7 :: 8 :: 9 :: 4 :: 10 :: 11 :: []) (by kernel_rfl) (by kernel_rfl) rfl (by kernel_rfl) rfl (trivial) (by simp only [zU, List.filterMap_cons, List.filterMap_nil, List.getElem?_cons_zero, List.getElem?_cons_succ, Option.map_some]; exact rfl) ?_;iterate 3
         refine zC (v := ?_) rfl rfl (fun W hS => ?_) ?_;rotate_left
         · conv => lhs; simp [go_sem, t9]
           first | done | exact rfl
         simp only [Act.put, lA, lZ, lS]
       refine zO rfl rfl ?_;simp only [Act.put, lA, lZ, lS];refine zO rfl rfl ?_;simp only [Act.put, lA, lZ, lS];refine zO rfl rfl ?_;simp only [Act.put, lA, lZ, lS];refine zO rfl rfl ?_;simp only [Act.put, lA, lZ, lS];refine zO rfl rfl ?_;simp only [Act.put, lA, lZ, lS];refine zO rfl rfl ?_;simp only [Act.put, lA, lZ, lS];refine zQ rfl rfl fun K hK => ?_
       go_wp2;refine hK _ _ trivial ?_;clear hK K;refine zO rfl rfl ?_;simp only [Act.put, lA, lZ, lS];iterate 1
         refine zC (v := ?_) rfl rfl (fun W hS => ?_) ?_;rotate_left
         · conv => lhs; simp [go_sem, t9]
           first | done | exact rfl
         simp only [Act.put, lA, lZ, lS]
       refine zR ?_;have T4 := Lh (HTOLD.out _ Q (R4.out.below (Below.refl _ _).drew) e0);go_wp2_with (go_at_call 96; refine T4.out.mono ?_; rintro e w5 ⟨rfl, hr5⟩)
       go_ret;rw [E.out];exact ⟨rfl, hr5⟩
     · have c1' : ¬ 1 + 9 * P.pgs.length <= P.l.left := by rw [HPG.out.2]; exact c1
       obtain ⟨e9, eP⟩ := PS.add_none HH1.out.2.1 HPG.out.1 (by rw [HPG.out.2]; omega) c1';have AD := HADD.out _ hL.out b hO.out;rw [e9, eP] at AD;replace AD := Lh AD;clear e9 eP c1';obtain ⟨K, hK⟩ : ∃ K, K = 1 + 9 * k := ⟨_, rfl⟩
       rw [<- hK] at HSO;by_cases c2 : 1 + 9 * P.T.length <= P.ll
       · have t2 : decide (K <= P.ll) = true := by simp; omega
         have HKK := Lh hK;have HC := Lh (And.intro c1 c2);have HNN := Lh hn;clear hK c1 c2 hn;go_upto_region 8 with (go_at_call 178; refine AD.out.mono ?_; rintro e w4 ⟨rfl, hr4⟩; have R4 := Lh hr4; clear hr4)
         obtain ⟨wv4, k4, kc4, kv4⟩ := R4.out;have OP4 := Lh k4.own;have OB4 := Lh (kc4.own hO.out ((HH.out.below hL.out).out hO.out (by decide) (by decide) (by decide) (by decide) (HB0.out k)));have C4w := Lh (And.intro (zDu kc4 kv4 hL.out).1.drew (zDu kc4 kv4 hL.out).2);have K4 := Lh k4;clear k4 kc4 kv4;refine zA (fun W => Own W p 150 #[.pointer (some ⟨d, 0, none⟩), .int .i64 (P.ll : Int), .int .u64 (P.seq : Int), .pointer (some ⟨lg, 0, none⟩), .map (some lm), x5, x6, .bool P.failed]) (0 :: 1 :: 2 :: 3 :: 5 :: 6 :: 7 :: 8 :: 9 :: 10 :: 11 :: []) (9 :: []) (0 :: 1 :: 2 :: 3 :: 5 :: 6 :: 7 :: 8 :: 9 :: 4 :: 10 :: 11 :: []) (by kernel_rfl) (by kernel_rfl) rfl (by kernel_rfl) rfl (OP4.out.drawn) (by simp only [zU, List.filterMap_cons, List.filterMap_nil, List.getElem?_cons_zero, List.getElem?_cons_succ, Option.map_some]; exact rfl) ?_;iterate 9
           refine zC (v := ?_) rfl rfl (fun W hS => ?_) ?_;rotate_left
           · first
               | (conv => lhs; simp [go_sem, t2]
                  first | done | exact rfl)
               | (have hS := hS rfl
                  obtain ⟨q1, q4, q5⟩ := Own.at_ hS;conv => lhs; simp [go_sem, *, t2]
                  first | done | exact rfl)
           simp only [Act.put, lA, lZ, lS]
         refine zQ rfl rfl fun K hK => ?_
         go_wp2_with (go_at_call 179; refine (HSO.out _).mono ?_; rintro e w5 ⟨rfl, rfl⟩)
         refine hK _ _ OP4.out.drawn ?_;clear hK K;iterate 2
           refine zC (v := ?_) rfl rfl (fun W hS => ?_) ?_;rotate_left
           · first
               | (conv => lhs; simp [go_sem, t2]
                  first | done | exact rfl)
               | (have hS := hS rfl
                  obtain ⟨q1, q4, q5⟩ := Own.at_ hS;conv => lhs; simp [go_sem, *, t2]
                  first | done | exact rfl)
           simp only [Act.put, lA, lZ, lS]
         refine zR ?_;have BD : Below w4.heap.size w4 w4.drew := (Below.refl _ _).drew;have KD := K4.out.below BD;have OBD := OB4.out.keep BD;have hmost := HOK.out.most;have EMP := Lh (zD4 KD HOK.out.log HH1.out.2.1 HOK.out.M hmost.2.1 (by have := HOK.out.fit; have := HOK.out.N; omega) (by omega) hq);obtain ⟨kin, kk, ksd, kes⟩ := PS.emp_kin HOK.out HSD.out HH1.out.1 HH1.out.2.1;have hef := zLy HOK.out hfew;rw [<- kes] at hef;have HKIN := Lh (And.intro kin (And.intro kk (And.intro ksd hef)));have HKD := Lh KD;have HOBD := Lh OBD;clear kin kk ksd kes hef KD OBD BD hmost;by_cases c3 : P.empR.1 = 0
         · have E : r = ((P.emp.addR P.pgs).1, P.emp.addP P.pgs) := by rw [HR.out]; unfold PS.entR; rw [if_neg HC.out.1, if_pos HC.out.2, if_pos c3]
           replace E := Lh E;rw [c3] at EMP;have AD2 := Lh (fun W wvE (hW : Raw W p lg lm d sb mb sc wvE x5 x6 P.emp) (ho : Own W b 9 (vG k (pgG P.T) k)) => (show Calls Tryz.prog 178 #[.pointer (some ⟨p, 0, none⟩), .slice (some ⟨b, 0, none⟩) k k] W fun e w' => e = .returned (.int .i64 (P.emp.addR P.pgs).1) /\ xS W w' p lg lm d sb mb sc wvE x5 x6 (P.emp.addP P.pgs) from by
             obtain ⟨kin, kk, ksd, hef⟩ := HKIN.out;rcases kk with ⟨-, kd, kM, kl, kq, kT⟩ | kk
             · have hE := kin.ok HOK.out hq;have := zC6 hW kd hE.log (by rw [kl]; exact HH1.out.2.1) hE.size (by have := hE.fit; omega) b k (pgG P.T) ho (fun i hi => HGS.out i (by rw [<- HNN.out]; exact hi)) (by omega) hef;rw [HNN.out, zGg] at this;rw [HNN.out];exact this
             · omega))
           clear c3;go_wp2_with (first
             | (go_at_call 97; refine EMP.out.mono ?_; rintro e w5 ⟨rfl, hr5⟩; have R5 := Lh hr5; clear hr5; obtain ⟨wv5, k5, kc5, kv5⟩ := R5.out; have OB5 := Lh (kc5.own HOBD.out (HKD.out.out HOBD.out (by decide) (by decide) (by decide) (by decide) (HB0.out k))); have AD3 := Lh (AD2.out _ _ k5 OB5.out); have CC5 := Lh (And.intro kc5 kv5); clear k5 kc5 kv5)
             | (go_at_call 178; refine AD3.out.mono ?_; rintro e w6 ⟨rfl, hr6⟩; have R6 := Lh (xS.then_ C4w.out.1 C4w.out.2 (xS.then_ CC5.out.1 CC5.out.2 hr6)); clear hr6; have T6 := Lh (HTOLD.out _ _ R6.out (P.emp.addR P.pgs).1))
             | (go_at_call 96; refine T6.out.mono ?_; rintro e w7 ⟨rfl, hr7⟩))
           go_ret;rw [E.out];exact ⟨rfl, hr7⟩
         · have E : r = (P.empR.1, P.emp) := by rw [HR.out]; unfold PS.entR; rw [if_neg HC.out.1, if_pos HC.out.2, if_neg c3]
           replace E := Lh E;obtain ⟨e0, he0⟩ : ∃ e0, e0 = P.empR.1 := ⟨_, rfl⟩
           rw [<- he0] at EMP E c3;have t3 : (e0 == 0) = false := by simpa using c3
           clear c3 he0;go_wp2_with (first
             | (go_at_call 97; refine EMP.out.mono ?_; rintro e w5 ⟨rfl, hr5⟩; have R5 := Lh (xS.then_ C4w.out.1 C4w.out.2 hr5); clear hr5; have T6 := Lh (HTOLD.out _ _ R5.out e0))
             | (go_at_call 96; refine T6.out.mono ?_; rintro e w7 ⟨rfl, hr7⟩))
           go_ret;rw [E.out];exact ⟨rfl, hr7⟩
       · have E : r = (9, P) := by rw [HR.out]; unfold PS.entR; rw [if_neg c1, if_neg c2]
         replace E := Lh E;have t2 : decide (K <= P.ll) = false := by simp; omega
         clear hK c1 c2 hn;go_upto_region 8 with (go_at_call 178; refine AD.out.mono ?_; rintro e w4 ⟨rfl, hr4⟩; have R4 := Lh hr4; clear hr4)
         obtain ⟨wv4, k4, kc4, kv4⟩ := R4.out;have OP4 := Lh k4.own;have R4w := Lh (R4.out.from_ hL.out);clear k4 kc4 kv4;refine zA (fun W => Own W p 150 #[.pointer (some ⟨d, 0, none⟩), .int .i64 (P.ll : Int), .int .u64 (P.seq : Int), .pointer (some ⟨lg, 0, none⟩), .map (some lm), x5, x6, .bool P.failed]) (0 :: 1 :: 2 :: 3 :: 5 :: 6 :: 7 :: 8 :: 9 :: 10 :: 11 :: []) (9 :: []) (0 :: 1 :: 2 :: 3 :: 5 :: 6 :: 7 :: 8 :: 9 :: 4 :: 10 :: 11 :: []) (by kernel_rfl) (by kernel_rfl) rfl (by kernel_rfl) rfl (OP4.out.drawn) (by simp only [zU, List.filterMap_cons, List.filterMap_nil, List.getElem?_cons_zero, List.getElem?_cons_succ, Option.map_some]; exact rfl) ?_;iterate 9
           refine zC (v := ?_) rfl rfl (fun W hS => ?_) ?_;rotate_left
           · first
               | (conv => lhs; simp [go_sem, t2]
                  first | done | exact rfl)
               | (have hS := hS rfl
                  obtain ⟨q1, q4, q5⟩ := Own.at_ hS;conv => lhs; simp [go_sem, *, t2]
                  first | done | exact rfl)
           simp only [Act.put, lA, lZ, lS]
         refine zQ rfl rfl fun K hK => ?_
         go_wp2_with (go_at_call 179; refine (HSO.out _).mono ?_; rintro e w5 ⟨rfl, rfl⟩)
         refine hK _ _ OP4.out.drawn ?_;clear hK K;iterate 2
           refine zC (v := ?_) rfl rfl (fun W hS => ?_) ?_;rotate_left
           · first
               | (conv => lhs; simp [go_sem, t2]
                  first | done | exact rfl)
               | (have hS := hS rfl
                  obtain ⟨q1, q4, q5⟩ := Own.at_ hS;conv => lhs; simp [go_sem, *, t2]
                  first | done | exact rfl)
           simp only [Act.put, lA, lZ, lS]
         refine zR ?_;have T4 := Lh (HTOLD.out _ P (R4w.out.below (Below.refl _ _).drew) 9);go_wp2_with (go_at_call 96; refine T4.out.mono ?_; rintro e w5 ⟨rfl, hr5⟩)
         go_ret;rw [E.out];exact ⟨rfl, hr5⟩
end
end
section
section
variable {w w' : World} {B Bp d p c sb mb sc lg lm pl : Nat} {wv : Value} {R : List Po.RF} {P P' : PS}
theorem Pgr.raw (h : Pgr w B Bp d p c sb mb sc wv lg lm pl R P) : Raw w p lg lm d sb mb sc wv (.int .i64 (P.room : Int)) (.pointer (some ⟨pl, 0, none⟩)) P := ⟨h.disk, h.log, h.own, h.map, h.a4⟩
theorem Pgr.own_case (h : Pgr w B Bp d p c sb mb sc wv lg lm pl R P) {wv' : Value} (hv : wv'.ownBlock = wv.ownBlock \/ wv'.ownBlock = none \/ ∃ g, wv'.ownBlock = some g /\ w.heap.size <= g) : ∀ g, wv'.ownBlock = some g -> B <= g := fun g hg => by
 rcases hv with e | e | ⟨g', e, hg'⟩
 · exact h.b4 g (e ▸ hg)
 · rw [e] at hg; cases hg
 · rw [e] at hg;injection hg with hg;have := h.pool.base;have := h.b8;omega
theorem Pgr.ft (h : Pgr w B Bp d p c sb mb sc wv lg lm pl R P) (hc : Chg (fun q => fp d sb mb wv q \/ q = p \/ q = lm \/ q = lg) w w') : Chg (FT w B sb) w w' := hc.mono fun q _ e => by
 rcases e with e | e | e | e
 · exact ft_fp h.disk h.b1 h.b2 h.b3 h.b4 e
 · subst e; exact ⟨h.b7, .inr (.inr ⟨_, _, _, h.own, .inr (.inr (.inr (.inl rfl)))⟩)⟩
 · subst e;obtain ⟨es, ck, hb, _⟩ := h.map;exact ⟨h.b6, .inl ⟨es, ck, hb⟩⟩
 · subst e; exact ⟨h.b5, .inr (.inr ⟨_, _, _, (show Own w q 246 (P.l.cells d) from h.log), .inr (.inr (.inl rfl))⟩)⟩
theorem Pgr.pool_keep (h : Pgr w B Bp d p c sb mb sc wv lg lm pl R P) (hc : Chg (fun q => fp d sb mb wv q \/ q = p \/ q = lm \/ q = lg) w w') : Po.PoolAt w' Bp pl P.room c R := h.pool.keep hc fun q hq e => by
 rcases e with e | e | e | e
 · exact h.not_pt (.inr (.inr (.inr e))) hq
 · exact h.not_pt (.inr (.inl e)) hq
 · exact h.not_pt (.inr (.inr (.inl e))) hq
 · exact h.not_pt (.inl e) hq
theorem Pgr.lift (h : Pgr w B Bp d p c sb mb sc wv lg lm pl R P) {wv' : Value} {c' : Nat} {R' : List Po.RF} (hr : Raw w' p lg lm d sb mb sc wv' (.int .i64 (P.room : Int)) (.pointer (some ⟨pl, 0, none⟩)) P') (hv : ∀ g, wv'.ownBlock = some g -> B <= g) (hp : Po.PoolAt w' Bp pl P.room c' R') (hR : Coh P' R') (hk : P'.Ok) (hm : P'.room = P.room) : Pgr w' B Bp d p c' sb mb sc wv' lg lm pl R' P' :=
 { h with
   disk := hr.disk
   log := hr.log
   own := by have := hr.own; unfold PS.cells; rw [hm]; exact this
   map := hr.map
   pool := by rw [hm]; exact hp
   coh := hR
   ok := hk
   b4 := hv }
end
def PS.comE (P : PS) : Int := if P.failed = true then 17 else if P.T = [] then 0 else if 64 < P.T.length then 10 else P.entR.1
def PS.done (P : PS) : PS := { P.ent with M := yF P.ent.M P.T, T := [] }
def PS.com (P : PS) : PS := if P.failed = true \/ P.T = [] \/ 64 < P.T.length then P else if P.entR.1 = 0 then P.done else P.ent
section
variable {P : PS} {R : List Po.RF}
theorem zFs (P : PS) : P.ent.T = P.T /\ P.ent.N = P.N /\ P.ent.ll = P.ll /\ P.ent.room = P.room := by
 have key : P.entR.2.T = P.T /\ P.entR.2.N = P.N /\ P.entR.2.ll = P.ll /\ P.entR.2.room = P.room := by
   have he : P.emp.T = P.T /\ P.emp.N = P.N /\ P.emp.ll = P.ll /\ P.emp.room = P.room := by unfold PS.emp; split <;> exact ⟨rfl, rfl, rfl, rfl⟩
   unfold PS.entR;split
   · exact ⟨rfl, rfl, rfl, rfl⟩
   · split
     · split
       · exact he
       · exact he
     · exact ⟨rfl, rfl, rfl, rfl⟩
 unfold PS.ent PS.told;split
 · exact key
 · exact key
theorem mJ (h : P.Ok) (k : Kin P P.ent) {no : Nat} (hno : no < P.most) : P.done.base no = P.view no := by
 have hb := k.base no hno;unfold PS.base at hb;unfold PS.done PS.base PS.view;simp only;rw [Ue k.M.1 P.T h.T.1];cases hT : lk P.T no with
 | some x => rfl
 | none => exact hb
theorem zL4 (h : P.Ok) (k : Kin P P.ent) (hq : P.seq + 1 <= 18446744073709551615) : P.done.Ok := by
 have hE := k.ok h hq;have hm : P.done.most = P.most := k.most;have hm1 := h.most;have hv : P.done.base 0 = P.view 0 := mJ h k (by omega);have hv2 : P.done.view 0 = P.view 0 := hv;exact { hE with
   M := ⟨uC _ k.M.1, fun q hq => by
     rw [hm];rcases Jc hq with hq | hq
     · exact h.T.2 q hq
     · exact k.M.2 q hq⟩
   T := ⟨by simp [PS.done, asc], by simp [PS.done]⟩
   few := Nat.zero_le _
   hd := by rw [hm, hv2]; exact h.hd
   hd0 := by rw [hv2]; exact h.hd0
   bd := by rw [hm, hv]; exact h.hd
   bd0 := by rw [hv]; exact h.hd0 }
theorem zJ2 (h : P.Ok) (k : Kin P P.ent) (hR : Coh P R) : Coh P.done (Po.cleanR R) := by
 have hm : P.done.most = P.most := k.most;refine ⟨fun f hf => ?_, fun q hq => by cases hq⟩;obtain ⟨f0, hf0, rfl⟩ := List.mem_map.1 hf;obtain ⟨no, x, e, hn, hx, hs, hp, ht, hc⟩ := hR.good f0 hf0;refine ⟨no, x, e, by rw [hm]; exact hn, hx, hs, hp, (fun hd => by cases hd), fun _ => ⟨rfl, ?_⟩⟩;rw [mJ h k hn];unfold PS.view;cases hd : f0.dirty with
 | true => rw [ht hd]
 | false =>
   obtain ⟨h1, h2⟩ := hc hd;rw [h1];exact h2
end
end
end Go.Proofs.YthijgebmoadgkaaGreatDoor
