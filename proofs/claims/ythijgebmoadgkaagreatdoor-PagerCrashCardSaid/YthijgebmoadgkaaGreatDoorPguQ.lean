import Derived.Test.YthijgebmoadgkaaGreatDoorPguO
set_option linter.unusedVariables false
set_option linter.unusedSimpArgs false
namespace Go.Proofs.YthijgebmoadgkaaGreatDoor
open Go.ChangeShapes Go.WideShapes Go.ChangeAt Go.RowKit
section
section
variable {w w' : World} {B Bp d p c : Nat} {P : PS}
theorem zMr {lg lm sb mb sc B0 n cp g : Nat} {wv x5 x6 : Value} {M : List (Nat × Pag)} (h : Raw w p lg lm d sb mb sc wv x5 x6 P) (hr : w.ownsRow B0 131 3 (.slice (some ⟨g, 0, none⟩) n cp) n (shR M)) (hn : M ≠ []) : ¬ (fp d sb mb wv g \/ g = p \/ g = lm \/ g = lg) := by
 obtain ⟨-, -, cur, hb⟩ := vM hr (g := g) rfl;exact fun k => by
   rcases k with k | k | k | k
   · exact zK3 h.disk hr hn k
   · exact (show Own w g 131 cur from hb).type_ne h.own (by decide) k
   · exact h.map.ne (show Own w g 131 cur from hb) k.symm
   · exact (show Own w g 131 cur from hb).type_ne (show Own w lg 246 (P.l.cells d) from h.log) (by decide) k
theorem Raw.not_pt {lg lm sb mb sc : Nat} {wv x5 x6 : Value} (h : Raw w p lg lm d sb mb sc wv x5 x6 P) (a1 : sb < Bp) (a2 : mb < Bp) (a3 : lm < Bp) {q : Nat} (hq : fp d sb mb wv q \/ q = p \/ q = lm \/ q = lg) : ¬ Po.PT w Bp q := fun k => by
 have key : ∀ {T : TypeId} {cs : Array Value}, w.heap[q]? = some (.cells cs T (0, 0)) -> T ≠ 255 -> T ≠ 269 -> False := fun ho h1 h2 => by
   rcases k.2 with ⟨es, ck, h⟩ | ⟨cs', h⟩ | ⟨cs', h⟩
   · rw [ho] at h; cases h
   · unfold Own at h;rw [ho] at h;injection h with h;injection h with e1 e2;exact h1 e2
   · unfold Own at h;rw [ho] at h;injection h with h;injection h with e1 e2;exact h2 e2
 rcases hq with (e | e | e | e) | e | e | e
 · subst e; exact key h.disk.own (by decide) (by decide)
 · subst e; have := k.1; omega
 · subst e; have := k.1; omega
 · rcases h.disk.wrs.2 with ⟨h6, _⟩ | ⟨g6, c6, u6, h6, _, h7, _⟩
   · rw [h6] at e; cases e
   · rw [h6] at e;injection e with e;have e : g6 = q := e;subst e;exact key h7 (by decide) (by decide)
 · subst e; exact key h.own (by decide) (by decide)
 · subst e; have := k.1; omega
 · subst e; exact key (show Own w q 246 (P.l.cells d) from h.log) (by decide) (by decide)
theorem Raw.keep {lg lm sb mb sc : Nat} {wv x5 x6 : Value} {Z : Nat -> Prop} (h : Raw w p lg lm d sb mb sc wv x5 x6 P) (hc : Chg Z w w') (hz : ∀ q, (fp d sb mb wv q \/ q = p \/ q = lm \/ q = lg) -> ¬ Z q) : Raw w' p lg lm d sb mb sc wv x5 x6 P :=
 ⟨h.disk.keep hc fun q hq => hz q (.inl hq), hc.own (show Own w lg 246 (P.l.cells d) from h.log) (hz lg (.inr (.inr (.inr rfl)))), hc.own h.own (hz p (.inr (.inl rfl))), h.map.keep (hc.block lm h.map.in_ (hz lm (.inr (.inr (.inl rfl))))), h.ne⟩
theorem Zh (h : zF w B Bp d p c P) (hf : P.failed = true) : Calls Tryz.prog 25 #[.pointer (some ⟨p, 0, none⟩)] w fun e w' => e = .returned (.int .i64 17) /\ w = w' := by
 obtain ⟨lg, lm, pl, ho⟩ := h.cells;rw [hf] at ho;obtain ⟨q1, q2, q3⟩ := ho.at_;clear h ho hf;go_enter Tryz.func25, Tryz.ntmps25;go_wp2;go_ret;exact ⟨rfl, rfl⟩
set_option maxRecDepth 10000 in
set_option maxHeartbeats 4000000 in
theorem Vn (h : zF w B Bp d p c P) (hf : P.failed = false) (hd : P.s.down = false) (hlf : P.l.failed = false) (hq : P.seq + 1 <= 18446744073709551615) (hfew : P.s.wr.length <= 20000) (hc : c + P.T.length < 1000000) :
   Calls Tryz.prog 25 #[.pointer (some ⟨p, 0, none⟩)] w fun e w' => e = .returned (.int .i64 P.comE) /\ zF w' B Bp d p (c + P.T.length) P.com /\ ∀ S, uI w d S -> uI w' d S /\ Chg (FT w B S) w w' := by
 have CH := zDb h hc;have HSA := Lh (fun w' (hc : Chg (Po.PT w Bp) w w') S (hS : uI w d S) => h.sure_ask hc hS);obtain ⟨lg0, lm0, pl0, ho⟩ := h.cells;rw [hf] at ho;have HO := Lh ho;have EC := Lh (show P.comE = (if P.T = [] then 0 else if 64 < P.T.length then 10 else P.entR.1) by unfold PS.comE; rw [if_neg (by rw [hf]; simp)]);have EP := Lh (show P.com = (if P.T = [] \/ 64 < P.T.length then P else if P.entR.1 = 0 then P.done else P.ent) by
   unfold PS.com;by_cases c : P.T = [] \/ 64 < P.T.length
   · rw [if_pos (.inr c), if_pos c]
   · rw [if_neg (by rw [hf]; simpa using c), if_neg c])
 have hok := h.ok;obtain ⟨n, hn⟩ : ∃ n, n = P.T.length := ⟨_, rfl⟩
 have HN := Lh hn;have hnr : n <= 65536 := by have := hok.few; have := hok.r6; omega
 rw [<- hn] at CH EC EP hc ⊢;replace CH := Lh CH;have HOK := Lh hok;have HLV := Lh (And.intro hd hlf);have hcz := h.base;obtain ⟨rE, hrE⟩ : ∃ rE, rE = P.comE := ⟨_, rfl⟩
 obtain ⟨rP, hrP⟩ : ∃ rP, rP = P.com := ⟨_, rfl⟩
 rw [<- hrE] at EC ⊢;rw [<- hrP] at EP ⊢;obtain ⟨q1, q2, q3⟩ := ho.at_;clear h ho hf hd hlf hn hok hrE hrP;by_cases h0 : P.T = []
 · have n0 : n = 0 := by rw [HN.out, h0]; rfl
   subst n0;have EE := EC.out;rw [if_pos h0] at EE;have PP := EP.out;rw [if_pos (.inl h0)] at PP;replace EE := Lh EE;replace PP := Lh PP;clear EC EP h0;go_enter Tryz.func25, Tryz.ntmps25;go_wp2_with (go_at_call 91; refine CH.out.mono ?_; rintro e w2 ⟨v, rfl, hrow, hA⟩; have A2 := Lh hA; obtain ⟨va, vc, rfl⟩ : ∃ va vc, v = .slice va 0 vc := (by rcases hrow.2 with ⟨e1, e2⟩ | ⟨g, cap, cur, e1, _⟩; exact ⟨none, 0, by rw [e1]⟩; exact ⟨_, cap, e1⟩); clear hrow hA)
   go_ret;rw [EE.out, PP.out];exact ⟨rfl, A2.out.1, fun S hS => ⟨HSA.out _ A2.out.2 S hS, A2.out.2.mono fun q _ hq => zC3 hcz.2.1 hq⟩⟩
 by_cases h64 : 64 < n
 · have EE := EC.out;rw [if_neg h0, if_pos h64] at EE;have PP := EP.out;rw [if_pos (.inr h64)] at PP;replace EE := Lh EE;replace PP := Lh PP;have t0 : ((n : Int) == 0) = false := by simp; omega
   have t1 : decide ((64 : Int) < (n : Int)) = true := by simp; omega
   clear EC EP h0 h64;go_enter Tryz.func25, Tryz.ntmps25;go_wp2_with (go_at_call 91; refine CH.out.mono ?_; rintro e w2 ⟨v, rfl, hrow, hA⟩; have A2 := Lh hA; obtain ⟨va, vc, rfl⟩ : ∃ va vc, v = .slice va n vc := (by rcases hrow.2 with ⟨e1, e2⟩ | ⟨g, cap, cur, e1, _⟩; exact ⟨none, 0, by rw [e1, e2]⟩; exact ⟨_, cap, e1⟩); clear hrow hA)
   go_ret;rw [EE.out, PP.out];exact ⟨rfl, A2.out.1, fun S hS => ⟨HSA.out _ A2.out.2 S hS, A2.out.2.mono fun q _ hq => zC3 hcz.2.1 hq⟩⟩
 have EE := EC.out;rw [if_neg h0, if_neg h64] at EE;have PP := EP.out;rw [if_neg (fun e => e.elim h0 h64)] at PP;have t0 : ((n : Int) == 0) = false := by
   have : n ≠ 0 := fun e => h0 (List.eq_nil_of_length_eq_zero (by rw [<- HN.out]; exact e))
   simp; omega
 have t1 : decide ((64 : Int) < (n : Int)) = false := by simp; omega
 have H0 := Lh h0;have HQ := Lh hq;have HFW := Lh hfew;replace EE := Lh EE;replace PP := Lh PP;have h64' : n <= 64 := by omega
 clear EC EP h0 h64 hq hfew;go_enter Tryz.func25, Tryz.ntmps25;go_upto_region 10 with (go_at_call 91; refine CH.out.mono ?_; rintro e w2 ⟨v, rfl, hrow, hA⟩; have A2 := Lh hA; have W2 := Lh hrow; obtain ⟨va, vc, rfl⟩ : ∃ va vc, v = .slice va n vc := (by rcases hrow.2 with ⟨e1, e2⟩ | ⟨g, cap, cur, e1, _⟩; exact ⟨none, 0, by rw [e1, e2]⟩; exact ⟨_, cap, e1⟩); clear hrow hA)
 obtain ⟨⟨sb, mb, sc, wv, lg, lm, pl, R, H2⟩, C2⟩ := A2.out;have hrow2 := W2.out;rw [HN.out] at hrow2;have ENT := zIi H2.raw HOK.out HLV.out.1 HLV.out.2 H0.out (by rw [<- HN.out]; exact h64') HQ.out HFW.out (.slice va P.T.length vc) hrow2;rw [<- HN.out] at ENT;have KIN := Lh (PS.ent_kin HOK.out (Sd.of H2.disk.ok) HLV.out.1 HLV.out.2 H0.out (by rw [<- HN.out]; exact h64') HQ.out);obtain ⟨e0, he0⟩ : ∃ e0, e0 = P.entR.1 := ⟨_, rfl⟩
 rw [<- he0] at ENT KIN EE PP;have HH2 := Lh H2;have HC2 := Lh C2;replace ENT := Lh ENT;clear H2 C2 hrow2 he0 q1 q2 q3;go_upto_region 11 with (go_at_call 92; refine ENT.out.mono ?_; rintro e w3 ⟨rfl, hr3⟩; have R3 := Lh hr3; clear hr3)
 obtain ⟨wv3, k3, kc3, kv3⟩ := R3.out;by_cases ce : e0 = 0
 · subst ce;have PP2 := PP.out;rw [if_pos rfl] at PP2;replace PP2 := Lh PP2;obtain ⟨g, rfl⟩ : ∃ g, va = some ⟨g, 0, none⟩ := by
     rcases W2.out.2 with ⟨e1, e2⟩ | ⟨g, cap, cur, e1, _⟩
     · rw [e2] at t0; simp at t0
     · injection e1 with e1 _ _; exact ⟨g, e1⟩
   have ng := zMr HH2.out.raw W2.out H0.out;have W3 := Lh (Po.ownsRow_keepB W2.out fun g' e => kc3.block g' (vM W2.out e).2.1 fun k => by
     obtain rfl : g = g' := by simpa [Value.ownBlock] using e
     exact ng k)
   have ng3 : lm ≠ g := by
     obtain ⟨-, -, cur, hb⟩ := vM W3.out (g := g) rfl;exact k3.map.ne (show Own w3 g 131 cur from hb)
   have hpm := k3.npm;have HT := Lh (HOK.out.T.1);obtain ⟨E, hE⟩ : ∃ E, E = P.ent := ⟨_, rfl⟩
   rw [<- hE] at k3;have hEM : asc E.M := by rw [hE]; exact KIN.out.1.M.1
   have HEE := Lh hE;have K3 := Lh k3;have KC3 := Lh (And.intro kc3 kv3);have O3 := Lh k3.own;have M3 := Lh k3.map;have HEM := Lh hEM;clear hE hEM k3 kc3 kv3 ng ENT CH A2 HO R3;go_wp2;go_loopw [33] (fun i wr => ∃ k : Nat, k <= n /\ i = .int .i64 (k : Int) /\ zW wr lm .i64 ((yF E.M (P.T.take k)).map uD) /\ Chg (· = lm) w3 wr) (fun i wr => n - (intOf i).toNat)
   case atStart => exact ⟨0, by omega, rfl, M3.out, Chg.refl _ _⟩
   case round =>
     obtain ⟨k, hk, rfl, hm, hch⟩ := hrel;by_cases hlt : k < n
     · obtain ⟨q, hq⟩ : ∃ q, P.T[k]? = some q := ⟨_, List.getElem?_eq_getElem (by rw [<- HN.out]; exact hlt)⟩
       have hrw : wr.ownsRow w.heap.size 131 3 (.slice (some ⟨g, 0, none⟩) n vc) n (shR P.T) := Po.ownsRow_keepB W3.out fun g' e => hch.block g' (vM W3.out e).2.1 fun k => by
         obtain rfl : g = g' := by simpa [Value.ownBlock] using e
         exact ng3 (Eq.symm k)
       obtain ⟨c0, c1, c2⟩ := zBn P.T hq;have k0 : wr.cell? ⟨g, k * 3, none⟩ = some (.int .i64 (q.1 : Int)) := by rw [World.ownsRow.cellAt hrw (k * 3) (by omega), c0]
       have k1 : wr.cell? ⟨g, k * 3 + 1, none⟩ = some (.int .i64 (q.2.1 : Int)) := by rw [World.ownsRow.cellAt hrw (k * 3 + 1) (by omega), c1]
       have k2 : wr.cell? ⟨g, k * 3 + 2, none⟩ = some (.string q.2.2) := by rw [World.ownsRow.cellAt hrw (k * 3 + 2) (by omega), c2]
       have EK := Lh (show yF E.M (P.T.take (k + 1)) = ins q.1 q.2 (yF E.M (P.T.take k)) by rw [List.take_add_one, hq]; show yF E.M (P.T.take k ++ [q]) = _; rw [zC8]);have AK := Lh (uC (P.T.take k) HEM.out);obtain ⟨Mk, hMk⟩ : ∃ Mk, Mk = yF E.M (P.T.take k) := ⟨_, rfl⟩
       rw [<- hMk] at hm EK AK;have HM := Lh hm;have HCH := Lh hch;have OP := Lh (hch.own O3.out (fun e => hpm (Eq.symm e)));clear hm hch hrw c0 c1 c2 hq hMk;go_upto_region 16 with fail;have B1 : Below wr.heap.size wr (wr.alloc (.cells #[.int .i64 (q.1 : Int), .int .i64 (q.2.1 : Int), .string q.2.2] 131)) := zG _ _ _;have Q1 := Own.made wr 131 #[.int .i64 (q.1 : Int), .int .i64 (q.2.1 : Int), .string q.2.2];go_name_world W1 hW1;rw [hW1] at B1 Q1;clear hW1 k0 k1 k2;have HB1 := Lh B1;have HQ1 := Lh Q1;have HP1 := Lh (OP.out.keep B1);have hM1 : zW W1.drew lm .i64 (Mk.map uD) := HM.out.keep (B1.block lm HM.out.in_);obtain ⟨W5, hmu, hm5, hc5, hs5⟩ := hM1.insM AK.out q.1 q.2;unfold shV at hmu;have NS := Lh (hM1.ne HQ1.out.drawn);rw [<- EK.out] at hm5;have M5 := Lh hm5;have C5 := Lh (((HCH.out.call B1).drew).trans hc5 fun q _ e => e);have P5 := Lh (hc5.own HP1.out.drawn (fun e => hpm (Eq.symm e)));have Q5 := Lh (hc5.own HQ1.out.drawn (fun e => NS.out (Eq.symm e)));clear B1 Q1 hM1 hm5 hc5 hs5;refine zA (fun W => Own W p 150 #[.pointer (some ⟨d, 0, none⟩), .int .i64 (E.ll : Int), .int .u64 (E.seq : Int), .pointer (some ⟨lg, 0, none⟩), .map (some lm), .int .i64 (P.room : Int), .pointer (some ⟨pl, 0, none⟩), .bool E.failed] /\ Own W wr.heap.size 131 #[.int .i64 (q.1 : Int), .int .i64 (q.2.1 : Int), .string q.2.2]) (0 :: 1 :: 2 :: 3 :: 4 :: 5 :: 6 :: []) (3 :: 5 :: 6 :: []) (0 :: 1 :: 2 :: 3 :: 4 :: 5 :: 6 :: 7 :: []) (by kernel_rfl) (by kernel_rfl) rfl (by kernel_rfl) rfl (⟨HP1.out.drawn, HQ1.out.drawn⟩) (by simp only [zU, List.filterMap_cons, List.filterMap_nil, List.getElem?_cons_zero, List.getElem?_cons_succ, Option.map_some]; exact rfl) ?_
       iterate 7
         refine zC (v := ?_) rfl rfl (fun W hS => ?_) ?_;rotate_left
         · first
             | (conv => lhs; simp [go_sem]
                first | done | exact rfl)
             | (have hS := hS rfl
                obtain ⟨q1, q2⟩ := hS;obtain ⟨q1, q4, q5⟩ := Own.at_ q1;obtain ⟨q2, q6, q7⟩ := Own.at_ q2;conv => lhs; simp [go_sem, *]
                first | done | exact rfl)
         simp only [Act.put, lA, lZ, lS]
       refine zQ rfl rfl fun K hK => ?_
       go_wp2;refine hK _ _ ⟨P5.out, Q5.out⟩ ?_;clear hK K;refine zR ?_;go_wp2;go_roundw
       case rel => exact ⟨k + 1, by omega, by go_num, M5.out, C5.out⟩
       case measure => simp [intOf]; omega
     · obtain rfl : k = n := by omega
       have e1 : P.T.take k = P.T := by rw [HN.out, List.take_length]
       rw [e1] at hm;have K9 : Raw wr p lg lm d sb mb sc wv3 (.int .i64 (P.room : Int)) (.pointer (some ⟨pl, 0, none⟩)) P.done := by
         have e : P.done = { E with M := yF E.M P.T, T := [] } := by rw [HEE.out]; rfl
         rw [e];exact ⟨K3.out.disk.keep hch fun q hq e => K3.out.nm (by rw [show q = lm from e] at hq; exact hq), hch.own (show Own w3 lg 246 (E.l.cells d) from K3.out.log) (fun e => K3.out.nlm (Eq.symm e)), hch.own O3.out (fun e => hpm (Eq.symm e)), hm, K3.out.ne⟩
       have PW := (HH2.out.pool_keep KC3.out.1).keep hch fun q hq e => by
         have h1 := hq.1;have h2 := HH2.out.a3;have h3 : q = lm := e;omega
       have CL := Lh (Po.clean_any PW);have CHG := Lh ((HH2.out.ft KC3.out.1).trans (hch.mono (T := FT w3 B sb) fun q _ e => by
         have h3 : q = lm := e;subst h3;obtain ⟨es, ck, hb, _⟩ := K3.out.map;exact ⟨HH2.out.b6, .inl ⟨es, ck, hb⟩⟩) fun q hq e => by
           by_cases c : FT w2 B sb q
           · exact c
           · exact e.congr ((HH2.out.ft KC3.out.1).block q hq c))
       have HK9 := Lh K9;obtain ⟨q1, q2, q3⟩ := K9.own.at_;clear K9 PW hm hch e1;go_wp2_with (go_at_call 93; refine CL.out.mono ?_; rintro e w6 ⟨rfl, hp6, hc6⟩)
       go_ret;rw [EE.out, PP2.out];have KINo := KIN.out.1;have hend := HH2.out.lift (HK9.out.keep hc6 fun q hq => HK9.out.not_pt HH2.out.a1 HH2.out.a2 HH2.out.a3 hq) (HH2.out.own_case KC3.out.2) hp6 (zJ2 HOK.out KINo HH2.out.coh) (zL4 HOK.out KINo HQ.out) (show P.done.room = P.room from (zFs P).2.2.2);exact ⟨rfl, ⟨sb, mb, sc, wv3, lg, lm, pl, _, hend⟩, fun S hS => by
         obtain rfl := (HSA.out _ HC2.out S hS).inj HH2.out.disk.sureB;exact ⟨hend.disk.sureB, Yf (HC2.out.mono fun q _ hq => zC3 hcz.2.1 hq) (Yf CHG.out (hc6.mono fun q _ hq => zC3 hcz.2.1 hq))⟩⟩
 · have t3 : (e0 != 0) = true := by simpa using ce
   have PP2 := PP.out;rw [if_neg ce] at PP2;replace PP2 := Lh PP2;have hfin : zF w3 B Bp d p (c + n) P.ent := ⟨sb, mb, sc, wv3, lg, lm, pl, R, HH2.out.lift k3 (HH2.out.own_case kv3) (HH2.out.pool_keep kc3) (KIN.out.1.coh HH2.out.coh) (KIN.out.1.ok HOK.out HQ.out) (zFs P).2.2.2⟩
   have hchg : ∀ S, uI w d S -> uI w3 d S /\ Chg (FT w B S) w w3 := fun S hS => by
     obtain rfl := (HSA.out _ HC2.out S hS).inj HH2.out.disk.sureB;exact ⟨k3.disk.sureB, Yf (HC2.out.mono fun q _ hq => zC3 hcz.2.1 hq) (HH2.out.ft kc3)⟩
   have HF := Lh (And.intro hfin hchg);clear k3 kc3 kv3 hfin hchg ce;go_wp2;go_ret;rw [EE.out, PP2.out];exact ⟨rfl, HF.out⟩
end
end
section
def PS.ckE (P : PS) : Int := if P.failed = true \/ P.T ≠ [] then 17 else P.empR.1
def PS.ck (P : PS) : PS := if P.failed = true \/ P.T ≠ [] then P else PS.told P.empR.1 P.emp
section
variable {w w' : World} {B Bp d p c : Nat} {P : PS}
theorem zA2 (h : zF w B Bp d p c P) (hf : P.failed = true) : Calls Tryz.prog 27 #[.pointer (some ⟨p, 0, none⟩)] w fun e w' => e = .returned (.int .i64 17) /\ w = w' := by
 obtain ⟨lg, lm, pl, ho⟩ := h.cells;rw [hf] at ho;obtain ⟨q1, q2, q3⟩ := ho.at_;clear h ho hf;go_enter Tryz.func27, Tryz.ntmps27;go_wp2;go_ret;exact ⟨rfl, rfl⟩
theorem zD6 (h : zF w B Bp d p c P) (hf : P.failed = false) (hT : P.T ≠ []) : Calls Tryz.prog 27 #[.pointer (some ⟨p, 0, none⟩)] w fun e w' => e = .returned (.int .i64 17) /\ Below w.heap.size w w' := by
 have HD := Lh (Zb h);obtain ⟨lg, lm, pl, ho⟩ := h.cells;rw [hf] at ho;obtain ⟨q1, q2, q3⟩ := ho.at_;have hr := h.ok.few;have hr6 := h.ok.r6;have hpos : 0 < P.T.length := List.length_pos_iff.2 hT;obtain ⟨n, hn⟩ : ∃ n, n = P.T.length := ⟨_, rfl⟩
 rw [<- hn] at HD hpos;have t1 : decide (0 < n) = true := by simp; omega
 clear h ho hf hT hn hr hpos;go_enter Tryz.func27, Tryz.ntmps27;go_wp2_with (go_at_call 95; refine HD.out.mono ?_; rintro e w2 ⟨rfl, hb⟩)
 go_ret;exact ⟨rfl, hb⟩
set_option maxRecDepth 10000 in
set_option maxHeartbeats 1000000 in
theorem Yg (h : zF w B Bp d p c P) (hf : P.failed = false) (hT : P.T = []) (hd : P.s.down = false) (hlf : P.l.failed = false) (hq : P.seq + 1 <= 18446744073709551615) (hfew : P.s.wr.length <= 20000) :
   Calls Tryz.prog 27 #[.pointer (some ⟨p, 0, none⟩)] w fun e w' => e = .returned (.int .i64 P.empR.1) /\ zF w' B Bp d p c (PS.told P.empR.1 P.emp) /\ ∀ S, uI w d S -> uI w' d S /\ Chg (FT w B S) w w' := by
 have HD := Zb h;rw [hT] at HD;replace HD := Lh (show Calls Tryz.prog 95 #[.pointer (some ⟨p, 0, none⟩)] w fun e w' => e = .returned (.int .i64 0) /\ Below w.heap.size w w' from HD);obtain ⟨sb, mb, sc, wv, lg, lm, pl, R, H⟩ := h;have hok := H.ok;have hm := hok.most;have ho : Own w p 150 #[.pointer (some ⟨d, 0, none⟩), .int .i64 (P.ll : Int), .int .u64 (P.seq : Int), .pointer (some ⟨lg, 0, none⟩), .map (some lm), .int .i64 (P.room : Int), .pointer (some ⟨pl, 0, none⟩), .bool P.failed] := H.own;rw [hf] at ho;have EMP := Lh (fun W (hb : Below w.heap.size w W) => (show Calls Tryz.prog 97 #[.pointer (some ⟨p, 0, none⟩)] W fun e w' => e = .returned (.int .i64 P.empR.1) /\ xS w w' p lg lm d sb mb sc wv (.int .i64 (P.room : Int)) (.pointer (some ⟨pl, 0, none⟩)) P.emp from by
   refine (zD4 (H.raw.below hb) hok.log hlf hok.M hm.2.1 (by have := hok.fit; have := hok.N; omega) (by omega) hq).mono ?_;rintro e w' ⟨rfl, hr⟩;exact ⟨rfl, hr.from_ hb⟩))
 have TLD := Lh (fun W (hr : xS w W p lg lm d sb mb sc wv (.int .i64 (P.room : Int)) (.pointer (some ⟨pl, 0, none⟩)) P.emp) => (show Calls Tryz.prog 96 #[.pointer (some ⟨p, 0, none⟩), .int .i64 P.empR.1] W fun e w' => e = .returned (.int .i64 P.empR.1) /\ xS w w' p lg lm d sb mb sc wv (.int .i64 (P.room : Int)) (.pointer (some ⟨pl, 0, none⟩)) (PS.told P.empR.1 P.emp) from by
   obtain ⟨wv', k1, k2, k3⟩ := hr;refine (zAr k1 P.empR.1).mono ?_;rintro e w' ⟨rfl, hr⟩;exact ⟨rfl, xS.then_ k2 k3 hr⟩))
 obtain ⟨kin, kk, ksd, kes⟩ := PS.emp_kin hok (Sd.of H.disk.ok) hd hlf;have zJ : (PS.told P.empR.1 P.emp).room = P.room := (kin.told _).room;have HK := Lh (And.intro (kin.told P.empR.1) zJ);have HH := Lh H;have HO := Lh ho;obtain ⟨E, hE⟩ : ∃ E, E = PS.told P.empR.1 P.emp := ⟨_, rfl⟩
 rw [<- hE] at TLD HK ⊢;obtain ⟨Q, hQ⟩ : ∃ Q, Q = P.emp := ⟨_, rfl⟩
 rw [<- hQ] at TLD EMP;obtain ⟨e0, he0⟩ : ∃ e0, e0 = P.empR.1 := ⟨_, rfl⟩
 rw [<- he0] at TLD EMP ⊢;have HQ := Lh hq;obtain ⟨q1, q2, q3⟩ := ho.at_;clear H ho hf hT hd hlf kin kk ksd kes zJ hE hQ he0 hok hq;go_enter Tryz.func27, Tryz.ntmps27;go_wp2_with (first
   | (go_at_call 95; refine HD.out.mono ?_; rintro e w2 ⟨rfl, hb2⟩; have B2 := Lh hb2; clear hb2)
   | (go_at_call 97; refine (EMP.out _ B2.out).mono ?_; rintro e w3 ⟨rfl, hr3⟩; have R3 := Lh hr3; clear hr3)
   | (go_at_call 96; refine (TLD.out _ R3.out).mono ?_; rintro e w4 ⟨rfl, hr4⟩))
 go_ret;obtain ⟨wv4, k4, kc4, kv4⟩ := hr4;exact ⟨rfl, ⟨sb, mb, sc, wv4, lg, lm, pl, R, HH.out.lift k4 (HH.out.own_case kv4) (HH.out.pool_keep kc4) (HK.out.1.coh HH.out.coh) (HK.out.1.ok HH.out.ok HQ.out) HK.out.2⟩, fun S hS => by
   obtain rfl := hS.inj HH.out.disk.sureB;exact ⟨k4.disk.sureB, HH.out.ft kc4⟩⟩
end
end
end Go.Proofs.YthijgebmoadgkaaGreatDoor
