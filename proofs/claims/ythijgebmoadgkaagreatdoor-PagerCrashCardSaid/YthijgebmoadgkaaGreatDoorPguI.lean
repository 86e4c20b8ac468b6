import Derived.Test.YthijgebmoadgkaaGreatDoorPguF
import Derived.Test.YthijgebmoadgkaaGreatDoorPguG
set_option linter.unusedVariables false
set_option linter.unusedSimpArgs false
namespace Go.Proofs.YthijgebmoadgkaaGreatDoor
open Go.ChangeShapes Go.WideShapes Go.ChangeAt Go.RowKit
section
def xJ (ll : Nat) (M : List (Nat × Pag)) : List Dop := M.flatMap fun q => vV ll q.1 q.2
theorem zCe (ll : Nat) (M : List (Nat × Pag)) (q : Nat × Pag) : xJ ll (M ++ [q]) = xJ ll M ++ vV ll q.1 q.2 := by simp [xJ]
theorem zGz (ll no : Nat) (x : Pag) : (vV ll no x).length = 8 := qB _ _ _
theorem Ye (ll : Nat) (M : List (Nat × Pag)) : (xJ ll M).length = M.length * 8 := by
 induction M with
 | nil => rfl
 | cons q M ih =>
   show (vV ll q.1 q.2 ++ xJ ll M).length = _
   rw [List.length_append, ih, zGz, List.length_cons];omega
section
variable {W W' : World} {bl pe pf d sb mb sc p lm b1 : Nat} {wv : Value} {N ll : Nat} {x y : Int × St} {x2 x3 x5 x6 x7 : Value} {M : List (Nat × Pag)}
theorem zK3 {w : World} {s : St} {B n cp g : Nat} (hD : zI w d sb mb sc wv N s) (h : w.ownsRow B 131 3 (.slice (some ⟨g, 0, none⟩) n cp) n (shR M)) (hn : M ≠ []) : ¬ fp d sb mb wv g := by
 obtain ⟨-, -, cur, hb⟩ := vM h (g := g) rfl;refine hD.no_own (show Own w g 131 cur from hb) (by decide) (by decide) fun x hx => ?_
 cases M with
 | nil => exact hn rfl
 | cons q M =>
   have hl := h.1;have h0 := World.ownsRow.cellAt h 0 (by
     have : (shR (q :: M)).length = n * 3 := hl;rw [Qy, List.length_cons] at this;omega)
   have h1 := (show Own w g 131 cur from hb).at_.1 0;rw [h1, hx] at h0;cases h0
set_option maxRecDepth 10000 in
set_option maxHeartbeats 2000000 in
theorem zN3 (h : fS W bl pe pf d sb mb sc wv N ll x) (ha : asc M) (hf : ∀ q ∈ M, q.1 <= 8191 /\ xW q.2) (hn : M.length <= 8192) (hll : ll <= 70000) (hl : x.2.wr.length <= 800000) (h1 : Own W b1 30 #[.pointer (some ⟨p, 0, none⟩)]) (h2 : Own W p 150 #[.pointer (some ⟨d, 0, none⟩), .int .i64 (ll : Int), x2, x3, .map (some lm), x5, x6, x7]) (hM : zW W lm .i64 (M.map uD)) :
   Calls Tryz.prog 180 #[mV pf bl, .pointer (some ⟨b1, 0, none⟩)] W fun e w' => e = .returned (.tuple #[]) /\ zK W w' pe d sb mb sc wv N (zP N (xJ ll M) x) := by
 have IL := Lh (zHr h2 hM ha (fun q hq => by have := (hf q hq).1; omega) (by omega));have zpe := h.err.in_;have HH := Lh h;have S0 := Lh (fun W1 (hb : Below W.heap.size W W1) => zK.from_ (zK.same (h.below hb).disk (h.below hb).err) hb);have KEEP : Hid (∀ (w1 : World) (y : Int × St), zK W w1 pe d sb mb sc wv N y -> Own w1 b1 30 #[.pointer (some ⟨p, 0, none⟩)] /\ Own w1 p 150 #[.pointer (some ⟨d, 0, none⟩), .int .i64 (ll : Int), x2, x3, .map (some lm), x5, x6, x7]) := Lh fun w1 y hs => by
   obtain ⟨wv', -, -, hc, -⟩ := hs;exact ⟨hc.own h1 fun k => k.elim (h.disk.no_own h1 (by decide) (by decide) (by simp)) (h1.type_ne h.err (by decide)),
     hc.own h2 fun k => k.elim (h.disk.no_own h2 (by decide) (by decide) (by simp)) (h2.type_ne h.err (by decide))⟩
 have HF := Lh hf;obtain ⟨n, hn2⟩ : ∃ n, n = M.length := ⟨_, rfl⟩
 have HN := Lh hn2;rw [<- hn2] at IL hn;obtain ⟨q1, q2, q3⟩ := h1.at_;have z1 := h1.in_;have z2 := h2.in_;clear h h1 h2 hM ha hf hn2;unfold mV;go_enter Tryz.func180, Tryz.ntmps180;go_wp2_with (go_at_call 181; refine IL.out.mono ?_; rintro e w1 ⟨v, rfl, hrow, hb1⟩; have R1 := Lh hrow; have B1 := Lh hb1; obtain ⟨va, vc, rfl⟩ : ∃ va vc, v = .slice va n vc := (by rcases hrow.2 with ⟨e1, e2⟩ | ⟨g, cap, cur, e1, _⟩; exact ⟨none, 0, by rw [e1, e2]⟩; exact ⟨_, cap, e1⟩); clear hrow hb1 q1 q2 q3)
 have SS := Lh (S0.out _ B1.out);clear S0;go_loopw [8] (fun i wr => ∃ k : Nat, k <= n /\ i = .int .i64 (k : Int) /\ zK W wr pe d sb mb sc wv N (zP N (xJ ll (M.take k)) x) /\ wr.ownsRow W.heap.size 131 3 (.slice va n vc) n (shR M)) (fun i wr => n - (intOf i).toNat)
 case atStart => exact ⟨0, by omega, rfl, SS.out, R1.out⟩
 case round =>
   obtain ⟨k, hk, rfl, hS, hrow⟩ := hrel;by_cases hlt : k < n
   · obtain ⟨q, hq⟩ : ∃ q, M[k]? = some q := ⟨_, List.getElem?_eq_getElem (by rw [<- HN.out]; exact hlt)⟩
     have hqM : q ∈ M := List.mem_of_getElem? hq;obtain ⟨hq1, hq2⟩ := HF.out q hqM;have hMn : M ≠ [] := fun e => by rw [e] at hqM; cases hqM
     obtain ⟨g, rfl⟩ : ∃ g, va = some ⟨g, 0, none⟩ := by
       rcases hrow.2 with ⟨e1, e2⟩ | ⟨g, cap, cur, e1, _⟩
       · omega
       · injection e1 with e1 _ _; exact ⟨g, e1⟩
     obtain ⟨c0, c1, c2⟩ := zBn M hq;have k0 : wr.cell? ⟨g, k * 3, none⟩ = some (.int .i64 (q.1 : Int)) := by rw [World.ownsRow.cellAt hrow (k * 3) (by omega), c0]
     have k1 : wr.cell? ⟨g, k * 3 + 1, none⟩ = some (.int .i64 (q.2.1 : Int)) := by rw [World.ownsRow.cellAt hrow (k * 3 + 1) (by omega), c1]
     have k2 : wr.cell? ⟨g, k * 3 + 2, none⟩ = some (.string q.2.2) := by rw [World.ownsRow.cellAt hrow (k * 3 + 2) (by omega), c2]
     obtain ⟨o1, o2⟩ := KEEP.out _ _ hS;obtain ⟨wv1, hC, hc1, hv1⟩ := HH.out.next hS;have hrl := vE N (xJ ll (M.take k)) x;rw [Ye, List.length_take] at hrl;have hrl2 : (zP N (xJ ll (M.take k)) x).2.wr.length <= 900000 := by omega
     have hnf := zK3 hC.disk hrow hMn;have hge : g ≠ pe := by have := (vM hrow (g := g) rfl).1; omega
     have EK := Lh (show zP N (xJ ll (M.take (k + 1))) x = zP N (vV ll q.1 q.2) (zP N (xJ ll (M.take k)) x) by rw [List.take_add_one, hq]; show zP N (xJ ll (M.take k ++ [q])) x = _; rw [zCe, jI]);have PG := Lh (fun W => zK7 d ll q.1 q.2 W);obtain ⟨y, hy⟩ : ∃ y, y = zP N (xJ ll (M.take k)) x := ⟨_, rfl⟩
     rw [<- hy] at EK hS hC hrl2;have HR := Lh hrow;have HC := Lh hC;have CC := Lh (And.intro hC.disk (And.intro hc1 hv1));have O1 := Lh o1;have O2 := Lh o2;have zr := hS.choose_spec.2.2.1.size;unfold uM shV at PG;clear hrow hC hc1 hv1 o1 o2 hS hrl hy c0 c1 c2 hqM hMn hq;go_upto_region 3 with fail;have B3 : Below wr.heap.size wr (wr.alloc (.cells #[.int .i64 (q.1 : Int), .int .i64 (q.2.1 : Int), .string q.2.2] 131)) := zG _ _ _;have Q3 := Own.made wr 131 #[.int .i64 (q.1 : Int), .int .i64 (q.2.1 : Int), .string q.2.2];go_name_world W3 hW3;rw [hW3] at B3 Q3;clear hW3 k0 k1 k2;have P3 := O1.out.keep B3;have P4 := O2.out.keep B3;have HB3 := Lh B3;have HQ3 := Lh Q3;have HP3 := Lh P3;have HP4 := Lh P4;clear B3 Q3 P3 P4;refine zA (fun W1 => Own W1 b1 30 #[.pointer (some ⟨p, 0, none⟩)] /\ Own W1 p 150 #[.pointer (some ⟨d, 0, none⟩), .int .i64 (ll : Int), x2, x3, .map (some lm), x5, x6, x7] /\ Own W1 wr.heap.size 131 #[.int .i64 (q.1 : Int), .int .i64 (q.2.1 : Int), .string q.2.2]) (0 :: 1 :: 2 :: 3 :: 4 :: 6 :: []) (0 :: 3 :: 4 :: []) (0 :: 1 :: 2 :: 3 :: 4 :: 6 :: 5 :: 7 :: []) (by kernel_rfl) (by kernel_rfl) rfl (by kernel_rfl) rfl (⟨HP3.out.drawn, HP4.out.drawn, HQ3.out.drawn⟩) (by simp only [zU, List.filterMap_cons, List.filterMap_nil, List.getElem?_cons_zero, List.getElem?_cons_succ, Option.map_some]; exact rfl) ?_;iterate 6
       refine zC (v := ?_) rfl rfl (fun W hS => ?_) ?_;rotate_left
       · first
           | (conv => lhs; simp [go_sem]
              first | done | exact rfl)
           | (have hS := hS rfl
              obtain ⟨q1, q2, q3⟩ := hS;obtain ⟨q1, q4, q5⟩ := Own.at_ q1;obtain ⟨q2, q6, q7⟩ := Own.at_ q2;obtain ⟨q3, q8, q9⟩ := Own.at_ q3;conv => lhs; simp [go_sem, *]
              first | done | exact rfl)
       simp only [Act.put, lA, lZ, lS]
     refine zQ rfl rfl fun K hK => ?_
     go_wp2_with (go_at_call 72; refine (PG.out _).mono ?_; rintro e w4 ⟨rfl, o3, o4, hb4⟩)
     have B4 := Lh (then_ HB3.out.drew hb4 HB3.out.drew.size);have A3 := Lh o3;have A4 := Lh o4;have K4 := Lh (And.intro (HP3.out.drawn.keep hb4) (And.intro (HP4.out.drawn.keep hb4) (HQ3.out.drawn.keep hb4)));refine hK _ _ K4.out ?_;clear hK K hb4 o3 o4;have hS : Own w4 b1 30 #[.pointer (some ⟨p, 0, none⟩)] /\ Own w4 p 150 #[.pointer (some ⟨d, 0, none⟩), .int .i64 (ll : Int), x2, x3, .map (some lm), x5, x6, x7] /\ Own w4 wr.heap.size 131 #[.int .i64 (q.1 : Int), .int .i64 (q.2.1 : Int), .string q.2.2] := K4.out;have HL9 := Lh (zI2 (HC.out.below B4.out) q.1 q.2 hq2 (by omega) (by omega) hrl2 W3.heap.size (W3.heap.size + 1) A3.out A4.out);have HS4 := Lh hS.2.2;clear hS;refine zQ rfl rfl fun K hK => ?_
     unfold mV at HL9;go_wp2_with fail;refine HL9.out.mono ?_;rintro e w5 ⟨rfl, hS5⟩;have hS6 := zK.then_ CC.out.1 CC.out.2.1 CC.out.2.2 (zK.from_ hS5 B4.out);rw [<- EK.out] at hS6;obtain ⟨r1, r2⟩ := KEEP.out _ _ hS6;obtain ⟨wv5, hD5, hE5, hc5, hv5⟩ := hS5;have hC4 := HC.out.below B4.out;have r3 : Own w5 wr.heap.size 131 #[.int .i64 (q.1 : Int), .int .i64 (q.2.1 : Int), .string q.2.2] := hc5.own HS4.out fun e => e.elim (hC4.disk.no_own HS4.out (by decide) (by decide) (by simp)) (HS4.out.type_ne hC4.err (by decide))
     have r4 : w5.ownsRow W.heap.size 131 3 (.slice (some ⟨g, 0, none⟩) n vc) n (shR M) := by
       have h4 := Po.ownsRow_keepB HR.out fun g' e => B4.out.block g' (vM HR.out e).2.1
       refine Po.ownsRow_keepB h4 fun g' e => hc5.block g' (vM h4 e).2.1 fun k => ?_
       obtain rfl : g = g' := by simpa [Value.ownBlock] using e
       exact k.elim hnf hge
     have S6 := Lh hS6;have R6 := Lh r4;clear hS6 hD5 hE5 hc5 hv5 hC4 r4;go_wp2;refine hK _ _ ⟨r1, r2, r3⟩ ?_;clear hK K r1 r2 r3;refine zR ?_;go_wp2;go_roundw
     case rel => exact ⟨k + 1, by omega, by go_num, S6.out, R6.out⟩
     case measure => simp [intOf]; omega
   · obtain rfl : k = n := by omega
     have e1 : M.take k = M := by rw [HN.out, List.take_length]
     rw [e1] at hS;have HS9 := Lh hS;clear hS hrow e1;go_wp2;go_end0
     exact ⟨rfl, HS9.out⟩
end
end
section
def fP (ll : Nat) (M : List (Nat × Pag)) (seq next k : Nat) : List Dop := if k = 0 then xJ ll M else [some ((seq + 1) % 2, mkB (seq + 1) (mkT next ll))]
def xZ (ll : Nat) (M : List (Nat × Pag)) (seq next : Nat) : List Dop := yV (fP ll M seq next) 2
theorem mR (ll : Nat) (M : List (Nat × Pag)) (seq next : Nat) : xZ ll M seq next = xJ ll M ++ [none, some ((seq + 1) % 2, mkB (seq + 1) (mkT next ll)), none] := by
 unfold xZ;rw [yX, yX];simp [yV, fP]
theorem Zc (ll : Nat) (M : List (Nat × Pag)) (seq next : Nat) : ∀ k, k <= 2 -> (yV (fP ll M seq next) k).length <= M.length * 8 + 3 := by
 intro k hk;have e0 : (fP ll M seq next 0).length = M.length * 8 := by simp [fP, Ye]
 have e1 : (fP ll M seq next 1).length = 1 := by simp [fP]
 rcases (by omega : k = 0 \/ k = 1 \/ k = 2) with rfl | rfl | rfl
 · simp [yV]
 · simp only [yX, List.length_append, List.length_cons, List.length_nil, e0]; simp [yV]
 · simp only [yX, List.length_append, List.length_cons, List.length_nil, e0, e1]; simp [yV]
section
variable {w : World} {p lg lm d sb mb sc : Nat} {wv : Value} {N ll seq : Nat} {s : St} {l : yH} {x5 x6 x7 : Value} {M : List (Nat × Pag)}
theorem Um (hD : zI w d sb mb sc wv N s) (hM : zW w lm .i64 (M.map uD)) (h4 : lm ≠ mb) : ¬ fp d sb mb wv lm := fun h => by
 rcases h with h | h | h | h
 · exact hM.ne hD.own h
 · subst h;exact Vq hM (hD.sure.cell 0 (by have := hD.ok.len; have := hD.ok.pos; omega))
 · exact h4 h
 · rcases hD.wrs.2 with ⟨h6, _⟩ | ⟨g6, c6, u6, h6, _, h7, _⟩
   · rw [h6] at h; cases h
   · rw [h6] at h;injection h with h;have e : g6 = lm := h;subst e;exact hM.ne (show Own w g6 _ u6 from h7) rfl
def zLk (w w' : World) (p lg lm d sb mb sc : Nat) (wv : Value) (N ll seq : Nat) (s' : St) (l : yH) (x5 x6 x7 : Value) : Prop :=
 ∃ wv', zI w' d sb mb sc wv' N s' /\ yA w' lg d { l with used := 0 } /\ Own w' p 150 #[.pointer (some ⟨d, 0, none⟩), .int .i64 (ll : Int), .int .u64 ((seq + 1 : Nat) : Int), .pointer (some ⟨lg, 0, none⟩), .map (some lm), x5, x6, x7] /\ zW w' lm .i64 [] /\
   Chg (fun q => fp d sb mb wv q \/ q = p \/ q = lm \/ q = lg) w w' /\ (wv'.ownBlock = wv.ownBlock \/ wv'.ownBlock = none \/ ∃ g, wv'.ownBlock = some g /\ w.heap.size <= g)
set_option maxRecDepth 10000 in
set_option maxHeartbeats 4000000 in
theorem zH8 (hD : zI w d sb mb sc wv N s) (hL : yA w lg d l) (hk : l.Ok) (hfl : l.failed = false) (hO : Own w p 150 #[.pointer (some ⟨d, 0, none⟩), .int .i64 (ll : Int), .int .u64 (seq : Int), .pointer (some ⟨lg, 0, none⟩), .map (some lm), x5, x6, x7]) (hM : zW w lm .i64 (M.map uD)) (h4 : lm ≠ mb) (ha : asc M) (hf : ∀ q ∈ M, q.1 <= 8191 /\ xW q.2) (hn : M.length <= 8192) (hll : ll <= 70000) (hfew : s.wr.length <= 300000) (hseq : seq + 1 <= 18446744073709551615) :
   Calls Tryz.prog 97 #[.pointer (some ⟨p, 0, none⟩)] w fun e w' => e = .returned (.int .i64 (zP N (xZ ll M seq l.next) (0, s)).1) /\
     ((zP N (xZ ll M seq l.next) (0, s)).1 = 0 -> zLk w w' p lg lm d sb mb sc wv N ll seq (zP N (xZ ll M seq l.next) (0, s)).2 l x5 x6 x7) /\
     ((zP N (xZ ll M seq l.next) (0, s)).1 ≠ 0 -> Wrt w w' d sb mb sc wv N (zP N (xZ ll M seq l.next) (0, s)).2) := by
 have hnx := hk.next;have HNX := Lh (fun W (hb : Below w.heap.size w W) => Yr (show yA W lg d l from Own.keep hL hb));have HMK := Lh (fun W => zIo d ll (seq + 1) l.next W hseq hnx (by omega));have hms : (mkB (seq + 1) (mkT l.next ll)).size = 64 := vD _ _ (by rw [xL]; omega);have HOPS := Lh (show xZ ll M seq l.next = yV (fP ll M seq l.next) 2 from rfl);have f0 := Lh (show fP ll M seq l.next 0 = xJ ll M from rfl);have f1 := Lh (show fP ll M seq l.next 1 = [some ((seq + 1) % 2, mkB (seq + 1) (mkT l.next ll))] from rfl);have HLN := Lh (Zc ll M seq l.next);obtain ⟨MK, hMK⟩ : ∃ MK, MK = mkB (seq + 1) (mkT l.next ll) := ⟨_, rfl⟩
 rw [<- hMK] at HMK hms f1;obtain ⟨Q, hQ⟩ : ∃ Q, Q = l.next := ⟨_, rfl⟩
 rw [<- hQ] at HNX HMK HOPS f0 f1 HLN hnx ⊢;obtain ⟨S1, hS1⟩ : ∃ S1, S1 = seq + 1 := ⟨_, rfl⟩
 have ws : IntKind.u64.wrap ((seq : Int) + 1) = (S1 : Int) := by rw [IntKind.wrap_u64]; omega
 rw [<- hS1] at HMK f1 hseq;have nl := hD.no_own (show Own w lg 246 (l.cells d) from hL) (by decide) (by decide) (by simp [yH.cells]);have np := hD.no_own hO (by decide) (by decide) (by simp);have nm := Um hD hM h4;have npl : p ≠ lg := hO.type_ne (show Own w lg _ _ from hL) (by decide);have npm : lm ≠ p := hM.ne hO;have nlm : lm ≠ lg := hM.ne (show Own w lg _ _ from hL);unfold uM at HMK;have HD := Lh hD;have HL := Lh hL;have HO := Lh hO;have HM := Lh hM;have HA := Lh ha;have HF := Lh hf;have HS1 := Lh hS1;have HK := Lh hk;obtain ⟨r, hr⟩ : ∃ r, r = zP N (xZ ll M seq Q) (0, s) := ⟨_, rfl⟩
 rw [<- hr];have HRW := Lh hr;clear hr;clear hD hL hO hM ha hf hMK hQ hS1 hk;go_enter Tryz.func97, Tryz.ntmps97;go_upto_region 2 with fail;have O1 := Own.made w 30 #[.pointer (some ⟨p, 0, none⟩)];have B0 := zG w 30 #[.pointer (some ⟨p, 0, none⟩)];have OP := HO.out.keep B0;go_name_world W0 hW0;rw [hW0] at O1 B0 OP;clear hW0;obtain ⟨b1, hb1⟩ : ∃ b1, b1 = w.heap.size := ⟨_, rfl⟩
 rw [<- hb1] at O1 ⊢;have HB1 := Lh hb1;clear hb1;replace O1 := Lh O1;replace B0 := Lh B0;replace OP := Lh OP;refine zA (fun W => Own W b1 30 #[.pointer (some ⟨p, 0, none⟩)] /\ Own W p 150 #[.pointer (some ⟨d, 0, none⟩), .int .i64 (ll : Int), .int .u64 (seq : Int), .pointer (some ⟨lg, 0, none⟩), .map (some lm), x5, x6, x7]) (0 :: 1 :: 2 :: 3 :: 4 :: 5 :: 6 :: 7 :: 8 :: 9 :: 10 :: 11 :: 12 :: 13 :: 14 :: 15 :: 16 :: 17 :: 22 :: []) (0 :: 3 :: 5 :: 8 :: 9 :: 12 :: 14 :: 17 :: []) (0 :: 1 :: 2 :: 3 :: 4 :: 5 :: 6 :: 7 :: 8 :: 9 :: 10 :: 11 :: 12 :: 13 :: 14 :: 15 :: 16 :: 17 :: 18 :: 19 :: 20 :: 21 :: 22 :: []) (by kernel_rfl) (by kernel_rfl) rfl (by kernel_rfl) rfl (⟨O1.out.drawn, OP.out.drawn⟩) (by simp only [zU, List.filterMap_cons, List.filterMap_nil, List.getElem?_cons_zero, List.getElem?_cons_succ, Option.map_some]; exact rfl) ?_;iterate 18
   refine zC (v := ?_) rfl rfl (fun W hS => ?_) ?_;rotate_left
   · first
       | (conv => lhs; simp [go_sem, ws]
          first | done | exact rfl)
       | (have hS := hS rfl
          obtain ⟨q1, q2⟩ := hS;obtain ⟨q1, q4, q5⟩ := Own.at_ q1;obtain ⟨q2, q6, q7⟩ := Own.at_ q2;conv => lhs; simp [go_sem, *, ws]
          first | done | exact rfl)
   simp only [Act.put, lA, lZ, lS]
 refine zQ rfl rfl fun K hK => ?_
 go_wp2_with (go_at_call 182; refine (HNX.out _ B0.out.drew).mono ?_; rintro e w3 ⟨rfl, rfl⟩)
 refine hK _ _ ⟨O1.out.drawn, OP.out.drawn⟩ ?_;clear hK K;refine zQ rfl rfl fun K hK => ?_
 go_wp2_with (go_at_call 75; refine (HMK.out _).mono ?_; rintro e w4 ⟨c1, c2, rfl, o3, o4, hb4⟩)
 have B4 := Lh (then_ B0.out.drew hb4 B0.out.drew.size);have A3 := Lh o3;have A4 := Lh o4;have P4 := Lh (OP.out.drawn.keep hb4);have Q4 := Lh (O1.out.drawn.keep hb4);refine hK _ _ ⟨Q4.out, P4.out⟩ ?_;clear hK K hb4 o3 o4;refine zQ rfl rfl fun K hK => ?_
 go_wp2;refine hK _ _ ⟨Q4.out.more _, P4.out.more _⟩ ?_;clear hK K;obtain ⟨cs, hcs⟩ : ∃ cs : Array Value, cs = #[.func (.func 180) #[] #[.pointer (some ⟨b1, 0, none⟩)], .func (.func 157) #[] #[.pointer (some ⟨c1, 0, none⟩), .pointer (some ⟨c2, 0, none⟩)]] := ⟨_, rfl⟩
 have OB := Own.made w4 128 cs;have T1 := A3.out.more (.cells cs 128);have T2 := A4.out.more (.cells cs 128);have T3 := Q4.out.more (.cells cs 128);have T4 := P4.out.more (.cells cs 128);have B7 := B4.out.alloc B4.out.size (.cells cs 128);have D7 := HD.out.below B7;have M7 := HM.out.keep (B7.block lm HM.out.in_);have hz2 : MK.size <= maxLen := by rw [hms]; unfold maxLen; omega
 have HPW := Js D7 ll 2 (fun k => if k = 0 then 180 else 157)
   (fun k => if k = 0 then #[.pointer (some ⟨b1, 0, none⟩)] else #[.pointer (some ⟨c1, 0, none⟩), .pointer (some ⟨c2, 0, none⟩)]) (fP ll M seq Q) w4.heap.size cs OB
   (fun k hk => by rcases (by omega : k = 0 \/ k = 1) with rfl | rfl <;> rw [hcs] <;> rfl)
   (fun k hk args W => by
     rcases (by omega : k = 0 \/ k = 1) with rfl | rfl
     · exact vH Tryz.func180 rfl rfl args W
     · exact vH Tryz.func157 rfl rfl args W)
   (fun k hk => by
     intro W x bl pe pf wv1 hSi hD1 hB1 hF1 hE1 hap hlen _ _ _ _;have PC : fS W bl pe pf d sb mb sc wv1 N ll x := ⟨hD1, hB1, hF1, hE1, hap⟩
     have U1 := hSi.own T1 (D7.no_own T1 (by decide) (by decide) (by simp));have U2 := hSi.own T2 (D7.no_own T2 (by decide) (by decide) (by simp));have U3 := hSi.own T3 (D7.no_own T3 (by decide) (by decide) (by simp));have U4 := hSi.own T4 (D7.no_own T4 (by decide) (by decide) (by simp));have U5 := M7.keep (hSi.2 lm M7.in_ nm);rcases (by omega : k = 0 \/ k = 1) with rfl | rfl
     · have := zN3 PC HA.out HF.out hn hll (by omega) U3 U4 U5;rw [<- f0.out] at this;exact this
     · have := zGh PC S1 MK (by omega) hz2 (by omega) c1 c2 U1 U2;rw [<- f1.out] at this;exact this)
   (by omega) (by omega) (fun k hk => by have := HLN.out k hk; omega)
 rw [<- HOPS.out] at HPW;rw [hcs] at HPW;unfold uM at HPW;rw [<- HRW.out] at HPW;have HB7 := Lh B7;rw [hcs] at HB7;have N3 := Lh (D7.no_own T3 (by decide) (by decide) (by simp));replace HPW := Lh HPW;have K3 := Lh T3;rw [hcs] at K3;have K4 := Lh T4;rw [hcs] at K4;clear hcs OB T1 T2 T3 T4 B7 D7 M7 hz2;refine zQ rfl rfl fun K hK => ?_
 go_wp2_with fail;refine HPW.out.mono ?_;rintro e w8 ⟨rfl, wv8, hD8, hc8, hv8⟩;have r3 := hc8.own K3.out N3.out;have r4 := hc8.own K4.out np;have R3 := Lh r3;have R4 := Lh r4;have RR := Lh (show Wrt w w8 d sb mb sc wv N r.2 from Wrt.from_ ⟨wv8, hD8, hc8, hv8⟩ HB7.out);clear hD8 hc8 hv8;go_wp2;refine hK _ _ ⟨r3, r4⟩ ?_;clear hK K r3 r4;iterate 1
   refine zC (v := ?_) rfl rfl (fun W hS => ?_) ?_;rotate_left
   · conv => lhs; simp [go_sem]
     first | done | exact rfl
   simp only [Act.put, lA, lZ, lS]
 refine zR ?_;obtain ⟨e1, s1⟩ := r;simp only at RR;by_cases c : e1 = 0
 · subst c;have E0 := Lh HRW.out;clear HRW;obtain ⟨q1, q2, q3⟩ := R3.out.at_;obtain ⟨q4, q5, q6⟩ := R4.out.at_;go_upto_region 6 with fail;obtain ⟨wvA, hDA, hcA, hvA⟩ := RR.out;have hLA : yA w8 lg d l := hcA.own (show Own w lg 246 (l.cells d) from HL.out) nl;have hMA : zW w8 lm .i64 (M.map uD) := HM.out.keep (hcA.block lm HM.out.in_ nm);have npA := hDA.no_own R4.out (by decide) (by decide) (by simp);have nlA := hDA.no_own (show Own w8 lg 246 (l.cells d) from hLA) (by decide) (by decide) (by simp [yH.cells]);have nmA := Um hDA hMA h4;have n1p : b1 ≠ p := R3.out.type_ne R4.out (by decide);have n1l : b1 ≠ lg := R3.out.type_ne (show Own w8 lg 246 (l.cells d) from hLA) (by decide);have n1m : lm ≠ b1 := hMA.ne R3.out;have CB := yT w8 p 2 (.int .u64 (S1 : Int));have OB := (R4.out.put 2 (.int .u64 (S1 : Int))).as (cs' := #[.pointer (some ⟨d, 0, none⟩), .int .i64 (ll : Int), .int .u64 (S1 : Int), .pointer (some ⟨lg, 0, none⟩), .map (some lm), x5, x6, x7]) rfl;have hDB := hDA.keep CB fun q hq e => npA (by rw [show q = p from e] at hq; exact hq)
   have hLB : yA (w8.setCell ⟨p, 2, none⟩ (.int .u64 (S1 : Int))) lg d l := CB.own (show Own w8 lg 246 (l.cells d) from hLA) (fun e => npl e.symm);have hMB := hMA.keep (CB.block lm hMA.in_ npm);have hPB := CB.own R3.out n1p;go_name_world W9 hW9;rw [hW9] at CB OB hDB hLB hMB hPB;clear hW9 q1 q2 q3 q4 q5 q6;obtain ⟨WC, hcl, hMC, hcC, hsC⟩ := hMB.clr (P := Tryz.prog) (t := 143) 0 Tryz.underlying143;have OC := hcC.own OB (fun e => npm e.symm);have hDC := hDB.keep hcC fun q hq e => nmA (by rw [show q = lm from e] at hq; exact hq)
   have hLC : yA WC lg d l := hcC.own (show Own W9 lg 246 (l.cells d) from hLB) (fun e => nlm e.symm);have hPC := hcC.own hPB (fun e => n1m e.symm);have RS := Lh (zDd hLC hfl);have HDC := Lh hDC;have HLC := Lh hLC;have HOC := Lh OC;have HMC := Lh hMC;have HPC := Lh hPC;have HCH := Lh ((hcA.mono (T := fun q => fp d sb mb wv q \/ q = p \/ q = lm \/ q = lg) (fun q _ e => .inl e)).trans CB fun q _ e => .inr (.inl e));have HCC := Lh hcC;obtain ⟨q1, q2, q3⟩ := hPB.at_;obtain ⟨q4, q5, q6⟩ := OB.at_;clear hDA hcA hLA hMA CB OB hDB hLB hMB hPB hMC hcC hsC OC hDC hLC hPC;go_upto_region 7 with fail;clear q1 q2 q3 q4 q5 q6;obtain ⟨q1, q2, q3⟩ := HPC.out.at_;obtain ⟨q4, q5, q6⟩ := HOC.out.at_;go_wp2_with (go_at_call 183; refine RS.out.mono ?_; rintro e wE ⟨rfl, hLE, hcE, hsE⟩)
   go_ret;refine ⟨rfl, ⟨wvA, ?_, hLE, ?_, ?_, (HCH.out.trans HCC.out fun q _ e => .inr (.inr (.inl e))).trans hcE fun q _ e => .inr (.inr (.inr e)), hvA⟩⟩
   · exact HDC.out.keep hcE fun q hq e => nlA (by rw [show q = lg from e] at hq; exact hq)
   · rw [<- HS1.out];exact hcE.own HOC.out npl
   · exact HMC.out.keep (hcE.block lm HMC.out.in_ nlm)
 · have t1 : (e1 != 0) = true := by simpa using c
   have hc1 := Lh c;clear c;go_wp2;go_ret;exact ⟨rfl, fun e => absurd e hc1.out, fun _ => RR.out⟩
end
end
end Go.Proofs.YthijgebmoadgkaaGreatDoor
