import Derived.Test.YtndhmidgnpobjaaGreatDoorRdoE
import Derived.Test.YtndhmidgnpobjaaGreatDoorTxns
set_option linter.unusedVariables false
set_option linter.unusedSimpArgs false
namespace Go.Proofs.YtndhmidgnpobjaaGreatDoor
open Go.ChangeShapes Go.WideShapes Go.ChangeAt Go.RowKit
section
def st (s : St) (fr : Nat) : Nat -> ByteArray := fun p => vw s (fr + p)
section
variable {w : World} {lg d sb mb sc : Nat} {wv : Value} {N : Nat} {s : St} {l : yM}
set_option maxRecDepth 10000 in
set_option maxHeartbeats 2000000 in
theorem zA6 (hL : yD w lg d l) (hk : l.Ok) (hD : zI w d sb mb sc wv N s) (hd : s.down = false) (hfit : l.from_ + l.size <= N) :
   Calls Tryz.prog 135 #[.pointer (some ⟨lg, 0, none⟩)] w fun e w' => ∃ v, e = .returned (.tuple #[v, .int .i64 0]) /\ yO w' (fun b => w.heap.size <= b) v (txn (st s l.from_) l.used l.next l.left) /\ Below w.heap.size w w' := by
 have hleft := fP hL hk;have h65 := hD.ok.max;obtain ⟨f, hf⟩ : ∃ f, f = st s l.from_ := ⟨_, rfl⟩
 obtain ⟨LE, hLE⟩ : ∃ LE, LE = l.left := ⟨_, rfl⟩
 have hle : LE <= l.size - l.used := by rw [hLE]; unfold yM.left; split <;> omega
 have hus := hk.used;rw [<- hf, <- hLE];rw [<- hLE] at hleft;have HLeft := Lh hleft;have HL := Lh hL;have HK := Lh hk;have HD := Lh hD;have HDn := Lh hd;clear hleft;by_cases c0 : LE = 0
 · have e0 := zCf f l.used l.next;rw [c0] at HLeft ⊢;rw [e0];clear hL hk hD hd hf hLE e0;go_enter Tryz.func135, Tryz.ntmps135;go_wp2_with (go_at_call 188; refine HLeft.out.mono ?_; rintro e w' ⟨rfl, q, rfl⟩)
   go_ret2;exact ⟨_, rfl, yO.nil _ _, zJ (Below.refl _ _) q⟩
 have t0 : ((LE : Int) == 0) = false := by rw [beq_eq_false_iff_ne]; omega
 have c1 : 1 <= LE := by omega
 clear c0;have R0 := Lh (fun (W : World) (hb : Below w.heap.size w W) => show Calls Tryz.prog 189 #[.pointer (some ⟨lg, 0, none⟩), .int .i64 0, .int .i64 1] W fun e w' => ∃ b, e = .returned (.tuple #[.slice (some ⟨b, 0, none⟩) 1 1, .int .i64 0]) /\ w'.cell? ⟨b, 0, none⟩ = some (.string (f l.used)) /\ Below W.heap.size W w' from (by
   refine (zAb (show yD W lg d l from Own.keep hL hb) (hD.below hb) hd 0 1 (by omega) (by omega)).mono ?_;rintro e w' ⟨b, rfl, ho, -, hb'⟩;refine ⟨b, rfl, ?_, hb'⟩;have := ho.at_.1 0;rw [xS 1 _ 1 0 (by omega), if_pos (by omega)] at this;rw [this, hf];rfl))
 have zf : ∀ p, p < l.size -> (f p).size = 64 := fun p hp => by rw [hf]; exact mO hD.ok _ (by omega)
 obtain ⟨X, hX⟩ : ∃ X, X = f l.used := ⟨_, rfl⟩
 have zX : X.size = 64 := by rw [hX]; exact zf _ (by omega)
 obtain ⟨C, hC⟩ : ∃ C, C = cnt X l.next LE := ⟨_, rfl⟩
 have hC64 : C <= 64 := by rw [hC]; exact zI5 _ _ _
 have hCf : C ≠ 0 -> 1 + 9 * C <= LE := fun h => by rw [hC] at h ⊢; exact (Xi _ _ _ h).1
 have HC := Lh (fun (W : World) (hb : Below w.heap.size w W) => show Calls Tryz.prog 190 #[.pointer (some ⟨lg, 0, none⟩), .string X] W fun e w' => e = .returned (.int .i64 (C : Int)) /\ Below W.heap.size W w' from (by
   have := zIa (show yD W lg d l from Own.keep hL hb) hk X (by omega);rw [<- hLE, <- hC] at this;exact this))
 have RK := Lh (fun (k : Nat) (hk : k < C) (W : World) (hb : Below w.heap.size w W) => show Calls Tryz.prog 189 #[.pointer (some ⟨lg, 0, none⟩), .int .i64 (1 + (k : Int) * 9), .int .i64 9] W fun e w' => ∃ b, e = .returned (.tuple #[.slice (some ⟨b, 0, none⟩) 9 9, .int .i64 0]) /\ Own w' b 9 (vK 9 (fun i => f (l.used + 1 + 9 * k + i)) 9) /\ Below W.heap.size W w' from (by
   have h1 := hCf (by omega);have := zAb (show yD W lg d l from Own.keep hL hb) (hD.below hb) hd (1 + k * 9) 9 (by omega) (by omega);have e : ((1 + k * 9 : Nat) : Int) = 1 + (k : Int) * 9 := by omega
   rw [e] at this;refine this.mono ?_;rintro e w' ⟨b, rfl, ho, -, hb'⟩;refine ⟨b, rfl, ?_, hb'⟩;have ef : (fun i => vw s (l.from_ + l.used + (1 + k * 9) + i)) = fun i => f (l.used + 1 + 9 * k + i) := by
     funext i; rw [hf]; unfold st; congr 1; omega
   rw [ef] at ho;exact ho))
 have GK := Lh (fun (k : Nat) (hk : k < C) (W : World) (b : Nat) (ho : Own W b 9 (vK 9 (fun i => f (l.used + 1 + 9 * k + i)) 9)) => zEt W b _ ho (fun i hi => zf _ (by have := hCf (by omega); omega)));have TY := Lh (zGw f l.used l.next LE);have TN := Lh (zOj f l.used l.next LE);rw [<- hX, <- hC] at TY TN;rw [<- hX] at R0;obtain ⟨T, hT⟩ : ∃ T, T = txn f l.used l.next LE := ⟨_, rfl⟩
 rw [<- hT] at TY TN ⊢;have ZF := Lh zf;have CF := Lh hCf;clear hL hk hD hd hf hLE hX hC hT zf hCf zX;go_enter Tryz.func135, Tryz.ntmps135;go_upto_region 3 with (go_at_call 188; refine HLeft.out.mono ?_; rintro e w' ⟨rfl, q, rfl⟩)
 have B0 : Below w.heap.size w (w.drewN q) := zJ (Below.refl _ _) q;replace B0 := Lh B0;go_upto_region 6 with (go_at_call 189; refine (R0.out _ B0.out).mono ?_; rintro e w1 ⟨b0, rfl, hc0, hb1⟩; have B1 := Lh (B0.out.trans hb1); clear hb1)
 obtain ⟨g, hg⟩ : ∃ g : Nat -> ByteArray, g = fun k => Js (gJ f (l.used + 1 + 9 * k)) := ⟨_, rfl⟩
 have HG := Lh hg;clear hg;go_wp2_with (go_at_call 190; refine (HC.out _ B1.out).mono ?_; rintro e w2 ⟨rfl, hb2⟩; have B2 := Lh (B1.out.trans (hb2.mono B1.out.size)); have HM := mU C (by omega) g w2; clear hb2)
 have L0 : Below w.heap.size w (w2.alloc (.cells (vK C g 0) 9)) := B2.out.alloc B2.out.size _;have z2 := B2.out.size;have HO := Own.made w2 9 (vK C g 0);clear HM;go_loopw [31] (fun i wr => ∃ k : Nat, k <= C /\ i = .int .i64 k /\ Own wr w2.heap.size 9 (vK C g k) /\ Below w.heap.size w wr /\ ∀ j, j < k -> Qk (gJ f (l.used + 1 + 9 * j)) = true) (fun i wr => C - (intOf i).toNat)
 case atStart => exact ⟨0, by omega, rfl, HO, L0, fun j hj => by omega⟩
 case round =>
   clear HO L0;obtain ⟨k, hk, rfl, hO, hL, hP⟩ := hrel;replace hP := Lh hP;replace hO := Lh hO;have hsz := hL.size;replace hL := Lh hL;by_cases hlt : k < C
   · go_upto_region 13 with (go_at_call 189; refine (RK.out k hlt _ hL.out).mono ?_; rintro e w3 ⟨b3, rfl, ho3, hb3⟩)
     have hG3 := GK.out k hlt w3 b3 ho3;have L3 := Lh (hL.out.trans (hb3.mono hL.out.size));have O3 := hO.out.keep hb3;replace O3 := Lh O3;clear ho3 hb3;have eg : Js ((List.range 9).map (fun i => f (l.used + 1 + 9 * k + i))) = g k := by rw [HG.out]; rfl
     have ei : Qk ((List.range 9).map (fun i => f (l.used + 1 + 9 * k + i))) = Qk (gJ f (l.used + 1 + 9 * k)) := rfl;rw [eg, ei] at hG3;clear eg ei;cases hi : Qk (gJ f (l.used + 1 + 9 * k)) with
     | false =>
       rw [hi] at hG3;replace hG3 := Lh hG3;have HT := Lh (TN.out k hlt hi);clear hi;go_wp2_with (go_at_call 191; refine hG3.out.mono ?_; rintro e w4 ⟨rfl, hb4⟩)
       go_ret2;rw [HT.out];exact ⟨_, rfl, yO.nil _ _, L3.out.trans (hb4.mono L3.out.size)⟩
     | true =>
       rw [hi] at hG3;replace hG3 := Lh hG3;have HI := Lh hi;clear hi;go_upto_region 16 with (go_at_call 191; refine hG3.out.mono ?_; rintro e w4 ⟨rfl, hb4⟩)
       have L4 := Lh (L3.out.trans (hb4.mono L3.out.size));have O4 := O3.out.keep hb4;obtain ⟨c1, c2, c3⟩ := O4.at_;have c4 := c1 k;rw [xS C g k k hlt] at c4;have c5 := c2 k;replace O4 := Lh O4;clear c1 c2 hb4;go_wp2;go_roundw
       case rel =>
         refine ⟨k + 1, by omega, by go_num, ?_, L4.out.setCell z2 _, fun j hj => ?_⟩
         · have := O4.out.put k (.string (g k));rw [Qh C g k hlt] at this;exact this
         · by_cases e : j = k
           · subst e; exact HI.out
           · exact hP.out j (by omega)
       case measure => simp [intOf]; omega
   · obtain rfl : k = C := by omega
     go_wp2;go_ret2;rw [TY.out hP.out];refine ⟨_, rfl, ?_, hL.out⟩;have := yO.row (S := fun b => w.heap.size <= b) hO.out (by unfold maxLen; omega) (fun i hi => ?_) z2
     · rw [HG.out] at this;exact this
     · rw [HG.out];show (Js (gJ f (l.used + 1 + 9 * i))).size <= maxLen
       have hcf := CF.out (by omega);rw [zAt _ (fun s hs => ?_) (by simp [gJ])]
       · unfold maxLen; omega
       · obtain ⟨j, hj, rfl⟩ := List.mem_map.1 hs;exact ZF.out _ (by have := List.mem_range.1 hj; omega)
end
end
section
theorem zLm : (Tryz.prog.info? 211).map (fun i => (i.zero, i.size, i.bytes)) = some (some (.agg #[.int .u64 0, .slice none 0 0]), 2, 32) := by kernel_rfl
theorem zE5 (W : World) (T : TypeId) (x y : Value) (j : Nat) {u : Value} (hu : [x, y][j]? = some u) : (W.alloc (.cells #[x, y] T)).cell? ((⟨W.heap.size, 0, none⟩ : Addr).add j) = some u := by
 have e : (⟨W.heap.size, 0, none⟩ : Addr).add j = ⟨W.heap.size, j, none⟩ := by unfold Addr.add; split <;> simp_all
 rw [e];have := (Own.made W T #[x, y]).at_.1 j;exact this.trans (by simpa using hu)
structure zLr (w wr : World) (d fr sz seq : Nat) (f : Nat -> ByteArray) (TS : List (Nat × List ByteArray)) (v : Value) (acc : List (Nat × List ByteArray)) : Prop where
 own : jH wr 211 (fun b => w.heap.size < b) v acc
 log : yD wr w.heap.size d ⟨fr, sz, long acc, (seq + acc.length) % 18446744073709551616, false⟩
 fit : long acc <= sz
 more : acc ++ stands f (sz + 1 - acc.length) (long acc) (sz - long acc) ((seq + acc.length) % 18446744073709551616) = TS
 below : Below w.heap.size w wr
section
variable {w : World} {d sb mb sc : Nat} {wv : Value} {N : Nat} {s : St}
set_option maxRecDepth 10000 in
set_option maxHeartbeats 2000000 in
theorem zJc (hD : zI w d sb mb sc wv N s) (hd : s.down = false) (fr sz seq : Nat) (hfit : fr + sz <= N) (h1 : 1 <= sz) (hseq : seq <= 18446744073709551615) :
   Calls Tryz.prog 69 #[.pointer (some ⟨d, 0, none⟩), .int .i64 (fr : Int), .int .i64 (sz : Int), .int .u64 (seq : Int)] w fun e w' => ∃ lg v, e = .returned (.tuple #[.pointer (some ⟨lg, 0, none⟩), v, .int .i64 0]) /\ w.heap.size <= lg /\
     yD w' lg d ⟨fr, sz, long (yJ (st s fr) sz seq), (seq + (yJ (st s fr) sz seq).length) % 18446744073709551616, false⟩ /\ vD w' (fun b => lg < b) v (yJ (st s fr) sz seq) /\ Below w.heap.size w w' := by
 have hN := hD.ok.max;have HLen := Lh (Xk hD);obtain ⟨f, hf⟩ : ∃ f, f = st s fr := ⟨_, rfl⟩
 obtain ⟨TS, hTS⟩ : ∃ TS, TS = yJ f sz seq := ⟨_, rfl⟩
 rw [<- hf, <- hTS];have HST := Lh (fun (W : World) (lg u nx : Nat) (hb : Below w.heap.size w W) (hL : yD W lg d ⟨fr, sz, u, nx, false⟩) (hu : u <= sz) (hnx : nx <= 18446744073709551615) => show Calls Tryz.prog 135 #[.pointer (some ⟨lg, 0, none⟩)] W fun e w' => ∃ v, e = .returned (.tuple #[v, .int .i64 0]) /\ yO w' (fun b => W.heap.size <= b) v (txn f u nx (sz - u)) /\ Below W.heap.size W w' from (by
   have := zA6 hL ⟨by show fr + sz <= 65536; omega, hu, hnx⟩ (hD.below hb) hd (by show fr + sz <= N; omega);rw [hf];exact this))
 have t1 : decide ((fr : Int) < 0) = false := by simp
 have t2 : decide ((sz : Int) < 1) = false := by simp; omega
 have t3 : decide ((N : Int) - (sz : Int) < (fr : Int)) = false := by simp; omega
 have HT := Lh hTS;clear hD hd hf hTS;go_enter Tryz.func69, Tryz.ntmps69;go_upto_region 4 with (go_at_call 41; refine HLen.out.mono ?_; rintro e w' ⟨rfl, rfl⟩)
 have e0 : (seq + 0) % 18446744073709551616 = seq := by omega
 obtain ⟨W0, hW0⟩ : ∃ W0, W0 = w.alloc (.cells #[.pointer (some ⟨d, 0, none⟩), .int .i64 (fr : Int), .int .i64 (sz : Int), .int .i64 0, .int .u64 (seq : Int), .bool false] 207) := ⟨_, rfl⟩
 have A0 : zLr w W0 d fr sz seq f TS (.slice none 0 0) [] := ⟨jH.nil _ _ _, by
   have := Own.made w 207 #[.pointer (some ⟨d, 0, none⟩), .int .i64 (fr : Int), .int .i64 (sz : Int), .int .i64 0, .int .u64 (seq : Int), .bool false];rw [<- hW0] at this;show yD W0 w.heap.size d ⟨fr, sz, 0, (seq + 0) % 18446744073709551616, false⟩
   rw [e0];exact this, Nat.zero_le _, by
   show [] ++ stands f (sz + 1 - 0) 0 (sz - 0) ((seq + 0) % 18446744073709551616) = TS
   rw [e0, HT.out];rfl, hW0 ▸ (Below.refl _ _).alloc (Nat.le_refl _) _⟩
 rw [<- hW0];clear hW0 e0;replace A0 := Lh A0;go_wp2;go_loopw [12] (fun v wr => ∃ acc, zLr w wr d fr sz seq f TS v acc) (fun v wr => sz + 1 - lenOf v)
 case atStart => exact ⟨[], A0.out⟩
 case round =>
   clear A0;obtain ⟨acc, hA⟩ := hrel;have zb := hA.below.size;obtain ⟨NX, hNX⟩ : ∃ NX, NX = (seq + acc.length) % 18446744073709551616 := ⟨_, rfl⟩
   obtain ⟨U, hU⟩ : ∃ U, U = long acc := ⟨_, rfl⟩
   have hL := hA.log;have hfu := hA.fit;rw [<- hNX, <- hU] at hL;rw [<- hU] at hfu;have hnx : NX <= 18446744073709551615 := by omega
   have hmore := hA.more;rw [<- hNX, <- hU] at hmore;have hge := Xh acc;have HS := HST.out wr w.heap.size U NX hA.below hL hfu hnx;have HSTOP := fL f (sz + 1 - acc.length) U (sz - U) NX;have HSTEP := Vt f (sz + 1 - acc.length) U (sz - U) NX (by omega);have hTf := zBa f U NX (sz - U);have hT64 := zOg f U NX (sz - U);obtain ⟨TX, hTX⟩ : ∃ TX, TX = txn f U NX (sz - U) := ⟨_, rfl⟩
   rw [<- hTX] at HS HSTOP HSTEP hTf hT64;replace HS := Lh HS;replace HSTOP := Lh HSTOP;replace HSTEP := Lh HSTEP;replace hmore := Lh hmore;replace hTf := Lh hTf;have HNX := Lh hNX;have HU := Lh hU;have hL := Lh hL;obtain ⟨va, vc, rfl, hv1, hv2⟩ := hA.own.shape;obtain ⟨AL, hAL⟩ : ∃ AL, AL = acc.length := ⟨_, rfl⟩
   rw [<- hAL] at hv1 hge ⊢;have hAB : AL <= 65536 := by rw [<- hU] at hge; omega
   have HAL := Lh hAL;replace hA := Lh hA;clear hTX hNX hU hAL;go_upto_region 6 with (go_at_call 135; refine HS.out.mono ?_; rintro e w2 ⟨v2, rfl, hs2, hb2⟩; obtain ⟨pa, pc, rfl, hp1, hp2, hp3⟩ := hs2.open_; clear hp3)
   obtain ⟨TL, hTL⟩ : ∃ TL, TL = TX.length := ⟨_, rfl⟩
   have B2 := Lh (then_ hA.out.below hb2 zb);replace hs2 := Lh hs2;have HTL := Lh hTL;rw [<- hTL] at hp1 hT64 ⊢;clear hTL;by_cases c0 : TL = 0
   · have t4 : ((TL : Int) == 0) = true := by rw [beq_iff_eq]; omega
     have e := hmore.out;rw [HSTOP.out (by rw [<- HTL.out]; exact c0), List.append_nil] at e;have E := Lh e;clear e c0;go_wp2;go_ret3;have a1 := hA.out.own.below hb2;rw [<- HAL.out] at a1;have a2 : yD w2 w.heap.size d _ := Own.keep hA.out.log hb2;rw [<- E.out];exact ⟨_, _, rfl, Nat.le_refl _, a2, a1.in_, B2.out⟩
   · have t4 : ((TL : Int) == 0) = false := by rw [beq_eq_false_iff_ne]; omega
     have c1 : 1 <= TL := by omega
     have E := Lh (HSTEP.out (by rw [<- HTL.out]; exact c0));have F := Lh (hTf.out (by rw [<- HTL.out]; exact c0));rw [<- HTL.out] at E F;have o4 : w2.cell? ⟨w.heap.size, 4, none⟩ = some (.int .u64 (NX : Int)) := by
       have := (Own.at_ (show Own w2 w.heap.size _ _ from Own.keep hL.out hb2)).1 4;simpa [yM.cells] using this
     have L2 : yD w2 w.heap.size d _ := Own.keep hL.out hb2;have zlg : w.heap.size < wr.heap.size := hL.out.in_;obtain ⟨vs, HR⟩ := hA.out.own.below hb2;have z2 := hb2.size;obtain ⟨i0, hi0, hz0, hz1, hz2⟩ := info_parts zLm;replace L2 := Lh L2;replace HR := Lh HR;clear c0 hb2;go_upto_region 10 with fail;have hrow := HR.out.row;rw [<- HAL.out] at hrow;go_wp2_with (at_builtin; refine wpList_append_own_at _ rfl _ _ 121 rfl 0 211 i0 (.agg #[.int .u64 0, .slice none 0 0]) 2 32 Tryz.underlying121 hi0 hz0 hz1 hz2 rfl (by decide) (.slice va AL vc) AL (txc acc vs) rfl (hrow.alloc _) ⟨w2.heap.size, 0, none⟩ 1 1 [.int .u64 (NX : Int), .slice pa TL pc] rfl rfl ?c1 ?c2 (by unfold maxLen; omega) (by omega) (Nat.zero_le _) ?_)
     case c1 => intro j u hu; exact zE5 _ _ _ _ _ hu
     case c2 => intro u hu; simp at hu; rcases hu with rfl | rfl <;> rfl
     intro v' w3 hown hgrow hnil hloc;clear hnil hrow;have hcell : yO w2 (fun b => w.heap.size < b /\ (Value.slice va AL vc).ownBlock ≠ some b) (.slice pa TL pc) TX := by
       have hs := hs2.out;rw [<- HTL.out] at hs;refine hs.mono fun b hb hge' => ⟨by omega, fun e => ?_⟩
       obtain ⟨vs0, hr0⟩ := hA.out.own;have := (hr0.row.lt b (by rw [<- HAL.out]; exact e)).2;omega
     rw [HAL.out] at hown hgrow hloc hcell;have HP := zGo.push HR.out (t := (NX, TX)) hcell ((Below.refl _ _).alloc (Nat.le_refl _) _) hown hgrow (hloc.imp_right fun h => h.trans (by simp)) (fun q hq => by omega);obtain ⟨hOwn, hChg⟩ := HP;have hne : ∀ q, (Value.slice va acc.length vc).ownBlock = some q -> w.heap.size < q := HR.out.at_;have L3 : yD w3 w.heap.size d _ := hChg.own L2.out fun e => by have := hne _ e; omega
     have B3 : Below w.heap.size w w3 := B2.out.trans (hChg.below (by have := B2.out.size; omega) fun q hq => by have := hne q hq; omega);obtain ⟨xa, xc, rfl, hx1, hx2⟩ := hOwn.shape;have hk3 : yM.Ok ⟨fr, sz, U, NX, false⟩ := ⟨by show fr + sz <= 65536; omega, hfu, hnx⟩
     have HADD := Lh (zGp L3 hk3 TL (by omega));replace hOwn := Lh hOwn;replace L3 := Lh L3;replace B3 := Lh B3;clear hown hgrow hloc hcell hChg hne hk3 hx1 hx2;go_wp2_with (go_at_call 136; refine HADD.out.mono ?_; rintro e w4 ⟨rfl, l4, c4, z4⟩; replace z4 := Lh z4)
     go_roundw
     case rel =>
       refine ⟨acc ++ [(NX, TX)], ?_, ?_, ?_, ?_, ?_⟩
       · have hq := hOwn.out.keep c4 fun b hb hS e => by omega
         rw [List.length_append] at hq;exact hq
       · have e1 : long (acc ++ [(NX, TX)]) = U + (1 + 9 * TL) := by rw [gP, <- HU.out]; show U + (1 + 9 * TX.length) = _; rw [<- HTL.out]
         have e2 : (seq + (acc ++ [(NX, TX)]).length) % 18446744073709551616 = (NX + 1) % 18446744073709551616 := by rw [HNX.out]; simp; omega
         rw [e1, e2];exact l4
       · rw [gP, <- HU.out];show U + (1 + 9 * TX.length) <= sz
         rw [<- HTL.out];have := F.out; omega
       · have e1 : long (acc ++ [(NX, TX)]) = U + (1 + 9 * TL) := by rw [gP, <- HU.out]; show U + (1 + 9 * TX.length) = _; rw [<- HTL.out]
         have e2 : (seq + (acc ++ [(NX, TX)]).length) % 18446744073709551616 = (NX + 1) % 18446744073709551616 := by rw [HNX.out]; simp; omega
         have e3 : sz + 1 - (acc ++ [(NX, TX)]).length = sz + 1 - acc.length - 1 := by simp; omega
         rw [e1, e2, e3, <- hmore.out, E.out, List.append_assoc, <- Nat.sub_sub];rfl
       · exact B3.out.trans (c4.below (by have := B3.out.size; omega) fun q hq => by omega)
     case measure =>
       simp [lenOf];have := HAL.out;have := HU.out;omega
end
end
section
abbrev Dop := Option (Nat × ByteArray)
def uX (n : Nat) (s : St) : Dop -> Int × St
 | some (i, t) => xE n s (i : Int) t
 | none => vB s
def xI (n : Nat) (x : Int × St) (o : Dop) : Int × St := if x.1 = 0 then uX n x.2 o else x
def zV (n : Nat) (ops : List Dop) (x : Int × St) : Int × St := ops.foldl (xI n) x
theorem zK6 (n : Nat) (s : St) (o : Dop) : (uX n s o).2.wr.length <= s.wr.length + 1 := by
 have hb := (Qf s).1;cases o with
 | none =>
   show (vB s).2.wr.length <= _
   unfold vB;split
   · exact Nat.le_succ _
   · split
     · exact Nat.zero_le _
     · rw [hb]; exact Nat.le_succ _
 | some x =>
   obtain ⟨i, t⟩ := x;show (xE n s (i : Int) t).2.wr.length <= _
   unfold xE;split
   · exact Nat.le_succ _
   · split
     · exact Nat.le_succ _
     · split
       · simp
       · rw [hb]; exact Nat.le_succ _
theorem zAq (n : Nat) (x : Int × St) (o : Dop) : (xI n x o).2.wr.length <= x.2.wr.length + 1 := by
 unfold xI; split
 · exact zK6 n x.2 o
 · exact Nat.le_succ _
theorem uD (n : Nat) : ∀ (ops : List Dop) (x : Int × St), (zV n ops x).2.wr.length <= x.2.wr.length + ops.length
 | [], x => Nat.le_refl _
 | o :: ops, x => by
   have h1 := zAq n x o;have h2 := uD n ops (xI n x o);show (zV n ops (xI n x o)).2.wr.length <= x.2.wr.length + (ops.length + 1)
   omega
theorem mK (n : Nat) (ops : List Dop) (o : Dop) (x : Int × St) : zV n (ops ++ [o]) x = xI n (zV n ops x) o := by simp [zV]
theorem jS (n : Nat) (a b : List Dop) (x : Int × St) : zV n (a ++ b) x = zV n b (zV n a x) := by simp [zV]
section
variable {w : World} {lg pl pe pf b4 b5 d sb mb sc : Nat} {wv : Value} {N : Nat} {s : St} {l : yM}
set_option maxRecDepth 10000 in
set_option maxHeartbeats 1000000 in
theorem zNi (hL : yD w lg d l) (hk : l.Ok) (hP : Own w pl 120 #[.pointer (some ⟨lg, 0, none⟩)]) (at_ : Nat) (t : ByteArray) (h4 : Own w b4 3 #[.int .i64 (at_ : Int)]) (h5 : Own w b5 9 #[.string t])
   (hD : zI w d sb mb sc wv N s) (hat : at_ <= 1000000) (ht : t.size <= maxLen) (hl : s.wr.length < 1000000) (hap : ∀ q, fp d sb mb wv q -> q ≠ lg /\ q ≠ pl /\ q ≠ b4 /\ q ≠ b5) :
   Calls Tryz.prog 268 #[.pointer (some ⟨pl, 0, none⟩), .pointer (some ⟨b4, 0, none⟩), .pointer (some ⟨b5, 0, none⟩)] w fun e w' => e = .returned (.int .i64 (xE N s ((l.from_ + l.used + at_ : Nat) : Int) t).1) /\ Qj w w' d sb mb sc wv N (xE N s ((l.from_ + l.used + at_ : Nat) : Int) t).2 := by
 have h1 := hk.used;have h2 := hk.fit;have HW := Lh (Zq (hD.below (Below.refl w.heap.size w).drew) ((l.from_ + l.used + at_ : Nat) : Int) t (mB (by omega) (by omega)) ht hl);obtain ⟨fr, sz, us, nx, fl⟩ := l;unfold yD yM.cells at hL;simp only at hL h1 h2 HW;have e1 : ((fr + us + at_ : Nat) : Int) = (fr : Int) + (us : Int) + (at_ : Int) := by omega
 rw [e1] at HW ⊢;clear e1;have HL := Lh hL;have HP := Lh hP;have H4 := Lh h4;have H5 := Lh h5;clear hL hP h4 h5 hD hk;go_enter Tryz.func268, Tryz.ntmps268;go_upto_region 1 with fail;refine zA (fun W => Own W lg 207 #[.pointer (some ⟨d, 0, none⟩), .int .i64 (fr : Int), .int .i64 (sz : Int), .int .i64 (us : Int), .int .u64 (nx : Int), .bool fl] /\ Own W pl 120 #[.pointer (some ⟨lg, 0, none⟩)] /\ Own W b4 3 #[.int .i64 (at_ : Int)] /\ Own W b5 9 #[.string t]) (0 :: 1 :: 2 :: 3 :: 4 :: 5 :: 6 :: 7 :: 8 :: 9 :: 10 :: 11 :: 12 :: 13 :: 14 :: 15 :: 17 :: []) (0 :: 3 :: 4 :: 7 :: 8 :: 11 :: 13 :: 15 :: []) (0 :: 1 :: 2 :: 3 :: 4 :: 5 :: 6 :: 7 :: 8 :: 9 :: 10 :: 11 :: 12 :: 13 :: 14 :: 15 :: 16 :: 17 :: []) (by kernel_rfl) (by kernel_rfl) rfl (by kernel_rfl) rfl (⟨HL.out, HP.out, H4.out, H5.out⟩) (by simp only [zQ, List.filterMap_cons, List.filterMap_nil, List.getElem?_cons_zero, List.getElem?_cons_succ, Option.map_some]; exact rfl) ?_;iterate 16
   refine zC (v := ?_) rfl rfl (fun W hS => ?_) ?_;rotate_left
   · first
       | (conv => lhs; simp [go_sem]
          first | done | exact rfl)
       | (have hS := hS rfl
          obtain ⟨q1, q2, q3, q4⟩ := hS;obtain ⟨q1, q5, q6⟩ := Own.at_ q1;obtain ⟨q2, q7, q8⟩ := Own.at_ q2;obtain ⟨q3, q9, qa⟩ := Own.at_ q3;obtain ⟨q4, qb, qc⟩ := Own.at_ q4;conv => lhs; simp [go_sem, *]
          first | done | exact rfl)
   simp only [Act.put, lA, lZ, lS]
 refine zK rfl rfl fun K hK => ?_
 go_wp2_with fail;refine HW.out.mono ?_;rintro e w2 ⟨rfl, wv2, hd2, hc2, hw2⟩;go_wp2;have a1 : Own w2 lg 207 _ := hc2.own HL.out fun h => (hap _ h).1 rfl
 have a2 : Own w2 pl 120 _ := hc2.own HP.out fun h => (hap _ h).2.1 rfl
 have a3 : Own w2 b4 3 _ := hc2.own H4.out fun h => (hap _ h).2.2.1 rfl
 have a4 : Own w2 b5 9 _ := hc2.own H5.out fun h => (hap _ h).2.2.2 rfl
 refine hK _ _ ⟨a1, a2, a3, a4⟩ ?_;clear hK K;iterate 1
   refine zC (v := ?_) rfl rfl (fun W hS => ?_) ?_;rotate_left
   · conv => lhs; simp [go_sem]
     first | done | exact rfl
   simp only [Act.put, lA, lZ, lS]
 refine zN ?_;go_wp2;go_ret;exact ⟨rfl, wv2, hd2, (Chg.refl _ w).drew.same hc2, hw2⟩
end
end
section
section
variable {w : World} {lg pl pe pf b4 b5 d sb mb sc : Nat} {wv : Value} {N : Nat} {s : St} {l : yM}
set_option maxRecDepth 10000 in
theorem zOc (a : Value) (e0 : Int) (hE : Own w pe 26 #[.int .i64 e0]) (h0 : e0 ≠ 0) : Calls Tryz.prog 266 #[a, .pointer (some ⟨pe, 0, none⟩)] w fun e w' => e = .returned (.tuple #[]) /\ w = w' := by
 have t0 : (e0 == 0) = false := by simpa using h0
 obtain ⟨o1, o2, o3⟩ := hE.at_;clear hE h0;go_enter Tryz.func266, Tryz.ntmps266;go_wp2;go_end0
 exact ⟨rfl, rfl⟩
set_option maxRecDepth 10000 in
theorem zO8 (R : World -> Int -> Prop) (hE : Own w pe 26 #[.int .i64 0])
   (HC : Calls Tryz.prog 268 #[.pointer (some ⟨pl, 0, none⟩), .pointer (some ⟨b4, 0, none⟩), .pointer (some ⟨b5, 0, none⟩)] w fun e w' => ∃ c : Int, e = .returned (.int .i64 c) /\ R w' c /\ Own w' pe 26 #[.int .i64 0]) :
   Calls Tryz.prog 266 #[.func (.func 268) #[] #[.pointer (some ⟨pl, 0, none⟩), .pointer (some ⟨b4, 0, none⟩), .pointer (some ⟨b5, 0, none⟩)], .pointer (some ⟨pe, 0, none⟩)] w fun e w' => e = .returned (.tuple #[]) /\ ∃ w1 c, R w1 c /\ Own w1 pe 26 #[.int .i64 0] /\ w' = w1.setCell ⟨pe, 0, none⟩ (.int .i64 c) := by
 have HC := Lh HC;obtain ⟨o1, o2, o3⟩ := hE.at_;clear hE;go_enter Tryz.func266, Tryz.ntmps266;go_wp2_with fail;refine HC.out.mono ?_;rintro e w1 ⟨c, rfl, hR, hE1⟩;have HE1 := Lh hE1;obtain ⟨o4, o5, o6⟩ := hE1.at_;clear hE1;go_wp2;go_end0
 exact ⟨rfl, w1, c, hR, HE1.out, rfl⟩
set_option maxRecDepth 10000 in
theorem zK8 (R : World -> Int -> Prop) (hE : Own w pe 26 #[.int .i64 0])
   (HC : Calls Tryz.prog 126 #[.pointer (some ⟨d, 0, none⟩)] w fun e w' => ∃ c : Int, e = .returned (.int .i64 c) /\ R w' c /\ Own w' pe 26 #[.int .i64 0]) :
   Calls Tryz.prog 266 #[.func (.func 126) #[.pointer (some ⟨d, 0, none⟩)] #[], .pointer (some ⟨pe, 0, none⟩)] w fun e w' => e = .returned (.tuple #[]) /\ ∃ w1 c, R w1 c /\ Own w1 pe 26 #[.int .i64 0] /\ w' = w1.setCell ⟨pe, 0, none⟩ (.int .i64 c) := by
 have HC := Lh HC;obtain ⟨o1, o2, o3⟩ := hE.at_;clear hE;go_enter Tryz.func266, Tryz.ntmps266;go_wp2_with fail;refine HC.out.mono ?_;rintro e w1 ⟨c, rfl, hR, hE1⟩;have HE1 := Lh hE1;obtain ⟨o4, o5, o6⟩ := hE1.at_;clear hE1;go_wp2;go_end0
 exact ⟨rfl, w1, c, hR, HE1.out, rfl⟩
def zP (w w' : World) (pe d sb mb sc : Nat) (wv : Value) (N : Nat) (x : Int × St) : Prop :=
 ∃ wv', zI w' d sb mb sc wv' N x.2 /\ Own w' pe 26 #[.int .i64 x.1] /\ Chg (fun q => fp d sb mb wv q \/ q = pe) w w' /\ (wv'.ownBlock = wv.ownBlock \/ wv'.ownBlock = none \/ ∃ g, wv'.ownBlock = some g /\ w.heap.size <= g)
theorem zP.set {w w1 : World} {c : Int} {x : St} (hE : Own w1 pe 26 #[.int .i64 0]) (wv' : Value) (hD : zI w1 d sb mb sc wv' N x) (hc : Chg (fp d sb mb wv) w w1) (hv : wv'.ownBlock = wv.ownBlock \/ wv'.ownBlock = none \/ ∃ g, wv'.ownBlock = some g /\ w.heap.size <= g) (hpe : ¬ fp d sb mb wv pe) (hlt : pe < w.heap.size) :
   zP w (w1.setCell ⟨pe, 0, none⟩ (.int .i64 c)) pe d sb mb sc wv N (c, x) := by
 have hc2 := xF w1 pe 0 (.int .i64 c);refine ⟨wv', hD.keep hc2 fun q hq e => ?_, Own.put hE 0 _, (hc.mono fun q _ h => .inl h).same (hc2.mono fun q _ h => .inr h), hv⟩;subst e;rcases hq with h | h | h | h
 · exact hpe (.inl h)
 · exact hpe (.inr (.inl h))
 · exact hpe (.inr (.inr (.inl h)))
 · rcases hv with hv | hv | ⟨g, hv, hg⟩
   · exact hpe (.inr (.inr (.inr (hv ▸ h))))
   · rw [hv] at h; cases h
   · rw [hv] at h; injection h with h; omega
theorem zP.same {w : World} {x : Int × St} (hD : zI w d sb mb sc wv N x.2) (hE : Own w pe 26 #[.int .i64 x.1]) : zP w w pe d sb mb sc wv N x := ⟨wv, hD, hE, Chg.refl _ _, .inl rfl⟩
set_option maxRecDepth 10000 in
set_option maxHeartbeats 1000000 in
theorem put_any (x : Int × St) (hL : yD w lg d l) (hk : l.Ok) (hP : Own w pl 120 #[.pointer (some ⟨lg, 0, none⟩)]) (hF : Own w pf 194 #[.func (.func 266) #[] #[.pointer (some ⟨pe, 0, none⟩)]]) (hE : Own w pe 26 #[.int .i64 x.1])
   (hD : zI w d sb mb sc wv N x.2) (at_ : Nat) (t : ByteArray) (hat : at_ <= 1000000) (ht : t.size <= maxLen) (hl : x.2.wr.length < 1000000) (hap : ∀ q, fp d sb mb wv q -> q ≠ lg /\ q ≠ pl /\ q ≠ pf /\ q ≠ pe) (hne : lg ≠ pe /\ pl ≠ pe) :
   Calls Tryz.prog 267 #[.int .i64 (at_ : Int), .string t, .pointer (some ⟨pf, 0, none⟩), .pointer (some ⟨pl, 0, none⟩)] w fun e w' => e = .returned (.tuple #[]) /\ zP w w' pe d sb mb sc wv N (xI N x (some (l.from_ + l.used + at_, t))) := by
 obtain ⟨x1, x2⟩ := x;simp only at hE hD hl;obtain ⟨o1, o2, o3⟩ := hF.at_;have zD : ∀ q, fp d sb mb wv q -> q < w.heap.size := fun q hq => hD.in_ hq
 have HL := Lh hL;have HK := Lh hk;have HP := Lh hP;have HF := Lh hF;have HE := Lh hE;have HD := Lh hD;have ZD := Lh zD;clear hL hk hP hF hE hD zD;go_enter Tryz.func267, Tryz.ntmps267;go_wp2_with fail;have O4 : Own ((w.alloc (.cells #[.int .i64 (at_ : Int)] 3)).alloc (.cells #[.string t] 9)) w.heap.size 3 #[.int .i64 (at_ : Int)] := (Own.made w _ _).more _;have O5 : Own ((w.alloc (.cells #[.int .i64 (at_ : Int)] 3)).alloc (.cells #[.string t] 9)) (w.heap.size + 1) 9 #[.string t] := Own.made_at (by simp);have B0 : Below w.heap.size w ((w.alloc (.cells #[.int .i64 (at_ : Int)] 3)).alloc (.cells #[.string t] 9)) := ((Below.refl _ _).alloc (Nat.le_refl _) _).alloc (by simp) _;obtain ⟨W0, hW0⟩ : ∃ W0, W0 = (w.alloc (.cells #[.int .i64 (at_ : Int)] 3)).alloc (.cells #[.string t] 9) := ⟨_, rfl⟩
 rw [<- hW0] at O4 O5 B0 ⊢;clear hW0;have E0 : Own W0 pe 26 #[.int .i64 x1] := HE.out.keep B0;have D0 := HD.out.below B0;have hz := B0.size;by_cases h0 : x1 = 0
 · subst h0;have hd0 : ∀ q, fp d sb mb wv q -> q ≠ lg /\ q ≠ pl /\ q ≠ w.heap.size /\ q ≠ w.heap.size + 1 := fun q hq => by
     have h1 := hap q hq;have h2 := ZD.out q hq;exact ⟨h1.1, h1.2.1, by omega, by omega⟩
   have HS := zNi (show yD W0 lg d l from Own.keep HL.out B0) HK.out (HP.out.keep B0) at_ t O4 O5 D0 hat ht hl hd0;have hpe : ¬ fp d sb mb wv pe := fun h => (hap pe h).2.2.2 rfl
   have hpl := HE.out.in_;refine (zO8 (fun w' c => ∃ wv', zI w' d sb mb sc wv' N (xE N x2 ((l.from_ + l.used + at_ : Nat) : Int) t).2 /\ Chg (fp d sb mb wv) W0 w' /\ (wv'.ownBlock = wv.ownBlock \/ ∃ g, wv'.ownBlock = some g /\ W0.heap.size <= g) /\ c = (xE N x2 ((l.from_ + l.used + at_ : Nat) : Int) t).1) E0 (HS.mono ?_)).mono ?_
   · rintro e w2 ⟨rfl, wv2, hd2, hc2, hw2⟩;exact ⟨_, rfl, ⟨wv2, hd2, hc2, hw2, rfl⟩, hc2.own E0 hpe⟩
   · rintro e w2 ⟨rfl, w1, c, ⟨wv2, hd2, hc2, hw2, rfl⟩, hE1, rfl⟩;have HX : zP w _ pe d sb mb sc wv N ((xE N x2 ((l.from_ + l.used + at_ : Nat) : Int) t).1, (xE N x2 ((l.from_ + l.used + at_ : Nat) : Int) t).2) :=
       zP.set hE1 wv2 hd2 ((Chg.of B0).same hc2) (hw2.imp_right fun ⟨g, h1, h2⟩ => .inr ⟨g, h1, by omega⟩) hpe hpl
     replace HX := Lh HX;clear HS hd0 hd2 hc2 hw2 hE1;go_wp2;go_end0
     exact ⟨rfl, HX.out⟩
 · refine (zOc _ x1 E0 h0).mono ?_;rintro e w2 ⟨rfl, rfl⟩;have e1 : xI N (x1, x2) (some (l.from_ + l.used + at_, t)) = (x1, x2) := by unfold xI; rw [if_neg h0]
   replace e1 := Lh e1;replace B0 := Lh B0;clear h0;go_wp2;go_end0
   refine ⟨rfl, ?_⟩;rw [e1.out];exact ⟨wv, D0, E0, Chg.of B0.out, .inl rfl⟩
end
end
end Go.Proofs.YtndhmidgnpobjaaGreatDoor
