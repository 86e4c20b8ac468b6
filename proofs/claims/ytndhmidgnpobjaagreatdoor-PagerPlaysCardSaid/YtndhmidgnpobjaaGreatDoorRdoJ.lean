import Derived.Test.YtndhmidgnpobjaaGreatDoorRdoI
import Derived.Laws.EntriesVeiled
set_option linter.unusedVariables false
set_option linter.unusedSimpArgs false
namespace Go.Proofs.YtndhmidgnpobjaaGreatDoor
open Go.ChangeShapes Go.WideShapes Go.ChangeAt Go.RowKit
def uQ (base k : Nat) (p : ByteArray) (j : Nat) : List Dop := (List.range j).map fun i => some (base + (1 + 9 * k + i), secB p i)
theorem zDn (base k : Nat) (p : ByteArray) (j : Nat) : uQ base k p (j + 1) = uQ base k p j ++ [some (base + (1 + 9 * k + j), secB p j)] := by simp [uQ, List.range_succ]
def jE (base : Nat) (ps : List ByteArray) (k : Nat) : List Dop := (List.range k).flatMap fun j => uQ base j (ps.getD j ⟨#[]⟩) 9
theorem zEh (base : Nat) (ps : List ByteArray) (k : Nat) (p : ByteArray) (hp : ps[k]? = some p) : jE base ps (k + 1) = jE base ps k ++ uQ base k p 9 := by
 simp [jE, List.range_succ, List.getD_eq_getElem?_getD, hp]
theorem Zk (base : Nat) (ps : List ByteArray) (k : Nat) : (jE base ps k).length = 9 * k := by
 induction k with
 | zero => rfl
 | succ k ih =>
   have e : jE base ps (k + 1) = jE base ps k ++ uQ base k (ps.getD k ⟨#[]⟩) 9 := by simp [jE, List.range_succ]
   rw [e, List.length_append, ih];simp [uQ];omega
def yP (base : Nat) (ps : List ByteArray) (seq : Nat) : List Dop := jE base ps ps.length ++ [none, some (base, yR seq ps.length), none]
section
variable {w w0 w1 w2 : World} {lg pl pe pf d sb mb sc : Nat} {wv wv1 : Value} {N : Nat} {s : St} {l : yM} {x y : Int × St}
theorem zP.then_ (h1 : zI w1 d sb mb sc wv1 N x.2) (hc : Chg (fun q => fp d sb mb wv q \/ q = pe) w0 w1) (hv : wv1.ownBlock = wv.ownBlock \/ wv1.ownBlock = none \/ ∃ g, wv1.ownBlock = some g /\ w0.heap.size <= g)
   (h2 : zP w1 w2 pe d sb mb sc wv1 N y) : zP w0 w2 pe d sb mb sc wv N y := by
 obtain ⟨wv2, hD2, hE2, hc2, hv2⟩ := h2;have hz := hc.size;refine ⟨wv2, hD2, hE2, hc.trans hc2 fun q hq h => ?_, ?_⟩
 · rcases h with (h | h | h | h) | h
   · exact .inl (.inl h)
   · exact .inl (.inr (.inl h))
   · exact .inl (.inr (.inr (.inl h)))
   · rcases hv with hv | hv | ⟨g, hv, hg⟩
     · exact .inl (.inr (.inr (.inr (hv ▸ h))))
     · rw [hv] at h; cases h
     · rw [hv] at h; injection h with h; omega
   · exact .inr h
 · rcases hv2 with h | h | ⟨g, h, hg⟩
   · rcases hv with hv | hv | ⟨g, hv, hg⟩
     · exact .inl (h.trans hv)
     · exact .inr (.inl (h.trans hv))
     · exact .inr (.inr ⟨g, h.trans hv, hg⟩)
   · exact .inr (.inl h)
   · exact .inr (.inr ⟨g, h, by omega⟩)
theorem uZ {q : Nat} (hv : wv1.ownBlock = wv.ownBlock \/ wv1.ownBlock = none \/ ∃ g, wv1.ownBlock = some g /\ w0.heap.size <= g) (hq : fp d sb mb wv1 q) : fp d sb mb wv q \/ w0.heap.size <= q := by
 rcases hq with h | h | h | h
 · exact .inl (.inl h)
 · exact .inl (.inr (.inl h))
 · exact .inl (.inr (.inr (.inl h)))
 · rcases hv with hv | hv | ⟨g, hv, hg⟩
   · exact .inl (.inr (.inr (.inr (hv ▸ h))))
   · rw [hv] at h; cases h
   · rw [hv] at h; injection h with h; exact .inr (by omega)
theorem zI.not_str (hD : zI w d sb mb sc wv N s) {b : Nat} {cs : Array Value} (ho : Own w b 9 cs) {x : ByteArray} (h0 : cs[0]? = some (.string x)) : ¬ fp d sb mb wv b := by
 have c0 := (ho.at_.1 0).trans h0;rintro (rfl | rfl | rfl | h)
 · have := (hD.own.at_.1 0).symm.trans c0;simp at this
 · have := (hD.sure.cell 0 (by have := hD.ok.pos; rw [hD.ok.len]; omega)).symm.trans c0;cases this
 · exact hD.map.ne ho rfl
 · rcases hD.wrs.2 with ⟨rfl, _⟩ | ⟨g, cap, cur, rfl, _, hg, _⟩
   · cases h
   · obtain rfl : g = b := by simpa [Value.ownBlock] using h
     unfold Own at ho;rw [ho] at hg;injection hg with hg;injection hg with _ hg _;exact absurd hg (by decide)
theorem zP.below (h : zP w0 w1 pe d sb mb sc wv N x) (hb : Below w1.heap.size w1 w2) : zP w0 w2 pe d sb mb sc wv N x := by
 obtain ⟨wv', h1, h2, h3, h4⟩ := h;exact ⟨wv', h1.below hb, h2.keep hb, h3.call hb, h4⟩
set_option maxRecDepth 10000 in
set_option maxHeartbeats 1000000 in
theorem zC9 (hE : Own w pe 26 #[.int .i64 x.1]) (hD : zI w d sb mb sc wv N x.2) (hap : ¬ fp d sb mb wv pe) :
   Calls Tryz.prog 266 #[.func (.func 126) #[.pointer (some ⟨d, 0, none⟩)] #[], .pointer (some ⟨pe, 0, none⟩)] w fun e w' => e = .returned (.tuple #[]) /\ zP w w' pe d sb mb sc wv N (xI N x none) := by
 obtain ⟨x1, x2⟩ := x;simp only at hE hD;by_cases h0 : x1 = 0
 · subst h0;refine (zK8 (fun w' c => ∃ wv', zI w' d sb mb sc wv' N (vB x2).2 /\ Chg (fp d sb mb wv) w w' /\ (wv'.ownBlock = none \/ wv'.ownBlock = wv.ownBlock) /\ c = (vB x2).1) hE ((Zx hD).mono ?_)).mono ?_
   · rintro e w2 ⟨rfl, wv2, hd2, hc2, hw2⟩;exact ⟨_, rfl, ⟨wv2, hd2, hc2, hw2, rfl⟩, hc2.own hE hap⟩
   · rintro e w2 ⟨rfl, w1, c, ⟨wv2, hd2, hc2, hw2, rfl⟩, hE1, rfl⟩;exact ⟨rfl, zP.set hE1 wv2 hd2 hc2 (by rcases hw2 with h | h; exact .inr (.inl h); exact .inl h) hap hE.in_⟩
 · refine (zOc _ x1 hE h0).mono ?_;rintro e w2 ⟨rfl, rfl⟩;have e1 : xI N (x1, x2) none = (x1, x2) := by unfold xI; rw [if_neg h0]
   rw [e1];exact ⟨rfl, wv, hD, hE, Chg.refl _ _, .inl rfl⟩
set_option maxRecDepth 10000 in
set_option maxHeartbeats 4000000 in
theorem zFs (hL : yD w lg d l) (hk : l.Ok) (hD : zI w d sb mb sc wv N s) (v : Value) (ps : List ByteArray) (hps : yO w (fun b => ¬ fp d sb mb wv b) v ps) (hsz : ∀ p ∈ ps, p.size = 512) (hlen : ps.length <= 1000)
   (hfew : s.wr.length <= 100000) (hlg : ¬ fp d sb mb wv lg) :
   Calls Tryz.prog 244 #[.pointer (some ⟨lg, 0, none⟩), v] w fun e w' => e = .returned (.int .i64 (zV N (yP (l.from_ + l.used) ps l.next) (0, s)).1) /\
     ∃ wv', zI w' d sb mb sc wv' N (zV N (yP (l.from_ + l.used) ps l.next) (0, s)).2 /\ Chg (fp d sb mb wv) w w' /\ (wv'.ownBlock = wv.ownBlock \/ wv'.ownBlock = none \/ ∃ g, wv'.ownBlock = some g /\ w.heap.size <= g) := by
 obtain ⟨pa, pc, rfl, hp1, hp2, hp3⟩ := hps.open_;have zl := hL.in_;have HL := Lh hL;have HK := Lh hk;have HD := Lh hD;have HP := Lh hps;have HSZ := Lh hsz;have HFEW := Lh hfew;obtain ⟨n, hn⟩ : ∃ n, n = ps.length := ⟨_, rfl⟩
 rw [<- hn] at hp1 hlen ⊢;have HNL := Lh hn;clear hL hk hD hps hsz hp3 hn hfew;go_enter Tryz.func244, Tryz.ntmps244;go_upto_region 4 with fail;have o1 : Own (((w.alloc (.cells #[.pointer (some ⟨lg, 0, none⟩)] 120)).alloc (.cells #[.int .i64 0] 26)).alloc (.cells #[.func (.func 266) #[] #[.pointer (some ⟨w.heap.size + 1, 0, none⟩)]] 194)) w.heap.size 120 #[.pointer (some ⟨lg, 0, none⟩)] := ((Own.made w _ _).more _).more _;have o2 : Own (((w.alloc (.cells #[.pointer (some ⟨lg, 0, none⟩)] 120)).alloc (.cells #[.int .i64 0] 26)).alloc (.cells #[.func (.func 266) #[] #[.pointer (some ⟨w.heap.size + 1, 0, none⟩)]] 194)) (w.heap.size + 1) 26 #[.int .i64 0] := (Own.made_at (by simp)).more _;have o3 : Own (((w.alloc (.cells #[.pointer (some ⟨lg, 0, none⟩)] 120)).alloc (.cells #[.int .i64 0] 26)).alloc (.cells #[.func (.func 266) #[] #[.pointer (some ⟨w.heap.size + 1, 0, none⟩)]] 194)) (w.heap.size + 1 + 1) 194 #[.func (.func 266) #[] #[.pointer (some ⟨w.heap.size + 1, 0, none⟩)]] := Own.made_at (by simp);go_name_world W0 hW0;rw [hW0] at o1 o2 o3;have B0 : Below w.heap.size w W0 := hW0 ▸ (((Below.refl _ _).alloc (Nat.le_refl _) _).alloc (by simp) _).alloc (by simp; omega) _;clear hW0;have zD : ∀ q, fp d sb mb wv q -> q < w.heap.size := fun q hq => HD.out.in_ hq
 obtain ⟨pl, hpl⟩ : ∃ pl, pl = w.heap.size := ⟨_, rfl⟩
 obtain ⟨pe, hpe⟩ : ∃ pe, pe = pl + 1 := ⟨_, rfl⟩
 obtain ⟨pf, hpf⟩ : ∃ pf, pf = pe + 1 := ⟨_, rfl⟩
 have b1 : lg < pl := by omega
 have hap : ∀ q, fp d sb mb wv q -> q ≠ lg /\ q ≠ pl /\ q ≠ pf /\ q ≠ pe := fun q hq => by
   have := zD q hq;exact ⟨fun e => hlg (e ▸ hq), by omega, by omega, by omega⟩
 rw [<- hpl, <- hpe, <- hpf] at o3;rw [<- hpl, <- hpe] at o2;rw [<- hpl] at o1;rw [<- hpl, <- hpe, <- hpf];have z0 : pf < W0.heap.size := o3.in_;have z1 : pl < pe := by omega
 have z2 : pe < pf := by omega
 have L0 : yD W0 lg d l := Own.keep HL.out B0;have S0 : zP W0 W0 pe d sb mb sc wv N (0, s) := zP.same (HD.out.below B0) o2;have HZD : Hid (∀ q, fp d sb mb wv q -> q < pl) := Lh (by rw [hpl]; exact zD);replace o1 := Lh o1;replace o3 := Lh o3;replace L0 := Lh L0;replace S0 := Lh S0;replace hap := Lh hap;have HPL := Lh hpl;replace B0 := Lh B0;clear hpl hpe hpf o2 zD zl hlg;have GET : Hid (∀ (W : World) (x : Int × St), zP W0 W pe d sb mb sc wv N x -> ∃ wv1, zI W d sb mb sc wv1 N x.2 /\ Own W pe 26 #[.int .i64 x.1] /\ Chg (fun q => fp d sb mb wv q \/ q = pe) W0 W /\ (wv1.ownBlock = wv.ownBlock \/ wv1.ownBlock = none \/ ∃ g, wv1.ownBlock = some g /\ W0.heap.size <= g) /\
     yD W lg d l /\ Own W pl 120 #[.pointer (some ⟨lg, 0, none⟩)] /\ Own W pf 194 #[.func (.func 266) #[] #[.pointer (some ⟨pe, 0, none⟩)]] /\ (∀ q, fp d sb mb wv1 q -> q ≠ lg /\ q ≠ pl /\ q ≠ pf /\ q ≠ pe)) := Lh fun W x h => by
   obtain ⟨wv1, hD1, hE1, hc1, hv1⟩ := h;have hk1 : ∀ q, q < W0.heap.size -> ¬ fp d sb mb wv q -> q ≠ pe -> W.heap[q]? = W0.heap[q]? := fun q h1 h2 h3 => hc1.block q h1 (fun h => by rcases h with h | h; exact h2 h; exact h3 h)
   refine ⟨wv1, hD1, hE1, hc1, hv1, (hk1 lg L0.out.in_ (fun h => (hap.out lg h).1 rfl) (by omega)).trans L0.out, (hk1 pl o1.out.in_ (fun h => (hap.out pl h).2.1 rfl) (by omega)).trans o1.out, (hk1 pf o3.out.in_ (fun h => (hap.out pf h).2.2.1 rfl) (by omega)).trans o3.out, fun q hq => ?_⟩;rcases uZ hv1 hq with h | h
   · exact hap.out q h
   · exact ⟨by omega, by omega, by omega, by omega⟩
 go_wp2;go_loopw [16] (fun i wr => ∃ k : Nat, k <= n /\ i = .int .i64 k /\ zP W0 wr pe d sb mb sc wv N (zV N (jE (l.from_ + l.used) ps k) (0, s))) (fun i wr => n - (intOf i).toNat)
 case atStart => exact ⟨0, by omega, rfl, S0.out⟩
 case round =>
   obtain ⟨k, hk, rfl, hS⟩ := hrel;by_cases hlt : k < n
   · have hkl : k < ps.length := by rw [<- HNL.out]; exact hlt
     have hsz := HSZ.out _ (List.getElem_mem hkl);obtain ⟨b, o, hpa, hnb, hbl, hcell⟩ : ∃ b o, pa = some ⟨b, o, none⟩ /\ ¬ fp d sb mb wv b /\ b < w.heap.size /\ w.cell? ⟨b, o + k, none⟩ = some (.string (ps[k]'hkl)) := by
       obtain ⟨a', c', e, _, _, h⟩ := HP.out.open_;obtain ⟨-, b, o, h1, h2, h3, h4⟩ := h k hkl;exact ⟨b, o, (Value.slice.inj e).1.trans h1, h2, h3, h4⟩
     subst hpa;have hget : ps[k]? = some (ps[k]'hkl) := List.getElem?_eq_getElem hkl;have HO1 := Lh (zEh (l.from_ + l.used) ps k _ hget);obtain ⟨p, hp⟩ : ∃ p, p = ps[k]'hkl := ⟨_, rfl⟩
     rw [<- hp] at hsz hcell HO1;have hcell1 : wr.cell? ⟨b, o + k, none⟩ = some (.string p) := by
       obtain ⟨wv', -, -, hc, -⟩ := hS;refine hc.cell (keep B0.out hcell) fun h => ?_
       rcases h with h | h
       · exact hnb h
       · have := HPL.out; omega
     have HSP := Lh (Yx p wr (by omega));have HSEC := Lh (secB_size p (by omega));replace hS := Lh hS;have Hsz := Lh hsz;clear hp hcell hget hsz;go_upto_region 8 with (go_at_call 229; refine HSP.out.mono ?_; rintro e w3 ⟨b3, rfl, h3, z3, hb3⟩)
     have S3 := hS.out.below hb3;have h35 : pf < b3 := by
       obtain ⟨wv', -, -, hc, -⟩ := hS.out;have := hc.size; omega
     replace h3 := Lh h3;replace S3 := Lh S3;clear hb3 z3;obtain ⟨wo, hwo⟩ : ∃ wo : World, wo = wr := ⟨_, rfl⟩
     subst hwo;go_loopw [24] (fun i wr => ∃ j : Nat, j <= 9 /\ i = .int .i64 j /\ zP W0 wr pe d sb mb sc wv N (zV N (jE (l.from_ + l.used) ps k ++ uQ (l.from_ + l.used) k p j) (0, s)) /\ Own wr b3 9 (vK 9 (secB p) 9)) (fun i wr => 9 - (intOf i).toNat)
     case atStart => exact ⟨0, by omega, rfl, by simpa [uQ] using S3.out, h3.out⟩
     case round =>
       clear h3 S3;obtain ⟨j, hj, rfl, hS, hO⟩ := hrel;by_cases hlj : j < 9
       · have hcj : wr.cell? ⟨b3, j, none⟩ = some (.string (secB p j)) := by
           rw [hO.at_.1 j, xS 9 _ 9 j hlj, if_pos hlj]
         have hzj := HSEC.out j hlj;obtain ⟨t, ht⟩ : ∃ t, t = secB p j := ⟨_, rfl⟩
         rw [<- ht] at hcj hzj;obtain ⟨wv1, hD1, hE1, hc1, hv1, L1, P1, F1, hap1⟩ := GET.out _ _ hS;have hrl := uD N (jE (l.from_ + l.used) ps k ++ uQ (l.from_ + l.used) k p j) (0, s);have hol : (jE (l.from_ + l.used) ps k ++ uQ (l.from_ + l.used) k p j).length <= 20000 := by
           rw [List.length_append, Zk]; simp [uQ]; omega
         have hnb3 : ¬ fp d sb mb wv1 b3 := hD1.not_str hO (x := secB p 0) (by rw [xS 9 _ 9 0 (by omega), if_pos (by omega)]);have HPUT := put_any _ L1 HK.out P1 F1 hE1 hD1 (1 + 9 * k + j) t (by omega) (by rw [hzj]; unfold maxLen; omega) (by have := HFEW.out; simp only at hrl; omega) hap1 ⟨by omega, by omega⟩;have eat : ((1 + 9 * k + j : Nat) : Int) = 1 + (k : Int) * 9 + (j : Int) := by omega
         rw [eat, ht, <- mK, List.append_assoc, <- zDn, <- ht] at HPUT;replace HPUT := Lh HPUT;have O1 := Lh hO;have C1 := Lh (And.intro hD1 (And.intro hc1 hv1));have N3 := Lh hnb3;clear eat hrl hol hnb3 L1 P1 F1 hap1 hD1 hE1 hc1 hv1 hO ht hzj;go_wp2_with fail;refine HPUT.out.mono ?_;rintro e w5 ⟨rfl, hS5⟩;have hS6 := zP.then_ C1.out.1 C1.out.2.1 C1.out.2.2 hS5;have hO6 : Own w5 b3 9 (vK 9 (secB p) 9) := by
           obtain ⟨wv2, -, -, hc2, -⟩ := hS5;exact hc2.own O1.out fun h => by rcases h with h | h; exact N3.out h; omega
         replace hS6 := Lh hS6;replace hO6 := Lh hO6;clear hS5;go_wp2;go_roundw
         case rel => exact ⟨j + 1, by omega, by go_num, hS6.out, hO6.out⟩
         case measure => simp [intOf]; omega
       · obtain rfl : j = 9 := by omega
         rw [<- HO1.out] at hS;replace hS := Lh hS;clear hO;go_wp2;go_roundw
         case rel => exact ⟨k + 1, by omega, by go_num, hS.out⟩
         case measure => simp [intOf]; omega
   · obtain rfl : k = n := by omega
     obtain ⟨wv1, hD1, hE1, hc1, hv1, L1, P1, F1, hap1⟩ := GET.out _ _ hS;have HF1 := Lh (zC9 (hE1.drawn) (hD1.below (Below.refl _ _).drew) (fun h => (hap1 pe h).2.2.2 rfl));have C1 := Lh (And.intro hD1 (And.intro hc1 hv1));have hrl := uD N (jE (l.from_ + l.used) ps k) (0, s);rw [Zk] at hrl;obtain ⟨x1, hx1⟩ : ∃ x1, x1 = zV N (jE (l.from_ + l.used) ps k) (0, s) := ⟨_, rfl⟩
     rw [<- hx1] at HF1 C1 hrl;have X1 := Lh hx1;have L1 := Lh L1;have P1 := Lh P1;have F1 := Lh F1;have RL := Lh (show x1.2.wr.length <= s.wr.length + 9 * k from hrl);clear hD1 hE1 hc1 hv1 hap1 hS hx1 hrl;have LC := Lh (show l.cells d = #[.pointer (some ⟨d, 0, none⟩), .int .i64 (l.from_ : Int), .int .i64 (l.size : Int), .int .i64 (l.used : Int), .int .u64 (l.next : Int), .bool l.failed] from rfl);have L1c : Own wr lg 207 #[.pointer (some ⟨d, 0, none⟩), .int .i64 (l.from_ : Int), .int .i64 (l.size : Int), .int .i64 (l.used : Int), .int .u64 (l.next : Int), .bool l.failed] := L1.out;replace L1c := Lh L1c;go_upto_region 13 with fail;refine zA (fun W => Own W lg 207 #[.pointer (some ⟨d, 0, none⟩), .int .i64 (l.from_ : Int), .int .i64 (l.size : Int), .int .i64 (l.used : Int), .int .u64 (l.next : Int), .bool l.failed] /\ Own W pl 120 #[.pointer (some ⟨lg, 0, none⟩)] /\ Own W pf 194 #[.func (.func 266) #[] #[.pointer (some ⟨pe, 0, none⟩)]]) (0 :: 1 :: 2 :: 3 :: 4 :: 5 :: []) (0 :: 1 :: 4 :: []) (0 :: 1 :: 2 :: 3 :: 4 :: 5 :: 6 :: []) (by kernel_rfl) (by kernel_rfl) rfl (by kernel_rfl) rfl (⟨L1c.out.drawn, P1.out.drawn, F1.out.drawn⟩) (by simp only [zQ, List.filterMap_cons, List.filterMap_nil, List.getElem?_cons_zero, List.getElem?_cons_succ, Option.map_some]; exact rfl) ?_;iterate 6
       refine zC (v := ?_) rfl rfl (fun W hS => ?_) ?_;rotate_left
       · first
           | (conv => lhs; simp [go_sem]
              first | done | exact rfl)
           | (have hS := hS rfl
              obtain ⟨q1, q2, q3⟩ := hS;obtain ⟨q1, q5, q6⟩ := Own.at_ q1;obtain ⟨q2, q7, q8⟩ := Own.at_ q2;obtain ⟨q3, q9, qa⟩ := Own.at_ q3;conv => lhs; simp [go_sem, *]
              first | done | exact rfl)
       simp only [Act.put, lA, lZ, lS]
     refine zK rfl rfl fun K hK => ?_
     go_wp2_with fail;refine HF1.out.mono ?_;rintro e w2 ⟨rfl, hS2⟩;have S2 := zP.then_ (C1.out.1.below (Below.refl _ _).drew) C1.out.2.1.drew C1.out.2.2 hS2;obtain ⟨wv2, hD2, hE2, hc2, hv2, L2, P2, F2, hap2⟩ := GET.out _ _ S2;have hrl2 := zAq N x1 none;obtain ⟨x2, hx2⟩ : ∃ x2, x2 = xI N x1 none := ⟨_, rfl⟩
     rw [<- hx2] at S2 hD2 hE2 hrl2;have X2 := Lh hx2;have RL2 := Lh hrl2;have HMK := Lh (zGm l.next k w2 HK.out.next (by omega));have HPUT := fun (W : World) (hb : Below w2.heap.size w2 W) => put_any x2 (show yD W lg d l from Own.keep L2 hb) HK.out (P2.keep hb) (F2.keep hb) (hE2.keep hb) (hD2.below hb) 0 (yR l.next k) (by omega) (by rw [jL]; unfold maxLen; omega) (by have := RL.out; have := RL2.out; have := HFEW.out; omega) hap2 ⟨by omega, by omega⟩
     rw [show ((0 : Nat) : Int) = 0 from rfl] at HPUT;replace HPUT := Lh HPUT;have C2 := Lh (And.intro hD2 (And.intro hc2 hv2));have E2 := Lh hE2;have L2c : Own w2 lg 207 #[.pointer (some ⟨d, 0, none⟩), .int .i64 (l.from_ : Int), .int .i64 (l.size : Int), .int .i64 (l.used : Int), .int .u64 (l.next : Int), .bool l.failed] := L2;clear hS2 hx2 hrl2 hD2 hE2 hc2 hv2 hap2 HF1;replace S2 := Lh S2;go_wp2;refine hK _ _ ⟨L2c, P2, F2⟩ ?_;clear hK K;refine zN ?_;obtain ⟨l1, l2, l3⟩ := Own.at_ L2c;obtain ⟨p1, p2, p3⟩ := Own.at_ P2;go_wp2_with (go_at_call 227; refine HMK.out.mono ?_; rintro e w3 ⟨rfl, hb3⟩)
     refine (HPUT.out w3 hb3).mono ?_;rintro e w4 ⟨rfl, hS4⟩;have S4 := zP.then_ (C2.out.1.below hb3) (C2.out.2.1.call hb3) C2.out.2.2 hS4;obtain ⟨wv4, hD4, hE4, hc4, hv4, L4, P4, F4, hap4⟩ := GET.out _ _ S4;obtain ⟨x3, hx3⟩ : ∃ x3, x3 = xI N x2 (some (l.from_ + l.used + 0, yR l.next k)) := ⟨_, rfl⟩
     rw [<- hx3] at S4 hD4 hE4;have X3 := Lh hx3;have HF4 := Lh (zC9 (hE4.drawn) (hD4.below (Below.refl _ _).drew) (fun h => (hap4 pe h).2.2.2 rfl));have C4 := Lh (And.intro hD4 (And.intro hc4 hv4));have L4c : Own w4 lg 207 #[.pointer (some ⟨d, 0, none⟩), .int .i64 (l.from_ : Int), .int .i64 (l.size : Int), .int .i64 (l.used : Int), .int .u64 (l.next : Int), .bool l.failed] := L4;replace L4c := Lh L4c;replace P4 := Lh P4;replace F4 := Lh F4;clear hS4 hx3 hD4 hE4 hc4 hv4 hap4 L4 S4 l1 l2 l3 p1 p2 p3 L2c P2 F2 L2 hb3;go_upto_region 15 with fail;refine zA (fun W => Own W lg 207 #[.pointer (some ⟨d, 0, none⟩), .int .i64 (l.from_ : Int), .int .i64 (l.size : Int), .int .i64 (l.used : Int), .int .u64 (l.next : Int), .bool l.failed] /\ Own W pl 120 #[.pointer (some ⟨lg, 0, none⟩)] /\ Own W pf 194 #[.func (.func 266) #[] #[.pointer (some ⟨pe, 0, none⟩)]]) (0 :: 1 :: 2 :: 3 :: 4 :: 5 :: []) (0 :: 1 :: 4 :: []) (0 :: 1 :: 2 :: 3 :: 4 :: 5 :: 6 :: []) (by kernel_rfl) (by kernel_rfl) rfl (by kernel_rfl) rfl (⟨L4c.out.drawn, P4.out.drawn, F4.out.drawn⟩) (by simp only [zQ, List.filterMap_cons, List.filterMap_nil, List.getElem?_cons_zero, List.getElem?_cons_succ, Option.map_some]; exact rfl) ?_;iterate 6
       refine zC (v := ?_) rfl rfl (fun W hS => ?_) ?_;rotate_left
       · first
           | (conv => lhs; simp [go_sem]
              first | done | exact rfl)
           | (have hS := hS rfl
              obtain ⟨q1, q2, q3⟩ := hS;obtain ⟨q1, q5, q6⟩ := Own.at_ q1;obtain ⟨q2, q7, q8⟩ := Own.at_ q2;obtain ⟨q3, q9, qa⟩ := Own.at_ q3;conv => lhs; simp [go_sem, *]
              first | done | exact rfl)
       simp only [Act.put, lA, lZ, lS]
     refine zK rfl rfl fun K hK => ?_
     go_wp2_with fail;refine HF4.out.mono ?_;rintro e w5 ⟨rfl, hS2⟩;have S5 := zP.then_ (C4.out.1.below (Below.refl _ _).drew) C4.out.2.1.drew C4.out.2.2 hS2;obtain ⟨wv5, hD5, hE5, hc5, hv5, L5, P5, F5, hap5⟩ := GET.out _ _ S5;obtain ⟨x4, hx4⟩ : ∃ x4, x4 = xI N x3 none := ⟨_, rfl⟩
     rw [<- hx4] at S5 hD5 hE5;have X4 := Lh hx4;clear hS2 hx4 HF4;obtain ⟨e1, e2, e3⟩ := Own.at_ hE5;have RES : Hid (zV N (yP (l.from_ + l.used) ps l.next) (0, s) = x4) := Lh (by
       unfold yP;rw [<- HNL.out, jS, X4.out, X3.out, X2.out, X1.out];rfl)
     have FIN := Lh (And.intro hD5 (And.intro hc5 hv5));clear hD5 hc5 hv5 hap5 hE5;go_wp2;refine hK _ _ ⟨L5, P5, F5⟩ ?_;clear hK K;refine zN ?_;go_wp2;go_ret;rw [RES.out];have z0 := B0.out.size;refine ⟨rfl, wv5, FIN.out.1, ?_, ?_⟩
     · refine (Chg.of B0.out).trans FIN.out.2.1 fun q hq h => ?_
       rcases h with h | h
       · exact h
       · have := HPL.out; omega
     · rcases FIN.out.2.2 with h | h | ⟨g, h, hg⟩
       · exact .inl h
       · exact .inr (.inl h)
       · exact .inr (.inr ⟨g, h, by omega⟩)
end
end Go.Proofs.YtndhmidgnpobjaaGreatDoor
