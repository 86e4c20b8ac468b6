import Derived.Test.YtndhmidgnpobjaaGreatDoorPgtE
import Derived.Laws.AppendOwnNone
set_option linter.unusedVariables false
set_option linter.unusedSimpArgs false
namespace Go.Proofs.YtndhmidgnpobjaaGreatDoor
open Go.ChangeShapes Go.WideShapes Go.ChangeAt Go.RowKit
section
structure RS.Ok (R : RS) : Prop where
 most : R.most <= 100000
 room : R.room <= 100000
 dirty : R.dirty.length = R.most
 sure : R.sure.Ok
 way : R.way.Ok
 kw : R.way.kinds.length <= R.most
def RS.wrC (R : RS) (no k : Int) : Bool := (decide (1 <= no) && decide (no < (R.way.kinds.length : Int))) && (decide (2 <= k) && decide (k <= 254))
def RS.wrE (R : RS) (no k : Int) (s : ByteArray) : Int := if R.wrC no k then if s.size <= 496 then if R.big [no.toNat] then 10 else 0 else 3 else 1
def RS.wrS (R : RS) (n k : Nat) (s : ByteArray) : RS := { R with way := { R.way with kinds := R.way.kinds.set n k, rooms := R.way.rooms.set n (fl s) }, dirty := R.dirty.set n true }
def RS.wr (R : RS) (no k : Int) (s : ByteArray) : RS := if R.wrC no k then if s.size <= 496 then if R.big [no.toNat] then R else R.wrS no.toNat k.toNat s else R else R
section
variable {w w' : World} {B p : Nat} {sk sr sf wk wr wf vd : Value} {R : RS}
theorem zHq (h : Ref w B p sk sr sf wk wr wf vd R) (no k : Int) (s : ByteArray) (hc : R.wrC no k = false) : Calls Tryz.prog 31 #[.pointer (some ⟨p, 0, none⟩), .int .i64 no, .int .i64 k, .string s] w fun e w' => e = .returned (.int .i64 1) /\ w = w' := by
 obtain ⟨ka, kc, rfl, -, -⟩ := zO h.way.k;have ho := h.own;unfold rfC at ho;obtain ⟨q1, q2, q3⟩ := ho.at_;unfold RS.wrC at hc;obtain ⟨n, hn⟩ : ∃ n, n = R.way.kinds.length := ⟨_, rfl⟩
 rw [<- hn] at q1 hc;clear h ho hn;by_cases h1 : 1 <= no
 · by_cases h2 : no < (n : Int)
   · by_cases h3 : 2 <= k
     · have h4 : ¬ k <= 254 := fun h4 => by simp [h1, h2, h3, h4] at hc
       clear hc;go_enter Tryz.func31, Tryz.ntmps31;go_wp2;go_ret;exact ⟨rfl, rfl⟩
     · clear hc;go_enter Tryz.func31, Tryz.ntmps31;go_wp2;go_ret;exact ⟨rfl, rfl⟩
   · clear hc;go_enter Tryz.func31, Tryz.ntmps31;go_wp2;go_ret;exact ⟨rfl, rfl⟩
 · clear hc;go_enter Tryz.func31, Tryz.ntmps31;go_wp2;go_ret;exact ⟨rfl, rfl⟩
theorem uG {w : World} {B g n cap k : Nat} {T : TypeId} {l : List Value} (h : w.ownsRow B T 1 (.slice (some ⟨g, 0, none⟩) n cap) n l) (hk : k < l.length) : w.cell? ⟨g, k, none⟩ = some (l[k]'hk) /\ w.frozen? ⟨g, k, none⟩ = false /\ g < w.heap.size := by
 obtain ⟨a9, cp9, hv9, hl9, hcl⟩ := zO h;obtain ⟨g2, hg2, hg3, hx1, hx2⟩ := hcl k hk;obtain ⟨e9, -, -⟩ := Value.slice.inj hv9;obtain rfl : g = g2 := by rw [hg2] at e9; simpa using e9
 exact ⟨hx1, hx2, (h.lt g rfl).2⟩
theorem yU {w : World} {B n : Nat} {T : TypeId} {v : Value} {l : List Value} (h : w.ownsRow B T 1 v n l) (hl : 0 < l.length) : ∃ g cp, v = .slice (some ⟨g, 0, none⟩) n cp := by
 obtain ⟨a, cp, hv, hn, hcl⟩ := zO h;obtain ⟨g, hg, -⟩ := hcl 0 hl;exact ⟨g, cp, by rw [hv, hg]⟩
theorem zD6 (h : Ref w B p sk sr sf wk wr wf vd R) (no k : Int) (s : ByteArray) (hc : R.wrC no k = true) (hs : ¬ s.size <= 496) : Calls Tryz.prog 31 #[.pointer (some ⟨p, 0, none⟩), .int .i64 no, .int .i64 k, .string s] w fun e w' => e = .returned (.int .i64 3) /\ w = w' := by
 obtain ⟨ka, kc, rfl, -, -⟩ := zO h.way.k;have ho := h.own;unfold rfC at ho;obtain ⟨q1, q2, q3⟩ := ho.at_;unfold RS.wrC at hc;obtain ⟨n, hn⟩ : ∃ n, n = R.way.kinds.length := ⟨_, rfl⟩
 rw [<- hn] at q1 hc;have h9 : (1 <= no /\ no < (n : Int)) /\ 2 <= k /\ k <= 254 := by simpa using hc
 obtain ⟨⟨h1, h2⟩, h3, h4⟩ := h9;have h5 : (496 : Int) < (s.size : Int) := by omega
 clear h ho hn hc hs;go_enter Tryz.func31, Tryz.ntmps31;go_wp2;go_ret;exact ⟨rfl, rfl⟩
set_option maxRecDepth 10000 in
set_option maxHeartbeats 1000000 in
theorem zHt (h : Ref w B p sk sr sf wk wr wf vd R) (hok : R.Ok) (no k : Nat) (s : ByteArray) (hc : R.wrC (no : Int) (k : Int) = true) (hs : s.size <= 496) : Calls Tryz.prog 31 #[.pointer (some ⟨p, 0, none⟩), .int .i64 (no : Int), .int .i64 (k : Int), .string s] w fun e w' => e = .returned (.int .i64 (if R.big [no] then 10 else 0)) /\ Ref w' B p sk sr sf wk wr wf vd (if R.big [no] then R else R.wrS no k s) /\ Chg (RT w B) w w' := by
 have h9 : (1 <= (no : Int) /\ (no : Int) < (R.way.kinds.length : Int)) /\ 2 <= (k : Int) /\ (k : Int) <= 254 := by unfold RS.wrC at hc; simpa using hc
 obtain ⟨⟨h1, h2⟩, h3, h4⟩ := h9;have hkl : 0 < (yE R.way.kinds).length := by simp [yE]; omega
 have hrl : 0 < (xL R.way.rooms).length := by simp [xL]; exact hok.way.ne
 have hdl : 0 < (vL R.dirty).length := by simp [vL]; have := hok.dirty; have := hok.kw; omega
 obtain ⟨gk, kc, rfl⟩ := yU h.way.k hkl;obtain ⟨gr, rc, rfl⟩ := yU h.way.r hrl;obtain ⟨gd, dc, rfl⟩ := yU h.dirty hdl;have BG := Lh (mV (h.below (zF w 3 #[.int .i64 (no : Int)])) [no] (by simp) (fun x hx => by simp at hx; subst hx; have := hok.dirty; have := hok.kw; omega) (by have := hok.room; omega) (by rw [hok.dirty]; have := hok.most; omega) w.heap.size _ (Own.made w _ _) (fun i x hx => by
   rcases i with _ | i
   · simp at hx; subst hx; rfl
   · simp at hx))
 have hnk := hok.kw;have hkr := hok.way.kr;have hdd := hok.dirty;obtain ⟨n, hn⟩ : ∃ n, n = R.way.kinds.length := ⟨_, rfl⟩
 obtain ⟨rn, hrn⟩ : ∃ rn, rn = R.way.rooms.length := ⟨_, rfl⟩
 obtain ⟨dn, hdn⟩ : ∃ dn, dn = R.dirty.length := ⟨_, rfl⟩
 rw [<- hn, <- hrn, <- hdn] at h ⊢;rw [show [no].length = 1 from rfl] at BG;rw [<- hn] at h2 hnk hkr;rw [<- hrn] at hkr;rw [<- hdn] at hdd;have HN := Lh (And.intro hn (And.intro hrn hdn));have ho := h.own;unfold rfC at ho;obtain ⟨q1, q2, q3⟩ := ho.at_;have HO := Lh ho;have H := Lh h;have h5 : ¬ (496 : Int) < (s.size : Int) := by omega
 have FL := Lh (fun W => show Calls Tryz.prog 94 #[.string s, .int .i64 496] W fun e w' => e = .returned (.string (fl s)) /\ Below W.heap.size W w' from jB s 496 W hs (by omega));obtain ⟨F, hF⟩ : ∃ F, F = fl s := ⟨_, rfl⟩
 rw [<- hF] at FL;have WS := Lh (show R.wrS no k s = { R with way := { R.way with kinds := R.way.kinds.set no k, rooms := R.way.rooms.set no F }, dirty := R.dirty.set no true } by rw [hF]; rfl);have l1 : (no : Int) < (rn : Int) := by omega
 have ln : (no : Int) < (dn : Int) := by omega
 clear h ho hc hs hok hkl hrl hdl hn hrn hdn hF hkr hdd hnk;cases hbg : R.big [no] with
 | true =>
   rw [hbg] at BG;clear hbg;go_enter Tryz.func31, Tryz.ntmps31;go_wp2_with (go_at_call 93; refine BG.out.mono ?_; rintro e w2 ⟨rfl, hb2⟩; have B2 := Lh (then_ (zF w 3 #[.int .i64 (no : Int)]) hb2 (by simp)); clear hb2)
   go_ret;exact ⟨rfl, H.out.below B2.out, Chg.of B2.out⟩
 | false =>
   rw [hbg] at BG;clear hbg;go_enter Tryz.func31, Tryz.ntmps31;go_upto_region 7 with (go_at_call 93; refine BG.out.mono ?_; rintro e w2 ⟨rfl, hb2⟩; have B2 := Lh (then_ (zF w 3 #[.int .i64 (no : Int)]) hb2 (by simp)); clear hb2)
   have H2 := H.out.below B2.out;have O2 := HO.out.keep B2.out;obtain ⟨r1, r2, r3⟩ := O2.at_;obtain ⟨k1, k2, k3⟩ := uG (k := no) (by have := H2.way.k; rw [<- HN.out.1] at this; exact this) (by simp [yE]; rw [<- HN.out.1]; omega);obtain ⟨x0, hx0⟩ : ∃ x0, w2.cell? ⟨gk, no, none⟩ = some x0 := ⟨_, k1⟩
   have H3 := H2.setKind HN.out.1 no k;have C3 : Chg (RT w B) w (w2.setCell ⟨gk, no, none⟩ (.int .i64 (k : Int))) := yF (Chg.of B2.out) (by obtain ⟨e1, c, e2⟩ := yC H2.way.k rfl; exact vT e1 e2 (.inr (.inl rfl)));clear k1;go_upto_region 8 with fail;go_name_world W3 hW3;rw [hW3] at H3 C3;clear hW3 r1 r2 r3 q1 q2 q3 k2 k3 hx0 H2 O2;have O3 := H3.own;unfold rfC at O3;replace O3 := Lh O3;replace C3 := Lh C3;replace H3 := Lh H3;have FIN : Hid (∀ W, Below W3.heap.size W3 W -> (∃ x, W.cell? ⟨gr, no, none⟩ = some x) /\ W.frozen? ⟨gr, no, none⟩ = false /\ Ref (W.setCell ⟨gr, no, none⟩ (.string F)) B p sk sr sf (.slice (some ⟨gk, 0, none⟩) n kc) (.slice (some ⟨gr, 0, none⟩) rn rc) wf (.slice (some ⟨gd, 0, none⟩) dn dc) { R with way := { R.way with kinds := R.way.kinds.set no k, rooms := R.way.rooms.set no F } } /\ Chg (RT w B) w (W.setCell ⟨gr, no, none⟩ (.string F))) := Lh fun W hW => by
     have Hb := H3.out.below hW;obtain ⟨k1, k2, k3⟩ := uG (k := no) (by have := Hb.way.r; rw [show ({ R.way with kinds := R.way.kinds.set no k } : RSt).rooms.length = rn from HN.out.2.1.symm] at this; exact this) (by simp [xL]; rw [<- HN.out.2.1]; omega);refine ⟨⟨_, k1⟩, k2, Hb.setRoom HN.out.2.1 no F, ?_⟩;refine yF (C3.out.trans (Chg.of (S := fun _ => False) hW) fun b _ e => e.elim) ?_;obtain ⟨e1, c, e2⟩ := yC Hb.way.r rfl;exact vT e1 e2 (.inr (.inr (.inl rfl)))
   refine zA (fun W => Own W p 61 #[.int .i64 (R.most : Int), .int .i64 (R.room : Int), sk, sr, sf, .int .u64 (R.sure.roots 0 : Int), .int .u64 (R.sure.roots 1 : Int), .int .u64 (R.sure.roots 2 : Int), .int .u64 (R.sure.roots 3 : Int), .int .u64 (R.sure.roots 4 : Int), .int .u64 (R.sure.roots 5 : Int), .int .u64 (R.sure.roots 6 : Int), .int .u64 (R.sure.roots 7 : Int), .slice (some ⟨gk, 0, none⟩) n kc, .slice (some ⟨gr, 0, none⟩) rn rc, wf, .int .u64 (R.way.roots 0 : Int), .int .u64 (R.way.roots 1 : Int), .int .u64 (R.way.roots 2 : Int), .int .u64 (R.way.roots 3 : Int), .int .u64 (R.way.roots 4 : Int), .int .u64 (R.way.roots 5 : Int), .int .u64 (R.way.roots 6 : Int), .int .u64 (R.way.roots 7 : Int), .slice (some ⟨gd, 0, none⟩) dn dc]) (0 :: 1 :: 2 :: 3 :: 4 :: 5 :: 6 :: 8 :: []) (4 :: []) (0 :: 1 :: 2 :: 3 :: 4 :: 5 :: 6 :: 7 :: 8 :: 9 :: []) (by kernel_rfl) (by kernel_rfl) rfl (by kernel_rfl) rfl (O3.out.drawn) (by simp only [zQ, List.filterMap_cons, List.filterMap_nil, List.getElem?_cons_zero, List.getElem?_cons_succ, Option.map_some]; exact rfl) ?_;iterate 7
     refine zC (v := ?_) rfl rfl (fun W hS => ?_) ?_;rotate_left
     · first
         | (conv => lhs; simp [go_sem, l1]
            first | done | exact rfl)
         | (have hS := hS rfl
            obtain ⟨q1, q2, q3⟩ := Own.at_ hS;conv => lhs; simp [go_sem, *, l1]
            first | done | exact rfl)
     simp only [Act.put, lA, lZ, lS]
   refine zK rfl rfl fun K hK => ?_
   go_wp2_with (go_at_call 94; refine (FL.out _).mono ?_; rintro e w5 ⟨rfl, hb5⟩)
   have B5 := Lh (then_ (Below.refl W3.heap.size W3).drew hb5 (Nat.le_refl _));refine hK _ _ (O3.out.keep B5.out) ?_;clear hK K hb5;iterate 1
     refine zC (v := ?_) rfl rfl (fun W hS => ?_) ?_;rotate_left
     · first
         | (conv => lhs; simp [go_sem, l1]
            first | done | exact rfl)
         | (have hS := hS rfl
            obtain ⟨q1, q2, q3⟩ := Own.at_ hS;conv => lhs; simp [go_sem, *, l1]
            first | done | exact rfl)
     simp only [Act.put, lA, lZ, lS]
   obtain ⟨⟨x1, hx1⟩, hx2, z1, z2⟩ := FIN.out w5 B5.out;have Z1 := Lh z1;have Z2 := Lh z2;clear z1 z2;refine xQ rfl rfl (by kernel_rfl) rfl fun K hK => ?_
   go_wp2;refine hK _ _ ?_;clear hK K hx1 hx2;refine zN ?_;go_upto_region 9 with fail;go_name_world W6 hW6;rw [hW6] at Z1 Z2;clear hW6;have O6 := Z1.out.own;unfold rfC at O6;obtain ⟨r1, r2, r3⟩ := O6.at_;obtain ⟨k1, k2, k3⟩ := uG (k := no) (by have := Z1.out.dirty; rw [<- HN.out.2.2] at this; exact this) (by simp [vL]; rw [<- HN.out.2.2]; omega);obtain ⟨x2, hx2⟩ : ∃ x2, W6.cell? ⟨gd, no, none⟩ = some x2 := ⟨_, k1⟩
   clear k1 O6;have H7 := Lh (Z1.out.setDirty HN.out.2.2 no true);have C7 : Chg (RT w B) w (W6.setCell ⟨gd, no, none⟩ (.bool true)) := yF Z2.out (by obtain ⟨e1, c, e2⟩ := yC Z1.out.dirty rfl; exact vT e1 e2 (.inr (.inr (.inr rfl))));replace C7 := Lh C7;go_wp2;go_ret;refine ⟨rfl, ?_, C7.out⟩;rw [WS.out];exact H7.out
theorem zFf (h : Ref w B p sk sr sf wk wr wf vd R) (hok : R.Ok) (no k : Int) (s : ByteArray) : Calls Tryz.prog 31 #[.pointer (some ⟨p, 0, none⟩), .int .i64 no, .int .i64 k, .string s] w fun e w' => e = .returned (.int .i64 (R.wrE no k s)) /\ Ref w' B p sk sr sf wk wr wf vd (R.wr no k s) /\ Chg (RT w B) w w' := by
 unfold RS.wrE RS.wr;cases hc : R.wrC no k with
 | false =>
   refine (zHq h no k s hc).mono ?_;rintro e w2 ⟨rfl, rfl⟩;exact ⟨rfl, h, Chg.refl _ _⟩
 | true =>
   by_cases hs : s.size <= 496
   · have h9 : (1 <= no /\ no < (R.way.kinds.length : Int)) /\ 2 <= k /\ k <= 254 := by unfold RS.wrC at hc; simpa using hc
     have en : ((no.toNat : Nat) : Int) = no := Int.toNat_of_nonneg (by omega);have ek : ((k.toNat : Nat) : Int) = k := Int.toNat_of_nonneg (by omega);have := zHt h hok no.toNat k.toNat s (by rw [en, ek]; exact hc) hs;rw [en, ek] at this;simp only [if_true, if_pos hs];exact this
   · simp only [if_true, if_neg hs];refine (zD6 h no k s hc hs).mono ?_;rintro e w2 ⟨rfl, rfl⟩;exact ⟨rfl, h, Chg.refl _ _⟩
end
end
section
theorem zOh (m n : Nat) (sk sr sf : Value) (rs : Nat -> Nat) (wk wr wf : Value) (rw_ : Nat -> Nat) (vd : Value) {i : Nat} (h : i < 8) (x : Nat) : (rfC m n sk sr sf rs wk wr wf rw_ vd).setIfInBounds (16 + i) (.int .u64 (x : Int)) = rfC m n sk sr sf rs wk wr wf (upR rw_ i x) vd := by
 rcases Ug h with rfl | rfl | rfl | rfl | rfl | rfl | rfl | rfl <;> rfl
theorem zI7 (m n : Nat) (sk sr sf : Value) (rs : Nat -> Nat) (wk wr wf : Value) (rw_ : Nat -> Nat) (vd : Value) {i : Nat} (h : i < 8) : (rfC m n sk sr sf rs wk wr wf rw_ vd)[16 + i]? = some (.int .u64 (rw_ i : Int)) := by
 rcases Ug h with rfl | rfl | rfl | rfl | rfl | rfl | rfl | rfl <;> rfl
def RS.upRoot (R : RS) (i x : Nat) : RS := { R with way := { R.way with roots := upR R.way.roots i x } }
def RS.srE (R : RS) : Int := if R.big [0] then 10 else 0
def RS.sr (R : RS) (i x : Nat) : RS := if R.big [0] then R else (R.upRoot i x).touch [0]
section
variable {w w' : World} {B p : Nat} {sk sr sf wk wr wf vd : Value} {R : RS}
theorem Ref.setRoot (h : Ref w B p sk sr sf wk wr wf vd R) {i : Nat} (hi : i < 8) (x : Nat) : Ref (w.setCell ⟨p, 16 + i, none⟩ (.int .u64 (x : Int))) B p sk sr sf wk wr wf vd (R.upRoot i x) := by
 have X : ∀ {T : TypeId} {v : Value} {m : Nat} {l : List Value}, w.ownsRow B T 1 v m l -> T ≠ 61 -> v.ownBlock ≠ some p := fun hv hT => zZ hv h.own hT
 exact { h with
   own := by
     have := h.own.put (16 + i) (.int .u64 (x : Int));rw [zOh _ _ _ _ _ _ _ _ _ _ _ hi] at this;exact this
   sure := ⟨ownsRow_setCell_other h.sure.k (X h.sure.k (by decide)) _, ownsRow_setCell_other h.sure.r (X h.sure.r (by decide)) _, ownsRow_setCell_other h.sure.f (X h.sure.f (by decide)) _, h.sure.ap⟩
   way := ⟨ownsRow_setCell_other h.way.k (X h.way.k (by decide)) _, ownsRow_setCell_other h.way.r (X h.way.r (by decide)) _, ownsRow_setCell_other h.way.f (X h.way.f (by decide)) _, h.way.ap⟩
   dirty := ownsRow_setCell_other h.dirty (X h.dirty (by decide)) _ }
theorem zBq (h : Ref w B p sk sr sf wk wr wf vd R) (i x : Int) (hi : i < 0 \/ 8 <= i) : Calls Tryz.prog 33 #[.pointer (some ⟨p, 0, none⟩), .int .i64 i, .int .u64 x] w fun e w' => e = .returned (.int .i64 1) /\ w = w' := by
 rcases hi with hi | hi
 · go_enter Tryz.func33, Tryz.ntmps33;go_wp2;go_ret;exact ⟨rfl, rfl⟩
 · have h0 : ¬ i < 0 := by omega
   have h7 : 7 < i := by omega
   go_enter Tryz.func33, Tryz.ntmps33;go_wp2;go_ret;exact ⟨rfl, rfl⟩
set_option maxRecDepth 10000 in
set_option maxHeartbeats 1000000 in
theorem zDx (h : Ref w B p sk sr sf wk wr wf vd R) (hok : R.Ok) (i : Nat) (hi : i < 8) (x : Nat) (hx : x < 18446744073709551616) : Calls Tryz.prog 33 #[.pointer (some ⟨p, 0, none⟩), .int .i64 (i : Int), .int .u64 (x : Int)] w fun e w' => e = .returned (.int .i64 R.srE) /\ Ref w' B p sk sr sf wk wr wf vd (R.sr i x) /\ Chg (RT w B) w w' := by
 have h1 := hok.way.ne;have h2 := hok.way.kr;have h3 := hok.kw;have h4 := hok.dirty;have hcell : ∀ (k y : Nat), ([0] : List Nat)[k]? = some y -> (#[.int .i64 0] : Array Value)[k]? = some (.int .i64 (y : Int)) := fun k y hy => by
   rcases k with _ | k
   · simp at hy; subst hy; rfl
   · simp at hy
 have BG := Lh (mV (h.below (zF w 3 #[.int .i64 0])) [0] (by simp) (fun y hy => by simp at hy; subst hy; omega) (by have := hok.room; omega) (by have := hok.most; omega) w.heap.size _ (Own.made w _ _) hcell);rw [show ([0] : List Nat).length = 1 from rfl] at BG;have hway : (R.upRoot i x).way.Ok := ⟨hok.way.k, hok.way.kr, hok.way.ne, hok.way.f, fun j hj => by
   show upR R.way.roots i x j < _
   unfold upR;split
   · exact hx
   · exact hok.way.r j hj, hok.way.fl⟩
 have TC := Lh (fun W (hW : Ref W B p sk sr sf wk wr wf vd (R.upRoot i x)) => gB (hW.below (zF W 3 #[.int .i64 0])) hway [0] (by simp) (fun y hy => by simp at hy; subst hy; show 0 < R.dirty.length; omega) W.heap.size _ (Own.made W _ _) hcell);rw [show ([0] : List Nat).length = 1 from rfl] at TC;have H := Lh h;have HI := Lh hi;have i7 : ¬ 7 < (i : Int) := by omega
 unfold RS.srE RS.sr;clear h hok h1 h2 h3 h4 hcell hway hx;cases hbg : R.big [0] with
 | true =>
   rw [hbg] at BG;clear hbg;go_enter Tryz.func33, Tryz.ntmps33;go_wp2_with (go_at_call 93; refine BG.out.mono ?_; rintro e w2 ⟨rfl, hb2⟩; have B2 := Lh (then_ (zF w 3 #[.int .i64 0]) hb2 (by simp)); clear hb2)
   go_ret;exact ⟨rfl, H.out.below B2.out, Chg.of B2.out⟩
 | false =>
   rw [hbg] at BG;clear hbg;go_enter Tryz.func33, Tryz.ntmps33;go_upto_region 5 with (go_at_call 93; refine BG.out.mono ?_; rintro e w2 ⟨rfl, hb2⟩; have B2 := Lh (then_ (zF w 3 #[.int .i64 0]) hb2 (by simp)); clear hb2)
   have H2 := H.out.below B2.out;have hx0 : w2.cell? ⟨p, 16 + i, none⟩ = some (.int .u64 (R.way.roots i : Int)) := by rw [H2.own.at_.1, zI7 _ _ _ _ _ _ _ _ _ _ _ hi]
   have hf0 := H2.own.at_.2.1 (16 + i);have H3 := Lh (H2.setRoot hi x);have C3 : Chg (RT w B) w (w2.setCell ⟨p, 16 + i, none⟩ (.int .u64 (x : Int))) := yF (Chg.of B2.out) (vT H2.base H2.own (.inl rfl));replace C3 := Lh C3;clear H2;go_upto_region 6 with fail;go_name_world W3 hW3;rw [hW3] at H3 C3;clear hW3 hx0 hf0;go_wp2_with (go_at_call 95; refine (TC.out _ H3.out).mono ?_; rintro e w5 ⟨rfl, h5, hc5⟩; have H5 := Lh h5; have C5 := Lh (yF (C3.out.trans (Chg.of (S := fun _ => False) (zF W3 3 #[.int .i64 0])) fun b _ e => e.elim) hc5); clear h5 hc5)
   go_ret;exact ⟨rfl, H5.out, C5.out⟩
end
end
section
def RS.abort (R : RS) : RS := { R with way := R.sure, dirty := List.replicate R.most false }
def RS.keep (R : RS) : RS := { R with sure := R.way, dirty := List.replicate R.most false }
def RS.alNo (R : RS) : Nat := if R.way.free = [] then R.way.kinds.length else R.way.first
def RS.grow (R : RS) : RS := if R.way.free = [] then { R with way := { R.way with kinds := R.way.kinds ++ [0], rooms := R.way.rooms ++ [⟨#[]⟩] } } else { R with way := { R.way with free := R.way.free.take (R.way.free.length - 1) } }
def RS.laid (G : RS) (no k : Nat) (F : ByteArray) : RS := { G with way := { G.way with kinds := G.way.kinds.set no k, rooms := G.way.rooms.set no F } }
def RS.alK (R : RS) (k : Nat) : RS := (R.grow.laid R.alNo k (fl ⟨#[]⟩)).touch [R.alNo, 0]
def RS.more (G : RS) (no : Nat) : RS := { G with way := { G.way with free := G.way.free ++ [no] } }
def RS.relK (R : RS) (no : Nat) : RS := ((R.laid no 255 (yI R.way.first)).more no).touch [no, 0]
end
section
theorem Qu (w : World) (B : Nat) (T : TypeId) : w.ownsRow B T 1 (.slice none 0 0) 0 [] := World.ownsRow_nil _ _ _ _
section
variable {w w' : World} {B : Nat} {vk vr vf : Value} {s : RSt}
theorem zA9 {T : TypeId} {v : Value} {l : List Value} {n : Nat} (h : w.ownsRow B T 1 v n l) : (v = .slice none 0 0 /\ n = 0 /\ l = []) \/ ∃ g cp, v = .slice (some ⟨g, 0, none⟩) n cp /\ g < w.heap.size /\ ∀ W, Below w.heap.size w W -> ∀ j u, l[j]? = some u -> W.cell? ((⟨g, 0, none⟩ : Addr).add j) = some u := by
 have h0 := h.1;rcases h.2 with ⟨rfl, h2⟩ | ⟨g, cap, cur, rfl, h1, h2, h3, h4, h5, h6⟩
 · refine .inl ⟨rfl, h2, ?_⟩;rw [h2] at h0;exact List.eq_nil_of_length_eq_zero (by simpa using h0)
 · refine .inr ⟨g, cap, rfl, (h.lt g rfl).2, fun W hW j u hu => ?_⟩;have hj : j < l.length := (List.getElem?_eq_some_iff.1 hu).1;have := World.ownsRow.cellAt h j (by omega);have e : ((⟨g, 0, none⟩ : Addr).add j) = ⟨g, j, none⟩ := by
     unfold Addr.add;split
     · rename_i c
       rw [c]
     · rw [Nat.zero_add]
   rw [e, World.cell?_of_block (a := ⟨g, j, none⟩) (hW.block g (h.lt g rfl).2), this, hu]
theorem Uu {a b : World} (h : a.grownBy b (Value.slice none 0 0).ownBlock) : Below a.heap.size a b :=
 ((Chg.refl (fun _ => False) a).grown h fun q e => by cases e).below (Nat.le_refl _) fun q e => e.elim
theorem xO {q : Nat} {T : TypeId} {v : Value} {l : List Value} {n : Nat} (hq : v.ownBlock ≠ some q) : ∀ (vs : List Value) (i : Nat) (w : World), w.ownsRow B T 1 v n l -> (w.setCells q i vs).ownsRow B T 1 v n l
 | [], _, _, h => h
 | u :: vs, i, w, h => xO hq vs (i + 1) _ (ownsRow_setCell_other (a := ⟨q, i, none⟩) h hq u)
theorem zC3 (l : List Nat) : ∀ u ∈ yE l, u.oneCell' = true := fun u hu => by
 obtain ⟨x, -, rfl⟩ := List.mem_map.1 hu;rfl
theorem zKs (l : List ByteArray) : ∀ u ∈ xL l, u.oneCell' = true := fun u hu => by
 obtain ⟨x, -, rfl⟩ := List.mem_map.1 hu;rfl
set_option maxRecDepth 10000 in
set_option maxHeartbeats 1000000 in
theorem Jo (h : vU w B vk vr vf s) (hk : 1 <= s.kinds.length /\ s.kinds.length <= 1000000) (hr : 1 <= s.rooms.length /\ s.rooms.length <= 1000000) (hf : s.free.length <= 1000000) :
   Calls Tryz.prog 92 #[.agg (stC vk vr vf s.roots)] w fun e w' => ∃ vk' vr' vf', e = .returned (.agg (stC vk' vr' vf' s.roots)) /\ vU w' w.heap.size vk' vr' vf' s /\ Below w.heap.size w w' := by
 obtain ⟨i0, hi0, hz0, hz1, hz2⟩ := info_parts Po.info_in;obtain ⟨i1, hi1, hy0, hy1, hy2⟩ := info_parts Pg.info_str;have hkv : (yE s.kinds).length = s.kinds.length * 1 := by simp [yE]
 have hrv : (xL s.rooms).length = s.rooms.length * 1 := by simp [xL]
 have hfv : (yE s.free).length = s.free.length * 1 := by simp [yE]
 rcases zA9 h.k with ⟨-, e, -⟩ | ⟨gk, kc, rfl, hgk, KS⟩
 · omega
 rcases zA9 h.r with ⟨-, e, -⟩ | ⟨gr, rc, rfl, hgr, RS_⟩
 · omega
 obtain ⟨r, hr2⟩ : ∃ r, r = s.roots := ⟨_, rfl⟩
 rw [<- hr2];have HKS := Lh KS;have HRS := Lh RS_;have FS := Lh (zA9 h.f);obtain ⟨fa, fc, rfl, -, -⟩ := zO h.f;obtain ⟨n, hn⟩ : ∃ n, n = s.kinds.length := ⟨_, rfl⟩
 obtain ⟨m, hm⟩ : ∃ m, m = s.rooms.length := ⟨_, rfl⟩
 obtain ⟨q, hq⟩ : ∃ q, q = s.free.length := ⟨_, rfl⟩
 rw [<- hn] at hk hkv ⊢;rw [<- hm] at hr hrv ⊢;rw [<- hq] at hf hfv FS ⊢;have HN := Lh (And.intro hn (And.intro hm (And.intro hq hr2)));have O1 := Own.made w 38 (stC (.slice (some ⟨gk, 0, none⟩) n kc) (.slice (some ⟨gr, 0, none⟩) m rc) (.slice fa q fc) r);clear h KS RS_ hr2 hn hm hq;unfold stC at O1 ⊢;go_enter Tryz.func92, Tryz.ntmps92;go_upto_region 2 with fail;have O1 : Own (((w.alloc (.cells #[.slice (some ⟨gk, 0, none⟩) n kc, .slice (some ⟨gr, 0, none⟩) m rc, .slice fa q fc, .int .u64 (r 0 : Int), .int .u64 (r 1 : Int), .int .u64 (r 2 : Int), .int .u64 (r 3 : Int), .int .u64 (r 4 : Int), .int .u64 (r 5 : Int), .int .u64 (r 6 : Int), .int .u64 (r 7 : Int)] 38)).alloc (.cells #[.slice none 0 0, .slice none 0 0, .slice none 0 0, .int .u64 0, .int .u64 0, .int .u64 0, .int .u64 0, .int .u64 0, .int .u64 0, .int .u64 0, .int .u64 0] 38)).alloc (.cells #[.slice none 0 0, .slice none 0 0, .slice none 0 0, .int .u64 (r 0 : Int), .int .u64 (r 1 : Int), .int .u64 (r 2 : Int), .int .u64 (r 3 : Int), .int .u64 (r 4 : Int), .int .u64 (r 5 : Int), .int .u64 (r 6 : Int), .int .u64 (r 7 : Int)] 38)) w.heap.size 38 #[.slice (some ⟨gk, 0, none⟩) n kc, .slice (some ⟨gr, 0, none⟩) m rc, .slice fa q fc, .int .u64 (r 0 : Int), .int .u64 (r 1 : Int), .int .u64 (r 2 : Int), .int .u64 (r 3 : Int), .int .u64 (r 4 : Int), .int .u64 (r 5 : Int), .int .u64 (r 6 : Int), .int .u64 (r 7 : Int)] := (O1.more _).more _;have O2 : Own (((w.alloc (.cells #[.slice (some ⟨gk, 0, none⟩) n kc, .slice (some ⟨gr, 0, none⟩) m rc, .slice fa q fc, .int .u64 (r 0 : Int), .int .u64 (r 1 : Int), .int .u64 (r 2 : Int), .int .u64 (r 3 : Int), .int .u64 (r 4 : Int), .int .u64 (r 5 : Int), .int .u64 (r 6 : Int), .int .u64 (r 7 : Int)] 38)).alloc (.cells #[.slice none 0 0, .slice none 0 0, .slice none 0 0, .int .u64 0, .int .u64 0, .int .u64 0, .int .u64 0, .int .u64 0, .int .u64 0, .int .u64 0, .int .u64 0] 38)).alloc (.cells #[.slice none 0 0, .slice none 0 0, .slice none 0 0, .int .u64 (r 0 : Int), .int .u64 (r 1 : Int), .int .u64 (r 2 : Int), .int .u64 (r 3 : Int), .int .u64 (r 4 : Int), .int .u64 (r 5 : Int), .int .u64 (r 6 : Int), .int .u64 (r 7 : Int)] 38)) (w.heap.size + 1) 38 #[.slice none 0 0, .slice none 0 0, .slice none 0 0, .int .u64 0, .int .u64 0, .int .u64 0, .int .u64 0, .int .u64 0, .int .u64 0, .int .u64 0, .int .u64 0] := (Own.made_at (by simp)).more _
 have O3 : Own (((w.alloc (.cells #[.slice (some ⟨gk, 0, none⟩) n kc, .slice (some ⟨gr, 0, none⟩) m rc, .slice fa q fc, .int .u64 (r 0 : Int), .int .u64 (r 1 : Int), .int .u64 (r 2 : Int), .int .u64 (r 3 : Int), .int .u64 (r 4 : Int), .int .u64 (r 5 : Int), .int .u64 (r 6 : Int), .int .u64 (r 7 : Int)] 38)).alloc (.cells #[.slice none 0 0, .slice none 0 0, .slice none 0 0, .int .u64 0, .int .u64 0, .int .u64 0, .int .u64 0, .int .u64 0, .int .u64 0, .int .u64 0, .int .u64 0] 38)).alloc (.cells #[.slice none 0 0, .slice none 0 0, .slice none 0 0, .int .u64 (r 0 : Int), .int .u64 (r 1 : Int), .int .u64 (r 2 : Int), .int .u64 (r 3 : Int), .int .u64 (r 4 : Int), .int .u64 (r 5 : Int), .int .u64 (r 6 : Int), .int .u64 (r 7 : Int)] 38)) (w.heap.size + 1 + 1) 38 #[.slice none 0 0, .slice none 0 0, .slice none 0 0, .int .u64 (r 0 : Int), .int .u64 (r 1 : Int), .int .u64 (r 2 : Int), .int .u64 (r 3 : Int), .int .u64 (r 4 : Int), .int .u64 (r 5 : Int), .int .u64 (r 6 : Int), .int .u64 (r 7 : Int)] := Own.made_at (by simp);go_name_world W0 hW0;rw [hW0] at O1 O2 O3;have B0 : Below w.heap.size w W0 := hW0 ▸ ((zF _ _ _).alloc (by simp) _).alloc (by simp; omega) _;clear hW0;have HO1 := Lh O1;have HO2 := Lh O2;have HO3 := Lh O3;have HB0 := Lh B0;have zz := O3.in_;obtain ⟨q1, q2, q3⟩ := O1.at_;obtain ⟨p1, p2, p3⟩ := O3.at_;clear O1 O2 O3 B0;go_upto_region 3 with (at_builtin; refine wpList_append_own_at _ rfl _ _ 33 rfl w.heap.size 3 i0 (.int .i64 0) 1 8 Tryz.underlying33 hi0 hz0 hz1 hz2 rfl (by decide) (.slice none 0 0) 0 [] rfl (Qu _ _ _) ⟨gk, 0, none⟩ n kc (yE s.kinds) rfl hkv (HKS.out _ HB0.out) (zC3 _) (by unfold maxLen; omega) (by omega) (by omega) ?_; intro v1 y1 hown1 hgr1 _ _; rw [Nat.zero_add, List.nil_append] at hown1; have G1 := Lh (Uu hgr1); clear hgr1; have R1 := Lh hown1; obtain ⟨a1, c1, rfl, -, -⟩ := zO hown1; clear hown1; obtain ⟨q1, q2, q3⟩ := (HO1.out.keep G1.out).at_; obtain ⟨p1, p2, p3⟩ := (HO3.out.keep G1.out).at_)
 have s1 := HO3.out.keep G1.out;have s2 := (HO1.out.keep G1.out).apart (q := w.heap.size + 1 + 1) (by omega) 0 (.slice a1 n c1);have s3 := (HO2.out.keep G1.out).apart (q := w.heap.size + 1 + 1) (by omega) 0 (.slice a1 n c1);have s5 : Below w.heap.size w (y1.setCell ⟨w.heap.size + 1 + 1, 0, none⟩ (.slice a1 n c1)) := ((Chg.of (S := fun _ => False) (then_ HB0.out G1.out HB0.out.size)).set ⟨w.heap.size + 1 + 1, 0, none⟩ (.inr (by show w.heap.size <= w.heap.size + 1 + 1; omega)) _).below (Nat.le_refl _) fun q e => e.elim
 have n1 := ownsRow_setCell_other (a := ⟨w.heap.size + 1 + 1, 0, none⟩) R1.out (zZ R1.out s1 (by decide)) (.slice a1 n c1);have s4 : Own (y1.setCell ⟨w.heap.size + 1 + 1, 0, none⟩ (.slice a1 n c1)) (w.heap.size + 1 + 1) 38 #[.slice a1 n c1, .slice none 0 0, .slice none 0 0, .int .u64 (r 0 : Int), .int .u64 (r 1 : Int), .int .u64 (r 2 : Int), .int .u64 (r 3 : Int), .int .u64 (r 4 : Int), .int .u64 (r 5 : Int), .int .u64 (r 6 : Int), .int .u64 (r 7 : Int)] := s1.put 0 _;go_name_world W1 hW1;rw [hW1] at s2 s3 s4 s5 n1;clear hW1 s1  q1 q2 q3 p1 p2 p3;have U1 := Lh s2;have V1 := Lh s3;have X1 := Lh s4;have Y1 := Lh s5;replace n1 := Lh n1;have z1 : w.heap.size + 1 + 1 < W1.heap.size := s4.in_;obtain ⟨q1, q2, q3⟩ := s2.at_;obtain ⟨p1, p2, p3⟩ := s4.at_;clear s2 s3 s4 s5;go_upto_region 4 with (at_builtin; refine wpList_append_own_at _ rfl _ _ 34 rfl w.heap.size 9 i1 (.string ⟨#[]⟩) 1 16 Tryz.underlying34 hi1 hy0 hy1 hy2 rfl (by decide) (.slice none 0 0) 0 [] rfl (Qu _ _ _) ⟨gr, 0, none⟩ m rc (xL s.rooms) rfl hrv (HRS.out _ Y1.out) (zKs _) (by unfold maxLen; omega) (by omega) (by omega) ?_; intro v1 y2 hown1 hgr1 _ _; rw [Nat.zero_add, List.nil_append] at hown1; have G2 := Lh (Uu hgr1); clear hgr1; have R2 := Lh hown1; obtain ⟨a2, c2, rfl, -, -⟩ := zO hown1; clear hown1; obtain ⟨q1, q2, q3⟩ := (U1.out.keep G2.out).at_; obtain ⟨p1, p2, p3⟩ := (X1.out.keep G2.out).at_)
 have s1 := X1.out.keep G2.out;have s2 := (U1.out.keep G2.out).apart (q := w.heap.size + 1 + 1) (by omega) 1 (.slice a2 m c2);have s3 := (V1.out.keep G2.out).apart (q := w.heap.size + 1 + 1) (by omega) 1 (.slice a2 m c2);have s5 : Below w.heap.size w (y2.setCell ⟨w.heap.size + 1 + 1, 1, none⟩ (.slice a2 m c2)) := ((Chg.of (S := fun _ => False) (then_ Y1.out G2.out Y1.out.size)).set ⟨w.heap.size + 1 + 1, 1, none⟩ (.inr (by show w.heap.size <= w.heap.size + 1 + 1; omega)) _).below (Nat.le_refl _) fun q e => e.elim
 have n2 := ownsRow_setCell_other (a := ⟨w.heap.size + 1 + 1, 1, none⟩) R2.out (zZ R2.out s1 (by decide)) (.slice a2 m c2);have m1 := Po.ownsRow_keepB n1.out fun g hg => G2.out.block g (n1.out.lt g hg).2
 have t1 := ownsRow_setCell_other (a := ⟨w.heap.size + 1 + 1, 1, none⟩) m1 (zZ m1 s1 (by decide)) (.slice a2 m c2);have s4 : Own (y2.setCell ⟨w.heap.size + 1 + 1, 1, none⟩ (.slice a2 m c2)) (w.heap.size + 1 + 1) 38 #[.slice a1 n c1, .slice a2 m c2, .slice none 0 0, .int .u64 (r 0 : Int), .int .u64 (r 1 : Int), .int .u64 (r 2 : Int), .int .u64 (r 3 : Int), .int .u64 (r 4 : Int), .int .u64 (r 5 : Int), .int .u64 (r 6 : Int), .int .u64 (r 7 : Int)] := s1.put 1 _;go_name_world W2 hW2;rw [hW2] at s2 s3 s4 s5 n2 t1;clear hW2 s1 m1 q1 q2 q3 p1 p2 p3;have U2 := Lh s2;have V2 := Lh s3;have X2 := Lh s4;have Y2 := Lh s5;replace n2 := Lh n2;replace n1 := Lh t1;clear t1;have z2 : w.heap.size + 1 + 1 < W2.heap.size := s4.in_;obtain ⟨q1, q2, q3⟩ := s2.at_;obtain ⟨p1, p2, p3⟩ := s4.at_;clear s2 s3 s4 s5;rcases FS.out with ⟨e1, e2, e3⟩ | ⟨g9, c9, e1, hg9, KS9⟩
 · obtain ⟨rfl, rfl, rfl⟩ := Value.slice.inj e1;clear e1;go_upto_region 5 with (at_builtin; refine wpList_append_own_none _ rfl _ _ 33 rfl w.heap.size 3 i0 1 Tryz.underlying33 hi0 (.slice none 0 0) 0 [] rfl (Qu _ _ _) rfl ?_)
   have s4 := X2.out.put 2 (.slice none 0 0);have s2 := U2.out.apart (q := w.heap.size + 1 + 1) (by omega) 2 (.slice none 0 0);have s3 := V2.out.apart (q := w.heap.size + 1 + 1) (by omega) 2 (.slice none 0 0);have s5 : Below w.heap.size w (W2.setCell ⟨w.heap.size + 1 + 1, 2, none⟩ (.slice none 0 0)) := ((Chg.of (S := fun _ => False) Y2.out).set ⟨w.heap.size + 1 + 1, 2, none⟩ (.inr (by show w.heap.size <= w.heap.size + 1 + 1; omega)) _).below (Nat.le_refl _) fun q e => e.elim
   have t1 := ownsRow_setCell_other (a := ⟨w.heap.size + 1 + 1, 2, none⟩) n1.out (zZ n1.out X2.out (by decide)) (.slice none 0 0);have t2 := ownsRow_setCell_other (a := ⟨w.heap.size + 1 + 1, 2, none⟩) n2.out (zZ n2.out X2.out (by decide)) (.slice none 0 0);replace s4 : Own (W2.setCell ⟨w.heap.size + 1 + 1, 2, none⟩ (.slice none 0 0)) (w.heap.size + 1 + 1) 38 #[.slice a1 n c1, .slice a2 m c2, .slice none 0 0, .int .u64 (r 0 : Int), .int .u64 (r 1 : Int), .int .u64 (r 2 : Int), .int .u64 (r 3 : Int), .int .u64 (r 4 : Int), .int .u64 (r 5 : Int), .int .u64 (r 6 : Int), .int .u64 (r 7 : Int)] := s4;go_name_world W3 hW3;rw [hW3] at s2 s3 s4 s5 t1 t2;clear hW3 q1 q2 q3 p1 p2 p3;obtain ⟨p1, p2, p3⟩ := s4.at_;obtain ⟨v1, v2, v3⟩ := s3.at_;have T1 := Lh t1;have T2 := Lh t2;have B5 := Lh s5;have S3 := Lh s3;clear s2 s4 s5 t1 t2 s3;go_wp2;refine bodyPost_ret (by simp [results, Tryz.results92, go_sem, *]) rfl ⟨.slice a1 n c1, .slice a2 m c2, .slice none 0 0, rfl, ?_, ?_⟩
   · have NN := HN.out;have x1 := xO (zZ T1.out S3.out (by decide)) [.slice a1 n c1, .slice a2 m c2, .slice none 0 0, .int .u64 (r 0 : Int), .int .u64 (r 1 : Int), .int .u64 (r 2 : Int), .int .u64 (r 3 : Int), .int .u64 (r 4 : Int), .int .u64 (r 5 : Int), .int .u64 (r 6 : Int), .int .u64 (r 7 : Int)] 0 _ T1.out;have x2 := xO (zZ T2.out S3.out (by decide)) [.slice a1 n c1, .slice a2 m c2, .slice none 0 0, .int .u64 (r 0 : Int), .int .u64 (r 1 : Int), .int .u64 (r 2 : Int), .int .u64 (r 3 : Int), .int .u64 (r 4 : Int), .int .u64 (r 5 : Int), .int .u64 (r 6 : Int), .int .u64 (r 7 : Int)] 0 _ T2.out;rw [NN.1] at x1;rw [NN.2.1] at x2;refine ⟨by rw [NN.1]; exact x1, by rw [NN.2.1]; exact x2, ?_, fun g _ e => by cases e⟩;rw [e3, <- NN.2.2.1];exact Qu _ _ _
   · exact (xU (S := fun _ => False) (b := w.heap.size + 1) (.inr (by omega)) [.slice a1 n c1, .slice a2 m c2, .slice none 0 0, .int .u64 (r 0 : Int), .int .u64 (r 1 : Int), .int .u64 (r 2 : Int), .int .u64 (r 3 : Int), .int .u64 (r 4 : Int), .int .u64 (r 5 : Int), .int .u64 (r 6 : Int), .int .u64 (r 7 : Int)] W3 0 (Chg.of B5.out)).below (Nat.le_refl _) fun q e => e.elim
 · obtain ⟨rfl, -, rfl⟩ := Value.slice.inj e1;have HKS9 := Lh KS9;have LT1 := Lh (fun g hg => (n1.out.lt g hg).2);clear e1 KS9;go_upto_region 5 with (at_builtin; refine wpList_append_own_at _ rfl _ _ 33 rfl w.heap.size 3 i0 (.int .i64 0) 1 8 Tryz.underlying33 hi0 hz0 hz1 hz2 rfl (by decide) (.slice none 0 0) 0 [] rfl (Qu _ _ _) ⟨g9, 0, none⟩ q fc (yE s.free) rfl hfv (HKS9.out _ Y2.out) (zC3 _) (by unfold maxLen; omega) (by omega) (by omega) ?_; intro v1 y3 hown1 hgr1 _ hloc; have L3 := Lh hloc; clear hloc; rw [Nat.zero_add, List.nil_append] at hown1; have G3 := Lh (Uu hgr1); clear hgr1; have R3 := Lh hown1; obtain ⟨a3, c3, rfl, -, -⟩ := zO hown1; clear hown1; obtain ⟨q1, q2, q3⟩ := (U2.out.keep G3.out).at_; obtain ⟨p1, p2, p3⟩ := (X2.out.keep G3.out).at_)
   have s1 := X2.out.keep G3.out;have s2 := (U2.out.keep G3.out).apart (q := w.heap.size + 1 + 1) (by omega) 2 (.slice a3 q c3);have s3 := (V2.out.keep G3.out).apart (q := w.heap.size + 1 + 1) (by omega) 2 (.slice a3 q c3);have s5 : Below w.heap.size w (y3.setCell ⟨w.heap.size + 1 + 1, 2, none⟩ (.slice a3 q c3)) := ((Chg.of (S := fun _ => False) (then_ Y2.out G3.out Y2.out.size)).set ⟨w.heap.size + 1 + 1, 2, none⟩ (.inr (by show w.heap.size <= w.heap.size + 1 + 1; omega)) _).below (Nat.le_refl _) fun q e => e.elim
   have n3 := ownsRow_setCell_other (a := ⟨w.heap.size + 1 + 1, 2, none⟩) R3.out (zZ R3.out s1 (by decide)) (.slice a3 q c3);have m1 := Po.ownsRow_keepB n1.out fun g hg => G3.out.block g (n1.out.lt g hg).2
   have t1 := ownsRow_setCell_other (a := ⟨w.heap.size + 1 + 1, 2, none⟩) m1 (zZ m1 s1 (by decide)) (.slice a3 q c3);have m2 := Po.ownsRow_keepB n2.out fun g hg => G3.out.block g (n2.out.lt g hg).2
   have t2 := ownsRow_setCell_other (a := ⟨w.heap.size + 1 + 1, 2, none⟩) m2 (zZ m2 s1 (by decide)) (.slice a3 q c3);have s4 : Own (y3.setCell ⟨w.heap.size + 1 + 1, 2, none⟩ (.slice a3 q c3)) (w.heap.size + 1 + 1) 38 #[.slice a1 n c1, .slice a2 m c2, .slice a3 q c3, .int .u64 (r 0 : Int), .int .u64 (r 1 : Int), .int .u64 (r 2 : Int), .int .u64 (r 3 : Int), .int .u64 (r 4 : Int), .int .u64 (r 5 : Int), .int .u64 (r 6 : Int), .int .u64 (r 7 : Int)] := s1.put 2 _;go_name_world W3 hW3;rw [hW3] at s2 s3 s4 s5 n3 t1 t2;clear hW3 s1 m1 m2 q1 q2 q3 p1 p2 p3;have U3 := Lh s2;have V3 := Lh s3;have X3 := Lh s4;have Y3 := Lh s5;replace n3 := Lh n3;replace n1 := Lh t1;clear t1;replace n2 := Lh t2;clear t2;have z3 : w.heap.size + 1 + 1 < W3.heap.size := s4.in_;obtain ⟨q1, q2, q3⟩ := s2.at_;obtain ⟨p1, p2, p3⟩ := s4.at_;clear s2 s3 s4 s5;obtain ⟨v1, v2, v3⟩ := V3.out.at_;go_wp2;refine bodyPost_ret (by simp [results, Tryz.results92, go_sem, *]) rfl ⟨.slice a1 n c1, .slice a2 m c2, .slice a3 q c3, rfl, ?_, ?_⟩
   · have NN := HN.out;have x1 := xO (zZ n1.out V3.out (by decide)) [.slice a1 n c1, .slice a2 m c2, .slice a3 q c3, .int .u64 (r 0 : Int), .int .u64 (r 1 : Int), .int .u64 (r 2 : Int), .int .u64 (r 3 : Int), .int .u64 (r 4 : Int), .int .u64 (r 5 : Int), .int .u64 (r 6 : Int), .int .u64 (r 7 : Int)] 0 _ n1.out;have x2 := xO (zZ n2.out V3.out (by decide)) [.slice a1 n c1, .slice a2 m c2, .slice a3 q c3, .int .u64 (r 0 : Int), .int .u64 (r 1 : Int), .int .u64 (r 2 : Int), .int .u64 (r 3 : Int), .int .u64 (r 4 : Int), .int .u64 (r 5 : Int), .int .u64 (r 6 : Int), .int .u64 (r 7 : Int)] 0 _ n2.out;have x3 := xO (zZ n3.out V3.out (by decide)) [.slice a1 n c1, .slice a2 m c2, .slice a3 q c3, .int .u64 (r 0 : Int), .int .u64 (r 1 : Int), .int .u64 (r 2 : Int), .int .u64 (r 3 : Int), .int .u64 (r 4 : Int), .int .u64 (r 5 : Int), .int .u64 (r 6 : Int), .int .u64 (r 7 : Int)] 0 _ n3.out;rw [NN.1] at x1;rw [NN.2.1] at x2;rw [NN.2.2.1] at x3;refine ⟨by rw [NN.1]; exact x1, by rw [NN.2.1]; exact x2, by rw [NN.2.2.1]; exact x3, fun g hg hg3 => ?_⟩;have h1 := LT1.out g hg;rcases L3.out with e | e
     · rw [e] at hg3; cases hg3
     · rw [e] at hg3; injection hg3 with hg3; omega
   · exact (xU (S := fun _ => False) (b := w.heap.size + 1) (.inr (by omega)) [.slice a1 n c1, .slice a2 m c2, .slice a3 q c3, .int .u64 (r 0 : Int), .int .u64 (r 1 : Int), .int .u64 (r 2 : Int), .int .u64 (r 3 : Int), .int .u64 (r 4 : Int), .int .u64 (r 5 : Int), .int .u64 (r 6 : Int), .int .u64 (r 7 : Int)] W3 0 (Chg.of Y3.out)).below (Nat.le_refl _) fun q e => e.elim
end
end
end Go.Proofs.YtndhmidgnpobjaaGreatDoor
