import Derived.Test.YthijgebmoadgkaaGreatDoorPgvE
import Derived.Test.YthijgebmoadgkaaGreatDoorPguD
set_option linter.unusedVariables false
set_option linter.unusedSimpArgs false
namespace Go.Proofs.YthijgebmoadgkaaGreatDoor
open Go.ChangeShapes Go.WideShapes Go.ChangeAt Go.RowKit
def PS.kindL (P : PS) (n : Nat) : List Nat := (List.range n).map fun i => (P.view i).1.1
def PS.roomL (P : PS) (n : Nat) : List ByteArray := (List.range n).map fun i => (P.view i).1.2
theorem zEv (P : PS) (n : Nat) : P.kindL (n + 1) = P.kindL n ++ [(P.view n).1.1] := by simp [PS.kindL, List.range_succ]
theorem zE5 (P : PS) (n : Nat) : P.roomL (n + 1) = P.roomL n ++ [(P.view n).1.2] := by simp [PS.roomL, List.range_succ]
theorem zHw (P : PS) (n : Nat) : (mU (P.kindL n)).length = n := by simp [PS.kindL, mU]
theorem zH0 (P : PS) (n : Nat) : (Jk (P.roomL n)).length = n := by simp [PS.roomL, Jk]
section
variable {w w' : World} {B B0 Bp d p c : Nat} {P : PS}
theorem zF.keepS (h : zF w B Bp d p c P) {S : Nat -> Prop} (hc : Chg S w w') (hS : ∀ q, S q -> ∃ T cs, Own w q T cs /\ PgT T /\ ∀ x, cs[0]? ≠ some (.int .u8 x)) : zF w' B Bp d p c P := by
 obtain ⟨sb, mb, sc, wv, lg, lm, pl, R, h⟩ := h;refine ⟨sb, mb, sc, wv, lg, lm, pl, R, h.keep hc fun q hq e => ?_⟩;obtain ⟨T, cs, ho, hT, h0⟩ := hS q e;exact h.own_apart ho hT h0 hq
theorem zKt {T : TypeId} {v : Value} {l : List Value} {n : Nat} (h : w.ownsRow B T 1 v n l) (hT : PgT T) (h0 : ∀ x, l[0]? ≠ some (.int .u8 x)) (hn : v.ownBlock ≠ none -> 0 < l.length) : ∀ q, v.ownBlock = some q -> ∃ T' cs, Own w q T' cs /\ PgT T' /\ ∀ x, cs[0]? ≠ some (.int .u8 x) := fun q hq => by
 obtain ⟨-, cur, hb⟩ := jW h hq;refine ⟨T, cur, hb, hT, fun x hx => ?_⟩;have hl := hn (by rw [hq]; simp);obtain ⟨a, cp, -, -, hk⟩ := yD h;obtain ⟨g, -, hg, hc, -⟩ := hk 0 hl;obtain rfl : g = q := by rw [hq] at hg; injection hg with hg; exact hg.symm
 have h1 := (show Own w g T cur from hb).at_.1 0;rw [hc, hx] at h1;exact h0 x (by rw [List.getElem?_eq_getElem hl]; exact h1)
theorem zGi {T : TypeId} {v : Value} {l : List Value} {n B1 : Nat} (h : w.ownsRow B1 T 1 v n l) (hc : Chg (Po.PT w Bp) w w') (h1 : T ≠ 255) (h2 : T ≠ 269) : w'.ownsRow B1 T 1 v n l := Po.ownsRow_keepB h fun g hg => by
 obtain ⟨-, cur, hb⟩ := jW h hg;exact hc.block g (h.lt g hg).2 fun k => by
   rcases k.2 with ⟨es, ck, e⟩ | ⟨cs', e⟩ | ⟨cs', e⟩
   · rw [hb] at e; cases e
   · unfold Own at e; rw [hb] at e; injection e with e; injection e with e1 e2; exact h1 e2
   · unfold Own at e; rw [hb] at e; injection e with e; injection e with e1 e2; exact h2 e2
theorem zE2 (h : zF w B Bp d p c P) (hd : P.s.down = true) : Calls Tryz.prog 19 #[.pointer (some ⟨p, 0, none⟩)] w fun e w' => e = .returned (.tuple #[.agg #[.slice none 0 0, .slice none 0 0, .slice none 0 0, .int .u64 0, .int .u64 0, .int .u64 0, .int .u64 0, .int .u64 0, .int .u64 0, .int .u64 0, .int .u64 0], .bool false]) /\ Below w.heap.size w w' := by
 have PG := Lh (fun W (hb : Below w.heap.size w W) => Yz (h.below hb) hd);have RTo := Lh (fun W (hb : Below w.heap.size w W) => (show Calls Tryz.prog 46 #[.pointer (some ⟨p, 0, none⟩), .int .i64 0] W fun e w' => e = .returned (.tuple #[.int .u64 0, .int .i64 11]) /\ Below W.heap.size W w' from zHt (h.below hb) hd 0 (by decide)));have B1 : Below w.heap.size w (w.alloc (.cells #[.slice none 0 0, .slice none 0 0, .slice none 0 0, .int .u64 0, .int .u64 0, .int .u64 0, .int .u64 0, .int .u64 0, .int .u64 0, .int .u64 0, .int .u64 0] 38)) := zG _ _ _;have B2 : Below w.heap.size w ((w.alloc (.cells #[.slice none 0 0, .slice none 0 0, .slice none 0 0, .int .u64 0, .int .u64 0, .int .u64 0, .int .u64 0, .int .u64 0, .int .u64 0, .int .u64 0, .int .u64 0] 38)).alloc (.cells #[.slice none 0 0, .slice none 0 0, .slice none 0 0, .int .u64 0, .int .u64 0, .int .u64 0, .int .u64 0, .int .u64 0, .int .u64 0, .int .u64 0, .int .u64 0] 38)) := B1.alloc (by simp) _;have O1 : Own ((w.alloc (.cells #[.slice none 0 0, .slice none 0 0, .slice none 0 0, .int .u64 0, .int .u64 0, .int .u64 0, .int .u64 0, .int .u64 0, .int .u64 0, .int .u64 0, .int .u64 0] 38)).alloc (.cells #[.slice none 0 0, .slice none 0 0, .slice none 0 0, .int .u64 0, .int .u64 0, .int .u64 0, .int .u64 0, .int .u64 0, .int .u64 0, .int .u64 0, .int .u64 0] 38)) w.heap.size 38 #[.slice none 0 0, .slice none 0 0, .slice none 0 0, .int .u64 0, .int .u64 0, .int .u64 0, .int .u64 0, .int .u64 0, .int .u64 0, .int .u64 0, .int .u64 0] := (Own.made w _ _).more _
 have O2 : Own ((w.alloc (.cells #[.slice none 0 0, .slice none 0 0, .slice none 0 0, .int .u64 0, .int .u64 0, .int .u64 0, .int .u64 0, .int .u64 0, .int .u64 0, .int .u64 0, .int .u64 0] 38)).alloc (.cells #[.slice none 0 0, .slice none 0 0, .slice none 0 0, .int .u64 0, .int .u64 0, .int .u64 0, .int .u64 0, .int .u64 0, .int .u64 0, .int .u64 0, .int .u64 0] 38)) (w.heap.size + 1) 38 #[.slice none 0 0, .slice none 0 0, .slice none 0 0, .int .u64 0, .int .u64 0, .int .u64 0, .int .u64 0, .int .u64 0, .int .u64 0, .int .u64 0, .int .u64 0] := Own.made_at (by simp);clear h hd B1;go_enter Tryz.func19, Tryz.ntmps19;go_upto_region 2 with fail;go_name_world W0 hW0;rw [hW0] at B2 O1 O2;clear hW0;have HB := Lh B2;have H1 := Lh O1;have H2 := Lh O2;clear B2 O1 O2;go_upto_region 3 with fail;go_loopw [5] (fun i wr => i = .int .i64 0 /\ wr = W0) (fun i wr => 0)
 case atStart => exact ⟨rfl, rfl⟩
 case round =>
   obtain ⟨rfl, rfl⟩ := hrel;go_upto_region 11 with (go_at_call 43; refine (PG.out _ HB.out).mono ?_; rintro e w' ⟨rfl, rfl⟩)
   go_loopw [9] (fun i wr1 => i = .int .i64 0 /\ wr1 = wr) (fun i wr1 => 0)
   case atStart => exact ⟨rfl, rfl⟩
   case round =>
     obtain ⟨rfl, rfl⟩ := hrel;go_wp2_with (go_at_call 46; refine (RTo.out _ HB.out).mono ?_; rintro e w5 ⟨rfl, hb5⟩; have B5 := Lh (then_ HB.out hb5 HB.out.size); obtain ⟨q1, q2, q3⟩ := (H1.out.keep hb5).at_; obtain ⟨p1, p2, p3⟩ := (H2.out.keep hb5).at_; clear hb5)
     refine bodyPost_ret (by simp [results, Tryz.results19, go_sem, *]) rfl ⟨rfl, ?_⟩;exact (vB (S := fun _ => False) (b := w.heap.size) (.inr (Nat.le_refl _)) [.slice none 0 0, .slice none 0 0, .slice none 0 0, .int .u64 0, .int .u64 0, .int .u64 0, .int .u64 0, .int .u64 0, .int .u64 0, .int .u64 0, .int .u64 0] w5 0 (Chg.of B5.out)).below (Nat.le_refl _) fun q e => e.elim
theorem zLe (vk vr vf : Value) (r : Nat -> Nat) (x : Nat) {k : Nat} (h : k < 8) : (stC vk vr vf r).setIfInBounds (3 + k) (.int .u64 (x : Int)) = stC vk vr vf (fun i => if i = k then x else r i) := by
 rcases Xk h with rfl | rfl | rfl | rfl | rfl | rfl | rfl | rfl <;> rfl
structure Tel (w : World) (b0 Bp n m : Nat) (vk vr : Value) (r : Nat -> Nat) (P : PS) (wr : World) : Prop where
 o2 : Own wr b0 38 #[.slice none 0 0, .slice none 0 0, .slice none 0 0, .int .u64 0, .int .u64 0, .int .u64 0, .int .u64 0, .int .u64 0, .int .u64 0, .int .u64 0, .int .u64 0]
 o4 : Own wr (b0 + 1) 38 (stC vk vr (.slice none 0 0) r)
 k : wr.ownsRow b0 3 1 vk n (mU (P.kindL n))
 r : wr.ownsRow b0 9 1 vr m (Jk (P.roomL m))
 c : Chg (Po.PT w Bp) w wr
theorem Tel.ask {b0 n m : Nat} {vk vr : Value} {r : Nat -> Nat} {wr : World} (h : Tel w b0 Bp n m vk vr r P wr) (hc : Chg (Po.PT wr Bp) wr w') : Tel w b0 Bp n m vk vr r P w' :=
 ⟨yZ hc h.o2 (by decide) (by decide), yZ hc h.o4 (by decide) (by decide), zGi h.k hc (by decide) (by decide), zGi h.r hc (by decide) (by decide), yU h.c hc⟩
theorem zMt (P : PS) (n : Nat) (x : Int) : (mU (P.kindL n))[0]? ≠ some (.int .u8 x) := by
 cases n with
 | zero => simp [PS.kindL, mU]
 | succ n => simp [PS.kindL, mU, List.range_succ_eq_map]
theorem zL7 (P : PS) (n : Nat) (x : Int) : (Jk (P.roomL n))[0]? ≠ some (.int .u8 x) := by
 cases n with
 | zero => simp [PS.roomL, Jk]
 | succ n => simp [PS.roomL, Jk, List.range_succ_eq_map]
theorem zGk {T : TypeId} {v : Value} {l : List Value} {n B1 : Nat} (h : w.ownsRow B1 T 1 v n l) (hn : n = 0 -> v = .slice none 0 0) : v.ownBlock ≠ none -> 0 < l.length := fun hv => by
 have h1 := h.1;by_cases c : n = 0
 · rw [hn c] at hv; exact absurd rfl hv
 · omega
theorem Tel.pushK {b0 n m : Nat} {vk vr v1 : Value} {r : Nat -> Nat} {wr y1 : World} {o : Obj} (h : Tel w b0 Bp n m vk vr r P wr) (hb : b0 = w.heap.size) (hp : zF wr B Bp d p c P) (hn : n = 0 -> vk = .slice none 0 0) (hown : y1.ownsRow b0 3 1 v1 (n + 1) (mU (P.kindL (n + 1)))) (hgr : (wr.alloc o).grownBy y1 vk.ownBlock) :
   Own y1 (b0 + 1) 38 (stC vk vr (.slice none 0 0) r) /\ Tel w b0 Bp (n + 1) m v1 vr r P (y1.setCell ⟨b0 + 1, 0, none⟩ v1) /\ zF (y1.setCell ⟨b0 + 1, 0, none⟩ v1) B Bp d p c P := by
 have C1 : Chg (fun q => vk.ownBlock = some q) wr y1 := ((Chg.refl _ wr).alloc _).grown hgr fun q e => .inl e
 have P1 := hp.keepS C1 (zKt h.k (by unfold PgT; decide) (zMt P n) (zGk h.k hn));have o4 := C1.own h.o4 (vA h.k h.o4 (by decide));have o2 := C1.own h.o2 (vA h.k h.o2 (by decide));have r1 := Po.ownsRow_keepB h.r fun g hg => C1.block g (h.r.lt g hg).2 fun e => zDr h.k h.r (by decide) g e hg
 have c1 : Chg (Po.PT w Bp) w y1 := h.c.trans C1 fun q hq e => by have := (h.k.lt q e).1; omega
 have k1 := ownsRow_setCell_other (a := ⟨b0 + 1, 0, none⟩) hown (vA hown o4 (by decide)) v1;have k2 := ownsRow_setCell_other (a := ⟨b0 + 1, 0, none⟩) r1 (vA r1 o4 (by decide)) v1;refine ⟨o4, ⟨o2.apart (by omega) 0 v1, (o4.put 0 v1).as rfl, k1, k2, c1.trans (yT y1 (b0 + 1) 0 v1) fun q hq e => by have e : q = b0 + 1 := e; omega⟩, P1.keepS (yT y1 (b0 + 1) 0 v1) fun q e => ?_⟩;have e : q = b0 + 1 := e;subst e;refine ⟨_, _, o4, by unfold PgT; decide, fun x hx => ?_⟩;obtain ⟨a, cp, e1, -, -⟩ := yD h.k;rw [e1] at hx;cases hx
theorem Tel.pushR {b0 n m : Nat} {vk vr v1 : Value} {r : Nat -> Nat} {wr y1 : World} {o : Obj} (h : Tel w b0 Bp n m vk vr r P wr) (hb : b0 = w.heap.size) (hp : zF wr B Bp d p c P) (hn : m = 0 -> vr = .slice none 0 0) (hown : y1.ownsRow b0 9 1 v1 (m + 1) (Jk (P.roomL (m + 1)))) (hgr : (wr.alloc o).grownBy y1 vr.ownBlock) :
   Own y1 (b0 + 1) 38 (stC vk vr (.slice none 0 0) r) /\ Tel w b0 Bp n (m + 1) vk v1 r P (y1.setCell ⟨b0 + 1, 1, none⟩ v1) /\ zF (y1.setCell ⟨b0 + 1, 1, none⟩ v1) B Bp d p c P := by
 have C1 : Chg (fun q => vr.ownBlock = some q) wr y1 := ((Chg.refl _ wr).alloc _).grown hgr fun q e => .inl e
 have P1 := hp.keepS C1 (zKt h.r (by unfold PgT; decide) (zL7 P m) (zGk h.r hn));have o4 := C1.own h.o4 (vA h.r h.o4 (by decide));have o2 := C1.own h.o2 (vA h.r h.o2 (by decide));have r1 := Po.ownsRow_keepB h.k fun g hg => C1.block g (h.k.lt g hg).2 fun e => zDr h.r h.k (by decide) g e hg
 have c1 : Chg (Po.PT w Bp) w y1 := h.c.trans C1 fun q hq e => by have := (h.r.lt q e).1; omega
 have k1 := ownsRow_setCell_other (a := ⟨b0 + 1, 1, none⟩) hown (vA hown o4 (by decide)) v1;have k2 := ownsRow_setCell_other (a := ⟨b0 + 1, 1, none⟩) r1 (vA r1 o4 (by decide)) v1;refine ⟨o4, ⟨o2.apart (by omega) 1 v1, (o4.put 1 v1).as rfl, k2, k1, c1.trans (yT y1 (b0 + 1) 1 v1) fun q hq e => by have e : q = b0 + 1 := e; omega⟩, P1.keepS (yT y1 (b0 + 1) 1 v1) fun q e => ?_⟩;have e : q = b0 + 1 := e;subst e;refine ⟨_, _, o4, by unfold PgT; decide, fun x hx => ?_⟩;obtain ⟨a, cp, e1, -, -⟩ := yD h.k;rw [e1] at hx;cases hx
set_option maxRecDepth 10000 in
set_option maxHeartbeats 4000000 in
theorem zFi (h : zF w B Bp d p c P) (hd : P.s.down = false) (hv : ∀ i, i < P.used -> (P.view i).2 = 0) (dd : Nat) (hdd : 6 * P.used + 20 <= dd) (hc : c + dd < 1000000) : Calls Tryz.prog 19 #[.pointer (some ⟨p, 0, none⟩)] w fun e w' => (∃ vk vr, e = .returned (.tuple #[.agg (stC vk vr (.slice none 0 0) P.root), .bool true]) /\ jG w' w.heap.size vk vr (.slice none 0 0) ⟨P.kindL P.used, P.roomL P.used, [], P.root⟩) /\ zF w' B Bp d p (c + dd) P /\ Chg (Po.PT w Bp) w w' := by
 obtain ⟨i0, hi0, hz0, hz1, hz2⟩ := info_parts Po.info_in;obtain ⟨i1, hi1, hy0, hy1, hy2⟩ := info_parts Pg.info_str;have hbs := h.base;have hmo := h.ok.most;have hus := h.ok.used;obtain ⟨n, hn⟩ : ∃ n, n = P.used := ⟨_, rfl⟩
 rw [<- hn] at hv hus hdd ⊢;obtain ⟨rt, hrt⟩ : ∃ rt, rt = P.root := ⟨_, rfl⟩
 rw [<- hrt];have PG := Lh (fun W c (hc : c + 2 < 1000000) (hp : zF W B Bp d p c P) => (show Calls Tryz.prog 43 #[.pointer (some ⟨p, 0, none⟩)] W fun e w' => e = .returned (.int .i64 (n : Int)) /\ Ask W w' B Bp d p (c + 2) P from by rw [hn]; exact Jy hp hd hc));have RD := Lh (fun W c k (hk : k < n) (hc : c + 4 < 1000000) (hp : zF W B Bp d p c P) => (show Calls Tryz.prog 45 #[.pointer (some ⟨p, 0, none⟩), .int .i64 (k : Int)] W fun e w' => e = .returned (.tuple #[.int .i64 ((P.view k).1.1 : Int), .string (P.view k).1.2, .int .i64 0]) /\ Ask W w' B Bp d p (c + 4) P from by
   have := zMn hp hd k (by omega) hc;unfold rdV at this;rw [hv k hk, if_pos rfl, if_pos rfl] at this;exact this))
 have RTo := Lh (fun W c (j : Nat) (hj : j < 8) (hc : c + 2 < 1000000) (hp : zF W B Bp d p c P) => (show Calls Tryz.prog 46 #[.pointer (some ⟨p, 0, none⟩), .int .i64 (j : Int)] W fun e w' => e = .returned (.tuple #[.int .u64 (rt j : Int), .int .i64 0]) /\ Ask W w' B Bp d p (c + 2) P from by rw [hrt]; exact zM1 hp hd j hj hc));have B2 : Below w.heap.size w ((w.alloc (.cells #[.slice none 0 0, .slice none 0 0, .slice none 0 0, .int .u64 0, .int .u64 0, .int .u64 0, .int .u64 0, .int .u64 0, .int .u64 0, .int .u64 0, .int .u64 0] 38)).alloc (.cells #[.slice none 0 0, .slice none 0 0, .slice none 0 0, .int .u64 0, .int .u64 0, .int .u64 0, .int .u64 0, .int .u64 0, .int .u64 0, .int .u64 0, .int .u64 0] 38)) := (zG _ _ _).alloc (by simp) _;have O1 : Own ((w.alloc (.cells #[.slice none 0 0, .slice none 0 0, .slice none 0 0, .int .u64 0, .int .u64 0, .int .u64 0, .int .u64 0, .int .u64 0, .int .u64 0, .int .u64 0, .int .u64 0] 38)).alloc (.cells #[.slice none 0 0, .slice none 0 0, .slice none 0 0, .int .u64 0, .int .u64 0, .int .u64 0, .int .u64 0, .int .u64 0, .int .u64 0, .int .u64 0, .int .u64 0] 38)) w.heap.size 38 #[.slice none 0 0, .slice none 0 0, .slice none 0 0, .int .u64 0, .int .u64 0, .int .u64 0, .int .u64 0, .int .u64 0, .int .u64 0, .int .u64 0, .int .u64 0] := (Own.made w _ _).more _;have O2 : Own ((w.alloc (.cells #[.slice none 0 0, .slice none 0 0, .slice none 0 0, .int .u64 0, .int .u64 0, .int .u64 0, .int .u64 0, .int .u64 0, .int .u64 0, .int .u64 0, .int .u64 0] 38)).alloc (.cells #[.slice none 0 0, .slice none 0 0, .slice none 0 0, .int .u64 0, .int .u64 0, .int .u64 0, .int .u64 0, .int .u64 0, .int .u64 0, .int .u64 0, .int .u64 0] 38)) (w.heap.size + 1) 38 #[.slice none 0 0, .slice none 0 0, .slice none 0 0, .int .u64 0, .int .u64 0, .int .u64 0, .int .u64 0, .int .u64 0, .int .u64 0, .int .u64 0, .int .u64 0] := Own.made_at (by simp)
 have H0 := Lh h;clear h hd hn hrt;go_enter Tryz.func19, Tryz.ntmps19;go_upto_region 2 with fail;go_name_world W0 hW0;rw [hW0] at B2 O1 O2;clear hW0;have HP0 := Lh (H0.out.below B2);have HT0 : Hid (Tel w w.heap.size Bp 0 0 (.slice none 0 0) (.slice none 0 0) (fun _ => 0) P W0) := Lh ⟨O1, O2, World.ownsRow_nil _ _ _ _, World.ownsRow_nil _ _ _ _, Chg.of B2⟩;clear B2 O1 O2 H0;go_upto_region 3 with fail;go_loopw [5] (fun i wr => ∃ (k c' : Nat) (vk vr : Value), k <= n /\ i = .int .i64 (k : Int) /\ c' <= c + 6 * k /\ zF wr B Bp d p c' P /\ Tel w w.heap.size Bp k k vk vr (fun _ => 0) P wr /\ (k = 0 -> vk = .slice none 0 0 /\ vr = .slice none 0 0)) (fun i wr => n - (intOf i).toNat)
 case atStart => exact ⟨0, c, _, _, Nat.zero_le _, rfl, by omega, HP0.out, HT0.out, fun _ => ⟨rfl, rfl⟩⟩
 case round =>
   obtain ⟨k, c', vk, vr, hk, rfl, hc', hp, hT, hnil⟩ := hrel;have HP := Lh hp;have HT := Lh hT;have HNI := Lh hnil;clear hp hT hnil;by_cases hlt : k < n
   · have t1 : decide (k < n) = true := by simpa using hlt
     obtain ⟨K, hK⟩ : ∃ K, K = (P.view k).1.1 := ⟨_, rfl⟩
     obtain ⟨S, hS⟩ : ∃ S, S = (P.view k).1.2 := ⟨_, rfl⟩
     have RDK := RD.out;have RK := fun W c => RDK W c k hlt
     rw [<- hK, <- hS] at RK;replace RK := Lh RK;have EK := Lh (show mU (P.kindL (k + 1)) = mU (P.kindL k) ++ [.int .i64 (K : Int)] by rw [zEv, hK]; simp [mU]);have ES := Lh (show Jk (P.roomL (k + 1)) = Jk (P.roomL k) ++ [.string S] by rw [zE5, hS]; simp [Jk]);clear hK hS RDK;go_upto_region 8 with (first
       | (go_at_call 43; refine (PG.out _ _ (by omega) HP.out).mono ?_; rintro e w1 ⟨rfl, hA1⟩; have P1 := Lh hA1.1; have T1 := Lh (HT.out.ask hA1.2); clear hA1)
       | (go_at_call 45; refine (RK.out _ _ (by omega) P1.out).mono ?_; rintro e w2 ⟨rfl, hA2⟩; have P2 := Lh hA2.1; have T2 := Lh (T1.out.ask hA2.2); clear hA2))
     obtain ⟨ka, kc, hvk, -, -⟩ := yD T2.out.k;obtain ⟨ra, rc, hvr, -, -⟩ := yD T2.out.r;subst hvk;subst hvr;have kl := zHw P k;have rl := zH0 P k;have q1 := T2.out.o4;unfold stC at q1;obtain ⟨q1, q2, q3⟩ := q1.at_;go_upto_region 9 with (at_builtin; refine wpList_append_own_at _ rfl _ _ 33 rfl w.heap.size 3 i0 (.int .i64 0) 1 8 Tryz.underlying33 hi0 hz0 hz1 hz2 rfl (by decide) (.slice ka k kc) k (mU (P.kindL k)) rfl (T2.out.k.alloc _) ⟨w2.heap.size, 0, none⟩ 1 1 [.int .i64 (K : Int)] rfl rfl (fun j u hu => Po.one_cell _ _ _ _ hu) (by intro u hu; simp at hu; subst hu; rfl) (by unfold maxLen; omega) (by omega) (by have := T2.out.c.size; simp; omega) ?_; intro v1 y1 hown hgr _ _; rw [<- EK.out] at hown; obtain ⟨a1, c1, rfl, -, -⟩ := yD hown; have X3 := Lh (T2.out.pushK rfl P2.out (fun e => (HNI.out e).1) hown hgr); clear hown hgr q1 q2 q3; have q1 := X3.out.1; unfold stC at q1; obtain ⟨q1, q2, q3⟩ := q1.at_)
     have T3 := X3.out.2.1;have P3 := X3.out.2.2;go_name_world W3 hW3;rw [hW3] at T3 P3;clear hW3 X3 q1 q2 q3;replace T3 := Lh T3;replace P3 := Lh P3;have q1 := T3.out.o4;unfold stC at q1;obtain ⟨q1, q2, q3⟩ := q1.at_;go_upto_region 4 with (at_builtin; refine wpList_append_own_at _ rfl _ _ 34 rfl w.heap.size 9 i1 (.string ⟨#[]⟩) 1 16 Tryz.underlying34 hi1 hy0 hy1 hy2 rfl (by decide) (.slice ra k rc) k (Jk (P.roomL k)) rfl (T3.out.r.alloc _) ⟨W3.heap.size, 0, none⟩ 1 1 [.string S] rfl rfl (fun j u hu => Po.one_cell _ _ _ _ hu) (by intro u hu; simp at hu; subst hu; rfl) (by unfold maxLen; omega) (by omega) (by have := T3.out.c.size; simp; omega) ?_; intro v1 y2 hown hgr _ _; rw [<- ES.out] at hown; obtain ⟨a2, c2, rfl, -, -⟩ := yD hown; have X4 := Lh (T3.out.pushR rfl P3.out (fun e => (HNI.out e).2) hown hgr); clear hown hgr q1 q2 q3; have q1 := X4.out.1; unfold stC at q1; obtain ⟨q1, q2, q3⟩ := q1.at_)
     have T4 := X4.out.2.1;have P4 := X4.out.2.2;go_name_world W4 hW4;rw [hW4] at T4 P4;clear hW4 X4 q1 q2 q3;replace T4 := Lh T4;replace P4 := Lh P4;go_wp2;go_roundw
     case rel => exact ⟨k + 1, _, _, _, by omega, by go_num, by omega, P4.out, T4.out, fun e => by omega⟩
     case measure => simp [intOf]; omega
   · obtain rfl : k = n := by omega
     have t1 : decide (k < k) = false := by simp
     go_upto_region 11 with (go_at_call 43; refine (PG.out _ _ (by omega) HP.out).mono ?_; rintro e w1 ⟨rfl, hA1⟩; have P1 := Lh hA1.1; have T1 := Lh (HT.out.ask hA1.2); clear hA1)
     obtain ⟨ka, kc, hvk, -, -⟩ := yD T1.out.k;obtain ⟨ra, rc, hvr, -, -⟩ := yD T1.out.r;subst hvk;subst hvr;obtain ⟨VK, hVK⟩ : ∃ VK : Value, VK = .slice ka k kc := ⟨_, rfl⟩
     obtain ⟨VR, hVR⟩ : ∃ VR : Value, VR = .slice ra k rc := ⟨_, rfl⟩
     have HVK := Lh hVK;have HVR := Lh hVR;rw [<- hVK, <- hVR] at T1;clear hVK hVR HT HP HNI;go_loopw [9] (fun i wr1 => ∃ (j c1 : Nat), j <= 8 /\ i = .int .i64 (j : Int) /\ c1 <= c' + 2 + 2 * j /\ zF wr1 B Bp d p c1 P /\ Tel w w.heap.size Bp k k VK VR (fun i => if i < j then rt i else 0) P wr1) (fun i wr1 => 8 - (intOf i).toNat)
     case atStart => exact ⟨0, _, by omega, rfl, by omega, P1.out, by simpa using T1.out⟩
     case round =>
       obtain ⟨j, c1, hj, rfl, hc1, hp, hT⟩ := hrel;have HP := Lh hp;have HT := Lh hT;clear hp hT P1 T1;by_cases hj8 : j < 8
       · have HJ := Lh hj8;have t8 : decide ((j : Int) < 8) = true := by simp; omega
         have i7 : ¬ 7 < (j : Int) := by omega
         go_upto_region 16 with (go_at_call 46; refine (RTo.out _ _ j HJ.out (by omega) HP.out).mono ?_; rintro e w5 ⟨rfl, hA5⟩; have P5 := Lh hA5.1; have T5 := Lh (HT.out.ask hA5.2); clear hA5)
         have ho := T5.out.o4;have hx0 : w5.cell? ⟨w.heap.size + 1, 3 + j, none⟩ = some (.int .u64 ((if j < j then rt j else 0 : Nat) : Int)) := by rw [ho.at_.1, zNr _ _ _ _ hj8]
         have hf0 := ho.at_.2.1 (3 + j);have T6 : Tel w w.heap.size Bp k k VK VR (fun i => if i < j + 1 then rt i else 0) P (w5.setCell ⟨w.heap.size + 1, 3 + j, none⟩ (.int .u64 (rt j : Int))) := by
           have e : (fun i => if i = j then rt j else (if i < j then rt i else 0)) = fun i => if i < j + 1 then rt i else 0 := by
             funext i
             by_cases c1 : i = j
             · subst c1; rw [if_pos rfl, if_pos (by omega)]
             · rw [if_neg c1];by_cases c2 : i < j
               · rw [if_pos c2, if_pos (by omega)]
               · rw [if_neg c2, if_neg (by omega)]
           refine ⟨T5.out.o2.apart (by omega) _ _, (ho.put (3 + j) (.int .u64 (rt j : Int))).as (by rw [zLe _ _ _ _ _ hj8, e]), ownsRow_setCell_other (a := ⟨w.heap.size + 1, 3 + j, none⟩) T5.out.k (vA T5.out.k ho (by decide)) _, ownsRow_setCell_other (a := ⟨w.heap.size + 1, 3 + j, none⟩) T5.out.r (vA T5.out.r ho (by decide)) _, T5.out.c.trans (yT w5 (w.heap.size + 1) (3 + j) _) fun q hq e => by have e : q = w.heap.size + 1 := e; omega⟩
         have P6 : zF (w5.setCell ⟨w.heap.size + 1, 3 + j, none⟩ (.int .u64 (rt j : Int))) B Bp d p (c1 + 2) P := P5.out.keepS (yT w5 (w.heap.size + 1) (3 + j) _) fun q e => by
           have e : q = w.heap.size + 1 := e;subst e;refine ⟨_, _, ho, by unfold PgT; decide, fun x hx => ?_⟩;have hx : some VK = some (.int .u8 x) := hx;rw [HVK.out] at hx;cases hx
         replace T6 := Lh T6;replace P6 := Lh P6;clear ho;go_upto_region 12 with fail;go_name_world W6 hW6;rw [hW6] at T6 P6;clear hW6 hx0 hf0;go_wp2;go_roundw
         case rel => exact ⟨j + 1, _, by omega, by go_num, by omega, P6.out, T6.out⟩
         case measure => simp [intOf]; omega
       · obtain rfl : j = 8 := by omega
         have hT := HT.out;rw [HVK.out, HVR.out] at hT;have o4 : Own wr (w.heap.size + 1) 38 (stC (.slice ka k kc) (.slice ra k rc) (.slice none 0 0) rt) := (show stC (.slice ka k kc) (.slice ra k rc) (.slice none 0 0) (fun i => if i < 8 then rt i else 0) = stC (.slice ka k kc) (.slice ra k rc) (.slice none 0 0) rt from by unfold stC; rfl) ▸ hT.o4;have o2 := hT.o2;have HO2 := Lh o2;have HTT := Lh hT;unfold stC at o4;obtain ⟨q1, q2, q3⟩ := o2.at_;obtain ⟨p1, p2, p3⟩ := o4.at_;clear o4 o2 hT HT;go_wp2;refine bodyPost_ret (by simp [results, Tryz.results19, go_sem, stC, *]) rfl ⟨⟨.slice ka k kc, .slice ra k rc, rfl, ?_⟩, ?_, ?_⟩
         · have kl : (P.kindL k).length = k := by simp [PS.kindL]
           have rl : (P.roomL k).length = k := by simp [PS.roomL]
           have x1 := jX (vA HTT.out.k HO2.out (by decide)) [.slice ka k kc, .slice ra k rc, .slice none 0 0, .int .u64 (rt 0 : Int), .int .u64 (rt 1 : Int), .int .u64 (rt 2 : Int), .int .u64 (rt 3 : Int), .int .u64 (rt 4 : Int), .int .u64 (rt 5 : Int), .int .u64 (rt 6 : Int), .int .u64 (rt 7 : Int)] 0 _ HTT.out.k;have x2 := jX (vA HTT.out.r HO2.out (by decide)) [.slice ka k kc, .slice ra k rc, .slice none 0 0, .int .u64 (rt 0 : Int), .int .u64 (rt 1 : Int), .int .u64 (rt 2 : Int), .int .u64 (rt 3 : Int), .int .u64 (rt 4 : Int), .int .u64 (rt 5 : Int), .int .u64 (rt 6 : Int), .int .u64 (rt 7 : Int)] 0 _ HTT.out.r;exact ⟨by show World.ownsRow _ _ _ 1 _ (P.kindL k).length _; rw [kl]; exact x1, by show World.ownsRow _ _ _ 1 _ (P.roomL k).length _; rw [rl]; exact x2, World.ownsRow_nil _ _ _ _, fun g _ e => by cases e⟩
         · exact (HP.out.keepS (vB (S := (· = w.heap.size)) (.inl rfl) [.slice ka k kc, .slice ra k rc, .slice none 0 0, .int .u64 (rt 0 : Int), .int .u64 (rt 1 : Int), .int .u64 (rt 2 : Int), .int .u64 (rt 3 : Int), .int .u64 (rt 4 : Int), .int .u64 (rt 5 : Int), .int .u64 (rt 6 : Int), .int .u64 (rt 7 : Int)] wr 0 (Chg.refl _ _)) fun q e => by
             have e : q = w.heap.size := e;subst e;exact ⟨_, _, HO2.out, by unfold PgT; decide, fun x hx => by cases hx⟩).more (by omega)
         · exact HTT.out.c.trans (vB (S := (· = w.heap.size)) (.inl rfl) [.slice ka k kc, .slice ra k rc, .slice none 0 0, .int .u64 (rt 0 : Int), .int .u64 (rt 1 : Int), .int .u64 (rt 2 : Int), .int .u64 (rt 3 : Int), .int .u64 (rt 4 : Int), .int .u64 (rt 5 : Int), .int .u64 (rt 6 : Int), .int .u64 (rt 7 : Int)] wr 0 (Chg.refl _ _)) fun q hq e => by
             have e : q = w.heap.size := e;omega
end
end Go.Proofs.YthijgebmoadgkaaGreatDoor
