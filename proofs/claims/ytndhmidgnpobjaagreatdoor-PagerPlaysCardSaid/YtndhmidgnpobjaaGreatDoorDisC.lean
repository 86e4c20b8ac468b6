import Derived.Test.YtndhmidgnpobjaaGreatDoorSta
import Derived.Test.YtndhmidgnpobjaaGreatDoorSwap
import Derived.Test.YtndhmidgnpobjaaGreatDoorShelf
import Derived.Test.YtndhmidgnpobjaaGreatDoorCrcB
import Derived.WalkLawsBesides
set_option linter.unusedVariables false
set_option linter.unusedSimpArgs false
namespace Go.Proofs.YtndhmidgnpobjaaGreatDoor
open Go.ChangeShapes Go.WideShapes Go.ChangeAt Go.RowKit
section
structure St where
 sure : List UInt8
 wr : List (Nat × ByteArray)
 fuse : Int
 down : Bool
def xY (l : List (Nat × ByteArray)) (i : Int) : Option (Nat × ByteArray) := l.reverse.find? fun x => (x.1 : Int) == i
def wcell (x : Nat × ByteArray) : Array Value := #[.int .i64 (x.1 : Int), .string x.2]
def Xp (l : List (Nat × ByteArray)) : List Value := l.flatMap fun x => [.int .i64 (x.1 : Int), .string x.2]
theorem zAv : ∀ (l : List (Nat × ByteArray)) (j : Nat) (h : j < l.length), (Xp l)[j * 2]? = some (.int .i64 ((l[j]'h).1 : Int)) /\ (Xp l)[j * 2 + 1]? = some (.string (l[j]'h).2)
 | x :: l, 0, _ => ⟨rfl, rfl⟩
 | x :: l, j + 1, h => by
   have := zAv l j (by simpa using h);have e1 : (j + 1) * 2 = j * 2 + 1 + 1 := by omega
   rw [e1];exact this
structure St.Ok (n : Nat) (s : St) : Prop where
 pos : 1 <= n
 max : n <= 65536
 len : s.sure.length = n * 64
 wr : ∀ x ∈ s.wr, x.1 < n /\ x.2.size = 64
 few : s.wr.length <= 1000000
 fuse : (Lit.int .i64 s.fuse).wf = true
structure zI (w : World) (d sb mb sc : Nat) (wv : Value) (n : Nat) (s : St) : Prop where
 own : Own w d 148 #[.slice (some ⟨sb, 0, none⟩) (n * 64) sc, wv, .map (some mb), .int .i64 s.fuse, .bool s.down]
 cap : n * 64 <= sc
 sure : xA w sb s.sure
 wrs : w.ownsRow 0 232 2 wv s.wr.length (Xp s.wr)
 map : vC w mb .i64 (fun i => (xY s.wr i).map fun x => .agg (wcell x))
 ne1 : sb ≠ d
 ne2 : ∀ g, wv.ownBlock = some g -> g ≠ d /\ g ≠ sb
 ok : s.Ok n
def fp (d sb mb : Nat) (wv : Value) : Nat -> Prop := fun q => q = d \/ q = sb \/ q = mb \/ wv.ownBlock = some q
theorem zI.in_ {w : World} {d sb mb sc : Nat} {wv : Value} {n : Nat} {s : St} (h : zI w d sb mb sc wv n s) {q : Nat} (hq : fp d sb mb wv q) : q < w.heap.size := by
 rcases hq with rfl | rfl | rfl | hq
 · exact h.own.in_
 · exact h.sure.in_ (by have := h.ok.pos; rw [h.ok.len]; omega)
 · exact h.map.in_
 · exact (h.wrs.lt q hq).2
theorem jZ {w w' : World} {e : TypeId} {size : Nat} {v : Value} {n : Nat} {xs : List Value} (h : w.ownsRow 0 e size v n xs) (hk : ∀ g, v.ownBlock = some g -> w'.heap[g]? = w.heap[g]?) : w'.ownsRow 0 e size v n xs := by
 refine ⟨h.1, ?_⟩;rcases h.2 with h2 | ⟨g, cap, cur, rfl, r1, r2, r3⟩
 · exact .inl h2
 · exact .inr ⟨g, cap, cur, rfl, r1, (hk g rfl).trans r2, r3⟩
theorem zI.keep {w w' : World} {d sb mb sc : Nat} {wv : Value} {n : Nat} {s : St} (h : zI w d sb mb sc wv n s) {S : Nat -> Prop} (hc : Chg S w w') (hS : ∀ q, fp d sb mb wv q -> ¬ S q) : zI w' d sb mb sc wv n s := by
 have k : ∀ q, fp d sb mb wv q -> w'.heap[q]? = w.heap[q]? := fun q hq => hc.block q (h.in_ hq) (hS q hq)
 exact ⟨(k d (.inl rfl)).trans h.own, h.cap, h.sure.keep (k sb (.inr (.inl rfl))), jZ h.wrs fun g hg => k g (.inr (.inr (.inr hg))), h.map.keep (k mb (.inr (.inr (.inl rfl)))), h.ne1, h.ne2, h.ok⟩
theorem zI.below {w w' : World} {d sb mb sc : Nat} {wv : Value} {n : Nat} {s : St} (h : zI w d sb mb sc wv n s) (hb : Below w.heap.size w w') : zI w' d sb mb sc wv n s :=
 h.keep (Chg.of (S := fun _ => False) hb) fun _ _ => id
theorem zI.slice {w : World} {d sb mb sc : Nat} {wv : Value} {n : Nat} {s : St} (h : zI w d sb mb sc wv n s) : ∃ a c, wv = .slice a s.wr.length c /\ s.wr.length <= c /\ c <= maxLen := by
 rcases h.wrs.2 with ⟨rfl, h2⟩ | ⟨g, cap, cur, rfl, _, _, h1, h2, _⟩
 · exact ⟨none, 0, by rw [h2], by omega, by unfold maxLen; omega⟩
 · exact ⟨_, _, rfl, h1, h2⟩
theorem zCc (x : Int) (w : World) (hx : (Lit.int .i64 x).wf = true) : Calls Tryz.prog 57 #[.int .i64 x] w fun e w' => e = .returned (.bool (decide (1 <= x) && decide (x <= 65536))) /\ w = w' := by
 by_cases h1 : 1 <= x
 · go_enter Tryz.func57, Tryz.ntmps57;go_wp2;go_ret;exact ⟨xT (by simp [h1]), rfl⟩
 · go_enter Tryz.func57, Tryz.ntmps57;go_wp2;go_ret;exact ⟨xT (by simp; omega), rfl⟩
section
variable {w : World} {d sb mb sc : Nat} {wv : Value} {n : Nat} {s : St}
theorem Xk (h : zI w d sb mb sc wv n s) : Calls Tryz.prog 41 #[.pointer (some ⟨d, 0, none⟩)] w fun e w' => e = .returned (.int .i64 n) /\ w = w' := by
 have hp := h.ok.pos;have hm := h.ok.max;obtain ⟨o1, o2, o3⟩ := h.own.at_;clear h;go_enter Tryz.func41, Tryz.ntmps41;go_wp2;go_ret;exact ⟨gU (by omega), rfl⟩
theorem mD (h : zI w d sb mb sc wv n s) : Calls Tryz.prog 67 #[.pointer (some ⟨d, 0, none⟩)] w fun e w' => e = .returned (.bool s.down) /\ w = w' := by
 obtain ⟨o1, o2, o3⟩ := h.own.at_;generalize s.down = dn at *
 clear h;go_enter Tryz.func67, Tryz.ntmps67;go_wp2;go_ret;exact ⟨rfl, rfl⟩
theorem zG4 (h : zI w d sb mb sc wv n s) (i : Int) : Calls Tryz.prog 182 #[.pointer (some ⟨d, 0, none⟩), .int .i64 i] w fun e w' => e = .returned (.bool (decide (0 <= i) && decide (i < n))) /\ w = w' := by
 have H := Lh (Xk h);clear h;by_cases h1 : 0 <= i
 · go_enter Tryz.func182, Tryz.ntmps182;go_wp2_with (go_at_call 41; refine H.out.mono ?_; rintro e w' ⟨rfl, rfl⟩)
   go_ret;exact ⟨xT (by simp [h1]), rfl⟩
 · go_enter Tryz.func182, Tryz.ntmps182;go_wp2_with (go_at_call 41; refine H.out.mono ?_; rintro e w' ⟨rfl, rfl⟩)
   go_ret;exact ⟨xT (by simp; omega), rfl⟩
def zAz (L : List UInt8) : ByteArray := ⟨L.toArray⟩
theorem Yf (h : zI w d sb mb sc wv n s) (i : Nat) (hi : i < n) : Calls Tryz.prog 155 #[.pointer (some ⟨d, 0, none⟩), .int .i64 i] w fun e w' => e = .returned (.slice (some ⟨sb, i * 64, none⟩) 64 (sc - i * 64)) /\ w = w' := by
 have hp := h.ok.pos;have hm := h.ok.max;have hc := h.cap;obtain ⟨o1, o2, o3⟩ := h.own.at_;clear h;go_enter Tryz.func155, Tryz.ntmps155;go_wp2;go_ret;refine ⟨?_, rfl⟩;show Ending.returned (Value.slice (some ⟨sb, i * 64, none⟩) ((i + 1) * 64 - i * 64) (sc - i * 64)) = _
 rw [show (i + 1) * 64 - i * 64 = 64 by omega]
end
end
section
theorem zFc {x : Int} (h : (Lit.int .i64 x).wf = true) : -9223372036854775808 <= x /\ x <= 9223372036854775807 := by
 simp [Lit.wf, IntKind.min, IntKind.max, IntKind.signed, IntKind.bits] at h;omega
theorem mB {x : Int} (h1 : -9223372036854775808 <= x) (h2 : x <= 9223372036854775807) : (Lit.int .i64 x).wf = true := by
 simp [Lit.wf, IntKind.min, IntKind.max, IntKind.signed, IntKind.bits];omega
theorem xF (w : World) (d k : Nat) (v : Value) : Chg (· = d) w (w.setCell ⟨d, k, none⟩ v) := (Chg.refl (· = d) w).set ⟨d, k, none⟩ (.inl rfl) v
section
variable {w : World} {d sb mb sc : Nat} {wv : Value} {n : Nat} {s : St}
theorem zI.ne3 (h : zI w d sb mb sc wv n s) : mb ≠ d /\ mb ≠ sb /\ ∀ g, wv.ownBlock = some g -> g ≠ mb := by
 refine ⟨h.map.ne h.own, h.map.ne_cell (h.sure.cell 0 (by have := h.ok.pos; rw [h.ok.len]; omega)), fun g hg e => ?_⟩;subst e;obtain ⟨es, ck, hb, _⟩ := h.map;rcases h.wrs.2 with ⟨rfl, _⟩ | ⟨g', cap, cur, rfl, _, hc, _⟩
 · cases hg
 · obtain rfl : g' = g := by simpa [Value.ownBlock] using hg
   rw [hc] at hb; cases hb
theorem zI.fld (h : zI w d sb mb sc wv n s) {w' : World} {f : Int} {b : Bool} (hf : (Lit.int .i64 f).wf = true) (hc : Chg (· = d) w w')
   (ho : Own w' d 148 #[.slice (some ⟨sb, 0, none⟩) (n * 64) sc, wv, .map (some mb), .int .i64 f, .bool b]) : zI w' d sb mb sc wv n { s with fuse := f, down := b } := by
 obtain ⟨m1, m2, m3⟩ := h.ne3;have k : ∀ q, q ≠ d -> q < w.heap.size -> w'.heap[q]? = w.heap[q]? := fun q hq hl => hc.block q hl hq
 exact ⟨ho, h.cap, h.sure.keep (k sb h.ne1 (h.in_ (.inr (.inl rfl)))), jZ h.wrs fun g hg => k g (h.ne2 g hg).1 (h.in_ (.inr (.inr (.inr hg)))), h.map.keep (k mb m1 (h.in_ (.inr (.inr (.inl rfl))))), h.ne1, h.ne2, ⟨h.ok.pos, h.ok.max, h.ok.len, h.ok.wr, h.ok.few, hf⟩⟩
def vH (s : St) : Bool × St := if s.fuse = 0 then (false, { s with down := true }) else if 0 < s.fuse then (!s.down, { s with fuse := s.fuse - 1 }) else (!s.down, s)
theorem zAo (h : zI w d sb mb sc wv n s) : Calls Tryz.prog 183 #[.pointer (some ⟨d, 0, none⟩)] w fun e w' => e = .returned (.bool (vH s).1) /\ zI w' d sb mb sc wv n (vH s).2 /\ Chg (· = d) w w' /\ w'.heap.size = w.heap.size := by
 obtain ⟨o1, o2, o3⟩ := h.own.at_;have hwf := h.ok.fuse;obtain ⟨hr1, hr2⟩ := zFc hwf;have H := Lh h;clear h hwf;by_cases h0 : s.fuse = 0
 · have E := Lh (show vH s = (false, { s with down := true }) by simp [vH, h0]);have F := Lh h0;rw [h0] at o1;clear h0 hr1 hr2;generalize hdn : s.down = dn at o1
   clear hdn;go_enter Tryz.func183, Tryz.ntmps183;go_wp2;go_ret;rw [E.out];refine ⟨rfl, H.out.fld H.out.ok.fuse (xF _ _ _ _) (Own.put H.out.own 4 _), ?_, ?_⟩
   · exact xF _ _ _ _
   · simp [World.setCell]
 · by_cases h1 : 0 < s.fuse
   · have E := Lh (show vH s = (!s.down, { s with fuse := s.fuse - 1 }) by simp [vH, h0, h1]);have t0 : (s.fuse == 0) = false := by simpa using h0
     have W := mB (x := s.fuse - 1) (by omega) (by omega);have W := Lh W;clear h0;obtain ⟨dn, hdn⟩ : ∃ dn, dn = s.down := ⟨_, rfl⟩
     rw [<- hdn] at o1;have D := Lh hdn;clear hdn;go_enter Tryz.func183, Tryz.ntmps183;go_wp2;go_ret;rw [E.out, <- D.out];refine ⟨rfl, H.out.fld (f := s.fuse - 1) (b := dn) W.out (xF _ _ _ _) (D.out ▸ Own.put H.out.own 3 _), ?_, ?_⟩
     · exact xF _ _ _ _
     · simp [World.setCell]
   · have E := Lh (show vH s = (!s.down, s) by simp [vH, h0, h1]);have t0 : (s.fuse == 0) = false := by simpa using h0
     clear h0;generalize hdn : s.down = dn at o1
     have D := Lh hdn;clear hdn;go_enter Tryz.func183, Tryz.ntmps183;go_wp2;go_ret;rw [E.out, D.out];exact ⟨rfl, H.out, Chg.refl _ _, rfl⟩
end
end
section
theorem Vr (l : List (Nat × ByteArray)) (x : Nat × ByteArray) (j : Int) : xY (l ++ [x]) j = if j = (x.1 : Int) then some x else xY l j := by
 unfold xY;rw [List.reverse_append];by_cases h : j = (x.1 : Int)
 · simp [h]
 · have : ((x.1 : Int) == j) = false := by simpa using fun e => h e.symm
   simp [h, this]
def xE (n : Nat) (s : St) (i : Int) (t : ByteArray) : Int × St :=
 if s.down then (11, s) else if ¬ (0 <= i /\ i < n) \/ t.size ≠ 64 then (1, s) else
   if (vH s).1 then (0, { (vH s).2 with wr := s.wr ++ [(i.toNat, t)] }) else (11, (vH s).2)
theorem zEu : (Tryz.prog.info? 232).map (fun i => (i.zero, i.size, i.bytes)) = some (some (.agg #[.int .i64 0, .string ⟨#[]⟩]), 2, 24) := by kernel_rfl
theorem zIi (W : World) (T : TypeId) (x y : Value) (j : Nat) {u : Value} (hu : [x, y][j]? = some u) : (W.alloc (.cells #[x, y] T)).drew.cell? ((⟨W.heap.size, 0, none⟩ : Addr).add j) = some u := by
 have e : (⟨W.heap.size, 0, none⟩ : Addr).add j = ⟨W.heap.size, j, none⟩ := by unfold Addr.add; split <;> simp_all
 rw [e];have := (Own.made W T #[x, y]).at_.1 j;exact this.trans (by simpa using hu)
section
variable {w : World} {d sb mb sc : Nat} {wv : Value} {n : Nat} {s : St}
def Qj (w w' : World) (d sb mb sc : Nat) (wv : Value) (n : Nat) (s : St) : Prop :=
 ∃ wv', zI w' d sb mb sc wv' n s /\ Chg (fp d sb mb wv) w w' /\ (wv'.ownBlock = wv.ownBlock \/ ∃ g, wv'.ownBlock = some g /\ w.heap.size <= g)
theorem Qj.same (h : zI w d sb mb sc wv n s) : Qj w w d sb mb sc wv n s := ⟨wv, h, Chg.refl _ _, .inl rfl⟩
theorem Qf (s : St) : (vH s).2.wr = s.wr /\ (vH s).2.sure = s.sure := by
 unfold vH;split
 · exact ⟨rfl, rfl⟩
 · split <;> exact ⟨rfl, rfl⟩
set_option maxHeartbeats 1000000 in
theorem Zq (h : zI w d sb mb sc wv n s) (i : Int) (t : ByteArray) (hi : (Lit.int .i64 i).wf = true) (ht : t.size <= maxLen) (hl : s.wr.length < 1000000) :
   Calls Tryz.prog 125 #[.pointer (some ⟨d, 0, none⟩), .int .i64 i, .string t] w fun e w' => e = .returned (.int .i64 (xE n s i t).1) /\ Qj w w' d sb mb sc wv n (xE n s i t).2 := by
 have HD := Lh (mD h);have HH := Lh (zG4 h i);have HL := Lh (zAo h);have HL' := Lh hl;unfold maxLen at ht;have H := Lh h;clear h hl hi;by_cases c1 : s.down = true
 · have E := Lh (show xE n s i t = (11, s) by simp [xE, c1]);rw [c1] at HD;clear c1;go_enter Tryz.func125, Tryz.ntmps125;go_wp2_with (go_at_call 67; refine HD.out.mono ?_; rintro e w' ⟨rfl, rfl⟩)
   go_ret;rw [E.out];exact ⟨rfl, Qj.same H.out⟩
 have c1 : s.down = false := by simpa using c1
 rw [c1] at HD;by_cases c2 : 0 <= i /\ i < n
 rotate_left
 · have E := Lh (show xE n s i t = (1, s) by unfold xE; rw [c1, if_neg (by simp), if_pos (.inl c2)]);have c2 : (decide (0 <= i) && decide (i < n)) = false := by simp; omega
   rw [c2] at HH;clear c2 c1;go_enter Tryz.func125, Tryz.ntmps125;go_wp2_with (first | (go_at_call 67; refine HD.out.mono ?_; rintro e w' ⟨rfl, rfl⟩) | (go_at_call 182; refine HH.out.mono ?_; rintro e w' ⟨rfl, rfl⟩))
   go_ret;rw [E.out];exact ⟨rfl, Qj.same H.out⟩
 obtain ⟨c3, c4⟩ := c2;have c2 : (decide (0 <= i) && decide (i < n)) = true := by simp; omega
 rw [c2] at HH;clear c2;by_cases c5 : t.size = 64
 rotate_left
 · have E := Lh (show xE n s i t = (1, s) by simp [xE, c1, c5]);have c5 : ((t.size : Int) == 64) = false := by simp; omega
   have c5' : (((t.size : Nat) : Int) != 64) = true := by simp; simp at c5; omega
   clear c1;go_enter Tryz.func125, Tryz.ntmps125;go_wp2_with (first | (go_at_call 67; refine HD.out.mono ?_; rintro e w' ⟨rfl, rfl⟩) | (go_at_call 182; refine HH.out.mono ?_; rintro e w' ⟨rfl, rfl⟩))
   go_ret;rw [E.out];exact ⟨rfl, Qj.same H.out⟩
 obtain ⟨dn, s1, hb⟩ : ∃ b s1, vH s = (b, s1) := ⟨_, _, rfl⟩
 have HW : s1.wr = s.wr /\ s1.sure = s.sure := by have := Qf s; rw [hb] at this; exact this
 rw [hb] at HL;have C5 := Lh c5;have t5 : ((t.size : Int) == 64) = true := by simp; omega
 have t5' : (((t.size : Nat) : Int) != 64) = false := by simp; omega
 cases dn with
 | false =>
   have E := Lh (show xE n s i t = (11, s1) by simp [xE, c1, c3, c4, c5, hb]);clear c1 c5 hb;go_enter Tryz.func125, Tryz.ntmps125;go_wp2_with (first | (go_at_call 67; refine HD.out.mono ?_; rintro e w' ⟨rfl, rfl⟩) | (go_at_call 182; refine HH.out.mono ?_; rintro e w' ⟨rfl, rfl⟩) | (go_at_call 183; refine HL.out.mono ?_; rintro e w1 ⟨rfl, h1, h2, h3⟩))
   go_ret;rw [E.out];exact ⟨rfl, wv, h1, h2.mono fun q _ e => .inl e, .inl rfl⟩
 | true =>
   have E := Lh (show xE n s i t = (0, { s1 with wr := s.wr ++ [(i.toNat, t)] }) by simp [xE, c1, c3, c4, c5, hb]);obtain ⟨k, rfl⟩ : ∃ k : Nat, i = (k : Int) := ⟨i.toNat, by omega⟩
   have hk : k < n := by omega
   have E : Hid (xE n s (k : Int) t = (0, { s1 with wr := s1.wr ++ [(k, t)] })) := by rw [E.out, HW.1]; rfl
   have HL' : Hid (s1.wr.length < 1000000) := by rw [HW.1]; exact HL'
   clear c1 c5 hb c3 c4 HW;go_enter Tryz.func125, Tryz.ntmps125;go_upto_region 9 with (first | (go_at_call 67; refine HD.out.mono ?_; rintro e w' ⟨rfl, rfl⟩) | (go_at_call 182; refine HH.out.mono ?_; rintro e w' ⟨rfl, rfl⟩) | (go_at_call 183; refine HL.out.mono ?_; rintro e w1 ⟨rfl, h1, h2, h3⟩) | (go_at_call 179; refine (uS _ _ (by have := C5.out; omega)).mono ?_; rintro e w2 ⟨rfl, h4⟩))
   go_name_world W0 hW0e;have O7 : Own W0 w2.heap.size 232 #[.int .i64 (k : Int), .string t] := hW0e ▸ Own.made _ _ _;have D0 : zI W0 d sb mb sc wv n s1 := hW0e ▸ (h1.below h4).below ((Below.refl _ _).alloc (Nat.le_refl _) _);have G0 : Chg (· = d) w W0 := hW0e ▸ (h2.call h4).alloc _;have z0 : w1.heap.size <= w2.heap.size := h4.size;have zr : ∀ q, wv.ownBlock = some q -> q < w1.heap.size := fun q e => h1.in_ (.inr (.inr (.inr e)))
   have ZR := Lh zr;have zx : d < w1.heap.size := h1.own.in_;clear hW0e h1 h2 h4 zr;replace D0 := Lh D0;replace G0 := Lh G0;replace O7 := Lh O7;refine zA (fun W => Own W d 148 #[.slice (some ⟨sb, 0, none⟩) (n * 64) sc, wv, .map (some mb), .int .i64 s1.fuse, .bool s1.down] /\ Own W w2.heap.size 232 #[.int .i64 (k : Int), .string t]) [0, 1, 2, 3, 4, 5, 8, 9] [4, 5] [0, 1, 2, 3, 4, 5, 6, 7, 8, 9, 10] (by kernel_rfl) (by kernel_rfl) rfl (by kernel_rfl) rfl ⟨D0.out.own, O7.out⟩ (by simp only [zQ, List.filterMap_cons, List.filterMap_nil, List.getElem?_cons_zero, List.getElem?_cons_succ, Option.map_some]; exact rfl) ?_;iterate 6
     refine fM (v := ?_) rfl rfl (fun W hS => ?_) ?_;rotate_left
     · first
         | (conv => lhs; simp [go_sem]
            first | done | exact rfl)
         | (obtain ⟨q1, q2⟩ := hS rfl
            obtain ⟨q1, q3, q4⟩ := q1.at_;obtain ⟨q2, q5, q6⟩ := q2.at_;conv => lhs; simp [go_sem, q1, q2]
            first | done | exact rfl)
     simp only [Act.put, lA, lZ, lS]
   refine zK rfl rfl fun K hK => ?_
   go_wp2;have z7 := O7.out.in_;have zd := D0.out.own.in_;refine hK _ _ ⟨((D0.out.own.more _)).drawn, (O7.out.more _).drawn⟩ ?_;clear hK K;refine zK rfl rfl fun K hK => ?_
   obtain ⟨i0, hi0, hz0, hz1, hz2⟩ := info_parts zEu;have hfew := HL'.out;go_wp2_with (at_builtin; refine wpList_append_own_at _ rfl _ _ 145 rfl 0 232 i0 (.agg #[.int .i64 0, .string ⟨#[]⟩]) 2 24 Tryz.underlying145 hi0 hz0 hz1 hz2 rfl (by decide) wv s1.wr.length (Xp s1.wr) rfl (D0.out.wrs.alloc _) ⟨W0.heap.size, 0, none⟩ 1 1 [.int .i64 (k : Int), .string t] rfl rfl ?c1 ?c2 (by unfold maxLen; omega) (by omega) (Nat.zero_le _) ?_)
   case c1 =>
     intro j u hu;exact zIi _ _ _ _ _ hu
   case c2 => intro u hu; simp at hu; rcases hu with rfl | rfl <;> rfl
   intro v' w3 hown hgrow hnil hloc;obtain ⟨va, vc, rfl⟩ : ∃ va vc, v' = .slice va (s1.wr.length + 1) vc := by
     rcases hown.2 with ⟨rfl, h⟩ | ⟨g, cap, cur, rfl, _⟩
     · omega
     · exact ⟨_, _, rfl⟩
   go_wp2;have G1 : Chg (fun q => wv.ownBlock = some q) W0 w3 := (((Chg.refl _ W0).alloc _).drew).grown hgrow fun q e => .inl e
   have d3 : Own w3 d 148 _ := G1.own D0.out.own fun e => (D0.out.ne2 _ e).1 rfl
   have o3 : Own w3 w2.heap.size 232 _ := G1.own O7.out fun e => by have := ZR.out _ e; omega
   refine hK _ _ ⟨d3, o3⟩ ?_;clear hK K;iterate 2
     refine fM (v := ?_) rfl rfl (fun W hS => ?_) ?_;rotate_left
     · first
         | (conv => lhs; simp [go_sem]
            first | done | exact rfl)
         | (obtain ⟨q1, q2⟩ := hS rfl
            obtain ⟨q1, q3, q4⟩ := q1.at_;obtain ⟨q2, q5, q6⟩ := q2.at_;conv => lhs; simp [go_sem, q1, q2]
            first | done | exact rfl)
     simp only [Act.put, lA, lZ, lS]
   refine xQ rfl rfl (by kernel_rfl) rfl fun K hK => ?_
   replace hown := Lh hown;replace hgrow := Lh hgrow;replace hloc := Lh hloc;clear hnil;obtain ⟨k1, k2, k3⟩ := d3.at_;go_wp2;refine hK _ _ ?_;clear hK K;refine zN ?_;go_upto_region 10 with fail;obtain ⟨m1, m2, m3⟩ := D0.out.ne3;have N1 : ∀ q, (Value.slice va (s1.wr.length + 1) vc).ownBlock = some q -> q ≠ d /\ q ≠ sb /\ q ≠ mb /\ (wv.ownBlock = some q \/ q = W0.heap.size + 1) := fun q e => by
     have z1 := D0.out.in_ (q := d) (.inl rfl);have z2 := D0.out.in_ (q := sb) (.inr (.inl rfl));have z3 := D0.out.in_ (q := mb) (.inr (.inr (.inl rfl)));rcases hloc.out with h | h
     · rw [h] at e;exact ⟨(D0.out.ne2 q e).1, (D0.out.ne2 q e).2, m3 q e, .inl e⟩
     · rw [h] at e;obtain rfl : W0.heap.size + 1 = q := by simpa using e
       exact ⟨by omega, by omega, by omega, .inr rfl⟩
   obtain ⟨W1, hW1⟩ : ∃ W1, W1 = w3.setCell ⟨d, 1, none⟩ (.slice va (s1.wr.length + 1) vc) := ⟨_, rfl⟩
   rw [<- hW1];have G2 : Chg (· = d) w3 W1 := hW1 ▸ xF _ _ _ _;have d4 : Own W1 d 148 #[.slice (some ⟨sb, 0, none⟩) (n * 64) sc, .slice va (s1.wr.length + 1) vc, .map (some mb), .int .i64 s1.fuse, .bool s1.down] := hW1 ▸ d3.put 1 _;have o4 : Own W1 w2.heap.size 232 _ := G2.own o3 (show ¬ w2.heap.size = d by omega);have zm := D0.out.in_ (q := mb) (.inr (.inr (.inl rfl)));have M4 : vC W1 mb .i64 _ := D0.out.map.keep ((G2.block mb (Nat.lt_of_lt_of_le zm G1.size) m1).trans (G1.block mb zm fun e => m3 _ e rfl));obtain ⟨w4, hmu, M5, G3, z4⟩ := vC.put (w := W1.drew) (P := Tryz.prog) M4 Tryz.underlying146 Tryz.underlying3 k (.agg #[.int .i64 (k : Int), .string t]);clear hW1 k1 k2 k3;refine zA (fun W => Own W d 148 #[.slice (some ⟨sb, 0, none⟩) (n * 64) sc, .slice va (s1.wr.length + 1) vc, .map (some mb), .int .i64 s1.fuse, .bool s1.down] /\ Own W w2.heap.size 232 #[.int .i64 (k : Int), .string t]) [0, 1, 2, 3, 4, 5] [3, 5] [0, 1, 2, 3, 4, 5, 6] (by kernel_rfl) (by kernel_rfl) rfl (by kernel_rfl) rfl ⟨d4, o4⟩ (by simp only [zQ, List.filterMap_cons, List.filterMap_nil, List.getElem?_cons_zero, List.getElem?_cons_succ, Option.map_some]; exact rfl) ?_;iterate 6
     refine fM (v := ?_) rfl rfl (fun W hS => ?_) ?_;rotate_left
     · first
         | (conv => lhs; simp [go_sem]
            first | done | exact rfl)
         | (obtain ⟨q1, q2⟩ := hS rfl
            obtain ⟨q1, q3, q4⟩ := q1.at_;obtain ⟨q2, q5, q6⟩ := q2.at_;conv => lhs; simp [go_sem, q1, q2]
            first | done | exact rfl)
     simp only [Act.put, lA, lZ, lS]
   refine xQ rfl rfl (by kernel_rfl) rfl fun K hK => ?_
   go_wp2;refine hK _ _ ?_;clear hK K;refine zN ?_;go_wp2;go_ret;rw [E.out];have zsb := D0.out.in_ (q := sb) (.inr (.inl rfl));have kb : ∀ q, q ≠ d -> q ≠ mb -> q < w3.heap.size -> w4.heap[q]? = w3.heap[q]? := fun q h1 h2 h3 => (G3.block q (Nat.lt_of_lt_of_le h3 G2.size) h2).trans (G2.block q h3 h1)
   refine ⟨rfl, .slice va (s1.wr.length + 1) vc, ⟨G3.own d4.drawn (fun e => m1 e.symm), D0.out.cap, (D0.out.sure.keep (G1.block sb zsb fun e => (D0.out.ne2 _ e).2 rfl)).keep (kb sb D0.out.ne1 (fun e => m2 e.symm) (Nat.lt_of_lt_of_le zsb G1.size)), ?_, ?_, D0.out.ne1, fun g hg => ⟨(N1 g hg).1, (N1 g hg).2.1⟩, ?_⟩, ?_, ?_⟩
   · have hw := jZ (w' := w4) hown.out fun g hg => kb g (N1 g hg).1 (N1 g hg).2.2.1 (hown.out.lt g hg).2
     simpa [Xp] using hw
   · have e : (fun i => (xY (s1.wr ++ [(k, t)]) i).map fun x => Value.agg (wcell x)) = fun j => if j = (k : Int) then some (Value.agg #[.int .i64 (k : Int), .string t]) else (xY s1.wr j).map fun x => Value.agg (wcell x) := by
       funext j
       rw [Vr];by_cases h : j = (k : Int)
       · simp [h, wcell]
       · simp [h]
     show vC w4 mb .i64 (fun i => (xY (s1.wr ++ [(k, t)]) i).map fun x => Value.agg (wcell x))
     rw [e];exact M5
   · have := D0.out.ok;refine ⟨this.pos, this.max, this.len, fun x hx => ?_, by simp; omega, this.fuse⟩;rcases List.mem_append.1 hx with hx | hx
     · exact this.wr x hx
     · obtain rfl : x = (k, t) := by simpa using hx
       exact ⟨hk, C5.out⟩
   · refine (G0.out.mono fun q _ e => (.inl e : fp d sb mb wv q)).trans ((G1.mono (T := fp d sb mb wv) fun q _ e => .inr (.inr (.inr e))).same ((G2.mono (T := fp d sb mb wv) fun q _ e => .inl e).same ((Chg.refl _ W1).drew.same (G3.mono (T := fp d sb mb wv) fun q _ e => .inr (.inr (.inl e)))))) fun _ _ h => h
   · rcases hloc.out with h | h
     · exact .inl h
     · exact .inr ⟨_, h, by have := G0.out.size; omega⟩
end
end
end Go.Proofs.YtndhmidgnpobjaaGreatDoor
