import Derived.Test.YthijgebmoadgkaaGreatDoorDisB
import Derived.Test.YthijgebmoadgkaaGreatDoorCrcB
import Derived.WalkLawsBesides
import Derived.Deep.OwnRows
set_option linter.unusedVariables false
set_option linter.unusedSimpArgs false
namespace Go.Proofs.YthijgebmoadgkaaGreatDoor
open Go.ChangeShapes Go.WideShapes Go.ChangeAt Go.RowKit
section
theorem Vj (l : List (Nat × ByteArray)) (x : Nat × ByteArray) (j : Int) : xR (l ++ [x]) j = if j = (x.1 : Int) then some x else xR l j := by
 unfold xR;rw [List.reverse_append];by_cases h : j = (x.1 : Int)
 · simp [h]
 · have : ((x.1 : Int) == j) = false := by simpa using fun e => h e.symm
   simp [h, this]
def xC (n : Nat) (s : St) (i : Int) (t : ByteArray) : Int × St :=
 if s.down then (11, s) else if ¬ (0 <= i /\ i < n) \/ t.size ≠ 64 then (1, s) else
   if (vC s).1 then (0, { (vC s).2 with wr := s.wr ++ [(i.toNat, t)] }) else (11, (vC s).2)
theorem zFa : (Tryz.prog.info? 271).map (fun i => (i.zero, i.size, i.bytes)) = some (some (.agg #[.int .i64 0, .string ⟨#[]⟩]), 2, 24) := by kernel_rfl
theorem zG0 (W : World) (T : TypeId) (x y : Value) (j : Nat) {u : Value} (hu : [x, y][j]? = some u) : (W.alloc (.cells #[x, y] T)).drew.cell? ((⟨W.heap.size, 0, none⟩ : Addr).add j) = some u := by
 have e : (⟨W.heap.size, 0, none⟩ : Addr).add j = ⟨W.heap.size, j, none⟩ := by unfold Addr.add; split <;> simp_all
 rw [e];have := (Own.made W T #[x, y]).at_.1 j;exact this.trans (by simpa using hu)
section
variable {w : World} {d sb mb sc : Nat} {wv : Value} {n : Nat} {s : St}
def Qb (w w' : World) (d sb mb sc : Nat) (wv : Value) (n : Nat) (s : St) : Prop :=
 ∃ wv', zI w' d sb mb sc wv' n s /\ Chg (fp d sb mb wv) w w' /\ (wv'.ownBlock = wv.ownBlock \/ ∃ g, wv'.ownBlock = some g /\ w.heap.size <= g)
theorem Qb.same (h : zI w d sb mb sc wv n s) : Qb w w d sb mb sc wv n s := ⟨wv, h, Chg.refl _ _, .inl rfl⟩
theorem Qr (s : St) : (vC s).2.wr = s.wr /\ (vC s).2.sure = s.sure := by
 unfold vC;split
 · exact ⟨rfl, rfl⟩
 · split <;> exact ⟨rfl, rfl⟩
set_option maxHeartbeats 1000000 in
theorem zAg (h : zI w d sb mb sc wv n s) (i : Int) (t : ByteArray) (hi : (Lit.int .i64 i).wf = true) (ht : t.size <= maxLen) (hl : s.wr.length < 1000000) :
   Calls Tryz.prog 153 #[.pointer (some ⟨d, 0, none⟩), .int .i64 i, .string t] w fun e w' => e = .returned (.int .i64 (xC n s i t).1) /\ Qb w w' d sb mb sc wv n (xC n s i t).2 := by
 have HD := Lh (fO h);have HH := Lh (zF7 h i);have HL := Lh (Zy h);have HL' := Lh hl;unfold maxLen at ht;have H := Lh h;clear h hl hi;by_cases c1 : s.down = true
 · have E := Lh (show xC n s i t = (11, s) by simp [xC, c1]);rw [c1] at HD;clear c1;go_enter Tryz.func153, Tryz.ntmps153;go_wp2_with (go_at_call 76; refine HD.out.mono ?_; rintro e w' ⟨rfl, rfl⟩)
   go_ret;rw [E.out];exact ⟨rfl, Qb.same H.out⟩
 have c1 : s.down = false := by simpa using c1
 rw [c1] at HD;by_cases c2 : 0 <= i /\ i < n
 rotate_left
 · have E := Lh (show xC n s i t = (1, s) by unfold xC; rw [c1, if_neg (by simp), if_pos (.inl c2)]);have c2 : (decide (0 <= i) && decide (i < n)) = false := by simp; omega
   rw [c2] at HH;clear c2 c1;go_enter Tryz.func153, Tryz.ntmps153;go_wp2_with (first | (go_at_call 76; refine HD.out.mono ?_; rintro e w' ⟨rfl, rfl⟩) | (go_at_call 227; refine HH.out.mono ?_; rintro e w' ⟨rfl, rfl⟩))
   go_ret;rw [E.out];exact ⟨rfl, Qb.same H.out⟩
 obtain ⟨c3, c4⟩ := c2;have c2 : (decide (0 <= i) && decide (i < n)) = true := by simp; omega
 rw [c2] at HH;clear c2;by_cases c5 : t.size = 64
 rotate_left
 · have E := Lh (show xC n s i t = (1, s) by simp [xC, c1, c5]);have c5 : ((t.size : Int) == 64) = false := by simp; omega
   have c5' : (((t.size : Nat) : Int) != 64) = true := by simp; simp at c5; omega
   clear c1;go_enter Tryz.func153, Tryz.ntmps153;go_wp2_with (first | (go_at_call 76; refine HD.out.mono ?_; rintro e w' ⟨rfl, rfl⟩) | (go_at_call 227; refine HH.out.mono ?_; rintro e w' ⟨rfl, rfl⟩))
   go_ret;rw [E.out];exact ⟨rfl, Qb.same H.out⟩
 obtain ⟨dn, s1, hb⟩ : ∃ b s1, vC s = (b, s1) := ⟨_, _, rfl⟩
 have HW : s1.wr = s.wr /\ s1.sure = s.sure := by have := Qr s; rw [hb] at this; exact this
 rw [hb] at HL;have C5 := Lh c5;have t5 : ((t.size : Int) == 64) = true := by simp; omega
 have t5' : (((t.size : Nat) : Int) != 64) = false := by simp; omega
 cases dn with
 | false =>
   have E := Lh (show xC n s i t = (11, s1) by simp [xC, c1, c3, c4, c5, hb]);clear c1 c5 hb;go_enter Tryz.func153, Tryz.ntmps153;go_wp2_with (first | (go_at_call 76; refine HD.out.mono ?_; rintro e w' ⟨rfl, rfl⟩) | (go_at_call 227; refine HH.out.mono ?_; rintro e w' ⟨rfl, rfl⟩) | (go_at_call 228; refine HL.out.mono ?_; rintro e w1 ⟨rfl, h1, h2, h3⟩))
   go_ret;rw [E.out];exact ⟨rfl, wv, h1, h2.mono fun q _ e => .inl e, .inl rfl⟩
 | true =>
   have E := Lh (show xC n s i t = (0, { s1 with wr := s.wr ++ [(i.toNat, t)] }) by simp [xC, c1, c3, c4, c5, hb]);obtain ⟨k, rfl⟩ : ∃ k : Nat, i = (k : Int) := ⟨i.toNat, by omega⟩
   have hk : k < n := by omega
   have E : Hid (xC n s (k : Int) t = (0, { s1 with wr := s1.wr ++ [(k, t)] })) := by rw [E.out, HW.1]; rfl
   have HL' : Hid (s1.wr.length < 1000000) := by rw [HW.1]; exact HL'
   clear c1 c5 hb c3 c4 HW;go_enter Tryz.func153, Tryz.ntmps153;go_upto_region 9 with (first | (go_at_call 76; refine HD.out.mono ?_; rintro e w' ⟨rfl, rfl⟩) | (go_at_call 227; refine HH.out.mono ?_; rintro e w' ⟨rfl, rfl⟩) | (go_at_call 228; refine HL.out.mono ?_; rintro e w1 ⟨rfl, h1, h2, h3⟩) | (go_at_call 224; refine (uG _ _ (by have := C5.out; omega)).mono ?_; rintro e w2 ⟨rfl, h4⟩))
   go_name_world W0 hW0e;have O7 : Own W0 w2.heap.size 271 #[.int .i64 (k : Int), .string t] := hW0e ▸ Own.made _ _ _;have D0 : zI W0 d sb mb sc wv n s1 := hW0e ▸ (h1.below h4).below ((Below.refl _ _).alloc (Nat.le_refl _) _);have G0 : Chg (· = d) w W0 := hW0e ▸ (h2.call h4).alloc _;have z0 : w1.heap.size <= w2.heap.size := h4.size;have zr : ∀ q, wv.ownBlock = some q -> q < w1.heap.size := fun q e => h1.in_ (.inr (.inr (.inr e)))
   have ZR := Lh zr;have zx : d < w1.heap.size := h1.own.in_;clear hW0e h1 h2 h4 zr;replace D0 := Lh D0;replace G0 := Lh G0;replace O7 := Lh O7;refine zA (fun W => Own W d 167 #[.slice (some ⟨sb, 0, none⟩) (n * 64) sc, wv, .map (some mb), .int .i64 s1.fuse, .bool s1.down] /\ Own W w2.heap.size 271 #[.int .i64 (k : Int), .string t]) [0, 1, 2, 3, 4, 5, 8, 9] [4, 5] [0, 1, 2, 3, 4, 5, 6, 7, 8, 9, 10] (by kernel_rfl) (by kernel_rfl) rfl (by kernel_rfl) rfl ⟨D0.out.own, O7.out⟩ (by simp only [zU, List.filterMap_cons, List.filterMap_nil, List.getElem?_cons_zero, List.getElem?_cons_succ, Option.map_some]; exact rfl) ?_;iterate 6
     refine fU (v := ?_) rfl rfl (fun W hS => ?_) ?_;rotate_left
     · first
         | (conv => lhs; simp [go_sem]
            first | done | exact rfl)
         | (obtain ⟨q1, q2⟩ := hS rfl
            obtain ⟨q1, q3, q4⟩ := q1.at_;obtain ⟨q2, q5, q6⟩ := q2.at_;conv => lhs; simp [go_sem, q1, q2]
            first | done | exact rfl)
     simp only [Act.put, lA, lZ, lS]
   refine zQ rfl rfl fun K hK => ?_
   go_wp2;have z7 := O7.out.in_;have zd := D0.out.own.in_;refine hK _ _ ⟨((D0.out.own.more _)).drawn, (O7.out.more _).drawn⟩ ?_;clear hK K;refine zQ rfl rfl fun K hK => ?_
   obtain ⟨i0, hi0, hz0, hz1, hz2⟩ := info_parts zFa;have hfew := HL'.out;go_wp2_with (at_builtin; refine wpList_append_own_at _ rfl _ _ 164 rfl 0 271 i0 (.agg #[.int .i64 0, .string ⟨#[]⟩]) 2 24 Tryz.underlying164 hi0 hz0 hz1 hz2 rfl (by decide) wv s1.wr.length (Yu s1.wr) rfl (D0.out.wrs.alloc _) ⟨W0.heap.size, 0, none⟩ 1 1 [.int .i64 (k : Int), .string t] rfl rfl ?c1 ?c2 (by unfold maxLen; omega) (by omega) (Nat.zero_le _) ?_)
   case c1 =>
     intro j u hu;exact zG0 _ _ _ _ _ hu
   case c2 => intro u hu; simp at hu; rcases hu with rfl | rfl <;> rfl
   intro v' w3 hown hgrow hnil hloc;obtain ⟨va, vc, rfl⟩ : ∃ va vc, v' = .slice va (s1.wr.length + 1) vc := by
     rcases hown.2 with ⟨rfl, h⟩ | ⟨g, cap, cur, rfl, _⟩
     · omega
     · exact ⟨_, _, rfl⟩
   go_wp2;have G1 : Chg (fun q => wv.ownBlock = some q) W0 w3 := (((Chg.refl _ W0).alloc _).drew).grown hgrow fun q e => .inl e
   have d3 : Own w3 d 167 _ := G1.own D0.out.own fun e => (D0.out.ne2 _ e).1 rfl
   have o3 : Own w3 w2.heap.size 271 _ := G1.own O7.out fun e => by have := ZR.out _ e; omega
   refine hK _ _ ⟨d3, o3⟩ ?_;clear hK K;iterate 2
     refine fU (v := ?_) rfl rfl (fun W hS => ?_) ?_;rotate_left
     · first
         | (conv => lhs; simp [go_sem]
            first | done | exact rfl)
         | (obtain ⟨q1, q2⟩ := hS rfl
            obtain ⟨q1, q3, q4⟩ := q1.at_;obtain ⟨q2, q5, q6⟩ := q2.at_;conv => lhs; simp [go_sem, q1, q2]
            first | done | exact rfl)
     simp only [Act.put, lA, lZ, lS]
   refine gI rfl rfl (by kernel_rfl) rfl fun K hK => ?_
   replace hown := Lh hown;replace hgrow := Lh hgrow;replace hloc := Lh hloc;clear hnil;obtain ⟨k1, k2, k3⟩ := d3.at_;go_wp2;refine hK _ _ ?_;clear hK K;refine zR ?_;go_upto_region 10 with fail;obtain ⟨m1, m2, m3⟩ := D0.out.ne3;have N1 : ∀ q, (Value.slice va (s1.wr.length + 1) vc).ownBlock = some q -> q ≠ d /\ q ≠ sb /\ q ≠ mb /\ (wv.ownBlock = some q \/ q = W0.heap.size + 1) := fun q e => by
     have z1 := D0.out.in_ (q := d) (.inl rfl);have z2 := D0.out.in_ (q := sb) (.inr (.inl rfl));have z3 := D0.out.in_ (q := mb) (.inr (.inr (.inl rfl)));rcases hloc.out with h | h
     · rw [h] at e;exact ⟨(D0.out.ne2 q e).1, (D0.out.ne2 q e).2, m3 q e, .inl e⟩
     · rw [h] at e;obtain rfl : W0.heap.size + 1 = q := by simpa using e
       exact ⟨by omega, by omega, by omega, .inr rfl⟩
   obtain ⟨W1, hW1⟩ : ∃ W1, W1 = w3.setCell ⟨d, 1, none⟩ (.slice va (s1.wr.length + 1) vc) := ⟨_, rfl⟩
   rw [<- hW1];have G2 : Chg (· = d) w3 W1 := hW1 ▸ yT _ _ _ _;have d4 : Own W1 d 167 #[.slice (some ⟨sb, 0, none⟩) (n * 64) sc, .slice va (s1.wr.length + 1) vc, .map (some mb), .int .i64 s1.fuse, .bool s1.down] := hW1 ▸ d3.put 1 _;have o4 : Own W1 w2.heap.size 271 _ := G2.own o3 (show ¬ w2.heap.size = d by omega);have zm := D0.out.in_ (q := mb) (.inr (.inr (.inl rfl)));have M4 : xU W1 mb .i64 _ := D0.out.map.keep ((G2.block mb (Nat.lt_of_lt_of_le zm G1.size) m1).trans (G1.block mb zm fun e => m3 _ e rfl));obtain ⟨w4, hmu, M5, G3, z4⟩ := xU.put (w := W1.drew) (P := Tryz.prog) M4 Tryz.underlying165 Tryz.underlying3 k (.agg #[.int .i64 (k : Int), .string t]);clear hW1 k1 k2 k3;refine zA (fun W => Own W d 167 #[.slice (some ⟨sb, 0, none⟩) (n * 64) sc, .slice va (s1.wr.length + 1) vc, .map (some mb), .int .i64 s1.fuse, .bool s1.down] /\ Own W w2.heap.size 271 #[.int .i64 (k : Int), .string t]) [0, 1, 2, 3, 4, 5] [3, 5] [0, 1, 2, 3, 4, 5, 6] (by kernel_rfl) (by kernel_rfl) rfl (by kernel_rfl) rfl ⟨d4, o4⟩ (by simp only [zU, List.filterMap_cons, List.filterMap_nil, List.getElem?_cons_zero, List.getElem?_cons_succ, Option.map_some]; exact rfl) ?_;iterate 6
     refine fU (v := ?_) rfl rfl (fun W hS => ?_) ?_;rotate_left
     · first
         | (conv => lhs; simp [go_sem]
            first | done | exact rfl)
         | (obtain ⟨q1, q2⟩ := hS rfl
            obtain ⟨q1, q3, q4⟩ := q1.at_;obtain ⟨q2, q5, q6⟩ := q2.at_;conv => lhs; simp [go_sem, q1, q2]
            first | done | exact rfl)
     simp only [Act.put, lA, lZ, lS]
   refine gI rfl rfl (by kernel_rfl) rfl fun K hK => ?_
   go_wp2;refine hK _ _ ?_;clear hK K;refine zR ?_;go_wp2;go_ret;rw [E.out];have zsb := D0.out.in_ (q := sb) (.inr (.inl rfl));have kb : ∀ q, q ≠ d -> q ≠ mb -> q < w3.heap.size -> w4.heap[q]? = w3.heap[q]? := fun q h1 h2 h3 => (G3.block q (Nat.lt_of_lt_of_le h3 G2.size) h2).trans (G2.block q h3 h1)
   refine ⟨rfl, .slice va (s1.wr.length + 1) vc, ⟨G3.own d4.drawn (fun e => m1 e.symm), D0.out.cap, (D0.out.sure.keep (G1.block sb zsb fun e => (D0.out.ne2 _ e).2 rfl)).keep (kb sb D0.out.ne1 (fun e => m2 e.symm) (Nat.lt_of_lt_of_le zsb G1.size)), ?_, ?_, D0.out.ne1, fun g hg => ⟨(N1 g hg).1, (N1 g hg).2.1⟩, ?_⟩, ?_, ?_⟩
   · have hw := jP (w' := w4) hown.out fun g hg => kb g (N1 g hg).1 (N1 g hg).2.2.1 (hown.out.lt g hg).2
     simpa [Yu] using hw
   · have e : (fun i => (xR (s1.wr ++ [(k, t)]) i).map fun x => Value.agg (wcell x)) = fun j => if j = (k : Int) then some (Value.agg #[.int .i64 (k : Int), .string t]) else (xR s1.wr j).map fun x => Value.agg (wcell x) := by
       funext j
       rw [Vj];by_cases h : j = (k : Int)
       · simp [h, wcell]
       · simp [h]
     show xU w4 mb .i64 (fun i => (xR (s1.wr ++ [(k, t)]) i).map fun x => Value.agg (wcell x))
     rw [e];exact M5
   · have := D0.out.ok;refine ⟨this.pos, this.max, this.len, fun x hx => ?_, by simp; omega, this.fuse⟩;rcases List.mem_append.1 hx with hx | hx
     · exact this.wr x hx
     · obtain rfl : x = (k, t) := by simpa using hx
       exact ⟨hk, C5.out⟩
   · refine (G0.out.mono fun q _ e => (.inl e : fp d sb mb wv q)).trans ((G1.mono (T := fp d sb mb wv) fun q _ e => .inr (.inr (.inr e))).same ((G2.mono (T := fp d sb mb wv) fun q _ e => .inl e).same ((Chg.refl _ W1).drew.same (G3.mono (T := fp d sb mb wv) fun q _ e => .inr (.inr (.inl e)))))) fun _ _ h => h
   · rcases hloc.out with h | h
     · exact .inl h
     · exact .inr ⟨_, h, by have := G0.out.size; omega⟩
end
end
section
theorem zC7 (P : Program) (w : World) (src dst e : TypeId) (b off m cap : Nat) (L : List UInt8) (h : xB w b L) (hm : off + m <= L.length) (hs : P.underlying src = some (.slice e)) (he : P.underlying e = some (.int .u8)) (hd : P.underlying dst = some .string) :
   (convert src dst (.slice (some ⟨b, off, none⟩) m cap)).run P w = .ok (.string (zAs ((L.drop off).take m))) w := by
 have hl : ((L.drop off).take m).length = m := by simp; omega
 have := run_convert_bytes_back (P := P) w src dst e ⟨b, off, none⟩ cap ((L.drop off).take m) hs he hd (fun j hj => by
   have ea : (⟨b, off, none⟩ : Addr).add j = ⟨b, off + j, none⟩ := by unfold Addr.add; split <;> simp_all
   rw [ea, h.cell (off + j) (by omega)];simp)
 rw [hl] at this;exact this
def xH (L : List UInt8) (i : Int) : ByteArray := zAs ((L.drop (i.toNat * 64)).take 64)
def uJ (n : Nat) (s : St) (i : Int) : ByteArray × Int :=
 if s.down then (⟨#[]⟩, 11) else if ¬ (0 <= i /\ i < n) then (⟨#[]⟩, 1) else
   (match xR s.wr i with | some x => x.2 | none => xH s.sure i, 0)
theorem gY {l : List (Nat × ByteArray)} {i : Int} {x : Nat × ByteArray} (h : xR l i = some x) : x ∈ l /\ (x.1 : Int) = i := by
 unfold xR at h;have := List.find?_some h;have hm := List.mem_of_find?_eq_some h;exact ⟨by simpa using hm, by simpa using this⟩
theorem zE4 (w : World) : (zeroValue 271).run Tryz.prog w = .ok (.agg #[.int .i64 0, .string ⟨#[]⟩]) w := by kernel_rfl
section
variable {w : World} {d sb mb sc : Nat} {wv : Value} {n : Nat} {s : St}
set_option maxHeartbeats 1000000 in
theorem gJ (h : zI w d sb mb sc wv n s) (i : Int) (hi : (Lit.int .i64 i).wf = true) :
   Calls Tryz.prog 158 #[.pointer (some ⟨d, 0, none⟩), .int .i64 i] w fun e w' => e = .returned (.tuple #[.string (uJ n s i).1, .int .i64 (uJ n s i).2]) /\ Below w.heap.size w w' := by
 have HD := Lh (fO h);have HH := Lh (zF7 h i);have H := Lh h;obtain ⟨o1, o2, o3⟩ := h.own.at_;clear h;by_cases c1 : s.down = true
 · have E := Lh (show uJ n s i = (⟨#[]⟩, 11) by simp [uJ, c1]);rw [c1] at HD o1;clear c1;go_enter Tryz.func158, Tryz.ntmps158;go_wp2_with (go_at_call 76; refine HD.out.mono ?_; rintro e w' ⟨rfl, rfl⟩)
   go_ret2;rw [E.out];exact ⟨rfl, Below.refl _ _⟩
 have c1 : s.down = false := by simpa using c1
 rw [c1] at HD o1;by_cases c2 : 0 <= i /\ i < n
 rotate_left
 · have E := Lh (show uJ n s i = (⟨#[]⟩, 1) by unfold uJ; rw [c1, if_neg (by simp), if_pos c2]);have c2 : (decide (0 <= i) && decide (i < n)) = false := by simp; omega
   rw [c2] at HH;clear c2 c1;go_enter Tryz.func158, Tryz.ntmps158;go_wp2_with (first | (go_at_call 76; refine HD.out.mono ?_; rintro e w' ⟨rfl, rfl⟩) | (go_at_call 227; refine HH.out.mono ?_; rintro e w' ⟨rfl, rfl⟩))
   go_ret2;rw [E.out];exact ⟨rfl, Below.refl _ _⟩
 obtain ⟨c3, c4⟩ := c2;have c2 : (decide (0 <= i) && decide (i < n)) = true := by simp; omega
 rw [c2] at HH;clear c2;obtain ⟨k, rfl⟩ : ∃ k : Nat, i = (k : Int) := ⟨i.toNat, by omega⟩
 have hk : k < n := by omega
 have HM := xU.look H.out.map Tryz.underlying165 Tryz.underlying3 (zE4 w) k;cases hl : xR s.wr k with
 | some x =>
   have E := Lh (show uJ n s k = (x.2, 0) by unfold uJ; rw [c1, if_neg (by simp), if_neg (by omega), hl]);simp only [hl, wcell, Option.map_some, Option.getD_some, Option.isSome_some] at HM;have hx := H.out.ok.wr x (gY hl).1;obtain ⟨x1, x2⟩ := x;simp only at hx E HM;have hx2 := hx.2;clear c1 hl hx c3 c4;have HX := Lh hx2;clear hx2;go_enter Tryz.func158, Tryz.ntmps158;go_wp2_with (first | (go_at_call 76; refine HD.out.mono ?_; rintro e w' ⟨rfl, rfl⟩) | (go_at_call 227; refine HH.out.mono ?_; rintro e w' ⟨rfl, rfl⟩) | (go_at_call 224; refine (uG _ _ (by have := HX.out; omega)).mono ?_; rintro e w2 ⟨rfl, h4⟩))
   go_ret2;rw [E.out];exact ⟨rfl, then_ ((Below.refl _ _).alloc (Nat.le_refl _) _) h4 (by simp)⟩
 | none =>
   have E := Lh (show uJ n s k = (xH s.sure k, 0) by unfold uJ; rw [c1, if_neg (by simp), if_neg (by omega), hl]);simp only [hl, Option.map_none, Option.getD_none, Option.isSome_none] at HM;have HS := Lh (fun W (hb : Below w.heap.size w W) => Xr (H.out.below hb) k hk);have HC := fun W (hb : Below w.heap.size w W) => zC7 Tryz.prog W 87 9 5 sb (k * 64) 64 (sc - k * 64) s.sure (H.out.below hb).sure (by rw [H.out.ok.len]; omega) Tryz.underlying87 Tryz.underlying5 Tryz.underlying9
   have B1 : Below w.heap.size w (w.alloc (.cells #[.int .i64 0, .string ⟨#[]⟩] 271)) := (Below.refl _ _).alloc (Nat.le_refl _) _;replace HC := HC _ B1;replace B1 := Lh B1;change _ = Result.ok (Value.string (xH s.sure k)) _ at HC;obtain ⟨T, hT⟩ : ∃ T, T = xH s.sure k := ⟨_, rfl⟩
   rw [<- hT] at HC E;clear hT;clear c1 hl c3 c4;go_enter Tryz.func158, Tryz.ntmps158;go_wp2_with (first | (go_at_call 76; refine HD.out.mono ?_; rintro e w' ⟨rfl, rfl⟩) | (go_at_call 227; refine HH.out.mono ?_; rintro e w' ⟨rfl, rfl⟩) | (go_at_call 184; refine (HS.out _ B1.out).mono ?_; rintro e w2 ⟨rfl, rfl⟩))
   go_ret2;rw [E.out];exact ⟨rfl, B1.out⟩
theorem zKd (w : World) (sb sc n : Nat) (L : List UInt8) (hL : xB w sb L) (hn : L.length = n * 64) (h1 : 1 <= n) (h2 : n <= 65536) (hc : n * 64 <= sc) :
   Calls Tryz.prog 67 #[.slice (some ⟨sb, 0, none⟩) (n * 64) sc] w fun e w' => ∃ d mb, e = .returned (.pointer (some ⟨d, 0, none⟩)) /\ zI w' d sb mb sc (.slice none 0 0) n ⟨L, [], -1, false⟩ /\ Below w.heap.size w w' /\ w.heap.size <= d /\ w.heap.size <= mb := by
 have HL := Lh hL;have zs := hL.in_ (by omega);have hmm := @run_makeMap Tryz.prog;clear hL;go_enter Tryz.func67, Tryz.ntmps67;go_wp2;go_ret;refine ⟨w.heap.size + 1, w.heap.size, rfl, ⟨?_, hc, ?_, World.ownsRow_nil _ _ _ _, ?_, by simp; omega, fun g hg => (by cases hg), ⟨h1, h2, hn, by simp, by simp, show (Lit.int .i64 (-1)).wf = true from gM (by decide) (by decide)⟩⟩, ?_, by omega, by omega⟩
 · exact Own.made_at (by simp)
 · exact (HL.out.keep (Below.heap_alloc _ _ _ zs)).keep (Below.heap_alloc _ _ _ (by simp; omega))
 · exact (xU.made _ _).keep (Below.heap_alloc _ _ _ (by simp))
 · exact ((Below.refl _ _).alloc (Nat.le_refl _) _).alloc (by simp) _
theorem zGu : (Tryz.prog.info? 5).map (fun i => (i.zero, i.size, i.bytes)) = some (some (.int .u8 0), 1, 1) := by kernel_rfl
theorem zFn (w : World) (T : TypeId) (m : Nat) : xB (w.alloc (.cells (madeCells #[.int .u8 0] m) T)) w.heap.size (List.replicate m 0) := by
 have h := (Own.made w T (madeCells #[.int .u8 0] m)).at_;refine ⟨fun j hj => ?_, fun j hj => h.2.1 j⟩;rw [h.1 j, <- Array.getElem?_toList, toList_madeCells_one];simp at hj;simp [hj]
theorem new_any (w : World) (n : Nat) (h1 : 1 <= n) (h2 : n <= 65536) :
   Calls Tryz.prog 16 #[.int .i64 n] w fun e w' => ∃ d sb mb, e = .returned (.tuple #[.pointer (some ⟨d, 0, none⟩), .int .i64 0]) /\ zI w' d sb mb (n * 64) (.slice none 0 0) n ⟨List.replicate (n * 64) 0, [], -1, false⟩ /\ Below w.heap.size w w' /\ w.heap.size <= d /\ w.heap.size <= sb /\ w.heap.size <= mb := by
 have HI := zCh n w (gM (by omega) (by omega));have e1 : (decide (1 <= (n : Int)) && decide ((n : Int) <= 65536)) = true := by simp; omega
 rw [e1] at HI;replace HI := Lh HI;have HM := run_make_row' (P := Tryz.prog) 87 5 (.int .u8 0) 1 Tryz.underlying87 zGu rfl .i64 .i64 (n * 64) (by omega) (by omega) w;have ec : ((n * 64 : Nat) : Int) = (n : Int) * 64 := by omega
 rw [ec] at HM;have HO := Lh (zKd (w.alloc (.cells (madeCells #[.int .u8 0] (n * 64)) 5)) w.heap.size (n * 64) n (List.replicate (n * 64) 0) (zFn w _ _) (by simp) h1 h2 (Nat.le_refl _));clear ec e1;go_enter Tryz.func16, Tryz.ntmps16;go_wp2_with (first | (go_at_call 66; refine HI.out.mono ?_; rintro e w' ⟨rfl, rfl⟩) | (go_at_call 67; refine HO.out.mono ?_; rintro e w' ⟨d, mb, rfl, a1, a2, a3, a4⟩))
 go_ret2;have hz : w.heap.size <= (w.alloc (.cells (madeCells #[.int .u8 0] (n * 64)) 5)).heap.size := by simp
 exact ⟨_, _, _, rfl, a1, then_ ((Below.refl _ _).alloc (Nat.le_refl _) _) a2 hz, Nat.le_trans hz a3, Nat.le_refl _, Nat.le_trans hz a4⟩
end
end
section
def mB (u : ByteArray) : List Value := u.data.toList.map fun x => .int .u8 (x.toNat : Int)
theorem zB3 (P : Program) (w : World) (dT sT ty elem : TypeId) (b o dLen dCap : Nat) (u : ByteArray) (L : List UInt8) (h : xB w b L) (hn : u.size <= dLen) (hfit : o + u.size <= L.length)
   (hu : P.underlying dT = some (.slice elem)) (hs : (P.info? elem).map (·.size) = some 1) :
   (Builtin.copy_ #[dT, sT] ty #[.slice (some ⟨b, o, none⟩) dLen dCap, .string u]).run P w = .ok (goInt u.size) (w.setCells b o (mB u)) := by
 have hl : (mB u).length = u.size := by simp [mB]
 have hst := run_storeCells_cells (P := P) b o (mB u) 0 w (fun j hj => by rw [Nat.add_zero, h.cell (o + j) (by omega)]; rfl) (fun j hj => by rw [Nat.add_zero]; exact h.free (o + j) (by omega))
   (fun v hv => by obtain ⟨x, _, rfl⟩ := List.mem_map.1 hv; rfl)
 have he : (u.extract 0 u.size) = u := by simp
 have hm : Nat.min u.size dLen = u.size := Nat.min_eq_left hn;have hc : List.take u.size (List.map (fun b : UInt8 => Value.int .u8 (b.toNat : Int)) u.data.toList) = mB u := by rw [List.take_of_length_le (by simp)]; rfl
 cases hq : P.info? elem with
 | none => simp [hq] at hs
 | some i =>
   have hi : i.size = 1 := by simpa [hq] using hs
   simp [Builtin.copy_, run_underlying hu, Builtin.lenOf, Builtin.firstCells, sizeOf, typeInfo, hq, hi, hm, he, hc, hst]
def mW (L : List UInt8) (o : Nat) (u : ByteArray) : List UInt8 := L.take o ++ u.data.toList ++ L.drop (o + u.data.toList.length)
theorem Xq (L : List UInt8) (o : Nat) (u : ByteArray) (h : o + u.size <= L.length) : (mW L o u).length = L.length := by
 have : u.data.toList.length = u.size := rfl;simp only [mW, List.length_append, List.length_take, List.length_drop];omega
def yI (kp : Nat -> Nat) : List (Nat × ByteArray) -> Nat -> List UInt8 -> List UInt8
 | [], _, L => L
 | x :: l, j, L => yI kp l (j + 1) (mW L (x.1 * 64) (x.2.extract 0 (kp j)))
theorem Jz (kp : Nat -> Nat) (x : Nat × ByteArray) : ∀ (l : List (Nat × ByteArray)) (j : Nat) (L : List UInt8), yI kp (l ++ [x]) j L = mW (yI kp l j L) (x.1 * 64) (x.2.extract 0 (kp (j + l.length)))
 | [], j, L => rfl
 | y :: l, j, L => by
   have := Jz kp x l (j + 1) (mW L (y.1 * 64) (y.2.extract 0 (kp j)));simp only [List.cons_append, yI, this, List.length_cons];rw [show j + 1 + l.length = j + (l.length + 1) by omega]
theorem jJ (kp : Nat -> Nat) (n : Nat) : ∀ (l : List (Nat × ByteArray)) (j : Nat) (L : List UInt8), L.length = n * 64 -> (∀ x ∈ l, x.1 < n /\ x.2.size = 64) -> (yI kp l j L).length = n * 64
 | [], _, _, h, _ => h
 | x :: l, j, L, h, hx => by
   have h1 := hx x (by simp);refine jJ kp n l (j + 1) _ ?_ fun y hy => hx y (by simp [hy])
   rw [Xq _ _ _ ?_, h];have : (x.2.extract 0 (kp j)).size <= 64 := by rw [ByteArray.size_extract]; omega
   rw [h]; omega
section
variable {w : World} {d sb mb sc : Nat} {wv : Value} {n : Nat} {s : St}
theorem zI.bytes (h : zI w d sb mb sc wv n s) {w' : World} {L : List UInt8} (hL : xB w' sb L) (hl : L.length = n * 64) (hc : Chg (· = sb) w w') : zI w' d sb mb sc wv n { s with sure := L } := by
 obtain ⟨m1, m2, m3⟩ := h.ne3;exact ⟨hc.own h.own (fun e => h.ne1 e.symm), h.cap, hL, jP h.wrs fun g hg => hc.block g (h.in_ (.inr (.inr (.inr hg)))) (h.ne2 g hg).2, h.map.keep (hc.block mb (h.in_ (.inr (.inr (.inl rfl)))) m2), h.ne1, h.ne2, ⟨h.ok.pos, h.ok.max, hl, h.ok.wr, h.ok.few, h.ok.fuse⟩⟩
theorem zI.wcell (h : zI w d sb mb sc wv n s) (k : Nat) (hk : k < s.wr.length) : ∃ g c, wv = .slice (some ⟨g, 0, none⟩) s.wr.length c /\ w.cell? ⟨g, k * 2, none⟩ = some (.int .i64 ((s.wr[k]'hk).1 : Int)) /\ w.cell? ⟨g, k * 2 + 1, none⟩ = some (.string (s.wr[k]'hk).2) := by
 rcases h.wrs.2 with ⟨rfl, h2⟩ | ⟨g, cap, cur, rfl, h1, h2, h3, h4, h5, h6⟩
 · omega
 · have e := zAp s.wr k hk;have hc := fun j hj => World.ownsRow.cellAt h.wrs j hj
   exact ⟨g, cap, rfl, (hc (k * 2) (by omega)).trans e.1, (hc (k * 2 + 1) (by omega)).trans e.2⟩
set_option maxHeartbeats 1000000 in
theorem Yk (h : zI w d sb mb sc wv n s) (f : FuncId) (caps : Array Value) (kp : Nat -> Nat) (hkp : ∀ j, j < s.wr.length -> kp j <= 64)
   (HE : ∀ (args : Array Value) (W : World), (callFunc f args).run Tryz.prog W = .ok (.enter f args) W)
   (HK : ∀ W (j : Nat), j < s.wr.length -> Chg (· = sb) w W -> Calls Tryz.prog f (#[.int .i64 (j : Int)] ++ caps) W fun e w' => e = .returned (.int .i64 (kp j : Int)) /\ W = w') :
   Calls Tryz.prog 98 #[.pointer (some ⟨d, 0, none⟩), .func (.func f) #[] caps] w fun e w' => e = .returned (.tuple #[]) /\ zI w' d sb mb sc (.slice none 0 0) n ⟨yI kp s.wr 0 s.sure, [], s.fuse, s.down⟩ /\ Chg (fp d sb mb wv) w w' := by
 have hfew := h.ok.few;obtain ⟨va, vc, hv, hv1, hv2⟩ := h.slice;subst hv;have H := Lh h;replace HK := Lh HK;replace hkp := Lh hkp;obtain ⟨o1, o2, o3⟩ := h.own.at_;clear h;obtain ⟨m, hm⟩ : ∃ m, m = s.wr.length := ⟨_, rfl⟩
 have M := Lh hm;rw [<- hm] at o1 hfew hv1;clear hm;go_enter Tryz.func98, Tryz.ntmps98;go_wp2;clear o1 o2 o3;go_loopw [11] (fun i wr => ∃ k : Nat, k <= m /\ i = .int .i64 k /\ Chg (· = sb) w wr /\ xB wr sb (yI kp (s.wr.take k) 0 s.sure)) (fun i wr => m - (intOf i).toNat)
 case atStart => exact ⟨0, by omega, rfl, Chg.refl _ _, H.out.sure⟩
 case round =>
   obtain ⟨k, hk, rfl, hc, hB⟩ := hrel;by_cases hlt : k < m
   · obtain ⟨g, c, hg, w1, w2⟩ := H.out.wcell k (by rw [<- M.out]; exact hlt);obtain rfl : va = some ⟨g, 0, none⟩ := by simpa using (Value.slice.inj hg).1
     obtain ⟨x, hx⟩ : ∃ x, x = s.wr[k]'(by rw [<- M.out]; exact hlt) := ⟨_, rfl⟩
     rw [<- hx] at w1 w2;have X := Lh hx;have xm : x ∈ s.wr := hx ▸ List.getElem_mem _;have hxw := H.out.ok.wr x xm;obtain ⟨x1, x2⟩ := x;clear hx hg xm;simp only at w1 w2 hxw;have hgs : g ≠ sb := (H.out.ne2 g rfl).2;have w1 := hc.cell w1 hgs;have w2 := hc.cell w2 hgs;replace hc := Lh hc;replace hB := Lh hB;have hsl : (yI kp (s.wr.take k) 0 s.sure).length = n * 64 := jJ kp n _ _ _ H.out.ok.len fun y hy => H.out.ok.wr y (List.mem_of_mem_take hy)
     replace hsl := Lh hsl;go_upto_region 3 with fail;go_name_world W0 hW0e;have O5 : Own W0 wr.heap.size 271 #[.int .i64 (x1 : Int), .string x2] := hW0e ▸ Own.made _ _ _;have B0 : Below wr.heap.size wr W0 := hW0e ▸ (Below.refl _ _).alloc (Nat.le_refl _) _;have G0 : Chg (· = sb) w W0 := hW0e ▸ hc.out.alloc _;have zb : sb < wr.heap.size := hB.out.in_ (by have := H.out.ok.pos; rw [hsl.out]; omega);have B2 : xB W0 sb (yI kp (s.wr.take k) 0 s.sure) := hB.out.keep (B0.block sb zb);have D0 : zI W0 d sb mb sc _ n _ := H.out.bytes B2 hsl.out G0;clear hW0e B0 hB w1 w2;replace O5 := Lh O5;replace G0 := Lh G0;replace B2 := Lh B2;replace D0 := Lh D0;have HKk := HK.out W0.drew k (by rw [<- M.out]; exact hlt) G0.out.drew;have HSk := Lh (Xr (D0.out.below ((Below.refl _ _).drew)) x1 hxw.1);obtain ⟨q, hq⟩ : ∃ q, q = kp k := ⟨_, rfl⟩
     have hq64 : q <= 64 := hq ▸ hkp.out k (by rw [<- M.out]; exact hlt);rw [<- hq] at HKk;replace HKk := Lh HKk;have QK := Lh hq;clear hq;obtain ⟨hx1, hx2⟩ := hxw;have us : (x2.extract 0 q).size = q := by rw [ByteArray.size_extract]; omega
     have HCP := fun ty => zB3 Tryz.prog W0.drew 87 9 ty 5 sb (x1 * 64) 64 (sc - x1 * 64) (x2.extract 0 q) _ (B2.out.keep rfl) (by omega) (by rw [us, hsl.out]; omega) Tryz.underlying87 (by kernel_rfl)
     have US := Lh us;clear us;refine zA (fun W => Own W wr.heap.size 271 #[.int .i64 (x1 : Int), .string x2]) [0, 1, 2, 4, 5, 6, 7, 9] [2, 5] [0, 1, 2, 4, 5, 6, 7, 3, 8, 9, 10] (by kernel_rfl) (by kernel_rfl) rfl (by kernel_rfl) rfl O5.out.drawn (by simp only [zU, List.filterMap_cons, List.filterMap_nil, List.getElem?_cons_zero, List.getElem?_cons_succ, Option.map_some]; exact rfl) ?_;iterate 7
       refine fU (v := ?_) rfl rfl (fun W hS => ?_) ?_;rotate_left
       · first
           | (conv => lhs; simp [go_sem]
              first | done | exact rfl)
           | (have q2 := hS rfl
              obtain ⟨q2, q5, q6⟩ := q2.at_;conv => lhs; simp [go_sem, q2]
              first | done | exact rfl)
       simp only [Act.put, lA, lZ, lS]
     refine zQ rfl rfl fun K hK => ?_
     go_wp2_with (go_at_call 184; refine HSk.out.mono ?_; rintro e w' ⟨rfl, rfl⟩)
     refine hK _ _ O5.out.drawn ?_;clear hK K;refine zQ rfl rfl fun K hK => ?_
     go_wp2;refine HKk.out.mono ?_;rintro e w' ⟨rfl, rfl⟩;go_wp2;refine hK _ _ O5.out.drawn ?_;clear hK K;have q1 : (0 : Int) <= q := by omega
     have q2 : (q : Int) <= x2.size := by omega
     have q3 : q <= x2.size := by omega
     refine fU (v := ?_) rfl rfl (fun W hS => ?_) ?_;rotate_left
     · conv => lhs; simp [go_sem, q1, q2, q3]
       first | done | exact rfl
     simp only [Act.put, lA, lZ, lS];refine zQ rfl rfl fun K hK => ?_
     go_wp2;have G1 : Chg (· = sb) W0 (W0.drew.setCells sb (x1 * 64) (mB (x2.extract 0 q))) := vB (S := (· = sb)) (.inl rfl) _ _ _ (Chg.refl _ _).drew;have hq2 : q = (x2.extract 0 q).size := US.out.symm;refine hK _ _ (G1.own O5.out (show ¬ wr.heap.size = sb by omega)) ?_;clear hK K;have B3 := gO sb (x2.extract 0 q).data.toList W0.drew (x1 * 64) _ (B2.out.keep rfl) (by show x1 * 64 + (x2.extract 0 q).size <= _; rw [US.out, hsl.out]; omega);have B4 : xB (W0.drew.setCells sb (x1 * 64) (mB (x2.extract 0 q))) sb (yI kp (s.wr.take (k + 1)) 0 s.sure) := by
       have e : s.wr.take (k + 1) = s.wr.take k ++ [(x1, x2)] := by rw [X.out, List.take_succ_eq_append_getElem]
       have hl : (s.wr.take k).length = k := by rw [List.length_take]; have := M.out; omega
       rw [e, Jz, hl, Nat.zero_add, <- QK.out];exact B3
     have G2 := G0.out.same G1;clear B3 G1 hq2;replace B4 := Lh B4;replace G2 := Lh G2;obtain ⟨W2, hW2⟩ : ∃ W2, W2 = W0.drew.setCells sb (x1 * 64) (mB (x2.extract 0 q)) := ⟨_, rfl⟩
     rw [<- hW2] at B4 G2 ⊢;clear hW2;refine zR ?_;go_wp2;go_roundw
     case rel => exact ⟨k + 1, by omega, by go_num, G2.out, B4.out⟩
     case measure => simp [intOf]; omega
   · obtain rfl : k = m := by omega
     rw [M.out, List.take_length] at hB;obtain ⟨m1, m2, m3⟩ := H.out.ne3;have O1 := hc.own H.out.own (fun e => H.out.ne1 e.symm);have M1 := H.out.map.keep (hc.block mb (H.out.in_ (.inr (.inr (.inl rfl)))) m2);have M2 : xU (wr.setCell ⟨d, 1, none⟩ (.slice none 0 0)) mb .i64 _ := M1.keep (Below.heap_setCell _ _ _ _ m1);obtain ⟨w4, hcl, M5, G3, z4⟩ := xU.clear (P := Tryz.prog) M2 0 Tryz.underlying165;obtain ⟨o1, o2, o3⟩ := O1.at_;have zs := H.out.in_ (q := sb) (.inr (.inl rfl));go_wp2;go_end0
     have zwr := hc.size;have kb : ∀ q, q ≠ d -> q ≠ mb -> q < wr.heap.size -> w4.heap[q]? = wr.heap[q]? := fun q h1 h2 h3 => (G3.block q (by simpa [World.setCell] using h3) h2).trans (Below.heap_setCell _ _ _ _ h1)
     refine ⟨rfl, ⟨G3.own (O1.put 1 _) (fun e => m1 e.symm), H.out.cap, hB.keep (kb sb H.out.ne1 (fun e => m2 e.symm) (by omega)), World.ownsRow_nil _ _ _ _, ?_, H.out.ne1, fun g hg => (by cases hg), ⟨H.out.ok.pos, H.out.ok.max, jJ kp n _ _ _ H.out.ok.len H.out.ok.wr, by simp, by simp, H.out.ok.fuse⟩⟩, ?_⟩
     · exact M5
     · exact ((hc.mono fun q _ e => .inr (.inl e)).set ⟨d, 1, none⟩ (.inl (.inl rfl)) _).same (G3.mono fun q _ e => .inr (.inr (.inl e)))
end
end
end Go.Proofs.YthijgebmoadgkaaGreatDoor
