import Derived.Test.YthijgebmoadgkaaGreatDoorPguD
import Derived.BigQuiet
import Derived.Test.YthijgebmoadgkaaGreatDoorDisB
import Derived.Test.YthijgebmoadgkaaGreatDoorPgvF
set_option linter.unusedVariables false
set_option linter.unusedSimpArgs false
namespace Go.Proofs.YthijgebmoadgkaaGreatDoor
open Go.ChangeShapes Go.WideShapes Go.ChangeAt Go.RowKit
section
theorem zMq (x0 x1 x2 x3 x4 x5 x6 x7 : Int) (y0 y1 y2 y3 y4 y5 y6 y7 : Int) (w : World) : (Op.equalIn 10000 36 (.agg #[.int .u64 x0, .int .u64 x1, .int .u64 x2, .int .u64 x3, .int .u64 x4, .int .u64 x5, .int .u64 x6, .int .u64 x7]) (.agg #[.int .u64 y0, .int .u64 y1, .int .u64 y2, .int .u64 y3, .int .u64 y4, .int .u64 y5, .int .u64 y6, .int .u64 y7])).run Tryz.prog w = .ok (decide (x0 = y0 /\ x1 = y1 /\ x2 = y2 /\ x3 = y3 /\ x4 = y4 /\ x5 = y5 /\ x6 = y6 /\ x7 = y7)) w := by
 have u3 := Tryz.underlying35;have a3 := Tryz.isAgg35;have z3 := Tryz.sizeOf35;rw [show (10000 : Nat) = 9999 + 1 from rfl, Op.equalIn];simp only [Sem.run_bind, run_underlying Tryz.underlying36, Result.andThen_ok];simp only [Std.Legacy.Range.forIn_eq_forIn_range', Std.Legacy.Range.size, Nat.sub_zero, Nat.add_sub_cancel, Nat.div_one, List.range'_succ, List.range'_zero, List.forIn_cons, List.forIn_nil];go_simp
 by_cases h0 : x0 = y0
 case neg => simp [h0]
 by_cases h1 : x1 = y1
 case neg => simp [h0, h1]
 by_cases h2 : x2 = y2
 case neg => simp [h0, h1, h2]
 by_cases h3 : x3 = y3
 case neg => simp [h0, h1, h2, h3]
 by_cases h4 : x4 = y4
 case neg => simp [h0, h1, h2, h3, h4]
 by_cases h5 : x5 = y5
 case neg => simp [h0, h1, h2, h3, h4, h5]
 by_cases h6 : x6 = y6
 case neg => simp [h0, h1, h2, h3, h4, h5, h6]
 by_cases h7 : x7 = y7
 case neg => simp [h0, h1, h2, h3, h4, h5, h6, h7]
 simp [h0, h1, h2, h3, h4, h5, h6, h7]
def zGb (s t : RSt) : Prop := s.kinds = t.kinds /\ s.rooms = t.rooms /\ ∀ i, i < 8 -> s.roots i = t.roots i
open Classical in
noncomputable def sameB (s t : RSt) : Bool := decide (zGb s t)
open Classical in
theorem zBq {s t : RSt} (h : ¬ zGb s t) : sameB s t = false := by unfold sameB; exact decide_eq_false h
open Classical in
theorem Xw {s t : RSt} (h : zGb s t) : sameB s t = true := by unfold sameB; exact decide_eq_true h
theorem Qu {w : World} {B n cp : Nat} {T : TypeId} {a : Option Addr} {l : List Value} (h : w.ownsRow B T 1 (.slice a n cp) n l) (k : Nat) (hk : k < l.length) : ∃ g, a = some ⟨g, 0, none⟩ /\ w.cell? ⟨g, k, none⟩ = some (l[k]'hk) /\ w.frozen? ⟨g, k, none⟩ = false := by
 obtain ⟨a', cp', e, -, h2⟩ := yD h;injection e with e1 _ _;subst e1;obtain ⟨g, h3, -, h4, h5⟩ := h2 k hk;exact ⟨g, h3, h4, h5⟩
section
variable {w w' : World} {B B' : Nat} {vk vr vf uk ur uf : Value} {s t : RSt}
set_option maxRecDepth 10000 in
set_option maxHeartbeats 2000000 in
theorem fY (h : jG w B vk vr vf s) (k : jG w B' uk ur uf t) (hs : s.rooms.length = s.kinds.length) (ht : t.rooms.length = t.kinds.length) : Calls Tryz.prog 30 #[.agg (stC vk vr vf s.roots), .agg (stC uk ur uf t.roots)] w fun e w' => e = .returned (.bool (sameB s t)) /\ Below w.heap.size w w' := by
 obtain ⟨a1, c1, rfl, -, -⟩ := yD h.k;obtain ⟨a2, c2, rfl, -, -⟩ := yD h.r;obtain ⟨a3, c3, rfl, -, -⟩ := yD h.f;obtain ⟨b1, d1, rfl, -, -⟩ := yD k.k;obtain ⟨b2, d2, rfl, -, -⟩ := yD k.r;obtain ⟨b3, d3, rfl, -, -⟩ := yD k.f;obtain ⟨r, hr⟩ : ∃ r, r = s.roots := ⟨_, rfl⟩
 obtain ⟨q, hq⟩ : ∃ q, q = t.roots := ⟨_, rfl⟩
 obtain ⟨n, hn⟩ : ∃ n, n = s.kinds.length := ⟨_, rfl⟩
 obtain ⟨m, hm⟩ : ∃ m, m = t.kinds.length := ⟨_, rfl⟩
 have HH := Lh (And.intro h k);rw [<- hr, <- hq];have O1 := (Own.made w 38 (stC (.slice a1 s.kinds.length c1) (.slice a2 s.rooms.length c2) (.slice a3 s.free.length c3) r)).more (.cells (stC (.slice b1 t.kinds.length d1) (.slice b2 t.rooms.length d2) (.slice b3 t.free.length d3) q) 38);have O2 : Own ((w.alloc (.cells (stC (.slice a1 s.kinds.length c1) (.slice a2 s.rooms.length c2) (.slice a3 s.free.length c3) r) 38)).alloc (.cells (stC (.slice b1 t.kinds.length d1) (.slice b2 t.rooms.length d2) (.slice b3 t.free.length d3) q) 38)) (w.heap.size + 1) 38 (stC (.slice b1 t.kinds.length d1) (.slice b2 t.rooms.length d2) (.slice b3 t.free.length d3) q) := Own.made_at (by simp);have B2 : Below w.heap.size w ((w.alloc (.cells (stC (.slice a1 s.kinds.length c1) (.slice a2 s.rooms.length c2) (.slice a3 s.free.length c3) r) 38)).alloc (.cells (stC (.slice b1 t.kinds.length d1) (.slice b2 t.rooms.length d2) (.slice b3 t.free.length d3) q) 38)) := (zG _ _ _).alloc (by simp) _;rw [hs, ht, <- hn, <- hm] at O1 O2 B2 ⊢;unfold stC at O1 O2 B2 ⊢;obtain ⟨RB, hRB⟩ : ∃ RB, RB = sameB s t := ⟨_, rfl⟩
 rw [<- hRB];have HE := Lh (And.intro hs (And.intro ht (And.intro hr (And.intro hq (And.intro hn hm)))));have HRB := Lh hRB;have EQ := Lh (fun w => zMq (r 0) (r 1) (r 2) (r 3) (r 4) (r 5) (r 6) (r 7) (q 0) (q 1) (q 2) (q 3) (q 4) (q 5) (q 6) (q 7) w);obtain ⟨b, hb⟩ : ∃ b, b = decide ((r 0 : Int) = (q 0 : Int) /\ (r 1 : Int) = (q 1 : Int) /\ (r 2 : Int) = (q 2 : Int) /\ (r 3 : Int) = (q 3 : Int) /\ (r 4 : Int) = (q 4 : Int) /\ (r 5 : Int) = (q 5 : Int) /\ (r 6 : Int) = (q 6 : Int) /\ (r 7 : Int) = (q 7 : Int)) := ⟨_, rfl⟩
 rw [<- hb] at EQ;have HB := Lh hb;have hmx := zMc h.k;rw [<- hn] at hmx;unfold maxLen at hmx;clear h k hs ht hr hq hn hm hRB hb;have EQo := EQ.out;by_cases c : n = m
 · obtain rfl := c;cases b with
   | false =>
     have E : Hid (RB = false) := Lh (by
       obtain ⟨-, -, e3, e4, -, -⟩ := HE.out;rw [HRB.out];refine zBq fun hh => (of_decide_eq_false HB.out.symm) ?_
       rw [e3, e4];have hh := hh.2.2;refine ⟨?_, ?_, ?_, ?_, ?_, ?_, ?_, ?_⟩ <;> exact congrArg _ (hh _ (by omega)))
     go_enter Tryz.func30, Tryz.ntmps30;go_upto_region 1 with fail;go_name_world W0 hW0;rw [hW0] at O1 O2 B2;clear hW0;obtain ⟨q1, q2, q3⟩ := O1.at_;obtain ⟨p1, p2, p3⟩ := O2.at_;have HB2 := Lh B2;clear B2 O1 O2;go_wp2;go_ret;rw [E.out];exact ⟨rfl, HB2.out⟩
   | true =>
     go_enter Tryz.func30, Tryz.ntmps30;go_upto_region 1 with fail;go_name_world W0 hW0;rw [hW0] at O1 O2 B2;clear hW0;obtain ⟨q1, q2, q3⟩ := O1.at_;obtain ⟨p1, p2, p3⟩ := O2.at_;have HB2 := Lh B2;have HO1 := Lh O1;have HO2 := Lh O2;clear B2 O1 O2;have HR : Hid (∀ i, i < 8 -> s.roots i = t.roots i) := Lh fun i hi => by
       obtain ⟨-, -, e3, e4, -, -⟩ := HE.out;have h8 := of_decide_eq_true HB.out.symm;rw [e3, e4] at h8;obtain ⟨g0, g1, g2, g3, g4, g5, g6, g7⟩ := h8;rcases Xk hi with rfl | rfl | rfl | rfl | rfl | rfl | rfl | rfl <;> omega
     go_wp2;clear q1 q2 q3 p1 p2 p3 EQo;go_loopw [5] (fun i wr => ∃ k : Nat, k <= n /\ i = .int .i64 (k : Int) /\ Below W0.heap.size W0 wr /\ (∀ j, j < k -> s.kinds[j]? = t.kinds[j]? /\ s.rooms[j]? = t.rooms[j]?)) (fun i wr => n - (intOf i).toNat)
     case atStart => exact ⟨0, Nat.zero_le _, rfl, Below.refl _ _, fun j hj => by omega⟩
     case round =>
       obtain ⟨k, hk, rfl, hbw, hall⟩ := hrel;have HBW := Lh hbw;have HALL := Lh hall;obtain ⟨q1, q2, q3⟩ := (HO1.out.keep hbw).at_;obtain ⟨p1, p2, p3⟩ := (HO2.out.keep hbw).at_;clear hbw hall;by_cases hlt : k < n
       · have t1 : decide (k < n) = true := by simpa using hlt
         have HS := HH.out.1.below (then_ HB2.out HBW.out HB2.out.size);have HT := HH.out.2.below (then_ HB2.out HBW.out HB2.out.size);obtain ⟨e1, e2, -, -, e5, e6⟩ := HE.out;have l1 : k < s.kinds.length := by omega
         have l2 : k < s.rooms.length := by omega
         have l3 : k < t.kinds.length := by omega
         have l4 : k < t.rooms.length := by omega
         obtain ⟨g1, hg1, c1, -⟩ := Qu HS.k k (by simpa [mU] using l1);obtain ⟨g2, hg2, c2, -⟩ := Qu HS.r k (by simpa [Jk] using l2);obtain ⟨g3, hg3, c3, -⟩ := Qu HT.k k (by simpa [mU] using l3);obtain ⟨g4, hg4, c4, -⟩ := Qu HT.r k (by simpa [Jk] using l4);subst hg1;subst hg2;subst hg3;subst hg4;simp only [mU, Jk, List.getElem_map] at c1 c2 c3 c4;have d1 := List.getElem?_eq_getElem l1;have d2 := List.getElem?_eq_getElem l2;have d3 := List.getElem?_eq_getElem l3;have d4 := List.getElem?_eq_getElem l4;obtain ⟨K1, hK1⟩ : ∃ K, K = s.kinds[k] := ⟨_, rfl⟩
         obtain ⟨S1, hS1⟩ : ∃ K, K = s.rooms[k] := ⟨_, rfl⟩
         obtain ⟨K2, hK2⟩ : ∃ K, K = t.kinds[k] := ⟨_, rfl⟩
         obtain ⟨S2, hS2⟩ : ∃ K, K = t.rooms[k] := ⟨_, rfl⟩
         rw [<- hK1] at c1 d1;rw [<- hS1] at c2 d2;rw [<- hK2] at c3 d3;rw [<- hS2] at c4 d4;obtain ⟨x1, hx1⟩ : ∃ x : Int, x = (K1 : Int) := ⟨_, rfl⟩
         obtain ⟨x2, hx2⟩ : ∃ x : Int, x = (K2 : Int) := ⟨_, rfl⟩
         rw [<- hx1] at c1;rw [<- hx2] at c3;have D := Lh (And.intro d1 (And.intro d2 (And.intro d3 (And.intro d4 (And.intro hx1 hx2)))));have DIF : Hid (¬ (K1 = K2 /\ S1 = S2) -> RB = false) := Lh fun hne => by
           rw [HRB.out];refine zBq fun hh => hne ?_
           rw [hh.1, d3] at d1;rw [hh.2.1, d4] at d2;injection d1 with d1;injection d2 with d2;exact ⟨d1.symm, d2.symm⟩
         clear d1 d2 d3 d4 hx1 hx2 hK1 hS1 hK2 hS2 HS HT e1 e2 e5 e6 l1 l2 l3 l4;go_upto_region 6 with fail;by_cases n1 : x1 = x2
         · have m1 : (x1 != x2) = false := by simpa using n1
           by_cases n2 : S1 = S2
           · have N12 : Hid (∀ j, j < k + 1 -> s.kinds[j]? = t.kinds[j]? /\ s.rooms[j]? = t.rooms[j]?) := Lh fun j hj => by
               obtain ⟨d1, d2, d3, d4, d5, d6⟩ := D.out;by_cases e : j = k
               · subst e;rw [d1, d2, d3, d4, n2];exact ⟨congrArg some (by omega), rfl⟩
               · exact HALL.out j (by omega)
             subst n2;clear n1;go_quiet (fail)
             go_wp2;go_roundw
             case rel => exact ⟨k + 1, by omega, by go_num, zM HBW.out _, N12.out⟩
             case measure => simp [intOf]; omega
           · have E : Hid (RB = false) := Lh (DIF.out fun h => n2 h.2);have m5 : (S1.toList == S2.toList) = false := by
               rw [beq_eq_false_iff_ne, ByteArray.toList_eq, ByteArray.toList_eq];exact fun e => n2 (ByteArray.ext (Array.toList_inj.1 e))
             clear n1;go_quiet (fail)
             go_wp2;go_ret;rw [E.out];exact ⟨rfl, then_ HB2.out (zM HBW.out _) HB2.out.size⟩
         · have m1 : (x1 != x2) = true := by simpa using n1
           have E : Hid (RB = false) := Lh (DIF.out fun h => n1 (by
             obtain ⟨-, -, -, -, d5, d6⟩ := D.out;have := h.1;omega))
           clear n1;go_quiet (fail)
           go_wp2;go_ret;rw [E.out];exact ⟨rfl, then_ HB2.out (zM HBW.out _) HB2.out.size⟩
       · obtain rfl : k = n := by omega
         have t1 : decide (k < k) = false := by simp
         have E : Hid (RB = true) := Lh (by
           obtain ⟨e1, e2, -, -, e5, e6⟩ := HE.out;rw [HRB.out];refine Xw ⟨List.ext_getElem? fun j => ?_, List.ext_getElem? fun j => ?_, HR.out⟩
           · by_cases hj : j < k
             · exact (HALL.out j hj).1
             · rw [List.getElem?_eq_none (by omega), List.getElem?_eq_none (by omega)]
           · by_cases hj : j < k
             · exact (HALL.out j hj).2
             · rw [List.getElem?_eq_none (by omega), List.getElem?_eq_none (by omega)])
         go_wp2;go_ret;rw [E.out];exact ⟨rfl, then_ HB2.out HBW.out HB2.out.size⟩
 · have E : Hid (RB = false) := Lh (by
     obtain ⟨-, -, -, -, e5, e6⟩ := HE.out;rw [HRB.out];refine zBq fun hh => c ?_
     rw [e5, e6, hh.1])
   have m1 : (n != m) = true := by simpa using c
   have m2 : ((n : Int) != (m : Int)) = true := by simp; omega
   clear c EQo;go_enter Tryz.func30, Tryz.ntmps30;go_upto_region 1 with fail;go_name_world W0 hW0;rw [hW0] at O1 O2 B2;clear hW0;obtain ⟨q1, q2, q3⟩ := O1.at_;obtain ⟨p1, p2, p3⟩ := O2.at_;have HB2 := Lh B2;clear B2 O1 O2;go_wp2;go_ret;rw [E.out];exact ⟨rfl, HB2.out⟩
end
end
section
section
variable {P : Program} {ops : Array Oper} {Q : Exit -> Act -> World -> Prop} {md : Region.Mode} {S : World -> Prop} {cls see : Nat -> Bool}
end
end
section
section
variable {P : Program} {ops : Array Oper} {Q : Exit -> Act -> World -> Prop} {md : Region.Mode} {S : World -> Prop} {cls see : Nat -> Bool}
end
end
section
def st0 : RSt := ⟨[1], [zJ 1 0 (fun _ => 0)], [], fun _ => 0⟩
def rs0 (most room : Nat) : RS := ⟨most, room, st0, st0, List.replicate most false⟩
theorem zA5 {w : World} {B C : Nat} {T : TypeId} {v : Value} {l : List Value} {n : Nat} (h : w.ownsRow C T 1 v n l) (hB : B <= C) : w.ownsRow B T 1 v n l := by
 refine ⟨h.1, ?_⟩;rcases h.2 with h2 | ⟨g, cap, cur, rfl, r1, r2⟩
 · exact .inl h2
 · exact .inr ⟨g, cap, cur, rfl, Nat.le_trans hB r1, r2⟩
end
section
section
variable {w w' : World} {B B0 Bp d p c N ll room : Nat} {s : St} {P : PS}
theorem qC.root (h : qC P N ll room) (i : Nat) (hi : i < 8) : P.root i = 0 := by
 unfold PS.root;rw [h.view];exact zB1 1 0 _ i hi (by omega)
end
end
section
def RS.abort (R : RS) : RS := { R with way := R.sure, dirty := List.replicate R.most false }
def RS.keep (R : RS) : RS := { R with sure := R.way, dirty := List.replicate R.most false }
def RS.alNo (R : RS) : Nat := if R.way.free = [] then R.way.kinds.length else R.way.first
def RS.grow (R : RS) : RS := if R.way.free = [] then { R with way := { R.way with kinds := R.way.kinds ++ [0], rooms := R.way.rooms ++ [⟨#[]⟩] } } else { R with way := { R.way with free := R.way.free.take (R.way.free.length - 1) } }
def RS.laid (G : RS) (no k : Nat) (F : ByteArray) : RS := { G with way := { G.way with kinds := G.way.kinds.set no k, rooms := G.way.rooms.set no F } }
def RS.alK (R : RS) (k : Nat) : RS := (R.grow.laid R.alNo k (fl ⟨#[]⟩)).touch [R.alNo, 0]
def RS.more (G : RS) (no : Nat) : RS := { G with way := { G.way with free := G.way.free ++ [no] } }
def RS.relK (R : RS) (no : Nat) : RS := ((R.laid no 255 (yY R.way.first)).more no).touch [no, 0]
end
section
def zM4 (cs : Array Value) : Nat -> List Value -> Array Value
 | _, [] => cs
 | i, v :: vs => zM4 (cs.setIfInBounds i v) (i + 1) vs
theorem Own.cells {q : Nat} {T : TypeId} : ∀ (vs : List Value) (i : Nat) (w : World) (cs : Array Value), Own w q T cs -> Own (w.setCells q i vs) q T (zM4 cs i vs)
 | [], _, _, _, h => h
 | v :: vs, i, w, cs, h => Own.cells vs (i + 1) _ _ (h.put i v)
section
variable {w w' w2 : World} {B p : Nat} {sk sr sf wk wr wf vd a b c : Value} {R : RS}
theorem jG.low {C : Nat} {s : RSt} (h : jG w C a b c s) (hB : B <= C) : jG w B a b c s := ⟨zA5 h.k hB, zA5 h.r hB, zA5 h.f hB, h.ap⟩
theorem jG.cells {s : RSt} {q : Nat} {T : TypeId} {cs : Array Value} (h : jG w B a b c s) (ho : Own w q T cs) (h1 : 3 ≠ T) (h2 : 9 ≠ T) (i : Nat) (vs : List Value) : jG (w.setCells q i vs) B a b c s :=
 ⟨jX (vA h.k ho h1) vs i _ h.k, jX (vA h.r ho h2) vs i _ h.r, jX (vA h.f ho h1) vs i _ h.f, h.ap⟩
end
end
section
section
variable {w w' y : World} {B p : Nat} {sk sr sf wk wr wf vd v : Value} {R : RS} {o : Obj}
end
end
section
section
variable {w w' : World} {B p : Nat} {sk sr sf wk wr wf vd : Value} {R : RS}
end
end
section
section
variable {w w' : World} {B p : Nat} {sk sr sf wk wr wf vd : Value} {R : RS}
end
end
end Go.Proofs.YthijgebmoadgkaaGreatDoor
