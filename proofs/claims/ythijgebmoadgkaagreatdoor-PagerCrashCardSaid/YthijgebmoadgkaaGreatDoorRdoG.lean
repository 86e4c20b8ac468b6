import Derived.Test.YthijgebmoadgkaaGreatDoorRdoA
import Derived.Test.YthijgebmoadgkaaGreatDoorRdoE
set_option linter.unusedVariables false
set_option linter.unusedSimpArgs false
namespace Go.Proofs.YthijgebmoadgkaaGreatDoor
open Go.ChangeShapes Go.WideShapes Go.ChangeAt Go.RowKit
section
def txc : List (Nat × List ByteArray) -> List Value -> List Value
 | t :: ts, v :: vs => .int .u64 (t.1 : Int) :: v :: txc ts vs
 | _, _ => []
theorem zJy : ∀ (ts : List (Nat × List ByteArray)) (vs : List Value) (h : vs.length = ts.length) (i : Nat) (hi : i < ts.length), (txc ts vs)[i * 2]? = some (.int .u64 ((ts[i]'hi).1 : Int)) /\ (txc ts vs)[i * 2 + 1]? = vs[i]?
 | t :: ts, v :: vs, h, 0, _ => ⟨rfl, rfl⟩
 | t :: ts, v :: vs, h, i + 1, hi => by
   have := zJy ts vs (by simpa using h) i (by simpa using hi);have e : (i + 1) * 2 = i * 2 + 1 + 1 := by omega
   rw [e];exact this
theorem zCk : ∀ (ts : List (Nat × List ByteArray)) (vs : List Value) (t : Nat × List ByteArray) (v : Value), vs.length = ts.length -> txc (ts ++ [t]) (vs ++ [v]) = txc ts vs ++ [.int .u64 (t.1 : Int), v]
 | [], [], _, _, _ => rfl
 | a :: ts, b :: vs, t, v, h => by
   have := zCk ts vs t v (by simpa using h);simp only [List.cons_append, txc, this]
def xT (w : World) (S : Nat -> Prop) (v : Value) (ts : List (Nat × List ByteArray)) : Prop :=
 ∃ a cap, v = .slice a ts.length cap /\ ts.length <= cap /\ cap <= maxLen /\
   (ts = [] \/ ∃ b o, a = some ⟨b, o, none⟩ /\ S b /\ b < w.heap.size /\ ∀ i (h : i < ts.length), w.cell? ⟨b, o + i * 2, none⟩ = some (.int .u64 ((ts[i]'h).1 : Int)) /\ ∃ u, w.cell? ⟨b, o + i * 2 + 1, none⟩ = some u /\ yJ w S u (ts[i]'h).2)
theorem xT.nil (w : World) (S : Nat -> Prop) : xT w S (.slice none 0 0) [] := ⟨none, 0, rfl, Nat.le_refl _, Nat.zero_le _, .inl rfl⟩
theorem xT.keep {w w' : World} {S T : Nat -> Prop} {v : Value} {ts : List (Nat × List ByteArray)} (h : xT w S v ts) (hc : Chg T w w') (k : ∀ b, b < w.heap.size -> S b -> ¬ T b) : xT w' S v ts := by
 obtain ⟨a, cap, h1, h2, h3, h5⟩ := h;refine ⟨a, cap, h1, h2, h3, ?_⟩;rcases h5 with h5 | ⟨b, o, e, hS, hb, hcl⟩
 · exact .inl h5
 · refine .inr ⟨b, o, e, hS, Nat.lt_of_lt_of_le hb hc.size, fun i hi => ?_⟩;obtain ⟨c1, u, c2, c3⟩ := hcl i hi;exact ⟨hc.cell c1 (k b hb hS), u, hc.cell c2 (k b hb hS), c3.keep hc k⟩
theorem xT.mono {w : World} {S T : Nat -> Prop} {v : Value} {ts : List (Nat × List ByteArray)} (h : xT w S v ts) (k : ∀ b, b < w.heap.size -> S b -> T b) : xT w T v ts := by
 obtain ⟨a, cap, h1, h2, h3, h5⟩ := h;refine ⟨a, cap, h1, h2, h3, ?_⟩;rcases h5 with h5 | ⟨b, o, e, hS, hb, hcl⟩
 · exact .inl h5
 · refine .inr ⟨b, o, e, k b hb hS, hb, fun i hi => ?_⟩;obtain ⟨c1, u, c2, c3⟩ := hcl i hi;exact ⟨c1, u, c2, c3.mono k⟩
theorem xT.below {w w' : World} {S : Nat -> Prop} {v : Value} {ts : List (Nat × List ByteArray)} (h : xT w S v ts) (hb : Below w.heap.size w w') : xT w' S v ts := h.keep (Chg.of (S := fun _ => False) hb) fun _ _ _ => id
theorem xT.open_ {w : World} {S : Nat -> Prop} {v : Value} {ts : List (Nat × List ByteArray)} (h : xT w S v ts) : ∃ a cap, v = .slice a ts.length cap /\ ts.length <= cap /\ cap <= maxLen /\ ∀ i (hi : i < ts.length), ∃ b o, a = some ⟨b, o, none⟩ /\ S b /\ b < w.heap.size /\ w.cell? ⟨b, o + i * 2, none⟩ = some (.int .u64 ((ts[i]'hi).1 : Int)) /\ ∃ u, w.cell? ⟨b, o + i * 2 + 1, none⟩ = some u /\ yJ w S u (ts[i]'hi).2 := by
 obtain ⟨a, cap, h1, h2, h3, h5⟩ := h;refine ⟨a, cap, h1, h2, h3, fun i hi => ?_⟩;rcases h5 with h5 | ⟨b, o, e, hS, hb, hcl⟩
 · subst h5; simp at hi
 · exact ⟨b, o, e, hS, hb, hcl i hi⟩
structure zGp (w : World) (T : TypeId) (S : Nat -> Prop) (v : Value) (ts : List (Nat × List ByteArray)) (vs : List Value) : Prop where
 len : vs.length = ts.length
 row : w.ownsRow 0 T 2 v ts.length (txc ts vs)
 at_ : ∀ g, v.ownBlock = some g -> S g
 strs : ∀ i (h : i < ts.length), ∃ u, vs[i]? = some u /\ yJ w (fun b => S b /\ v.ownBlock ≠ some b) u (ts[i]'h).2
def uV (w : World) (T : TypeId) (S : Nat -> Prop) (v : Value) (ts : List (Nat × List ByteArray)) : Prop := ∃ vs, zGp w T S v ts vs
theorem uV.nil (w : World) (T : TypeId) (S : Nat -> Prop) : uV w T S (.slice none 0 0) [] :=
 ⟨[], rfl, World.ownsRow_nil _ _ _ _, (by intro g hg; cases hg), (by intro i h; exact absurd h (Nat.not_lt_zero _))⟩
theorem zCx {w w' : World} {e : TypeId} {size : Nat} {v : Value} {n : Nat} {xs : List Value} (h : w.ownsRow 0 e size v n xs) (hk : ∀ g, v.ownBlock = some g -> w'.heap[g]? = w.heap[g]?) : w'.ownsRow 0 e size v n xs := by
 refine ⟨h.1, ?_⟩;rcases h.2 with h2 | ⟨g, cap, cur, rfl, r1, r2, r3⟩
 · exact .inl h2
 · exact .inr ⟨g, cap, cur, rfl, r1, (hk g rfl).trans r2, r3⟩
theorem uV.keep {w w' : World} {T : TypeId} {S U : Nat -> Prop} {v : Value} {ts : List (Nat × List ByteArray)} (h : uV w T S v ts) (hc : Chg U w w') (k : ∀ b, b < w.heap.size -> S b -> ¬ U b) : uV w' T S v ts := by
 obtain ⟨vs, h1, h2, h3, h4⟩ := h;refine ⟨vs, h1, zCx h2 fun g hg => hc.block g (h2.lt g hg).2 (k g (h2.lt g hg).2 (h3 g hg)), h3, fun i hi => ?_⟩;obtain ⟨u, hu, hs⟩ := h4 i hi;exact ⟨u, hu, hs.keep hc fun b hb hS => k b hb hS.1⟩
theorem uV.below {w w' : World} {T : TypeId} {S : Nat -> Prop} {v : Value} {ts : List (Nat × List ByteArray)} (h : uV w T S v ts) (hb : Below w.heap.size w w') : uV w' T S v ts := h.keep (Chg.of (S := fun _ => False) hb) fun _ _ _ => id
theorem uV.mono {w : World} {T : TypeId} {S U : Nat -> Prop} {v : Value} {ts : List (Nat × List ByteArray)} (h : uV w T S v ts) (k : ∀ b, b < w.heap.size -> S b -> U b) : uV w T U v ts := by
 obtain ⟨vs, h1, h2, h3, h4⟩ := h;refine ⟨vs, h1, h2, fun g hg => k g (h2.lt g hg).2 (h3 g hg), fun i hi => ?_⟩;obtain ⟨u, hu, hs⟩ := h4 i hi;exact ⟨u, hu, hs.mono fun b hb hS => ⟨k b hb hS.1, hS.2⟩⟩
theorem uV.shape {w : World} {T : TypeId} {S : Nat -> Prop} {v : Value} {ts : List (Nat × List ByteArray)} (h : uV w T S v ts) : ∃ a c, v = .slice a ts.length c /\ ts.length <= c /\ c <= maxLen := by
 obtain ⟨vs, h1, h2, h3, h4⟩ := h;rcases h2.2 with ⟨rfl, h⟩ | ⟨g, cap, cur, rfl, _, _, r1, r2, _⟩
 · exact ⟨none, 0, by rw [h], by omega, Nat.zero_le _⟩
 · exact ⟨_, _, rfl, r1, r2⟩
theorem zGp.push {w wa w3 : World} {T : TypeId} {S : Nat -> Prop} {v v' u : Value} {ts : List (Nat × List ByteArray)} {vs : List Value} {t : Nat × List ByteArray} (h : zGp w T S v ts vs) (hu : yJ w (fun b => S b /\ v.ownBlock ≠ some b) u t.2)
   (ha : Below w.heap.size w wa) (hown : w3.ownsRow 0 T 2 v' (ts.length + 1) (txc ts vs ++ [.int .u64 (t.1 : Int), u])) (hg : wa.grownBy w3 v.ownBlock) (hl : v'.ownBlock = v.ownBlock \/ v'.ownBlock = some wa.heap.size) (hS : ∀ q, w.heap.size <= q -> S q) :
   uV w3 T S v' (ts ++ [t]) /\ Chg (fun q => v.ownBlock = some q) w w3 := by
 have hc : Chg (fun q => v.ownBlock = some q) w w3 := (Chg.of ha).grown hg fun k hk => .inl hk
 have kk : ∀ u l, yJ w (fun b => S b /\ v.ownBlock ≠ some b) u l -> yJ w3 (fun b => S b /\ v'.ownBlock ≠ some b) u l := fun u l hs => by
   have h1 : yJ w (fun b => S b /\ v.ownBlock ≠ some b /\ v'.ownBlock ≠ some b) u l := hs.mono fun b hb hh => ⟨hh.1, hh.2, by
     rcases hl with hl | hl
     · rw [hl]; exact hh.2
     · rw [hl]; have := ha.size; intro e; injection e; omega⟩
   exact (h1.keep hc fun b hb hh => hh.2.1).mono fun b hb hh => ⟨hh.1, hh.2.2⟩
 refine ⟨⟨vs ++ [u], by simp [h.len], ?_, ?_, fun i hi => ?_⟩, hc⟩
 · rw [zCk ts vs t u h.len, List.length_append];exact hown
 · intro g hg';rcases hl with hl | hl
   · exact h.at_ g (hl ▸ hg')
   · rw [hl] at hg'; injection hg' with e; exact e ▸ hS _ ha.size
 · by_cases hlt : i < ts.length
   · obtain ⟨u', hu', hs'⟩ := h.strs i hlt;refine ⟨u', by rw [List.getElem?_append_left (by have := h.len; omega)]; exact hu', ?_⟩;rw [List.getElem_append_left hlt];exact kk _ _ hs'
   · have e : i = ts.length := by simp at hi; omega
     subst e;refine ⟨u, by rw [List.getElem?_append_right (by have := h.len; omega), h.len]; simp, ?_⟩;rw [List.getElem_append_right (by omega)];simp only [Nat.sub_self, List.getElem_cons_zero];exact kk _ _ hu
theorem uV.in_ {w : World} {T : TypeId} {S : Nat -> Prop} {v : Value} {ts : List (Nat × List ByteArray)} (h : uV w T S v ts) : xT w S v ts := by
 obtain ⟨a, c, hv, hc1, hc2⟩ := h.shape;obtain ⟨vs, h1, h2, h3, h4⟩ := h;refine ⟨a, c, hv, hc1, hc2, ?_⟩;rcases h2.2 with ⟨_, h⟩ | ⟨g, cap, cur, hv2, r0, r1, r2, r3, r4, r5⟩
 · exact .inl (List.length_eq_zero_iff.1 h)
 · by_cases h0 : ts = []
   · exact .inl h0
   · rw [hv2] at h2 h3 h4;refine .inr ⟨g, 0, ?_, h3 g rfl, (h2.lt g rfl).2, fun i hi => ?_⟩
     · rw [hv] at hv2; exact (Value.slice.inj hv2).1
     · have ha := zJy ts vs h1 i hi;obtain ⟨u, hu, hs⟩ := h4 i hi;refine ⟨?_, u, ?_, hs.mono fun b _ hh => hh.1⟩
       · rw [Nat.zero_add];exact (h2.cellAt (i * 2) (by omega)).trans ha.1
       · rw [Nat.zero_add];exact (h2.cellAt (i * 2 + 1) (by omega)).trans (ha.2.trans hu)
end
section
def st (s : St) (fr : Nat) : Nat -> ByteArray := fun p => vw s (fr + p)
section
variable {w : World} {lg d sb mb sc : Nat} {wv : Value} {N : Nat} {s : St} {l : yH}
set_option maxRecDepth 10000 in
set_option maxHeartbeats 2000000 in
theorem zBk (hL : yA w lg d l) (hk : l.Ok) (hD : zI w d sb mb sc wv N s) (hd : s.down = false) (hfit : l.from_ + l.size <= N) :
   Calls Tryz.prog 163 #[.pointer (some ⟨lg, 0, none⟩)] w fun e w' => ∃ v, e = .returned (.tuple #[v, .int .i64 0]) /\ yJ w' (fun b => w.heap.size <= b) v (txn (st s l.from_) l.used l.next l.left) /\ Below w.heap.size w w' := by
 have hleft := fW hL hk;have h65 := hD.ok.max;obtain ⟨f, hf⟩ : ∃ f, f = st s l.from_ := ⟨_, rfl⟩
 obtain ⟨LE, hLE⟩ : ∃ LE, LE = l.left := ⟨_, rfl⟩
 have hle : LE <= l.size - l.used := by rw [hLE]; unfold yH.left; split <;> omega
 have hus := hk.used;rw [<- hf, <- hLE];rw [<- hLE] at hleft;have HLeft := Lh hleft;have HL := Lh hL;have HK := Lh hk;have HD := Lh hD;have HDn := Lh hd;clear hleft;by_cases c0 : LE = 0
 · have e0 := Zf f l.used l.next;rw [c0] at HLeft ⊢;rw [e0];clear hL hk hD hd hf hLE e0;go_enter Tryz.func163, Tryz.ntmps163;go_wp2_with (go_at_call 233; refine HLeft.out.mono ?_; rintro e w' ⟨rfl, q, rfl⟩)
   go_ret2;exact ⟨_, rfl, yJ.nil _ _, zM (Below.refl _ _) q⟩
 have t0 : ((LE : Int) == 0) = false := by rw [beq_eq_false_iff_ne]; omega
 have c1 : 1 <= LE := by omega
 clear c0;have R0 := Lh (fun (W : World) (hb : Below w.heap.size w W) => show Calls Tryz.prog 234 #[.pointer (some ⟨lg, 0, none⟩), .int .i64 0, .int .i64 1] W fun e w' => ∃ b, e = .returned (.tuple #[.slice (some ⟨b, 0, none⟩) 1 1, .int .i64 0]) /\ w'.cell? ⟨b, 0, none⟩ = some (.string (f l.used)) /\ Below W.heap.size W w' from (by
   refine (zA1 (show yA W lg d l from Own.keep hL hb) (hD.below hb) hd 0 1 (by omega) (by omega)).mono ?_;rintro e w' ⟨b, rfl, ho, -, hb'⟩;refine ⟨b, rfl, ?_, hb'⟩;have := ho.at_.1 0;rw [xK 1 _ 1 0 (by omega), if_pos (by omega)] at this;rw [this, hf];rfl))
 have zf : ∀ p, p < l.size -> (f p).size = 64 := fun p hp => by rw [hf]; exact mF hD.ok _ (by omega)
 obtain ⟨X, hX⟩ : ∃ X, X = f l.used := ⟨_, rfl⟩
 have zX : X.size = 64 := by rw [hX]; exact zf _ (by omega)
 obtain ⟨C, hC⟩ : ∃ C, C = cnt X l.next LE := ⟨_, rfl⟩
 have hC64 : C <= 64 := by rw [hC]; exact zIt _ _ _
 have hCf : C ≠ 0 -> 1 + 9 * C <= LE := fun h => by rw [hC] at h ⊢; exact (Xa _ _ _ h).1
 have HC := Lh (fun (W : World) (hb : Below w.heap.size w W) => show Calls Tryz.prog 235 #[.pointer (some ⟨lg, 0, none⟩), .string X] W fun e w' => e = .returned (.int .i64 (C : Int)) /\ Below W.heap.size W w' from (by
   have := zHc (show yA W lg d l from Own.keep hL hb) hk X (by omega);rw [<- hLE, <- hC] at this;exact this))
 have RK := Lh (fun (k : Nat) (hk : k < C) (W : World) (hb : Below w.heap.size w W) => show Calls Tryz.prog 234 #[.pointer (some ⟨lg, 0, none⟩), .int .i64 (1 + (k : Int) * 9), .int .i64 9] W fun e w' => ∃ b, e = .returned (.tuple #[.slice (some ⟨b, 0, none⟩) 9 9, .int .i64 0]) /\ Own w' b 9 (vG 9 (fun i => f (l.used + 1 + 9 * k + i)) 9) /\ Below W.heap.size W w' from (by
   have h1 := hCf (by omega);have := zA1 (show yA W lg d l from Own.keep hL hb) (hD.below hb) hd (1 + k * 9) 9 (by omega) (by omega);have e : ((1 + k * 9 : Nat) : Int) = 1 + (k : Int) * 9 := by omega
   rw [e] at this;refine this.mono ?_;rintro e w' ⟨b, rfl, ho, -, hb'⟩;refine ⟨b, rfl, ?_, hb'⟩;have ef : (fun i => vw s (l.from_ + l.used + (1 + k * 9) + i)) = fun i => f (l.used + 1 + 9 * k + i) := by
     funext i; rw [hf]; unfold st; congr 1; omega
   rw [ef] at ho;exact ho))
 have GK := Lh (fun (k : Nat) (hk : k < C) (W : World) (b : Nat) (ho : Own W b 9 (vG 9 (fun i => f (l.used + 1 + 9 * k + i)) 9)) => zEg W b _ ho (fun i hi => zf _ (by have := hCf (by omega); omega)));have TY := Lh (zBx f l.used l.next LE);have TN := Lh (zN5 f l.used l.next LE);rw [<- hX, <- hC] at TY TN;rw [<- hX] at R0;obtain ⟨T, hT⟩ : ∃ T, T = txn f l.used l.next LE := ⟨_, rfl⟩
 rw [<- hT] at TY TN ⊢;have ZF := Lh zf;have CF := Lh hCf;clear hL hk hD hd hf hLE hX hC hT zf hCf zX;go_enter Tryz.func163, Tryz.ntmps163;go_upto_region 3 with (go_at_call 233; refine HLeft.out.mono ?_; rintro e w' ⟨rfl, q, rfl⟩)
 have B0 : Below w.heap.size w (w.drewN q) := zM (Below.refl _ _) q;replace B0 := Lh B0;go_upto_region 6 with (go_at_call 234; refine (R0.out _ B0.out).mono ?_; rintro e w1 ⟨b0, rfl, hc0, hb1⟩; have B1 := Lh (B0.out.trans hb1); clear hb1)
 obtain ⟨g, hg⟩ : ∃ g : Nat -> ByteArray, g = fun k => mX (qH f (l.used + 1 + 9 * k)) := ⟨_, rfl⟩
 have HG := Lh hg;clear hg;go_wp2_with (go_at_call 235; refine (HC.out _ B1.out).mono ?_; rintro e w2 ⟨rfl, hb2⟩; have B2 := Lh (B1.out.trans (hb2.mono B1.out.size)); have HM := mM C (by omega) g w2; clear hb2)
 have L0 : Below w.heap.size w (w2.alloc (.cells (vG C g 0) 9)) := B2.out.alloc B2.out.size _;have z2 := B2.out.size;have HO := Own.made w2 9 (vG C g 0);clear HM;go_loopw [31] (fun i wr => ∃ k : Nat, k <= C /\ i = .int .i64 k /\ Own wr w2.heap.size 9 (vG C g k) /\ Below w.heap.size w wr /\ ∀ j, j < k -> Qg (qH f (l.used + 1 + 9 * j)) = true) (fun i wr => C - (intOf i).toNat)
 case atStart => exact ⟨0, by omega, rfl, HO, L0, fun j hj => by omega⟩
 case round =>
   clear HO L0;obtain ⟨k, hk, rfl, hO, hL, hP⟩ := hrel;replace hP := Lh hP;replace hO := Lh hO;have hsz := hL.size;replace hL := Lh hL;by_cases hlt : k < C
   · go_upto_region 13 with (go_at_call 234; refine (RK.out k hlt _ hL.out).mono ?_; rintro e w3 ⟨b3, rfl, ho3, hb3⟩)
     have hG3 := GK.out k hlt w3 b3 ho3;have L3 := Lh (hL.out.trans (hb3.mono hL.out.size));have O3 := hO.out.keep hb3;replace O3 := Lh O3;clear ho3 hb3;have eg : mX ((List.range 9).map (fun i => f (l.used + 1 + 9 * k + i))) = g k := by rw [HG.out]; rfl
     have ei : Qg ((List.range 9).map (fun i => f (l.used + 1 + 9 * k + i))) = Qg (qH f (l.used + 1 + 9 * k)) := rfl;rw [eg, ei] at hG3;clear eg ei;cases hi : Qg (qH f (l.used + 1 + 9 * k)) with
     | false =>
       rw [hi] at hG3;replace hG3 := Lh hG3;have HT := Lh (TN.out k hlt hi);clear hi;go_wp2_with (go_at_call 236; refine hG3.out.mono ?_; rintro e w4 ⟨rfl, hb4⟩)
       go_ret2;rw [HT.out];exact ⟨_, rfl, yJ.nil _ _, L3.out.trans (hb4.mono L3.out.size)⟩
     | true =>
       rw [hi] at hG3;replace hG3 := Lh hG3;have HI := Lh hi;clear hi;go_upto_region 16 with (go_at_call 236; refine hG3.out.mono ?_; rintro e w4 ⟨rfl, hb4⟩)
       have L4 := Lh (L3.out.trans (hb4.mono L3.out.size));have O4 := O3.out.keep hb4;obtain ⟨c1, c2, c3⟩ := O4.at_;have c4 := c1 k;rw [xK C g k k hlt] at c4;have c5 := c2 k;replace O4 := Lh O4;clear c1 c2 hb4;go_wp2;go_roundw
       case rel =>
         refine ⟨k + 1, by omega, by go_num, ?_, L4.out.setCell z2 _, fun j hj => ?_⟩
         · have := O4.out.put k (.string (g k));rw [Qp C g k hlt] at this;exact this
         · by_cases e : j = k
           · subst e; exact HI.out
           · exact hP.out j (by omega)
       case measure => simp [intOf]; omega
   · obtain rfl : k = C := by omega
     go_wp2;go_ret2;rw [TY.out hP.out];refine ⟨_, rfl, ?_, hL.out⟩;have := yJ.row (S := fun b => w.heap.size <= b) hO.out (by unfold maxLen; omega) (fun i hi => ?_) z2
     · rw [HG.out] at this;exact this
     · rw [HG.out];show (mX (qH f (l.used + 1 + 9 * i))).size <= maxLen
       have hcf := CF.out (by omega);rw [zAo _ (fun s hs => ?_) (by simp [qH])]
       · unfold maxLen; omega
       · obtain ⟨j, hj, rfl⟩ := List.mem_map.1 hs;exact ZF.out _ (by have := List.mem_range.1 hj; omega)
end
end
section
theorem zKq : (Tryz.prog.info? 250).map (fun i => (i.zero, i.size, i.bytes)) = some (some (.agg #[.int .u64 0, .slice none 0 0]), 2, 32) := by kernel_rfl
theorem zEk (W : World) (T : TypeId) (x y : Value) (j : Nat) {u : Value} (hu : [x, y][j]? = some u) : (W.alloc (.cells #[x, y] T)).cell? ((⟨W.heap.size, 0, none⟩ : Addr).add j) = some u := by
 have e : (⟨W.heap.size, 0, none⟩ : Addr).add j = ⟨W.heap.size, j, none⟩ := by unfold Addr.add; split <;> simp_all
 rw [e];have := (Own.made W T #[x, y]).at_.1 j;exact this.trans (by simpa using hu)
structure zKm (w wr : World) (d fr sz seq : Nat) (f : Nat -> ByteArray) (TS : List (Nat × List ByteArray)) (v : Value) (acc : List (Nat × List ByteArray)) : Prop where
 own : uV wr 250 (fun b => w.heap.size < b) v acc
 log : yA wr w.heap.size d ⟨fr, sz, long acc, (seq + acc.length) % 18446744073709551616, false⟩
 fit : long acc <= sz
 more : acc ++ stands f (sz + 1 - acc.length) (long acc) (sz - long acc) ((seq + acc.length) % 18446744073709551616) = TS
 below : Below w.heap.size w wr
section
variable {w : World} {d sb mb sc : Nat} {wv : Value} {N : Nat} {s : St}
set_option maxRecDepth 10000 in
set_option maxHeartbeats 2000000 in
theorem zJt (hD : zI w d sb mb sc wv N s) (hd : s.down = false) (fr sz seq : Nat) (hfit : fr + sz <= N) (h1 : 1 <= sz) (hseq : seq <= 18446744073709551615) :
   Calls Tryz.prog 78 #[.pointer (some ⟨d, 0, none⟩), .int .i64 (fr : Int), .int .i64 (sz : Int), .int .u64 (seq : Int)] w fun e w' => ∃ lg v, e = .returned (.tuple #[.pointer (some ⟨lg, 0, none⟩), v, .int .i64 0]) /\ w.heap.size <= lg /\
     yA w' lg d ⟨fr, sz, long (yG (st s fr) sz seq), (seq + (yG (st s fr) sz seq).length) % 18446744073709551616, false⟩ /\ xT w' (fun b => lg < b) v (yG (st s fr) sz seq) /\ Below w.heap.size w w' := by
 have hN := hD.ok.max;have HLen := Lh (Vy hD);obtain ⟨f, hf⟩ : ∃ f, f = st s fr := ⟨_, rfl⟩
 obtain ⟨TS, hTS⟩ : ∃ TS, TS = yG f sz seq := ⟨_, rfl⟩
 rw [<- hf, <- hTS];have HST := Lh (fun (W : World) (lg u nx : Nat) (hb : Below w.heap.size w W) (hL : yA W lg d ⟨fr, sz, u, nx, false⟩) (hu : u <= sz) (hnx : nx <= 18446744073709551615) => show Calls Tryz.prog 163 #[.pointer (some ⟨lg, 0, none⟩)] W fun e w' => ∃ v, e = .returned (.tuple #[v, .int .i64 0]) /\ yJ w' (fun b => W.heap.size <= b) v (txn f u nx (sz - u)) /\ Below W.heap.size W w' from (by
   have := zBk hL ⟨by show fr + sz <= 65536; omega, hu, hnx⟩ (hD.below hb) hd (by show fr + sz <= N; omega);rw [hf];exact this))
 have t1 : decide ((fr : Int) < 0) = false := by simp
 have t2 : decide ((sz : Int) < 1) = false := by simp; omega
 have t3 : decide ((N : Int) - (sz : Int) < (fr : Int)) = false := by simp; omega
 have HT := Lh hTS;clear hD hd hf hTS;go_enter Tryz.func78, Tryz.ntmps78;go_upto_region 4 with (go_at_call 137; refine HLen.out.mono ?_; rintro e w' ⟨rfl, rfl⟩)
 have e0 : (seq + 0) % 18446744073709551616 = seq := by omega
 obtain ⟨W0, hW0⟩ : ∃ W0, W0 = w.alloc (.cells #[.pointer (some ⟨d, 0, none⟩), .int .i64 (fr : Int), .int .i64 (sz : Int), .int .i64 0, .int .u64 (seq : Int), .bool false] 246) := ⟨_, rfl⟩
 have A0 : zKm w W0 d fr sz seq f TS (.slice none 0 0) [] := ⟨uV.nil _ _ _, by
   have := Own.made w 246 #[.pointer (some ⟨d, 0, none⟩), .int .i64 (fr : Int), .int .i64 (sz : Int), .int .i64 0, .int .u64 (seq : Int), .bool false];rw [<- hW0] at this;show yA W0 w.heap.size d ⟨fr, sz, 0, (seq + 0) % 18446744073709551616, false⟩
   rw [e0];exact this, Nat.zero_le _, by
   show [] ++ stands f (sz + 1 - 0) 0 (sz - 0) ((seq + 0) % 18446744073709551616) = TS
   rw [e0, HT.out];rfl, hW0 ▸ (Below.refl _ _).alloc (Nat.le_refl _) _⟩
 rw [<- hW0];clear hW0 e0;replace A0 := Lh A0;go_wp2;go_loopw [12] (fun v wr => ∃ acc, zKm w wr d fr sz seq f TS v acc) (fun v wr => sz + 1 - lenOf v)
 case atStart => exact ⟨[], A0.out⟩
 case round =>
   clear A0;obtain ⟨acc, hA⟩ := hrel;have zb := hA.below.size;obtain ⟨NX, hNX⟩ : ∃ NX, NX = (seq + acc.length) % 18446744073709551616 := ⟨_, rfl⟩
   obtain ⟨U, hU⟩ : ∃ U, U = long acc := ⟨_, rfl⟩
   have hL := hA.log;have hfu := hA.fit;rw [<- hNX, <- hU] at hL;rw [<- hU] at hfu;have hnx : NX <= 18446744073709551615 := by omega
   have hmore := hA.more;rw [<- hNX, <- hU] at hmore;have hge := Qc acc;have HS := HST.out wr w.heap.size U NX hA.below hL hfu hnx;have HSTOP := fJ f (sz + 1 - acc.length) U (sz - U) NX;have HSTEP := Vm f (sz + 1 - acc.length) U (sz - U) NX (by omega);have hTf := zBf f U NX (sz - U);have hT64 := zOo f U NX (sz - U);obtain ⟨TX, hTX⟩ : ∃ TX, TX = txn f U NX (sz - U) := ⟨_, rfl⟩
   rw [<- hTX] at HS HSTOP HSTEP hTf hT64;replace HS := Lh HS;replace HSTOP := Lh HSTOP;replace HSTEP := Lh HSTEP;replace hmore := Lh hmore;replace hTf := Lh hTf;have HNX := Lh hNX;have HU := Lh hU;have hL := Lh hL;obtain ⟨va, vc, rfl, hv1, hv2⟩ := hA.own.shape;obtain ⟨AL, hAL⟩ : ∃ AL, AL = acc.length := ⟨_, rfl⟩
   rw [<- hAL] at hv1 hge ⊢;have hAB : AL <= 65536 := by rw [<- hU] at hge; omega
   have HAL := Lh hAL;replace hA := Lh hA;clear hTX hNX hU hAL;go_upto_region 6 with (go_at_call 163; refine HS.out.mono ?_; rintro e w2 ⟨v2, rfl, hs2, hb2⟩; obtain ⟨pa, pc, rfl, hp1, hp2, hp3⟩ := hs2.open_; clear hp3)
   obtain ⟨TL, hTL⟩ : ∃ TL, TL = TX.length := ⟨_, rfl⟩
   have B2 := Lh (then_ hA.out.below hb2 zb);replace hs2 := Lh hs2;have HTL := Lh hTL;rw [<- hTL] at hp1 hT64 ⊢;clear hTL;by_cases c0 : TL = 0
   · have t4 : ((TL : Int) == 0) = true := by rw [beq_iff_eq]; omega
     have e := hmore.out;rw [HSTOP.out (by rw [<- HTL.out]; exact c0), List.append_nil] at e;have E := Lh e;clear e c0;go_wp2;go_ret3;have a1 := hA.out.own.below hb2;rw [<- HAL.out] at a1;have a2 : yA w2 w.heap.size d _ := Own.keep hA.out.log hb2;rw [<- E.out];exact ⟨_, _, rfl, Nat.le_refl _, a2, a1.in_, B2.out⟩
   · have t4 : ((TL : Int) == 0) = false := by rw [beq_eq_false_iff_ne]; omega
     have c1 : 1 <= TL := by omega
     have E := Lh (HSTEP.out (by rw [<- HTL.out]; exact c0));have F := Lh (hTf.out (by rw [<- HTL.out]; exact c0));rw [<- HTL.out] at E F;have o4 : w2.cell? ⟨w.heap.size, 4, none⟩ = some (.int .u64 (NX : Int)) := by
       have := (Own.at_ (show Own w2 w.heap.size _ _ from Own.keep hL.out hb2)).1 4;simpa [yH.cells] using this
     have L2 : yA w2 w.heap.size d _ := Own.keep hL.out hb2;have zlg : w.heap.size < wr.heap.size := hL.out.in_;obtain ⟨vs, HR⟩ := hA.out.own.below hb2;have z2 := hb2.size;obtain ⟨i0, hi0, hz0, hz1, hz2⟩ := info_parts zKq;replace L2 := Lh L2;replace HR := Lh HR;clear c0 hb2;go_upto_region 10 with fail;have hrow := HR.out.row;rw [<- HAL.out] at hrow;go_wp2_with (at_builtin; refine wpList_append_own_at _ rfl _ _ 140 rfl 0 250 i0 (.agg #[.int .u64 0, .slice none 0 0]) 2 32 Tryz.underlying140 hi0 hz0 hz1 hz2 rfl (by decide) (.slice va AL vc) AL (txc acc vs) rfl (hrow.alloc _) ⟨w2.heap.size, 0, none⟩ 1 1 [.int .u64 (NX : Int), .slice pa TL pc] rfl rfl ?c1 ?c2 (by unfold maxLen; omega) (by omega) (Nat.zero_le _) ?_)
     case c1 => intro j u hu; exact zEk _ _ _ _ _ hu
     case c2 => intro u hu; simp at hu; rcases hu with rfl | rfl <;> rfl
     intro v' w3 hown hgrow hnil hloc;clear hnil hrow;have hcell : yJ w2 (fun b => w.heap.size < b /\ (Value.slice va AL vc).ownBlock ≠ some b) (.slice pa TL pc) TX := by
       have hs := hs2.out;rw [<- HTL.out] at hs;refine hs.mono fun b hb hge' => ⟨by omega, fun e => ?_⟩
       obtain ⟨vs0, hr0⟩ := hA.out.own;have := (hr0.row.lt b (by rw [<- HAL.out]; exact e)).2;omega
     rw [HAL.out] at hown hgrow hloc hcell;have HP := zGp.push HR.out (t := (NX, TX)) hcell ((Below.refl _ _).alloc (Nat.le_refl _) _) hown hgrow (hloc.imp_right fun h => h.trans (by simp)) (fun q hq => by omega);obtain ⟨hOwn, hChg⟩ := HP;have hne : ∀ q, (Value.slice va acc.length vc).ownBlock = some q -> w.heap.size < q := HR.out.at_;have L3 : yA w3 w.heap.size d _ := hChg.own L2.out fun e => by have := hne _ e; omega
     have B3 : Below w.heap.size w w3 := B2.out.trans (hChg.below (by have := B2.out.size; omega) fun q hq => by have := hne q hq; omega);obtain ⟨xa, xc, rfl, hx1, hx2⟩ := hOwn.shape;have hk3 : yH.Ok ⟨fr, sz, U, NX, false⟩ := ⟨by show fr + sz <= 65536; omega, hfu, hnx⟩
     have HADD := Lh (zGn L3 hk3 TL (by omega));replace hOwn := Lh hOwn;replace L3 := Lh L3;replace B3 := Lh B3;clear hown hgrow hloc hcell hChg hne hk3 hx1 hx2;go_wp2_with (go_at_call 164; refine HADD.out.mono ?_; rintro e w4 ⟨rfl, l4, c4, z4⟩; replace z4 := Lh z4)
     go_roundw
     case rel =>
       refine ⟨acc ++ [(NX, TX)], ?_, ?_, ?_, ?_, ?_⟩
       · have hq := hOwn.out.keep c4 fun b hb hS e => by omega
         rw [List.length_append] at hq;exact hq
       · have e1 : long (acc ++ [(NX, TX)]) = U + (1 + 9 * TL) := by rw [jY, <- HU.out]; show U + (1 + 9 * TX.length) = _; rw [<- HTL.out]
         have e2 : (seq + (acc ++ [(NX, TX)]).length) % 18446744073709551616 = (NX + 1) % 18446744073709551616 := by rw [HNX.out]; simp; omega
         rw [e1, e2];exact l4
       · rw [jY, <- HU.out];show U + (1 + 9 * TX.length) <= sz
         rw [<- HTL.out];have := F.out; omega
       · have e1 : long (acc ++ [(NX, TX)]) = U + (1 + 9 * TL) := by rw [jY, <- HU.out]; show U + (1 + 9 * TX.length) = _; rw [<- HTL.out]
         have e2 : (seq + (acc ++ [(NX, TX)]).length) % 18446744073709551616 = (NX + 1) % 18446744073709551616 := by rw [HNX.out]; simp; omega
         have e3 : sz + 1 - (acc ++ [(NX, TX)]).length = sz + 1 - acc.length - 1 := by simp; omega
         rw [e1, e2, e3, <- hmore.out, E.out, List.append_assoc, <- Nat.sub_sub];rfl
       · exact B3.out.trans (c4.below (by have := B3.out.size; omega) fun q hq => by omega)
     case measure =>
       simp [lenOf];have := HAL.out;have := HU.out;omega
end
end
end Go.Proofs.YthijgebmoadgkaaGreatDoor
