import Derived.Test.YthijgebmoadgkaaGreatDoorPgrU
import Derived.Lib.SlicesCompact
set_option linter.unusedVariables false
set_option linter.unusedSimpArgs false
section
namespace Go.Proofs.YthijgebmoadgkaaGreatDoor
open Go.ChangeShapes Go.WideShapes Go.ChangeAt Go.RowKit
def yW (T : List (Nat × Pag)) : List Int := T.map fun p => ((p.1 : Nat) : Int)
theorem uP (T : List (Nat × Pag)) : (yW T).length = T.length := by simp [yW]
theorem Coh.dirty {P : PS} {R : List Po.RF} {n c : Nat} (h : Coh P R) (hk : Po.OkR R n c) (hT : asc P.T) : Po.dirtyR R = yW P.T := by
 have n1 : ((R.filter (·.dirty)).map (·.no)).Nodup := ((List.filter_sublist (l := R) (p := (·.dirty))).map (·.no)).nodup hk.nos;have hr : (yW P.T).Pairwise (· < ·) := by
   unfold yW;rw [List.pairwise_map];exact hT.imp fun h => by omega
 have n2 : (yW P.T).Nodup := by
   rw [List.nodup_iff_pairwise_ne];exact hr.imp fun h => by omega
 have hp : ((R.filter (·.dirty)).map (·.no)).Perm (yW P.T) := by
   rw [List.perm_ext_iff_of_nodup n1 n2];intro x;constructor
   · intro hx;obtain ⟨f, hf, rfl⟩ := List.mem_map.1 hx;obtain ⟨hf, hd⟩ := List.mem_filter.1 hf;obtain ⟨no, y, e, -, -, -, -, ht, -⟩ := h.good f hf;rw [e];exact List.mem_map.2 ⟨(no, y), vU (ht hd), rfl⟩
   · intro hx;obtain ⟨q, hq, rfl⟩ := List.mem_map.1 hx;obtain ⟨f, hf, e, hd⟩ := h.all q hq;exact List.mem_map.2 ⟨f, List.mem_filter.2 ⟨hf, hd⟩, e⟩
 unfold Po.dirtyR;rw [Po.sortI_perm hp];unfold Po.sortI;exact List.mergeSort_of_pairwise (hr.imp fun h => by simp; omega)
section
variable {w w' : World} {B Bp d p c : Nat} {P : PS}
theorem Zb (h : zF w B Bp d p c P) : Calls Tryz.prog 95 #[.pointer (some ⟨p, 0, none⟩)] w fun e w' => e = .returned (.int .i64 (P.T.length : Int)) /\ Below w.heap.size w w' := by
 obtain ⟨sb, mb, sc, wv, lg, lm, pl, R, h⟩ := h;have HD := Po.dirty_any h.pool;rw [h.coh.dirty h.pool.ok h.ok.T.1, uP] at HD;replace HD := Lh HD;have ho : Own w p 150 #[.pointer (some ⟨d, 0, none⟩), .int .i64 (P.ll : Int), .int .u64 (P.seq : Int), .pointer (some ⟨lg, 0, none⟩), .map (some lm), .int .i64 (P.room : Int), .pointer (some ⟨pl, 0, none⟩), .bool P.failed] := h.own;obtain ⟨q1, q2, q3⟩ := ho.at_;clear h ho;go_enter Tryz.func95, Tryz.ntmps95;go_wp2_with (go_at_call 174; refine HD.out.mono ?_; rintro e w2 ⟨v, rfl, hrow, hb⟩; obtain ⟨a, cp, rfl⟩ : ∃ a cp, v = .slice a P.T.length cp := (by rcases hrow.2 with ⟨e1, e2⟩ | ⟨g, cap, cur, e1, _⟩; exact ⟨none, 0, by rw [e1, e2]⟩; exact ⟨_, cap, e1⟩); clear hrow)
 go_ret;exact ⟨rfl, hb⟩
def PS.abort (P : PS) : PS := { P with T := [] }
theorem PS.Ok.abort {P : PS} (h : P.Ok) : P.abort.Ok :=
 { h with
   T := ⟨by simp [PS.abort, asc], by simp [PS.abort]⟩
   few := Nat.zero_le _
   hd := h.bd
   hd0 := h.bd0
   bd := h.bd
   bd0 := h.bd0
   M := h.M }
theorem Coh.abort {P : PS} {R : List Po.RF} (h : Coh P R) : Coh P.abort (Po.dropR R) := by
 refine ⟨fun f hf => ?_, by simp [PS.abort]⟩;obtain ⟨hf, hd⟩ := List.mem_filter.1 hf;obtain ⟨no, x, e, hn, hx, hs, hp, ht, hc⟩ := h.good f hf;have hd0 : f.dirty = false := by simpa using hd
 exact ⟨no, x, e, hn, hx, hs, hp, (fun e => by rw [hd0] at e; cases e), fun _ => ⟨rfl, (hc hd0).2⟩⟩
theorem Pgr.pooled_abort {sb mb sc lg lm pl : Nat} {wv : Value} {R : List Po.RF} (h : Pgr w B Bp d p c sb mb sc wv lg lm pl R P) {c' : Nat} (hc : Chg (Po.PT w Bp) w w') (hp : Po.PoolAt w' Bp pl P.room c' (Po.dropR R)) : Pgr w' B Bp d p c' sb mb sc wv lg lm pl (Po.dropR R) P.abort :=
 { h with
   disk := h.disk.keep hc fun q hq => h.not_pt (.inr (.inr (.inr hq)))
   log := hc.own h.log (h.not_pt (.inl rfl))
   own := hc.own h.own (h.not_pt (.inr (.inl rfl)))
   map := h.map.keep (hc.block lm h.map.in_ (h.not_pt (.inr (.inr (.inl rfl)))))
   pool := hp
   coh := h.coh.abort
   ok := h.ok.abort }
theorem zHk (h : zF w B Bp d p c P) : Calls Tryz.prog 26 #[.pointer (some ⟨p, 0, none⟩)] w fun e w' => e = .returned (.tuple #[]) /\ Ask w w' B Bp d p c P.abort := by
 obtain ⟨sb, mb, sc, wv, lg, lm, pl, R, h⟩ := h;have HD := Lh (Po.drop_any h.pool);have H := Lh h;have ho : Own w p 150 #[.pointer (some ⟨d, 0, none⟩), .int .i64 (P.ll : Int), .int .u64 (P.seq : Int), .pointer (some ⟨lg, 0, none⟩), .map (some lm), .int .i64 (P.room : Int), .pointer (some ⟨pl, 0, none⟩), .bool P.failed] := h.own;obtain ⟨q1, q2, q3⟩ := ho.at_;clear h ho;go_enter Tryz.func26, Tryz.ntmps26;go_wp2_with (go_at_call 94; refine HD.out.mono ?_; rintro e w2 ⟨rfl, hp2, hc2⟩)
 go_end0
 exact ⟨rfl, ⟨sb, mb, sc, wv, lg, lm, pl, _, H.out.pooled_abort hc2 hp2⟩, hc2⟩
end
end Go.Proofs.YthijgebmoadgkaaGreatDoor
end
section
namespace Go.Proofs.YthijgebmoadgkaaGreatDoor
open Go.ChangeShapes Go.WideShapes Go.ChangeAt Go.RowKit
theorem Qx (d : Array Int) (hs : ∀ i j, i <= j -> j < d.size -> d[i]! <= d[j]!) : ∀ m, m <= d.size -> (Lib.compactUpTo d m).Pairwise (· < ·) /\ (∀ x ∈ Lib.compactUpTo d m, ∃ j, j < m /\ d[j]! = x) /\ ∀ j, j < m -> d[j]! ∈ Lib.compactUpTo d m
 | 0, _ => by simp [Lib.compactUpTo]
 | m + 1, hm => by
   obtain ⟨h1, h2, h3⟩ := Qx d hs m (by omega);rw [Lib.compactUpTo_succ];by_cases hk : m = 0 \/ d[m]! ≠ d[m - 1]!
   · have e : Lib.keeps d m = true := by unfold Lib.keeps; exact decide_eq_true hk
     rw [if_pos e];refine ⟨?_, fun x hx => ?_, fun j hj => ?_⟩
     · rw [List.pairwise_append];refine ⟨h1, by simp, fun x hx y hy => ?_⟩;obtain ⟨j, hj, rfl⟩ := h2 x hx;obtain rfl : y = d[m]! := by simpa using hy
       rcases hk with hk | hk
       · omega
       · have a := hs j (m - 1) (by omega) (by omega);have b := hs (m - 1) m (by omega) (by omega);omega
     · rcases List.mem_append.1 hx with hx | hx
       · obtain ⟨j, hj, e⟩ := h2 x hx; exact ⟨j, by omega, e⟩
       · exact ⟨m, by omega, (by simpa using hx : x = d[m]!).symm⟩
     · by_cases e : j = m
       · subst e; simp
       · exact List.mem_append.2 (.inl (h3 j (by omega)))
   · have e : Lib.keeps d m = false := by unfold Lib.keeps; exact decide_eq_false hk
     rw [e];simp only [Bool.false_eq_true, if_false, List.append_nil];refine ⟨h1, fun x hx => ?_, fun j hj => ?_⟩
     · obtain ⟨j, hj, e⟩ := h2 x hx; exact ⟨j, by omega, e⟩
     · by_cases e : j = m
       · subst e;have : j ≠ 0 /\ d[j]! = d[j - 1]! := by
           refine ⟨fun c => hk (.inl c), ?_⟩;by_cases c : d[j]! = d[j - 1]!
           · exact c
           · exact absurd (.inr c) hk
         rw [this.2];exact h3 (j - 1) (by omega)
       · exact h3 j (by omega)
theorem zEs (l : List Int) : ∀ i j, i <= j -> j < (Po.sortI l).toArray.size -> (Po.sortI l).toArray[i]! <= (Po.sortI l).toArray[j]! := fun i j hij hj => by
 have hp : (Po.sortI l).Pairwise fun x y => decide (x <= y) = true := List.pairwise_mergeSort (fun a b c h1 h2 => by simp at h1 h2 ⊢; omega) (fun a b => by simp; omega) l
 have hj' : j < (Po.sortI l).length := by simpa using hj
 rw [getElem!_pos _ i (by simp; omega), getElem!_pos _ j (by simpa using hj')];by_cases e : i = j
 · subst e; exact Int.le_refl _
 · have := List.pairwise_iff_getElem.1 hp i j (by omega) hj' (by omega);simpa using this
theorem zD3 (l m : List Int) (hm : m.Pairwise (· < ·)) (h : ∀ x, x ∈ l ↔ x ∈ m) : (Lib.compact (Po.sortI l)).length = m.length := by
 obtain ⟨h1, h2, h3⟩ := Qx (Po.sortI l).toArray (zEs l) (Po.sortI l).length (by simp);have n1 : (Lib.compact (Po.sortI l)).Nodup := by
   rw [List.nodup_iff_pairwise_ne];exact h1.imp fun h => by omega
 have n2 : m.Nodup := by
   rw [List.nodup_iff_pairwise_ne];exact hm.imp fun h => by omega
 have hmem : ∀ x, x ∈ Lib.compact (Po.sortI l) ↔ x ∈ m := fun x => by
   rw [<- h x];have hs : x ∈ l ↔ x ∈ Po.sortI l := ((List.mergeSort_perm l _).mem_iff).symm;rw [hs];constructor
   · intro hx;obtain ⟨j, hj, e⟩ := h2 x hx;rw [<- e, getElem!_pos _ j (by simpa using hj)];simp
   · intro hx;obtain ⟨j, hj, e⟩ := List.getElem_of_mem hx;have := h3 j hj;rw [getElem!_pos _ j (by simpa using hj)] at this;simp only [List.getElem_toArray] at this;rw [e] at this;exact this
 have hp : (Lib.compact (Po.sortI l)).Perm m := by
   rw [List.perm_ext_iff_of_nodup n1 n2];exact hmem
 exact hp.length_eq
theorem zIn {T : List (Nat × Pag)} (h : asc T) : (yW T).Pairwise (· < ·) := by
 unfold yW;rw [List.pairwise_map];exact h.imp fun h => by omega
def wh (p : Nat × Pag) : Nat × Pag := (p.1, (p.2.1, fl p.2.2))
theorem zGj (n : Nat) (v : Pag) : ∀ (T : List (Nat × Pag)) (x : Int), x ∈ yW (ins n v T) ↔ x = (n : Int) \/ x ∈ yW T
 | [], x => by simp [ins, yW]
 | y :: T, x => by
   unfold ins;split
   · simp [yW]
   · split
     · rename_i e
       subst e;simp [yW]
     · have := zGj n v T x;have e : ∀ L, x ∈ yW (y :: L) ↔ x = (y.1 : Int) \/ x ∈ yW L := fun L => by simp [yW]
       rw [e, e, this];constructor
       · rintro (h | h | h)
         · exact .inr (.inl h)
         · exact .inl h
         · exact .inr (.inr h)
       · rintro (h | h | h)
         · exact .inr (.inl h)
         · exact .inl h
         · exact .inr (.inr h)
theorem Ze : ∀ (L T : List (Nat × Pag)) (x : Int), x ∈ yW (yF T L) ↔ x ∈ yW T ++ yW L
 | [], T, x => by simp [yF, yW]
 | p :: L, T, x => by
   have := Ze L (ins p.1 p.2 T) x;unfold yF at this ⊢;rw [List.foldl_cons, this];simp only [List.mem_append, zGj];have e : x ∈ yW (p :: L) ↔ x = (p.1 : Int) \/ x ∈ yW L := by simp [yW]
   rw [e];constructor
   · rintro ((h | h) | h)
     · exact .inr (.inl h)
     · exact .inl h
     · exact .inr (.inr h)
   · rintro (h | h | h)
     · exact .inl (.inr h)
     · exact .inl (.inl h)
     · exact .inr h
theorem zNs (n : Nat) (v : Pag) {T : List (Nat × Pag)} (h : asc T) : T.length <= (ins n v T).length := by
 rw [mS n v T h];split <;> omega
theorem zAt : ∀ (L : List (Nat × Pag)) {T : List (Nat × Pag)}, asc T -> T.length <= (yF T L).length
 | [], _, _ => Nat.le_refl _
 | p :: L, T, h => Nat.le_trans (zNs p.1 p.2 h) (zAt L (qR p.1 p.2 h))
theorem zEc {T L : List (Nat × Pag)} (h : asc T) : (Lib.compact (Po.sortI (yW T ++ yW L))).length = (yF T (L.map wh)).length := by
 have e : yW (L.map wh) = yW L := by simp [yW, wh, Function.comp_def]
 rw [zD3 _ (yW (yF T (L.map wh))) (zIn (uC _ h)) fun x => by rw [Ze, e], uP]
def PS.put (P : PS) (L : List (Nat × Pag)) : PS := { P with T := yF P.T (L.map wh) }
theorem PS.put_snoc (P : PS) (L : List (Nat × Pag)) (p : Nat × Pag) : P.put (L ++ [p]) = { P with T := ins p.1 (p.2.1, fl p.2.2) (P.put L).T } := by
 unfold PS.put yF;simp only [List.map_append, List.foldl_append, List.map_cons, List.map_nil, List.foldl_cons, List.foldl_nil];rfl
theorem Coh.set {P : PS} {R : List Po.RF} {n c : Nat} (h : Coh P R) (hk : Po.OkR R n c) (hT : asc P.T) {no : Nat} {x : Pag} (hno : no < P.most) (hx : xW x) (hl : (ins no x P.T).length <= n) :
   (Po.setR R n (no : Int) (fr x)).1 = 0 /\ Coh { P with T := ins no x P.T } (Po.setR R n (no : Int) (fr x)).2 := by
 have key : ∀ R' : List Po.RF, (∀ f ∈ R', f ∈ R /\ f.no ≠ (no : Int)) -> (∀ f ∈ R, f.no ≠ (no : Int) -> f.dirty = true -> f ∈ R') -> Coh { P with T := ins no x P.T } (R' ++ [⟨(no : Int), fr x, true, 0⟩]) := fun R' h1 h2 => by
   refine ⟨fun f hf => ?_, fun p hp => ?_⟩
   · rcases List.mem_append.1 hf with hf | hf
     · obtain ⟨hf, hne⟩ := h1 f hf;obtain ⟨k, y, e, hn, hy, hs, hp, ht, hc⟩ := h.good f hf;have hkn : ¬ no = k := fun c => hne (by rw [e, c])
       refine ⟨k, y, e, hn, hy, hs, hp, fun hd => ?_, fun hd => ?_⟩
       · show lk (ins no x P.T) k = some y
         rw [gR no x P.T k hT, if_neg hkn]; exact ht hd
       · refine ⟨?_, (hc hd).2⟩;show lk (ins no x P.T) k = none
         rw [gR no x P.T k hT, if_neg hkn]; exact (hc hd).1
     · simp at hf;subst hf;refine ⟨no, x, rfl, hno, hx, rfl, rfl, fun _ => ?_, fun hd => by cases hd⟩;show lk (ins no x P.T) no = some x
       rw [gR no x P.T no hT, if_pos rfl]
   · by_cases e : p.1 = no
     · exact ⟨⟨(no : Int), fr x, true, 0⟩, by simp, by rw [e], rfl⟩
     · rcases Qi hp with hp | hp
       · exact absurd (by rw [hp]) e
       · obtain ⟨f, hf, e2, hd⟩ := h.all p hp;exact ⟨f, List.mem_append.2 (.inl (h2 f hf (by rw [e2]; omega) hd)), e2, hd⟩
 unfold Po.setR;cases hlk : Po.look R (no : Int) with
 | some f =>
   obtain ⟨h1, S, U, e⟩ := Po.look_some hlk;have hf : f ∈ R := by rw [e]; simp
   obtain ⟨-, -, -, -, -, -, hp, -, -⟩ := h.good f hf;refine ⟨rfl, ?_⟩;show Coh _ (Po.del R (no : Int) ++ [⟨(no : Int), fr x, true, f.pins⟩])
   rw [hp];refine key _ (fun g hg => ?_) fun g hg hne hd => ?_
   · have := List.mem_filter.1 hg;exact ⟨this.1, by simpa using this.2⟩
   · exact List.mem_filter.2 ⟨hg, by simpa using hne⟩
 | none =>
   have hmiss := h.miss hlk;have hnin := Po.look_none hlk;have hne : ∀ g ∈ R, g.no ≠ (no : Int) := fun g hg c => hnin (List.mem_map.2 ⟨g, hg, c⟩)
   have hl2 : P.T.length + 1 <= n := by
     rw [mS no x P.T hT, hmiss] at hl;simpa using hl
   unfold Po.addR Po.roomR;by_cases hr : R.length < n
   · rw [if_pos hr];exact ⟨rfl, key R (fun g hg => ⟨hg, hne g hg⟩) fun g hg _ _ => hg⟩
   · rw [if_neg hr];cases hv : Po.victim R with
     | none =>
       exfalso;have hall : ∀ f ∈ R, f.dirty = true := fun f hf => by
         unfold Po.victim at hv;have := List.find?_eq_none.1 hv f hf;obtain ⟨-, -, -, -, -, -, hp, -, -⟩ := h.good f hf;unfold Po.free at this;rw [hp] at this;cases hd : f.dirty with
         | true => rfl
         | false => rw [hd] at this; simp at this
       have e := h.dirty hk hT;have e1 : R.filter (·.dirty) = R := List.filter_eq_self.2 hall;have e2 : (Po.dirtyR R).length = R.length := by
         unfold Po.dirtyR;rw [e1];unfold Po.sortI;rw [(List.mergeSort_perm _ _).length_eq, List.length_map]
       rw [e, uP] at e2;omega
     | some v =>
       obtain ⟨hfr, S, U, e, -⟩ := Po.victim_some hv;have hvm : v ∈ R := by rw [e]; simp
       have hv0 : v.dirty = false := by
         unfold Po.free at hfr;cases hd' : v.dirty with
         | false => rfl
         | true => rw [hd'] at hfr; cases hfr
       refine ⟨rfl, key _ (fun g hg => ?_) fun g hg _ hd => ?_⟩
       · have := (List.mem_filter.1 hg).1;exact ⟨this, hne g this⟩
       · refine List.mem_filter.2 ⟨hg, ?_⟩;have : g.no ≠ v.no := fun c => by
           have := Po.nodup_inj hk.nos hg hvm c;rw [this, hv0] at hd;cases hd
         simpa using this
end Go.Proofs.YthijgebmoadgkaaGreatDoor
end
section
namespace Go.Proofs.YthijgebmoadgkaaGreatDoor
open Go.ChangeShapes Go.WideShapes Go.ChangeAt Go.RowKit Go.Sort
section
variable {w w' : World}
theorem zCm {base : Nat} {v : Value} {xs : List Int} (h : w.ownsRow base 3 1 v xs.length (Po.ints xs)) (hx : xs.length <= 1000000) :
   Calls Tryz.prog 176 #[v] w fun e w' => (∃ a cp, e = .returned (.slice a (Lib.compact xs).length cp)) /\ Chg (fun q => v.ownBlock = some q) w w' := by
 rcases h.2 with ⟨rfl, h0⟩ | ⟨g, cap, cur, rfl, hg, hb, h1, h2, h3, h4⟩
 · have hx0 : xs = [] := List.eq_nil_of_length_eq_zero h0;subst hx0;refine (Tryz.slices_Compact_int_empty _ _ _).mono ?_;rintro e w' ⟨rfl, rfl⟩;exact ⟨⟨_, _, rfl⟩, Chg.refl _ _⟩
 · have h4' : cur.toList.take xs.length = xs.map (Value.int .i64) := by rw [Nat.mul_one] at h4; exact h4
   refine (Tryz.slices_Compact_int g 0 cap xs w (holds_of_blockI hb h4') (by omega) h1).mono ?_;rintro e w' ⟨rfl, q, rfl⟩;refine ⟨⟨_, _, rfl⟩, ?_⟩;have := grownBy_sortedI (w := w) (g := g) (n := q) (os := #[]) (Lib.compact xs ++ List.replicate (xs.length - (Lib.compact xs).length) 0).toArray;rw [grow_empty] at this;exact (Chg.refl _ w).grown this fun k hk => .inl (by cases hk; rfl)
end
def PS.chg (P : PS) (L : List (Nat × Pag)) : PS := if (P.put L).T.length <= P.room then P.put L else P
def PS.chgE (P : PS) (L : List (Nat × Pag)) : Int := if (P.put L).T.length <= P.room then 0 else 10
def ShC (cs : Array Value) (L : List (Nat × Pag)) : Prop := ∀ k q, L[k]? = some q -> cs[k * 3]? = some (.int .i64 (q.1 : Int)) /\ cs[k * 3 + 1]? = some (.int .i64 (q.2.1 : Int)) /\ cs[k * 3 + 2]? = some (.string q.2.2)
def Sht (P : PS) (L : List (Nat × Pag)) : Prop := ∀ q ∈ L, q.1 < P.most /\ 1 <= q.2.1 /\ q.2.1 <= 255 /\ q.2.2.size <= 496
theorem zNi {P : PS} {L : List (Nat × Pag)} (h : Sht P L) {q : Nat × Pag} (hq : q ∈ L) : xW (q.2.1, fl q.2.2) := by
 obtain ⟨-, h1, h2, h3⟩ := h q hq;exact ⟨h1, h2, Qt _ h3⟩
theorem PS.Ok.put {P : PS} (h : P.Ok) {L : List (Nat × Pag)} (hL : Sht P L) (hl : (P.put L).T.length <= P.room) (h1 : Jq P.most ((P.put L).view 0).1) (h2 : ((P.put L).view 0).2 = 0) : (P.put L).Ok :=
 { h with
   T := ⟨uC _ h.T.1, fun p hp => by
     rcases Jc hp with hp | hp
     · obtain ⟨q, hq, rfl⟩ := List.mem_map.1 hp;exact ⟨(hL q hq).1, zNi hL hq⟩
     · exact h.T.2 p hp⟩
   few := hl
   hd := h1
   hd0 := h2
   M := h.M, bd := h.bd, bd0 := h.bd0 }
theorem zCr {P : PS} (h : asc P.T) (L : List (Nat × Pag)) (k : Nat) : (P.put (L.take k)).T.length <= (P.put L).T.length := by
 unfold PS.put;show (yF P.T ((L.take k).map wh)).length <= (yF P.T (L.map wh)).length
 conv => rhs; rw [<- List.take_append_drop k L]
 unfold yF;rw [List.map_append, List.foldl_append];exact zAt _ (uC _ h)
section
variable {w w' : World} {B Bp d p c sb mb sc lg lm pl : Nat} {wv : Value} {R : List Po.RF} {P : PS}
theorem Pgr.pooled_put (h : Pgr w B Bp d p c sb mb sc wv lg lm pl R P) {L : List (Nat × Pag)} (hk : (P.put L).Ok) {c' : Nat} {R' : List Po.RF} (hc : Chg (Po.PT w Bp) w w') (hp : Po.PoolAt w' Bp pl P.room c' R') (hR : Coh (P.put L) R') : Pgr w' B Bp d p c' sb mb sc wv lg lm pl R' (P.put L) :=
 { h with
   disk := h.disk.keep hc fun q hq => h.not_pt (.inr (.inr (.inr hq)))
   log := hc.own h.log (h.not_pt (.inl rfl))
   own := hc.own h.own (h.not_pt (.inr (.inl rfl)))
   map := h.map.keep (hc.block lm h.map.in_ (h.not_pt (.inr (.inr (.inl rfl)))))
   pool := hp
   coh := hR
   ok := hk }
set_option maxRecDepth 10000 in
set_option maxHeartbeats 4000000 in
theorem fA (h : zF w B Bp d p c P) (L : List (Nat × Pag)) (hn : L.length <= 2) (hL : Sht P L) (hc : c + 2 < 1000000) (hhd : Jq P.most ((P.put L).view 0).1 /\ ((P.put L).view 0).2 = 0) (b : Nat) (cs : Array Value) (hb : Own w b 131 cs) (hcs : ShC cs L) :
   Calls Tryz.prog 87 #[.pointer (some ⟨p, 0, none⟩), .slice (some ⟨b, 0, none⟩) L.length L.length] w fun e w' => e = .returned (.int .i64 (P.chgE L)) /\ Ask w w' B Bp d p (c + 2) (P.chg L) := by
 obtain ⟨sb, mb, sc, wv, lg, lm, pl, R, h⟩ := h;have HD := Po.dirty_any h.pool;rw [h.coh.dirty h.pool.ok h.ok.T.1, uP] at HD;have hT := h.ok.T.1;have hfew := h.ok.few;have hr6 := h.ok.r6;have ho : Own w p 150 #[.pointer (some ⟨d, 0, none⟩), .int .i64 (P.ll : Int), .int .u64 (P.seq : Int), .pointer (some ⟨lg, 0, none⟩), .map (some lm), .int .i64 (P.room : Int), .pointer (some ⟨pl, 0, none⟩), .bool P.failed] := h.own;obtain ⟨TL, hTL⟩ : ∃ TL, TL = P.T.length := ⟨_, rfl⟩
 rw [<- hTL] at HD hfew;have CL := Lh (zEc (L := L) hT);replace HD := Lh HD;have H := Lh h;have HB := Lh hb;have HCS := Lh hcs;have HO := Lh ho;have HL := Lh hL;have HT := Lh hT;have HTL := Lh hTL;obtain ⟨q1, q2, q3⟩ := ho.at_;obtain ⟨n, hn2⟩ : ∃ n, n = L.length := ⟨_, rfl⟩
 rw [<- hn2] at hn ⊢;have HN := Lh hn2;have HHD := Lh hhd;have zp := ho.in_;have zb := hb.in_;clear h hb hcs ho hL hT hTL hn2 hhd;go_enter Tryz.func87, Tryz.ntmps87;go_upto_region 3 with (go_at_call 174; refine HD.out.mono ?_; rintro e w1 ⟨v, rfl, hrow, hb1⟩)
 have W1 := Lh hrow;have B1 := Lh hb1;clear hrow hb1 q1 q2 q3;go_wp2;go_loopw [5, 17] (fun v i wr => ∃ (out : Value) (k : Nat), out = v /\ k <= n /\ i = .int .i64 (k : Int) /\ wr.ownsRow w.heap.size 3 1 out (TL + k) (Po.ints (yW P.T ++ yW (L.take k))) /\ Below w.heap.size w wr) (fun v i wr => n - (intOf i).toNat)
 case atStart => exact ⟨_, 0, rfl, by omega, rfl, by simpa [yW] using W1.out, B1.out⟩
 case round =>
   obtain ⟨out, k, hxo, hk, rfl, hrow, hbr⟩ := hrel;subst hxo;by_cases hlt : k < n
   · obtain ⟨q, hq⟩ : ∃ q, L[k]? = some q := ⟨_, List.getElem?_eq_getElem (by rw [<- HN.out]; exact hlt)⟩
     obtain ⟨c0, c1, c2⟩ := HCS.out k q hq;have ob := (HB.out.keep hbr).at_;have k0 : wr.cell? ⟨b, k * 3, none⟩ = some (.int .i64 (q.1 : Int)) := by rw [ob.1, c0]
     have k1 : wr.cell? ⟨b, k * 3 + 1, none⟩ = some (.int .i64 (q.2.1 : Int)) := by rw [ob.1, c1]
     have k2 : wr.cell? ⟨b, k * 3 + 2, none⟩ = some (.string q.2.2) := by rw [ob.1, c2]
     clear c0 c1 c2 ob;obtain ⟨i0, hi0, hz0, hz1, hz2⟩ := info_parts Po.info_in;have hbs := hbr.size;have hrl : (Po.ints (yW P.T ++ yW (L.take k))).length = TL + k := by
       unfold Po.ints;rw [List.length_map, List.length_append, uP, uP, List.length_take, <- HTL.out, <- HN.out];omega
     have ek : L.take (k + 1) = L.take k ++ [q] := by rw [List.take_add_one, hq]; rfl
     have HRW := Lh hrow;have HBR := Lh hbr;have HEK := Lh ek;clear hrow hbr ek;go_wp2_with (at_builtin; refine wpList_append_own_at _ rfl _ _ 33 rfl w.heap.size 3 i0 (.int .i64 0) 1 8 Tryz.underlying33 hi0 hz0 hz1 hz2 rfl (by decide) out (TL + k) (Po.ints (yW P.T ++ yW (L.take k))) rfl ((HRW.out.alloc (.cells #[.int .i64 (q.1 : Int), .int .i64 (q.2.1 : Int), .string q.2.2] 131)).alloc _) ⟨wr.heap.size + 1, 0, none⟩ 1 1 [.int .i64 (q.1 : Int)] rfl rfl ?c1 ?c2 (by unfold maxLen; omega) (by omega) (by simp; omega) ?_)
     case c1 => intro j u hu; rw [show wr.heap.size + 1 = (wr.alloc (.cells #[.int .i64 (q.1 : Int), .int .i64 (q.2.1 : Int), .string q.2.2] 131)).heap.size from by simp]; exact Po.one_cell _ _ _ _ hu
     case c2 => intro u hu; simp at hu; subst hu; rfl
     intro v' w5 hown hgrow hnil hloc;have hg5 : Chg (fun q => out.ownBlock = some q) wr w5 := (((Chg.refl _ wr).alloc _).alloc _).grown hgrow fun q e => .inl e
     have hb5 : Below w.heap.size w w5 := ((Chg.of (S := fun q => w.heap.size <= q) HBR.out).same (hg5.mono fun q _ e => (HRW.out.lt q e).1)).below (Nat.le_refl _) fun q e => e
     have ho5 : w5.ownsRow w.heap.size 3 1 v' (TL + (k + 1)) (Po.ints (yW P.T ++ yW (L.take (k + 1)))) := by
       have e : Po.ints (yW P.T ++ yW (L.take (k + 1))) = Po.ints (yW P.T ++ yW (L.take k)) ++ [.int .i64 (q.1 : Int)] := by
         rw [HEK.out];simp [Po.ints, yW]
       rw [e];exact hown
     have B5 := Lh hb5;have O5 := Lh ho5;have w1 : IntKind.i64.wrap ((k : Int) + 1) = ((k + 1 : Nat) : Int) := by rw [IntKind.wrap_i64]; omega
     clear hown hgrow hnil hloc hg5 hb5 ho5;go_wp2;go_roundw
     case rel => exact ⟨_, k + 1, rfl, by omega, by first | rfl | (congr 1; omega), O5.out, B5.out⟩
     case measure => simp [intOf] <;> omega
   · obtain rfl : k = n := by omega
     have e1 : L.take k = L := by rw [HN.out, List.take_length]
     rw [e1] at hrow;have XL : Hid ((yW P.T ++ yW L).length = TL + k) := Lh (by rw [List.length_append, uP, uP, <- HTL.out, <- HN.out]);rw [<- XL.out] at hrow;have hxl : (yW P.T ++ yW L).length <= 1000000 := by rw [XL.out]; omega
     have ST := Lh (Po.sort_any hrow hxl);have LTL : Hid ((Po.sortI (yW P.T ++ yW L)).length = (yW P.T ++ yW L).length) := Lh (List.mergeSort_perm _ _).length_eq;have HBR := Lh hbr;have HRW := Lh hrow;clear hrow hbr e1;obtain ⟨xs, hxs⟩ : ∃ xs, xs = yW P.T ++ yW L := ⟨_, rfl⟩
     rw [<- hxs] at ST LTL XL HRW CL;clear hxl hxs;obtain ⟨nc, hnc⟩ : ∃ nc, nc = (yF P.T (L.map wh)).length := ⟨_, rfl⟩
     rw [<- hnc] at CL;have HNC : Hid ((P.put L).T.length = nc) := Lh hnc.symm;clear hnc;go_upto_region 8 with (go_at_call 175; refine ST.out.mono ?_; rintro e w2 ⟨rfl, hw2, hc2⟩)
     rw [<- LTL.out] at hw2;have CP := Lh (zCm (w := w2.drew) (base := w.heap.size) (by exact hw2) (by rw [LTL.out, XL.out]; omega));rw [CL.out] at CP;have hb2 : Below w.heap.size w w2 := ((Chg.of (S := fun q => w.heap.size <= q) HBR.out).same (hc2.mono fun q _ e => (HRW.out.lt q e).1)).below (Nat.le_refl _) fun q e => e
     have B2 := Lh hb2;have O2 := Lh (HO.out.keep hb2);have HW2 := Lh hw2;clear hw2 hc2 hb2;by_cases hle : nc <= P.room
     · have tt : decide ((P.room : Int) < (nc : Int)) = false := by simpa using hle
       refine zA (fun W => Own W p 150 #[.pointer (some ⟨d, 0, none⟩), .int .i64 (P.ll : Int), .int .u64 (P.seq : Int), .pointer (some ⟨lg, 0, none⟩), .map (some lm), .int .i64 (P.room : Int), .pointer (some ⟨pl, 0, none⟩), .bool P.failed]) (0 :: 2 :: 3 :: 4 :: 5 :: 6 :: 7 :: []) (6 :: []) (0 :: 3 :: 4 :: 5 :: 6 :: 1 :: 2 :: 7 :: []) (by kernel_rfl) (by kernel_rfl) rfl (by kernel_rfl) rfl (O2.out.drawn) (by simp only [zU, List.filterMap_cons, List.filterMap_nil, List.getElem?_cons_zero, List.getElem?_cons_succ, Option.map_some]; exact rfl) ?_;iterate 5
         refine zC (v := ?_) rfl rfl (fun W hS => ?_) ?_;rotate_left
         · first
             | (conv => lhs; simp [go_sem, tt]
                first | done | exact rfl)
             | (have hS := hS rfl
                obtain ⟨q1, q3, q4⟩ := Own.at_ hS;conv => lhs; simp [go_sem, *, tt]
                first | done | exact rfl)
         simp only [Act.put, lA, lZ, lS]
       refine zQ rfl rfl fun K hK => ?_
       go_wp2_with (go_at_call 176; refine CP.out.mono ?_; rintro e w3 ⟨⟨a3, cp3, rfl⟩, hc3⟩)
       have hb3 : Below w.heap.size w w3 := ((Chg.of (S := fun q => w.heap.size <= q) (B2.out.drew)).same (hc3.mono fun q _ e => (HW2.out.lt q e).1)).below (Nat.le_refl _) fun q e => e
       have B3 := Lh hb3;have O3 := Lh (HO.out.keep hb3);refine hK _ _ O3.out ?_;clear hK K hb3 hc3;iterate 2
         refine zC (v := ?_) rfl rfl (fun W hS => ?_) ?_;rotate_left
         · first
             | (conv => lhs; simp [go_sem, tt]
                first | done | exact rfl)
             | (have hS := hS rfl
                obtain ⟨q1, q3, q4⟩ := Own.at_ hS;conv => lhs; simp [go_sem, *, tt]
                first | done | exact rfl)
         simp only [Act.put, lA, lZ, lS]
       refine zR ?_;have FIN : Hid (P.chgE L = 0 /\ P.chg L = P.put L) := Lh (by unfold PS.chgE PS.chg; rw [HNC.out, if_pos hle, if_pos hle]; exact ⟨rfl, rfl⟩);have t2 : decide (P.room < nc) = false := by simpa using hle
       rw [t2];clear tt t2;have HLE := Lh hle;have HK := Lh (H.out.ok.put HL.out (by rw [HNC.out]; exact hle) HHD.out.1 HHD.out.2);clear hle;go_wp2;go_loopw [39] (fun i wr => ∃ (j : Nat) (R' : List Po.RF), j <= k /\ i = .int .i64 (j : Int) /\ Po.PoolAt wr Bp pl P.room (c + j) R' /\ Coh (P.put (L.take j)) R' /\ Chg (Po.PT w Bp) w wr) (fun i wr => k - (intOf i).toNat)
       case atStart => exact ⟨0, R, by omega, rfl, H.out.pool.below B3.out, H.out.coh, Chg.of B3.out⟩
       case round =>
         obtain ⟨j, R', hj, rfl, hp, hcoh, hch⟩ := hrel;by_cases hlt : j < k
         · obtain ⟨q, hq⟩ : ∃ q, L[j]? = some q := ⟨_, List.getElem?_eq_getElem (by rw [<- HN.out]; exact hlt)⟩
           obtain ⟨c0, c1, c2⟩ := HCS.out j q hq;have hqL : q ∈ L := List.mem_of_getElem? hq;obtain ⟨y1, y2, y3, y4⟩ := HL.out q hqL;have ob := (yZ hch HB.out (by decide) (by decide)).at_;have op := Lh (yZ hch HO.out (by decide) (by decide));have k0 : wr.cell? ⟨b, j * 3, none⟩ = some (.int .i64 (q.1 : Int)) := by rw [ob.1, c0]
           have k1 : wr.cell? ⟨b, j * 3 + 1, none⟩ = some (.int .i64 (q.2.1 : Int)) := by rw [ob.1, c1]
           have k2 : wr.cell? ⟨b, j * 3 + 2, none⟩ = some (.string q.2.2) := by rw [ob.1, c2]
           have ek : L.take (j + 1) = L.take j ++ [q] := by rw [List.take_add_one, hq]; rfl
           have hins : (ins q.1 (q.2.1, fl q.2.2) (P.put (L.take j)).T).length <= P.room := by
             have h1 := zCr HT.out L (j + 1);rw [ek, PS.put_snoc, HNC.out] at h1;exact Nat.le_trans h1 HLE.out
           have hcs2 := Coh.set hcoh hp.ok (uC _ HT.out) (no := q.1) (x := (q.2.1, fl q.2.2)) y1 (zNi HL.out hqL) hins;have hco : Coh (P.put (L.take (j + 1))) (Po.setR R' P.room (q.1 : Int) (fr (q.2.1, fl q.2.2))).2 := by rw [ek, PS.put_snoc]; exact hcs2.2
           have hfz := gX (x := (q.2.1, fl q.2.2)) (Qt _ y4);have FRM := Lh (fun W => gF q.1 q.2.1 q.2.2 W y3 y4);obtain ⟨F, hF⟩ : ∃ F, F = fr (q.2.1, fl q.2.2) := ⟨_, rfl⟩
           rw [<- hF] at FRM hco hfz;have SETh : Hid (∀ W, Below wr.heap.size wr W -> Calls Tryz.prog 177 #[.pointer (some ⟨pl, 0, none⟩), .int .i64 (q.1 : Int), .string F] W fun e w' => (∃ z : Int, e = .returned (.int .i64 z)) /\ Po.PoolAt w' Bp pl P.room (c + (j + 1)) (Po.setR R' P.room (q.1 : Int) F).2 /\ Chg (Po.PT W Bp) W w') := Lh fun W hW => by
             refine (Po.set_any (hp.below hW) (q.1 : Int) F (by omega) (by omega)).mono ?_;rintro e w2 ⟨rfl, h1, h2⟩;exact ⟨⟨_, rfl⟩, h1, h2⟩
           have HCO := Lh hco;have HCH := Lh hch;have hw1 : IntKind.i64.wrap ((j : Int) + 1) = ((j + 1 : Nat) : Int) := by rw [IntKind.wrap_i64]; omega
           have zr : p < wr.heap.size := op.out.in_;clear hp hcoh hch c0 c1 c2 ob ek hins hcs2 hco hfz hF hqL hq y1 y2 y3 y4;go_upto_region 13 with fail;have O9 := Own.made wr 131 #[.int .i64 (q.1 : Int), .int .i64 (q.2.1 : Int), .string q.2.2];have B9 := zG wr 131 #[.int .i64 (q.1 : Int), .int .i64 (q.2.1 : Int), .string q.2.2];have P9 := op.out.keep B9;go_name_world W0 hW0;rw [hW0] at O9 B9 P9;clear hW0;have HB9 := Lh B9;clear B9;refine zA (fun W => Own W p 150 #[.pointer (some ⟨d, 0, none⟩), .int .i64 (P.ll : Int), .int .u64 (P.seq : Int), .pointer (some ⟨lg, 0, none⟩), .map (some lm), .int .i64 (P.room : Int), .pointer (some ⟨pl, 0, none⟩), .bool P.failed] /\ Own W wr.heap.size 131 #[.int .i64 (q.1 : Int), .int .i64 (q.2.1 : Int), .string q.2.2]) (0 :: 1 :: 2 :: 3 :: 4 :: 5 :: 6 :: []) (3 :: 5 :: 6 :: []) (0 :: 1 :: 2 :: 3 :: 4 :: 5 :: 6 :: 7 :: 8 :: []) (by kernel_rfl) (by kernel_rfl) rfl (by kernel_rfl) rfl (⟨P9.drawn, O9.drawn⟩) (by simp only [zU, List.filterMap_cons, List.filterMap_nil, List.getElem?_cons_zero, List.getElem?_cons_succ, Option.map_some]; exact rfl) ?_;iterate 7
             refine zC (v := ?_) rfl rfl (fun W hS => ?_) ?_;rotate_left
             · first
                 | (conv => lhs; simp [go_sem, True]
                    first | done | exact rfl)
                 | (have hS := hS rfl
                    obtain ⟨q1, q2⟩ := hS;obtain ⟨q1, q3, q4⟩ := Own.at_ q1;obtain ⟨q2, q5, q6⟩ := Own.at_ q2;conv => lhs; simp [go_sem, *, True]
                    first | done | exact rfl)
             simp only [Act.put, lA, lZ, lS]
           refine zQ rfl rfl fun K hK => ?_
           go_wp2_with (go_at_call 170; refine (FRM.out _).mono ?_; rintro e w5 ⟨rfl, hb5⟩)
           have B5 := Lh (then_ HB9.out.drew hb5 HB9.out.drew.size);have P5 := Lh (P9.drawn.keep hb5);have O5 := Lh (O9.drawn.keep hb5);refine hK _ _ ⟨P5.out, O5.out⟩ ?_;clear hK K hb5;refine zQ rfl rfl fun K hK => ?_
           go_wp2_with (go_at_call 177; refine (SETh.out _ B5.out).mono ?_; rintro e w6 ⟨⟨z, rfl⟩, hp6, hc6⟩)
           have C6 := Lh (yU (xD HCH.out B5.out) hc6);have HP6 := Lh hp6;refine hK _ _ ⟨yZ hc6 P5.out (by decide) (by decide), yZ hc6 O5.out (by decide) (by decide)⟩ ?_;clear hK K hc6 hp6;refine zR ?_;go_wp2;go_roundw
           case rel => exact ⟨j + 1, _, by omega, by first | rfl | (congr 1; omega), HP6.out, HCO.out, C6.out⟩
           case measure => simp [intOf] <;> omega
         · obtain rfl : j = k := by omega
           have e1 : L.take j = L := by rw [HN.out, List.take_length]
           rw [e1] at hcoh;have C9 := Lh hch;have P9 := Lh (H.out.pooled_put HK.out hch hp hcoh);clear hp hcoh hch e1;go_wp2;go_ret;rw [FIN.out.1, FIN.out.2];exact ⟨rfl, ⟨sb, mb, sc, wv, lg, lm, pl, _, P9.out.more (by omega)⟩, C9.out⟩
     · have tt : decide ((P.room : Int) < (nc : Int)) = true := by simpa using (by omega : P.room < nc)
       refine zA (fun W => Own W p 150 #[.pointer (some ⟨d, 0, none⟩), .int .i64 (P.ll : Int), .int .u64 (P.seq : Int), .pointer (some ⟨lg, 0, none⟩), .map (some lm), .int .i64 (P.room : Int), .pointer (some ⟨pl, 0, none⟩), .bool P.failed]) (0 :: 2 :: 3 :: 4 :: 5 :: 6 :: 7 :: []) (6 :: []) (0 :: 3 :: 4 :: 5 :: 6 :: 1 :: 2 :: 7 :: []) (by kernel_rfl) (by kernel_rfl) rfl (by kernel_rfl) rfl (O2.out.drawn) (by simp only [zU, List.filterMap_cons, List.filterMap_nil, List.getElem?_cons_zero, List.getElem?_cons_succ, Option.map_some]; exact rfl) ?_;iterate 5
         refine zC (v := ?_) rfl rfl (fun W hS => ?_) ?_;rotate_left
         · first
             | (conv => lhs; simp [go_sem, tt]
                first | done | exact rfl)
             | (have hS := hS rfl
                obtain ⟨q1, q3, q4⟩ := Own.at_ hS;conv => lhs; simp [go_sem, *, tt]
                first | done | exact rfl)
         simp only [Act.put, lA, lZ, lS]
       refine zQ rfl rfl fun K hK => ?_
       go_wp2_with (go_at_call 176; refine CP.out.mono ?_; rintro e w3 ⟨⟨a3, cp3, rfl⟩, hc3⟩)
       have hb3 : Below w.heap.size w w3 := ((Chg.of (S := fun q => w.heap.size <= q) (B2.out.drew)).same (hc3.mono fun q _ e => (HW2.out.lt q e).1)).below (Nat.le_refl _) fun q e => e
       have B3 := Lh hb3;have O3 := Lh (HO.out.keep hb3);refine hK _ _ O3.out ?_;clear hK K hb3 hc3;iterate 2
         refine zC (v := ?_) rfl rfl (fun W hS => ?_) ?_;rotate_left
         · first
             | (conv => lhs; simp [go_sem, tt]
                first | done | exact rfl)
             | (have hS := hS rfl
                obtain ⟨q1, q3, q4⟩ := Own.at_ hS;conv => lhs; simp [go_sem, *, tt]
                first | done | exact rfl)
         simp only [Act.put, lA, lZ, lS]
       refine zR ?_;have FIN : Hid (P.chgE L = 10 /\ P.chg L = P) := Lh (by unfold PS.chgE PS.chg; rw [HNC.out, if_neg hle, if_neg hle]; exact ⟨rfl, rfl⟩);have t2 : decide (P.room < nc) = true := by simpa using (by omega : P.room < nc)
       rw [t2];clear tt t2;go_wp2;go_ret;rw [FIN.out.1, FIN.out.2];exact ⟨rfl, Ask.from_ B3.out ((Ask.same (zF.below ⟨sb, mb, sc, wv, lg, lm, pl, R, H.out⟩ B3.out)).more (by omega))⟩
end
end Go.Proofs.YthijgebmoadgkaaGreatDoor
end
