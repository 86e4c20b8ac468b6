import Derived.Test.YtndhmidgnpobjaaGreatDoorPgrT
import Derived.Lib.SlicesCompact
set_option linter.unusedVariables false
set_option linter.unusedSimpArgs false
namespace Go.Proofs.YtndhmidgnpobjaaGreatDoor
open Go.ChangeShapes Go.WideShapes Go.ChangeAt Go.RowKit
section
def zH : Value := .agg #[.int .i64 0, .int .i64 0, .int .u64 0, .int .u64 0, .int .u64 0, .int .u64 0, .int .u64 0, .int .u64 0, .int .u64 0, .int .u64 0]
section
variable {w w' : World} {B Bp d p c : Nat} {P : PS}
theorem zE9 (p : Nat) (i : Int) (hi : i < 0 \/ 8 <= i) (w : World) : Calls Tryz.prog 81 #[.pointer (some ⟨p, 0, none⟩), .int .i64 i] w fun e w' => e = .returned (.tuple #[zH, .int .i64 1]) /\ Below w.heap.size w w' := by
 have O0 := Own.made w 114 #[.int .i64 0, .int .i64 0, .int .u64 0, .int .u64 0, .int .u64 0, .int .u64 0, .int .u64 0, .int .u64 0, .int .u64 0, .int .u64 0];obtain ⟨o1, o2, o3⟩ := O0.at_;unfold zH;rcases hi with hi | hi
 · go_enter Tryz.func81, Tryz.ntmps81;go_wp2;refine bodyPost_ret (by simp [results, Tryz.results81, go_sem, *]) rfl ⟨rfl, ?_⟩;repeat' (first | (with_reducible exact Below.refl _ _) | (with_reducible assumption) | (with_reducible refine zJ ?_ _) | (with_reducible refine Below.drew ?_) | (with_reducible refine Below.alloc ?_ ?_ _) | (with_reducible refine Below.setCell ?_ ?_ _) | (with_reducible refine then_ ?_ (by with_reducible assumption) ?_) | (with_reducible exact Nat.le_refl _) | (with_reducible exact Nat.le_succ _) | (with_reducible exact Nat.le_succ_of_le (by with_reducible assumption)) | omega | (simp; done) | (simp; omega) | (exact Nat.le_succ _) | (exact Nat.le_succ_of_le (by with_reducible assumption)))
 · have h0 : 0 <= i := by omega
   go_enter Tryz.func81, Tryz.ntmps81;go_wp2;refine bodyPost_ret (by simp [results, Tryz.results81, go_sem, *]) rfl ⟨rfl, ?_⟩;repeat' (first | (with_reducible exact Below.refl _ _) | (with_reducible assumption) | (with_reducible refine zJ ?_ _) | (with_reducible refine Below.drew ?_) | (with_reducible refine Below.alloc ?_ ?_ _) | (with_reducible refine Below.setCell ?_ ?_ _) | (with_reducible refine then_ ?_ (by with_reducible assumption) ?_) | (with_reducible exact Nat.le_refl _) | (with_reducible exact Nat.le_succ _) | (with_reducible exact Nat.le_succ_of_le (by with_reducible assumption)) | omega | (simp; done) | (simp; omega) | (exact Nat.le_succ _) | (exact Nat.le_succ_of_le (by with_reducible assumption)))
set_option maxRecDepth 10000 in
theorem zAu (h : zG w B Bp d p c P) (hd : P.s.down = false) (i : Nat) (hi : i < 8) (hc : c + 2 < 1000000) : Calls Tryz.prog 81 #[.pointer (some ⟨p, 0, none⟩), .int .i64 (i : Int)] w fun e w' => e = .returned (.tuple #[hV P.used P.free P.root, .int .i64 0]) /\ Ask w w' B Bp d p (c + 2) P := by
 have O0 := Own.made w 114 #[.int .i64 0, .int .i64 0, .int .u64 0, .int .u64 0, .int .u64 0, .int .u64 0, .int .u64 0, .int .u64 0, .int .u64 0, .int .u64 0];have B0 := zF w 114 #[.int .i64 0, .int .i64 0, .int .u64 0, .int .u64 0, .int .u64 0, .int .u64 0, .int .u64 0, .int .u64 0, .int .u64 0, .int .u64 0];have HD := jI (h.below B0);rw [hd] at HD;replace HD := Lh HD;have HH := mS (h.below B0) hd hc;obtain ⟨u, hu⟩ : ∃ u, u = P.used := ⟨_, rfl⟩
 obtain ⟨f, hf⟩ : ∃ f, f = P.free := ⟨_, rfl⟩
 obtain ⟨r, hr⟩ : ∃ r, r = P.root := ⟨_, rfl⟩
 rw [<- hu, <- hf, <- hr] at HH ⊢;unfold hV hC at HH ⊢;replace HH := Lh HH;have HO0 := Lh O0;have HB0 := Lh B0;obtain ⟨o1, o2, o3⟩ := O0.at_;obtain ⟨lg, lm, pl, ho⟩ := (h.below B0).cells;obtain ⟨q1, q2, q3⟩ := ho.at_;clear h hd ho B0 O0 hu hf hr;go_enter Tryz.func81, Tryz.ntmps81;go_wp2_with (first
   | (go_at_call 67; refine HD.out.mono ?_; rintro e w2 ⟨rfl, rfl⟩)
   | (go_at_call 76; refine HH.out.mono ?_; rintro e w3 ⟨rfl, hA⟩; have A3 := Lh hA; have O3 := Lh (yX hA.2 HO0.out (by decide) (by decide)); clear hA; obtain ⟨o1, o2, o3⟩ := O3.out.at_))
 refine bodyPost_ret (by simp [results, Tryz.results81, go_sem, *]) rfl ⟨rfl, ?_⟩;exact (Ask.from_ HB0.out A3.out).cells O3.out (by unfold PgT; decide) (by simp) (Nat.le_refl _) [.int .i64 (u : Int), .int .i64 (f : Int), .int .u64 (r 0 : Int), .int .u64 (r 1 : Int), .int .u64 (r 2 : Int), .int .u64 (r 3 : Int), .int .u64 (r 4 : Int), .int .u64 (r 5 : Int), .int .u64 (r 6 : Int), .int .u64 (r 7 : Int)] (by simp)
set_option maxRecDepth 10000 in
theorem zMe (h : zG w B Bp d p c P) (hd : P.s.down = false) (i : Nat) (hi : i < 8) (hc : c + 2 < 1000000) : Calls Tryz.prog 56 #[.pointer (some ⟨p, 0, none⟩), .int .i64 (i : Int)] w fun e w' => e = .returned (.tuple #[.int .u64 (P.root i : Int), .int .i64 0]) /\ Ask w w' B Bp d p (c + 2) P := by
 have HR := zAu h hd i hi hc;obtain ⟨u, hu⟩ : ∃ u, u = P.used := ⟨_, rfl⟩
 obtain ⟨f, hf⟩ : ∃ f, f = P.free := ⟨_, rfl⟩
 obtain ⟨r, hr⟩ : ∃ r, r = P.root := ⟨_, rfl⟩
 rw [<- hu, <- hf, <- hr] at HR;rw [<- hr];have HX : Hid (∀ w2 : World, (w2.alloc (.cells (hC u f r) 114)).cell? ⟨w2.heap.size, 2 + i, none⟩ = some (.int .u64 (r i : Int))) := Lh fun w2 => by
   rw [(Own.made w2 114 (hC u f r)).at_.1 (2 + i), zKy u f r hi]
 have HE := Lh (show hC u f r = #[.int .i64 (u : Int), .int .i64 (f : Int), .int .u64 (r 0 : Int), .int .u64 (r 1 : Int), .int .u64 (r 2 : Int), .int .u64 (r 3 : Int), .int .u64 (r 4 : Int), .int .u64 (r 5 : Int), .int .u64 (r 6 : Int), .int .u64 (r 7 : Int)] from rfl);unfold hV at HR;replace HR := Lh HR;rw [HE.out] at HR HX;clear h hd hu hf hr;go_enter Tryz.func56, Tryz.ntmps56;go_wp2_with (go_at_call 81; refine HR.out.mono ?_; rintro e w2 ⟨rfl, hA⟩; have A2 := Lh hA; clear hA; have hx := HX.out w2)
 go_ret2;exact ⟨rfl, A2.out.below (zF _ _ _)⟩
end
end
section
def yY (T : List (Nat × Pag)) : List Int := T.map fun p => ((p.1 : Nat) : Int)
theorem uY (T : List (Nat × Pag)) : (yY T).length = T.length := by simp [yY]
theorem Coh.dirty {P : PS} {R : List Po.RF} {n c : Nat} (h : Coh P R) (hk : Po.OkR R n c) (hT : asc P.T) : Po.dirtyR R = yY P.T := by
 have n1 : ((R.filter (·.dirty)).map (·.no)).Nodup := ((List.filter_sublist (l := R) (p := (·.dirty))).map (·.no)).nodup hk.nos;have hr : (yY P.T).Pairwise (· < ·) := by
   unfold yY;rw [List.pairwise_map];exact hT.imp fun h => by omega
 have n2 : (yY P.T).Nodup := by
   rw [List.nodup_iff_pairwise_ne];exact hr.imp fun h => by omega
 have hp : ((R.filter (·.dirty)).map (·.no)).Perm (yY P.T) := by
   rw [List.perm_ext_iff_of_nodup n1 n2];intro x;constructor
   · intro hx;obtain ⟨f, hf, rfl⟩ := List.mem_map.1 hx;obtain ⟨hf, hd⟩ := List.mem_filter.1 hf;obtain ⟨no, y, e, -, -, -, -, ht, -⟩ := h.good f hf;rw [e];exact List.mem_map.2 ⟨(no, y), uH (ht hd), rfl⟩
   · intro hx;obtain ⟨q, hq, rfl⟩ := List.mem_map.1 hx;obtain ⟨f, hf, e, hd⟩ := h.all q hq;exact List.mem_map.2 ⟨f, List.mem_filter.2 ⟨hf, hd⟩, e⟩
 unfold Po.dirtyR;rw [Po.sortI_perm hp];unfold Po.sortI;exact List.mergeSort_of_pairwise (hr.imp fun h => by simp; omega)
section
variable {w w' : World} {B Bp d p c : Nat} {P : PS}
theorem Jp (h : zG w B Bp d p c P) : Calls Tryz.prog 36 #[.pointer (some ⟨p, 0, none⟩)] w fun e w' => e = .returned (.int .i64 (P.T.length : Int)) /\ Below w.heap.size w w' := by
 obtain ⟨sb, mb, sc, wv, lg, lm, pl, R, h⟩ := h;have HD := Po.dirty_any h.pool;rw [h.coh.dirty h.pool.ok h.ok.T.1, uY] at HD;replace HD := Lh HD;have ho : Own w p 131 #[.pointer (some ⟨d, 0, none⟩), .int .i64 (P.ll : Int), .int .u64 (P.seq : Int), .pointer (some ⟨lg, 0, none⟩), .map (some lm), .int .i64 (P.room : Int), .pointer (some ⟨pl, 0, none⟩), .bool P.failed] := h.own;obtain ⟨q1, q2, q3⟩ := ho.at_;clear h ho;go_enter Tryz.func36, Tryz.ntmps36;go_wp2_with (go_at_call 97; refine HD.out.mono ?_; rintro e w2 ⟨v, rfl, hrow, hb⟩; obtain ⟨a, cp, rfl⟩ : ∃ a cp, v = .slice a P.T.length cp := (by rcases hrow.2 with ⟨e1, e2⟩ | ⟨g, cap, cur, e1, _⟩; exact ⟨none, 0, by rw [e1, e2]⟩; exact ⟨_, cap, e1⟩); clear hrow)
 go_ret;exact ⟨rfl, hb⟩
def PS.abort (P : PS) : PS := { P with T := [] }
theorem PS.Ok.abort {P : PS} (h : P.Ok) : P.abort.Ok :=
 { h with
   T := ⟨by simp [PS.abort, asc], by simp [PS.abort]⟩
   few := Nat.zero_le _
   hd := h.bd
   hd0 := h.bd0
   bd := h.bd
   bd0 := h.bd0
   M := h.M }
theorem Coh.abort {P : PS} {R : List Po.RF} (h : Coh P R) : Coh P.abort (Po.dropR R) := by
 refine ⟨fun f hf => ?_, by simp [PS.abort]⟩;obtain ⟨hf, hd⟩ := List.mem_filter.1 hf;obtain ⟨no, x, e, hn, hx, hs, hp, ht, hc⟩ := h.good f hf;have hd0 : f.dirty = false := by simpa using hd
 exact ⟨no, x, e, hn, hx, hs, hp, (fun e => by rw [hd0] at e; cases e), fun _ => ⟨rfl, (hc hd0).2⟩⟩
theorem Pgr.pooled_abort {sb mb sc lg lm pl : Nat} {wv : Value} {R : List Po.RF} (h : Pgr w B Bp d p c sb mb sc wv lg lm pl R P) {c' : Nat} (hc : Chg (Po.PT w Bp) w w') (hp : Po.PoolAt w' Bp pl P.room c' (Po.dropR R)) : Pgr w' B Bp d p c' sb mb sc wv lg lm pl (Po.dropR R) P.abort :=
 { h with
   disk := h.disk.keep hc fun q hq => h.not_pt (.inr (.inr (.inr hq)))
   log := hc.own h.log (h.not_pt (.inl rfl))
   own := hc.own h.own (h.not_pt (.inr (.inl rfl)))
   map := h.map.keep (hc.block lm h.map.in_ (h.not_pt (.inr (.inr (.inl rfl)))))
   pool := hp
   coh := h.coh.abort
   ok := h.ok.abort }
theorem zH8 (h : zG w B Bp d p c P) : Calls Tryz.prog 23 #[.pointer (some ⟨p, 0, none⟩)] w fun e w' => e = .returned (.tuple #[]) /\ Ask w w' B Bp d p c P.abort := by
 obtain ⟨sb, mb, sc, wv, lg, lm, pl, R, h⟩ := h;have HD := Lh (Po.drop_any h.pool);have H := Lh h;have ho : Own w p 131 #[.pointer (some ⟨d, 0, none⟩), .int .i64 (P.ll : Int), .int .u64 (P.seq : Int), .pointer (some ⟨lg, 0, none⟩), .map (some lm), .int .i64 (P.room : Int), .pointer (some ⟨pl, 0, none⟩), .bool P.failed] := h.own;obtain ⟨q1, q2, q3⟩ := ho.at_;clear h ho;go_enter Tryz.func23, Tryz.ntmps23;go_wp2_with (go_at_call 85; refine HD.out.mono ?_; rintro e w2 ⟨rfl, hp2, hc2⟩)
 go_end0
 exact ⟨rfl, ⟨sb, mb, sc, wv, lg, lm, pl, _, H.out.pooled_abort hc2 hp2⟩, hc2⟩
end
end
section
theorem Qv (d : Array Int) (hs : ∀ i j, i <= j -> j < d.size -> d[i]! <= d[j]!) : ∀ m, m <= d.size -> (Lib.compactUpTo d m).Pairwise (· < ·) /\ (∀ x ∈ Lib.compactUpTo d m, ∃ j, j < m /\ d[j]! = x) /\ ∀ j, j < m -> d[j]! ∈ Lib.compactUpTo d m
 | 0, _ => by simp [Lib.compactUpTo]
 | m + 1, hm => by
   obtain ⟨h1, h2, h3⟩ := Qv d hs m (by omega);rw [Lib.compactUpTo_succ];by_cases hk : m = 0 \/ d[m]! ≠ d[m - 1]!
   · have e : Lib.keeps d m = true := by unfold Lib.keeps; exact decide_eq_true hk
     rw [if_pos e];refine ⟨?_, fun x hx => ?_, fun j hj => ?_⟩
     · rw [List.pairwise_append];refine ⟨h1, by simp, fun x hx y hy => ?_⟩;obtain ⟨j, hj, rfl⟩ := h2 x hx;obtain rfl : y = d[m]! := by simpa using hy
       rcases hk with hk | hk
       · omega
       · have a := hs j (m - 1) (by omega) (by omega);have b := hs (m - 1) m (by omega) (by omega);omega
     · rcases List.mem_append.1 hx with hx | hx
       · obtain ⟨j, hj, e⟩ := h2 x hx; exact ⟨j, by omega, e⟩
       · exact ⟨m, by omega, (by simpa using hx : x = d[m]!).symm⟩
     · by_cases e : j = m
       · subst e; simp
       · exact List.mem_append.2 (.inl (h3 j (by omega)))
   · have e : Lib.keeps d m = false := by unfold Lib.keeps; exact decide_eq_false hk
     rw [e];simp only [Bool.false_eq_true, if_false, List.append_nil];refine ⟨h1, fun x hx => ?_, fun j hj => ?_⟩
     · obtain ⟨j, hj, e⟩ := h2 x hx; exact ⟨j, by omega, e⟩
     · by_cases e : j = m
       · subst e;have : j ≠ 0 /\ d[j]! = d[j - 1]! := by
           refine ⟨fun c => hk (.inl c), ?_⟩;by_cases c : d[j]! = d[j - 1]!
           · exact c
           · exact absurd (.inr c) hk
         rw [this.2];exact h3 (j - 1) (by omega)
       · exact h3 j (by omega)
theorem zEr (l : List Int) : ∀ i j, i <= j -> j < (Po.sortI l).toArray.size -> (Po.sortI l).toArray[i]! <= (Po.sortI l).toArray[j]! := fun i j hij hj => by
 have hp : (Po.sortI l).Pairwise fun x y => decide (x <= y) = true := List.pairwise_mergeSort (fun a b c h1 h2 => by simp at h1 h2 ⊢; omega) (fun a b => by simp; omega) l
 have hj' : j < (Po.sortI l).length := by simpa using hj
 rw [getElem!_pos _ i (by simp; omega), getElem!_pos _ j (by simpa using hj')];by_cases e : i = j
 · subst e; exact Int.le_refl _
 · have := List.pairwise_iff_getElem.1 hp i j (by omega) hj' (by omega);simpa using this
theorem zDt (l m : List Int) (hm : m.Pairwise (· < ·)) (h : ∀ x, x ∈ l ↔ x ∈ m) : (Lib.compact (Po.sortI l)).length = m.length := by
 obtain ⟨h1, h2, h3⟩ := Qv (Po.sortI l).toArray (zEr l) (Po.sortI l).length (by simp);have n1 : (Lib.compact (Po.sortI l)).Nodup := by
   rw [List.nodup_iff_pairwise_ne];exact h1.imp fun h => by omega
 have n2 : m.Nodup := by
   rw [List.nodup_iff_pairwise_ne];exact hm.imp fun h => by omega
 have hmem : ∀ x, x ∈ Lib.compact (Po.sortI l) ↔ x ∈ m := fun x => by
   rw [<- h x];have hs : x ∈ l ↔ x ∈ Po.sortI l := ((List.mergeSort_perm l _).mem_iff).symm;rw [hs];constructor
   · intro hx;obtain ⟨j, hj, e⟩ := h2 x hx;rw [<- e, getElem!_pos _ j (by simpa using hj)];simp
   · intro hx;obtain ⟨j, hj, e⟩ := List.getElem_of_mem hx;have := h3 j hj;rw [getElem!_pos _ j (by simpa using hj)] at this;simp only [List.getElem_toArray] at this;rw [e] at this;exact this
 have hp : (Lib.compact (Po.sortI l)).Perm m := by
   rw [List.perm_ext_iff_of_nodup n1 n2];exact hmem
 exact hp.length_eq
theorem zH1 {T : List (Nat × Pag)} (h : asc T) : (yY T).Pairwise (· < ·) := by
 unfold yY;rw [List.pairwise_map];exact h.imp fun h => by omega
def wh (p : Nat × Pag) : Nat × Pag := (p.1, (p.2.1, fl p.2.2))
theorem zGi (n : Nat) (v : Pag) : ∀ (T : List (Nat × Pag)) (x : Int), x ∈ yY (ins n v T) ↔ x = (n : Int) \/ x ∈ yY T
 | [], x => by simp [ins, yY]
 | y :: T, x => by
   unfold ins;split
   · simp [yY]
   · split
     · rename_i e
       subst e;simp [yY]
     · have := zGi n v T x;have e : ∀ L, x ∈ yY (y :: L) ↔ x = (y.1 : Int) \/ x ∈ yY L := fun L => by simp [yY]
       rw [e, e, this];constructor
       · rintro (h | h | h)
         · exact .inr (.inl h)
         · exact .inl h
         · exact .inr (.inr h)
       · rintro (h | h | h)
         · exact .inr (.inl h)
         · exact .inl h
         · exact .inr (.inr h)
theorem Xs : ∀ (L T : List (Nat × Pag)) (x : Int), x ∈ yY (yH T L) ↔ x ∈ yY T ++ yY L
 | [], T, x => by simp [yH, yY]
 | p :: L, T, x => by
   have := Xs L (ins p.1 p.2 T) x;unfold yH at this ⊢;rw [List.foldl_cons, this];simp only [List.mem_append, zGi];have e : x ∈ yY (p :: L) ↔ x = (p.1 : Int) \/ x ∈ yY L := by simp [yY]
   rw [e];constructor
   · rintro ((h | h) | h)
     · exact .inr (.inl h)
     · exact .inl h
     · exact .inr (.inr h)
   · rintro (h | h | h)
     · exact .inl (.inr h)
     · exact .inl (.inl h)
     · exact .inr h
theorem zO4 (n : Nat) (v : Pag) {T : List (Nat × Pag)} (h : asc T) : T.length <= (ins n v T).length := by
 rw [mW n v T h];split <;> omega
theorem zAk : ∀ (L : List (Nat × Pag)) {T : List (Nat × Pag)}, asc T -> T.length <= (yH T L).length
 | [], _, _ => Nat.le_refl _
 | p :: L, T, h => Nat.le_trans (zO4 p.1 p.2 h) (zAk L (qS p.1 p.2 h))
theorem zFu {T L : List (Nat × Pag)} (h : asc T) : (Lib.compact (Po.sortI (yY T ++ yY L))).length = (yH T (L.map wh)).length := by
 have e : yY (L.map wh) = yY L := by simp [yY, wh, Function.comp_def]
 rw [zDt _ (yY (yH T (L.map wh))) (zH1 (uO _ h)) fun x => by rw [Xs, e], uY]
def PS.put (P : PS) (L : List (Nat × Pag)) : PS := { P with T := yH P.T (L.map wh) }
theorem PS.put_snoc (P : PS) (L : List (Nat × Pag)) (p : Nat × Pag) : P.put (L ++ [p]) = { P with T := ins p.1 (p.2.1, fl p.2.2) (P.put L).T } := by
 unfold PS.put yH;simp only [List.map_append, List.foldl_append, List.map_cons, List.map_nil, List.foldl_cons, List.foldl_nil];rfl
theorem Coh.set {P : PS} {R : List Po.RF} {n c : Nat} (h : Coh P R) (hk : Po.OkR R n c) (hT : asc P.T) {no : Nat} {x : Pag} (hno : no < P.most) (hx : vE x) (hl : (ins no x P.T).length <= n) :
   (Po.setR R n (no : Int) (fr x)).1 = 0 /\ Coh { P with T := ins no x P.T } (Po.setR R n (no : Int) (fr x)).2 := by
 have key : ∀ R' : List Po.RF, (∀ f ∈ R', f ∈ R /\ f.no ≠ (no : Int)) -> (∀ f ∈ R, f.no ≠ (no : Int) -> f.dirty = true -> f ∈ R') -> Coh { P with T := ins no x P.T } (R' ++ [⟨(no : Int), fr x, true, 0⟩]) := fun R' h1 h2 => by
   refine ⟨fun f hf => ?_, fun p hp => ?_⟩
   · rcases List.mem_append.1 hf with hf | hf
     · obtain ⟨hf, hne⟩ := h1 f hf;obtain ⟨k, y, e, hn, hy, hs, hp, ht, hc⟩ := h.good f hf;have hkn : ¬ no = k := fun c => hne (by rw [e, c])
       refine ⟨k, y, e, hn, hy, hs, hp, fun hd => ?_, fun hd => ?_⟩
       · show lk (ins no x P.T) k = some y
         rw [gW no x P.T k hT, if_neg hkn]; exact ht hd
       · refine ⟨?_, (hc hd).2⟩;show lk (ins no x P.T) k = none
         rw [gW no x P.T k hT, if_neg hkn]; exact (hc hd).1
     · simp at hf;subst hf;refine ⟨no, x, rfl, hno, hx, rfl, rfl, fun _ => ?_, fun hd => by cases hd⟩;show lk (ins no x P.T) no = some x
       rw [gW no x P.T no hT, if_pos rfl]
   · by_cases e : p.1 = no
     · exact ⟨⟨(no : Int), fr x, true, 0⟩, by simp, by rw [e], rfl⟩
     · rcases Qi hp with hp | hp
       · exact absurd (by rw [hp]) e
       · obtain ⟨f, hf, e2, hd⟩ := h.all p hp;exact ⟨f, List.mem_append.2 (.inl (h2 f hf (by rw [e2]; omega) hd)), e2, hd⟩
 unfold Po.setR;cases hlk : Po.look R (no : Int) with
 | some f =>
   obtain ⟨h1, S, U, e⟩ := Po.look_some hlk;have hf : f ∈ R := by rw [e]; simp
   obtain ⟨-, -, -, -, -, -, hp, -, -⟩ := h.good f hf;refine ⟨rfl, ?_⟩;show Coh _ (Po.del R (no : Int) ++ [⟨(no : Int), fr x, true, f.pins⟩])
   rw [hp];refine key _ (fun g hg => ?_) fun g hg hne hd => ?_
   · have := List.mem_filter.1 hg;exact ⟨this.1, by simpa using this.2⟩
   · exact List.mem_filter.2 ⟨hg, by simpa using hne⟩
 | none =>
   have hmiss := h.miss hlk;have hnin := Po.look_none hlk;have hne : ∀ g ∈ R, g.no ≠ (no : Int) := fun g hg c => hnin (List.mem_map.2 ⟨g, hg, c⟩)
   have hl2 : P.T.length + 1 <= n := by
     rw [mW no x P.T hT, hmiss] at hl;simpa using hl
   unfold Po.addR Po.roomR;by_cases hr : R.length < n
   · rw [if_pos hr];exact ⟨rfl, key R (fun g hg => ⟨hg, hne g hg⟩) fun g hg _ _ => hg⟩
   · rw [if_neg hr];cases hv : Po.victim R with
     | none =>
       exfalso;have hall : ∀ f ∈ R, f.dirty = true := fun f hf => by
         unfold Po.victim at hv;have := List.find?_eq_none.1 hv f hf;obtain ⟨-, -, -, -, -, -, hp, -, -⟩ := h.good f hf;unfold Po.free at this;rw [hp] at this;cases hd : f.dirty with
         | true => rfl
         | false => rw [hd] at this; simp at this
       have e := h.dirty hk hT;have e1 : R.filter (·.dirty) = R := List.filter_eq_self.2 hall;have e2 : (Po.dirtyR R).length = R.length := by
         unfold Po.dirtyR;rw [e1];unfold Po.sortI;rw [(List.mergeSort_perm _ _).length_eq, List.length_map]
       rw [e, uY] at e2;omega
     | some v =>
       obtain ⟨hfr, S, U, e, -⟩ := Po.victim_some hv;have hvm : v ∈ R := by rw [e]; simp
       have hv0 : v.dirty = false := by
         unfold Po.free at hfr;cases hd' : v.dirty with
         | false => rfl
         | true => rw [hd'] at hfr; cases hfr
       refine ⟨rfl, key _ (fun g hg => ?_) fun g hg _ hd => ?_⟩
       · have := (List.mem_filter.1 hg).1;exact ⟨this, hne g this⟩
       · refine List.mem_filter.2 ⟨hg, ?_⟩;have : g.no ≠ v.no := fun c => by
           have := Po.nodup_inj hk.nos hg hvm c;rw [this, hv0] at hd;cases hd
         simpa using this
end
end Go.Proofs.YtndhmidgnpobjaaGreatDoor
