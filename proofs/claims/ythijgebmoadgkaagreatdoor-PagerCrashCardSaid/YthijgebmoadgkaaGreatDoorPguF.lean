import Derived.Test.YthijgebmoadgkaaGreatDoorPguD
import Derived.Test.YthijgebmoadgkaaGreatDoorShelS
import Derived.Shelf.SlSortCmp.NoneTotal
set_option linter.unusedVariables false
set_option linter.unusedSimpArgs false
section
namespace Go.Proofs.YthijgebmoadgkaaGreatDoor
open Go.ChangeShapes Go.WideShapes Go.ChangeAt Go.RowKit Go.Sort Go.Lib
structure Sh where
 n : Nat
 h : n <= 99999
 p : Pag
instance : Inhabited Sh := ⟨⟨0, by omega, (0, ⟨#[]⟩)⟩⟩
def zEm (x : Sh) : List Value := [.int .i64 (x.n : Int), .int .i64 (x.p.1 : Int), .string x.p.2]
def zEb (q : Nat × Pag) : Sh := ⟨min q.1 99999, by omega, q.2⟩
def fB (x : Sh) : Nat × Pag := (x.n, x.p)
def cfS (x y : Sh) : Int := (x.n : Int) - (y.n : Int)
theorem zM0 {q : Nat × Pag} (h : q.1 <= 99999) : fB (zEb q) = q := by
 unfold fB zEb;obtain ⟨a, b⟩ := q;simp only at h ⊢;rw [Nat.min_eq_left h]
theorem ltS (x y : Sh) : ltOf cfS x y = decide (x.n < y.n) := by
 unfold ltOf cfS;by_cases h : x.n < y.n
 · rw [decide_eq_true h, decide_eq_true (by omega)]
 · rw [decide_eq_false h, decide_eq_false (by omega)]
theorem swoS : SWO (ltOf cfS) where
 irrefl x := by rw [ltS]; simp
 trans x y z h1 h2 := by
   rw [ltS] at *;have := of_decide_eq_true h1;have := of_decide_eq_true h2;exact decide_eq_true (by omega)
 ntrans x y z h1 h2 := by
   rw [ltS] at *;have := of_decide_eq_false h1;have := of_decide_eq_false h2;exact decide_eq_false (by omega)
theorem zM8 (x y : Sh) (W : World) : Calls Tryz.prog 249 #[.agg #[.int .i64 (x.n : Int), .int .i64 (x.p.1 : Int), .string x.p.2], .agg #[.int .i64 (y.n : Int), .int .i64 (y.p.1 : Int), .string y.p.2]] W fun e w' => e = .returned (.int .i64 (cfS x y)) /\ ∃ q os', w' = grow (W.drewN q) os' := by
 have h1 := x.h;have h2 := y.h;unfold cfS;obtain ⟨a, ha⟩ : ∃ a, a = x.n := ⟨_, rfl⟩
 obtain ⟨b, hb⟩ : ∃ b, b = y.n := ⟨_, rfl⟩
 rw [<- ha] at h1 ⊢;rw [<- hb] at h2 ⊢;have w1 : IntKind.i64.wrap ((a : Int) - (b : Int)) = (a : Int) - (b : Int) := by rw [IntKind.wrap_i64]; omega
 clear ha hb;go_enter Tryz.func249, Tryz.ntmps249;go_wp2;go_ret;exact ⟨rfl, 0, _, by rw [alloc_eq_grow, alloc_eq_grow, grow_grow]; rfl⟩
theorem cmpS (blk off size : Nat) (w : World) : CmpLays Tryz.prog 249 #[] zEm 3 cfS blk off size w := fun _ _ _ _ x y => zM8 x y _
theorem zKu {w : World} {g : Nat} {cur : Array Value} {e : TypeId} {ss : List Value} (hb : w.heap[g]? = some (.cells cur e (0, 0))) (ht : cur.toList.take ss.length = ss) : Holds id w g 0 ss.toArray := by
 intro j hj;have hj' : j < ss.length := by simpa using hj
 refine ⟨?_, by simp [World.frozen?, hb]⟩;have h1 : (cur.toList.take ss.length)[j]? = ss[j]? := by rw [ht]
 rw [List.getElem?_take_of_lt hj'] at h1;simp only [World.cell?, hb, Nat.zero_add];simp only [Option.isSome_none, Bool.false_eq_true, if_false];rw [<- Array.getElem?_toList, h1];simp [hj']
theorem zMh {w : World} {g n : Nat} {os : Array Obj} {cur : Array Value} {e : TypeId} {fr : Nat × Nat} (d : Array Value) (hb : w.heap[g]? = some (.cells cur e fr)) :
   (grow (putRow id (Sort.ahead w n) g 0 d) os).heap[g]? = some (.cells (Sort.putCells id 0 d cur) e fr) := by
 have hg : g < w.heap.size := (Array.getElem?_eq_some_iff.1 hb).1;rw [heap_grow_old _ _ (by simpa using hg)];simp [putRow, mapBlock, Sort.ahead, Array.getElem?_modify, hb, onCells]
theorem zJ9 {w : World} {g n : Nat} {os : Array Obj} (d : Array Value) : w.grownBy (grow (putRow id (Sort.ahead w n) g 0 d) os) (some g) := by
 refine ⟨rfl, rfl, rfl, by simp, fun k hk hne => ?_⟩;rw [heap_grow_old _ _ (by simpa using hk)];have : g ≠ k := fun e => hne (by rw [e])
 simp [putRow, mapBlock, Sort.ahead, Array.getElem?_modify, this]
theorem zM2 (cur : Array Value) (ts : List Value) (h : ts.length <= cur.size) : (Sort.putCells id 0 ts.toArray cur).toList.take ts.length = ts := by
 apply List.ext_getElem?
 intro j;by_cases hj : j < ts.length
 · rw [List.getElem?_take_of_lt hj, Array.getElem?_toList];simp [Sort.putCells, hj, show j < cur.size by omega]
 · rw [List.getElem?_take_eq_none (by omega), List.getElem?_eq_none (by omega)]
theorem zFo (L : List Sh) : flatK zEm 3 L.toArray = (shR (L.map fB)).toArray := by
 apply Array.ext
 · rw [size_flatK, List.size_toArray, List.size_toArray, Qy, List.length_map]
 · intro t h1 h2;rw [size_flatK, List.size_toArray] at h1;have h3 := get_flatK zEm 3 L.toArray t (by rw [List.size_toArray]; exact h1);rw [getElem!_pos _ t (by rw [size_flatK, List.size_toArray]; exact h1)] at h3;rw [h3];have hk : t / 3 < L.length := by omega
   have e1 : L.toArray[t / 3]! = L[t / 3]'hk := by rw [getElem!_pos _ _ (by simpa using hk)]; simp
   rw [e1];have hq : (L.map fB)[t / 3]? = some (fB (L[t / 3]'hk)) := by rw [List.getElem?_map, List.getElem?_eq_getElem hk]; rfl
   obtain ⟨a0, a1, a2⟩ := zBn (L.map fB) hq;have hb : ∀ (v : Value), (shR (L.map fB))[t]? = some v -> (shR (L.map fB)).toArray[t] = v := fun v hv => by
     rw [List.getElem_toArray];rw [List.getElem?_eq_getElem (by simpa using h2)] at hv;exact Option.some.inj hv
   symm
   rcases (by omega : t = t / 3 * 3 \/ t = t / 3 * 3 + 1 \/ t = t / 3 * 3 + 2) with c | c | c
   · have cm : t % 3 = 0 := by omega
     rw [cm];refine hb _ ?_;conv => lhs; rw [c]
     rw [a0]; rfl
   · have cm : t % 3 = 1 := by omega
     rw [cm];refine hb _ ?_;conv => lhs; rw [c]
     rw [a1]; rfl
   · have cm : t % 3 = 2 := by omega
     rw [cm];refine hb _ ?_;conv => lhs; rw [c]
     rw [a2]; rfl
theorem zJe {a b : List (Nat × Pag)} (ha : asc a) (hb : asc b) (hp : a.Perm b) : a = b := zF0 ha hb fun n => by
 cases h : lk a n with
 | some v => exact (zBg hb (hp.mem_iff.1 (vU h))).symm
 | none =>
   cases h2 : lk b n with
   | none => rfl
   | some v =>
     have := zBg ha (hp.mem_iff.2 (vU h2));rw [h] at this; cases this
theorem zHb {d d' : Array Sh} {M : List (Nat × Pag)} (hM : asc M) (hd : (d.toList.map fB).Perm M) (hp : PermIn 0 d.size d d') (hs : SortedIn (ltOf cfS) 0 d.size d') : d'.toList.map fB = M := by
 obtain ⟨h1, -, h3⟩ := hp;rw [<- h1, Array.extract_size] at h3;have e1 : (d.extract 0 d'.size) = d := by rw [h1, Array.extract_size]
 rw [e1] at h3;have hp2 : (d'.toList.map fB).Perm M := (h3.map fB).trans hd;refine zJe ?_ hM hp2;have hnd : ((d'.toList.map fB).map (·.1)).Nodup := ((hp2.map (·.1)).nodup_iff).2 (zAz hM);unfold asc;rw [List.pairwise_iff_getElem];intro i j hi hj hij;have hi' : i < d'.size := by simpa using hi
 have hj' : j < d'.size := by simpa using hj
 have := hs i j (Nat.zero_le _) hij (by omega);rw [getElem!_pos _ i hi', getElem!_pos _ j hj'] at this;have hle : (d'[i]'hi').n <= (d'[j]'hj').n := by rw [ltS] at this; have := of_decide_eq_false this; omega
 have hne : (d'[i]'hi').n ≠ (d'[j]'hj').n := fun e => by
   have h5 := List.pairwise_iff_getElem.1 (List.nodup_iff_pairwise_ne.1 hnd) i j (by simpa using hi') (by simpa using hj') hij;apply h5
   simp [fB, e]
 have e2 : ((d'.toList.map fB)[i]'hi).1 = (d'[i]'hi').n := by simp [fB]
 have e3 : ((d'.toList.map fB)[j]'hj).1 = (d'[j]'hj').n := by simp [fB]
 rw [e2, e3];omega
theorem zH6 {w : World} {base : Nat} {v : Value} {xs M : List (Nat × Pag)} (h : w.ownsRow base 131 3 v xs.length (shR xs)) (hx : ∀ q ∈ xs, q.1 <= 99999) (hn : xs.length <= 1000000) (hM : asc M) (hp : xs.Perm M) :
   Calls Tryz.prog 248 #[v, .func (.func 249) #[] #[]] w fun e w' => e = .returned (.tuple #[]) /\ w'.ownsRow base 131 3 v xs.length (shR M) /\ Chg (fun q => v.ownBlock = some q) w w' := by
 by_cases hx0 : xs = []
 · subst hx0;have hM0 : M = [] := hp.nil_eq.symm;subst hM0;obtain ⟨a, cp, rfl⟩ : ∃ a cp, v = .slice a 0 cp := by
     rcases h.2 with ⟨e, _⟩ | ⟨g, cap, cur, e, _⟩
     · exact ⟨none, 0, e⟩
     · exact ⟨_, cap, e⟩
   refine (AnyF.slices_SortFunc_none Tryz.sortSh a cp _ w).mono ?_;rintro e w' ⟨rfl, rfl⟩;exact ⟨rfl, h, Chg.refl _ _⟩
 · rcases h.2 with ⟨rfl, h0⟩ | ⟨g, cap, cur, rfl, hg, hb, h1, h2, h3, h4⟩
   · exact absurd (List.eq_nil_of_length_eq_zero h0) hx0
   · have hlen := Qy xs;have hof : (xs.map zEb).map fB = xs := by
       rw [List.map_map];refine (List.map_congr_left fun q hq => ?_).trans (List.map_id xs);exact zM0 (hx q hq)
     have hfl := zFo (xs.map zEb);rw [hof] at hfl;have hsz : (xs.map zEb).toArray.size = xs.length := by simp
     have hH : HoldsK zEm 3 w g 0 (xs.map zEb).toArray := by
       unfold HoldsK;rw [hfl];exact zKu hb (by rw [hlen]; exact h4)
     have eg : ∀ args w, (callFunc 249 args).run Tryz.prog w = .ok (.enter 249 args) w := fun args w => vH Tryz.func249 rfl rfl args w
     have hcon := AnyQ.slices_SortFunc Tryz.sortSh 3 Tryz.isAgg131 Tryz.sizeOf131 zEm (fun _ => rfl) (fun x u hu => by simp [zEm] at hu; rcases hu with rfl | rfl | rfl <;> rfl) cfS swoS 249 #[] g 0 cap (xs.map zEb).toArray w eg (cmpS g 0 _ w) hH (Array.getElem?_eq_some_iff.1 hb).1 (by rw [hsz]; omega);rw [hsz] at hcon;refine hcon.mono ?_;rintro e w' ⟨rfl, d', n, os, hpi, hso, rfl⟩;rw [<- hsz] at hpi hso;have hd := zHb hM (by simpa [hof] using hp) hpi hso;have hd' : flatK zEm 3 d' = (shR M).toArray := by
       have := zFo d'.toList;rw [hd] at this;exact this
     have hml : (shR M).length = xs.length * 3 := by rw [Qy, hp.length_eq]
     refine ⟨rfl, ⟨by rw [hml], .inr ⟨g, cap, Sort.putCells id 0 (shR M).toArray cur, rfl, hg, ?_, h1, h2, ?_, ?_⟩⟩, ?_⟩
     · unfold sortWorldK putRowK;rw [hd'];exact zMh _ hb
     · simp [Sort.putCells, h3]
     · rw [<- hml];exact zM2 cur (shR M) (by rw [hml, h3]; omega)
     · unfold sortWorldK putRowK;exact (Chg.refl _ w).grown (zJ9 _) fun k hk => .inl (by cases hk; rfl)
end Go.Proofs.YthijgebmoadgkaaGreatDoor
end
section
namespace Go.Proofs.YthijgebmoadgkaaGreatDoor
open Go.ChangeShapes Go.WideShapes Go.ChangeAt Go.RowKit
section
variable {w : World} {p lm : Nat} {x0 x1 x2 x3 x5 x6 x7 : Value} {M : List (Nat × Pag)}
set_option maxRecDepth 10000 in
set_option maxHeartbeats 1000000 in
theorem zHr (hO : Own w p 150 #[x0, x1, x2, x3, .map (some lm), x5, x6, x7]) (hM : zW w lm .i64 (M.map uD)) (ha : asc M) (hx : ∀ q ∈ M, q.1 <= 99999) (hn : M.length <= 65536) :
   Calls Tryz.prog 181 #[.pointer (some ⟨p, 0, none⟩)] w fun e w' => ∃ v, e = .returned v /\ w'.ownsRow w.heap.size 131 3 v M.length (shR M) /\ Below w.heap.size w w' := by
 obtain ⟨o1, o2, o3⟩ := hO.at_;have HM := Lh hM;have HA := Lh ha;have HX := Lh hx;obtain ⟨N, hN⟩ : ∃ N, N = M.length := ⟨_, rfl⟩
 have HN := Lh hN;have HML := Lh hM.in_;rw [<- hN] at hn ⊢;clear hO hM ha hx hN;go_enter Tryz.func181, Tryz.ntmps181;go_wp2_with (first
   | (at_range; refine jT _ rfl _ _ rfl _ _ Tryz.underlying143 .i64 lm _ rfl HM.out ?_; intro w0 hr0 hb0 hs0)
   | go_in)
 go_frame
 have R0 := Lh hr0;have B0 := Lh hb0;clear hr0 hb0 o1 o2;go_loopw [3] (fun x wr => ∃ (out : Value) (done rest : List (Nat × Pag)), out = x /\ (done ++ rest).Perm M /\ wr.ownsRow w.heap.size 131 3 out done.length (shR done) /\ Rng wr w.heap.size lm .i64 (M.map uD) (rest.map uD) /\ Below w.heap.size w wr)
   (fun _ wr => wr.rangeLeft lm w.heap.size)
 case atStart => exact ⟨_, [], M, rfl, List.Perm.refl _, World.ownsRow_nil _ _ _ _, R0.out, B0.out⟩
 case round =>
   obtain ⟨out, done, rest, hxo, hp, hrow, hr, hc⟩ := hrel;subst hxo;have hdl : done.length + rest.length = N := by
     have h2 := hp.length_eq;rw [List.length_append, <- HN.out] at h2;exact h2
   have HR := Lh hr;have HC := Lh hc;have HP := Lh hp;have HW := Lh hrow;clear hr hc hp hrow;go_wp2_with (first
     | (at_next; refine qK _ rfl _ rfl .i64 lm w.heap.size _ _ rfl HR.out ?_ ?_)
     | go_in)
   · intro he;obtain rfl : rest = [] := by cases rest with
       | nil => rfl
       | cons x r => cases he
     clear he;have hp := HP.out;rw [List.append_nil] at hp;have hdn : done.length = N := by simpa using hdl
     have HS := Lh (zH6 HW.out (fun q hq => HX.out q (hp.mem_iff.1 hq)) (by omega) HA.out hp);rw [hdn] at HS;clear hp hdn;go_wp2_with (go_at_call 248; refine HS.out.mono ?_; rintro e w2 ⟨rfl, hw2, hc2⟩)
     go_ret;refine ⟨_, rfl, hw2, ?_⟩;exact ((Chg.of HC.out).trans hc2 fun q hq e => absurd (HW.out.lt q e).1 (by omega)).below (S := fun _ => False) (Nat.le_refl _) fun q e => e.elim
   · intro s i v t w1 he hr1 hc1 hs1 hen;obtain ⟨S, f, T, rfl, rfl, hie, rfl⟩ := Po.split_map uD rest he;have h1 : i = (f.1 : Int) := congrArg Prod.fst hie;have h2 : v = .agg #[.int .i64 (f.1 : Int), .int .i64 (f.2.1 : Int), .string f.2.2] := congrArg Prod.snd hie;subst h1 h2;have hml := HML.out;have hb1 : Below w.heap.size w w1 := ((Chg.of (S := (· = w.heap.size)) HC.out).same hc1).below (Nat.le_refl _) (fun q e => by omega);have hw1 : w1.ownsRow w.heap.size 131 3 out done.length (shR done) := Po.ownsRow_keepB HW.out fun g hg => hc1.block g (HW.out.lt g hg).2 fun e => HR.out.ne_row HW.out hg e.symm
     have hp1 : ((done ++ [f]) ++ (S ++ T)).Perm M := by
       refine List.Perm.trans ?_ HP.out;rw [List.append_assoc];refine List.Perm.append_left done ?_;exact (List.perm_middle (a := f) (l₁ := S) (l₂ := T)).symm
     have hr2 : Rng w1 w.heap.size lm .i64 (M.map uD) ((S ++ T).map uD) := by rw [List.map_append]; exact hr1
     have hlen : (S ++ T).length < (S ++ f :: T).length := by simp
     have hms := hr2.left;have hms0 := HR.out.left;rw [List.length_map] at hms hms0;have HM0 := Lh hms0;have HLT := Lh hlen;have HMS := Lh hms;have R2 := Lh hr2;have P1 := Lh hp1;have W1 := Lh hw1;have B1 := Lh hb1;have hdl2 : done.length + 1 <= N := by simp at hdl; omega
     obtain ⟨i0, hi0, hz0, hz1, hz2⟩ := info_parts Yx;unfold fR at hz0;have hbs := hb1.size;clear he hie hr1 hc1 hb1 hp1 hr2 hlen hms hms0 hw1 HW HC hdl hs1;go_wp2_with (at_builtin; refine wpList_append_own_at _ rfl _ _ 160 rfl w.heap.size 131 i0 (.agg #[.int .i64 0, .int .i64 0, .string ⟨#[]⟩]) 3 32 Tryz.underlying160 hi0 hz0 hz1 hz2 rfl (by decide) out done.length (shR done) rfl ((W1.out.alloc (.cells #[.int .i64 (f.1 : Int), .int .i64 (f.2.1 : Int), .string f.2.2] 131)).alloc (.cells #[.int .i64 (f.1 : Int), .int .i64 (f.2.1 : Int), .string f.2.2] 131)) ⟨w1.heap.size + 1, 0, none⟩ 1 1 [.int .i64 (f.1 : Int), .int .i64 (f.2.1 : Int), .string f.2.2] rfl rfl ?c1 ?c2 (by unfold maxLen; omega) (by omega) (by simp; omega) ?_)
     case c1 => intro j u hu; rw [show w1.heap.size + 1 = (w1.alloc (.cells #[.int .i64 (f.1 : Int), .int .i64 (f.2.1 : Int), .string f.2.2] 131)).heap.size from by simp]; exact Vh _ _ _ _ _ _ hu
     case c2 => intro u hu; simp at hu; rcases hu with rfl | rfl | rfl <;> rfl
     intro v' w5 hown hgrow hnil hloc;have hw1 := W1.out;have hg5 : Chg (fun q => out.ownBlock = some q) w1 w5 := (((Chg.refl _ w1).alloc _).alloc _).grown hgrow fun q e => .inl e
     have hb5 : Below w.heap.size w w5 := ((Chg.of (S := fun q => w.heap.size <= q) B1.out).same (hg5.mono fun q _ e => (hw1.lt q e).1)).below (Nat.le_refl _) fun q e => e
     have hr5 : Rng w5 w.heap.size lm .i64 (M.map uD) ((S ++ T).map uD) := R2.out.keep (hg5.block lm (by omega) fun e => by have := (hw1.lt lm e).1; omega) (hg5.block w.heap.size R2.out.in_ fun e => R2.out.ne_row hw1 e rfl);have ho5 : w5.ownsRow w.heap.size 131 3 v' (done ++ [f]).length (shR (done ++ [f])) := by
       rw [zC1, List.length_append];exact hown
     have hm5 := hr5.left;rw [List.length_map] at hm5;have M5 := Lh hm5;have B5 := Lh hb5;have R5 := Lh hr5;have O5 := Lh ho5;clear hown hgrow hnil hloc hg5 hb5 hr5 ho5 hm5 hw1;go_wp2;go_roundw
     case rel => exact ⟨_, done ++ [f], S ++ T, rfl, P1.out, O5.out, R5.out, B5.out⟩
     case measure => rw [M5.out, HM0.out]; exact HLT.out
end
end Go.Proofs.YthijgebmoadgkaaGreatDoor
end
