
/- The contracts of slices.Clone and slices.SortFunc at halves, and of around. Conditions: a right plan; at most 30,000 edges. -/
import Derived.Test.YtibnackmddigaaaSpnQ
import Derived.Test.YtibnackmddigaaaShelS
import Derived.Shelf.SlSortCmp.NoneTotal
namespace Go.Proofs.Ytibnackmddigaaa.Pl
open Go.ChangeShapes Go.WideShapes Go.ChangeAt Go.RowKit Go.Sort Go.Lib Go.Proofs.Ytibnackmddigaaa.Mp
set_option linter.unusedVariables false
set_option linter.unusedSimpArgs false

/-- what lies behind a world, as the sort wants it told -/
theorem bel_grow {w w' : World} (h : Bel w.heap.size w w') : ∃ q os', w' = grow (w.drewN q) os' := by
  obtain ⟨hb, hd⟩ := h
  refine ⟨w'.drawn - w.drawn, w'.heap.extract w.heap.size w'.heap.size, ?_⟩
  obtain ⟨h1, t1, d1, o1, u1⟩ := w'
  have e1 := hb.os
  have e2 := hb.tape
  have e3 := hb.output
  simp only at e1 e2 e3 hd
  subst e1 e2 e3
  have e4 : h1 = w.heap ++ h1.extract w.heap.size h1.size := by
    apply Array.ext_getElem?
    intro i
    by_cases hi : i < w.heap.size
    · rw [Array.getElem?_append_left hi]
      exact hb.block i hi
    · have hs := hb.size
      simp only at hs
      rw [Array.getElem?_append_right (by omega), Array.getElem?_extract]
      by_cases h2 : i < h1.size
      · rw [if_pos (by omega)]
        congr 1
        omega
      · rw [if_neg (by omega)]
        exact Array.getElem?_eq_none (by omega)
  have e5 : d1 = w.drawn + (d1 - w.drawn) := by omega
  unfold grow World.drewN
  simp only
  rw [← e4, ← e5]
/-- a row laid by the sort -/
theorem holds_id {w : World} {g : Nat} {cur : Array Value} {e : TypeId} {ss : List Value} (hb : w.heap[g]? = some (.cells cur e (0, 0))) (ht : cur.toList.take ss.length = ss) : Holds id w g 0 ss.toArray := by
  intro j hj
  have hj' : j < ss.length := by simpa using hj
  refine ⟨?_, by simp [World.frozen?, hb]⟩
  have h1 : (cur.toList.take ss.length)[j]? = ss[j]? := by rw [ht]
  rw [List.getElem?_take_of_lt hj'] at h1
  simp only [World.cell?, hb, Nat.zero_add]
  simp only [Option.isSome_none, Bool.false_eq_true, if_false]
  rw [← Array.getElem?_toList, h1]
  simp [hj']
theorem heap_id {w : World} {g n : Nat} {os : Array Obj} {cur : Array Value} {e : TypeId} {fr : Nat × Nat} (d : Array Value) (hb : w.heap[g]? = some (.cells cur e fr)) :
    (grow (putRow id (Sort.ahead w n) g 0 d) os).heap[g]? = some (.cells (Sort.putCells id 0 d cur) e fr) := by
  have hg : g < w.heap.size := (Array.getElem?_eq_some_iff.1 hb).1
  rw [heap_grow_old _ _ (by simpa using hg)]
  simp [putRow, mapBlock, Sort.ahead, Array.getElem?_modify, hb, onCells]
theorem grown_id {w : World} {g n : Nat} {os : Array Obj} (d : Array Value) : w.grownBy (grow (putRow id (Sort.ahead w n) g 0 d) os) (some g) := by
  refine ⟨rfl, rfl, rfl, by simp, fun k hk hne => ?_⟩
  rw [heap_grow_old _ _ (by simpa using hk)]
  have : g ≠ k := fun e => hne (by rw [e])
  simp [putRow, mapBlock, Sort.ahead, Array.getElem?_modify, this]
theorem take_id (cur : Array Value) (ts : List Value) (h : ts.length ≤ cur.size) : (Sort.putCells id 0 ts.toArray cur).toList.take ts.length = ts := by
  apply List.ext_getElem?
  intro j
  by_cases hj : j < ts.length
  · rw [List.getElem?_take_of_lt hj, Array.getElem?_toList]
    simp [Sort.putCells, hj, show j < cur.size by omega]
  · rw [List.getElem?_take_eq_none (by omega), List.getElem?_eq_none (by omega)]
theorem chg_sort {α : Type} [Inhabited α] (enc : α → List Value) (k : Nat) (w : World) (g n : Nat) (d : Array α) (os : Array Obj) : Chg (· = g) w (sortWorldK enc k w g 0 n d os) := by
  unfold sortWorldK putRowK
  exact (Chg.refl _ w).grown (grown_id _) fun k hk => .inl (by cases hk; rfl)
/-- halves that leave a vertex, as the sort's elements -/
def encH {vs : List Vx} {es : List Eg} {i : Int} (x : {h : Hf // h ∈ lv es i}) : List Value := [.int .i64 x.1.1, .bool x.1.2]
def cfH (vs : List Vx) (es : List Eg) (i : Int) (x y : {h : Hf // h ∈ lv es i}) : Int := cmH vs es i x.1 y.1
theorem ltO (vs : List Vx) (es : List Eg) (i : Int) (x y : {h : Hf // h ∈ lv es i}) : ltOf (cfH vs es i) x y = ltH vs es i x.1 y.1 := rfl
theorem swoH {vs : List Vx} {es : List Eg} (hV : FlV vs) (hE : FlE vs es) (i : Int) : SWO (ltOf (cfH vs es i)) where
  irrefl x := by rw [ltO]; exact ltH_irrefl
  trans x y z h1 h2 := by
    rw [ltO] at *
    exact ltH_trans hV hE x.2 y.2 z.2 h1 h2
  ntrans x y z h1 h2 := by
    rw [ltO] at *
    by_cases e : x.1 = y.1
    · rw [e]; exact h2
    · by_cases e2 : y.1 = z.1
      · rw [← e2]; exact h1
      · have k1 := ltH_total hV hE x.2 y.2 e h1
        have k2 := ltH_total hV hE y.2 z.2 e2 h2
        exact ltH_asym (ltH_trans hV hE z.2 y.2 x.2 k2 k1)
theorem flat_h {es : List Eg} {i : Int} (vs : List Vx) [Inhabited {h : Hf // h ∈ lv es i}] (L : List {h : Hf // h ∈ lv es i}) : flatK (encH (vs := vs)) 2 L.toArray = (hC (L.map (·.1))).toArray := by
  apply Array.ext
  · rw [size_flatK, List.size_toArray, List.size_toArray, hC_len, List.length_map]
  · intro t h1 h2
    rw [size_flatK, List.size_toArray] at h1
    have h3 := get_flatK (encH (vs := vs)) 2 L.toArray t (by rw [List.size_toArray]; exact h1)
    rw [getElem!_pos _ t (by rw [size_flatK, List.size_toArray]; exact h1)] at h3
    rw [h3]
    have hk : t / 2 < L.length := by omega
    have e1 : L.toArray[t / 2]! = L[t / 2]'hk := by rw [getElem!_pos _ _ (by simpa using hk)]; simp
    rw [e1]
    obtain ⟨a0, a1⟩ := hC_at (L.map (·.1)) (t / 2) (by simpa using hk)
    have hb : ∀ (v : Value), (hC (L.map (·.1)))[t]? = some v → (hC (L.map (·.1))).toArray[t] = v := fun v hv => by
      rw [List.getElem_toArray]
      rw [List.getElem?_eq_getElem (by simpa using h2)] at hv
      exact Option.some.inj hv
    symm
    rcases (by omega : t = t / 2 * 2 ∨ t = t / 2 * 2 + 1) with c | c
    · have cm : t % 2 = 0 := by omega
      rw [cm]
      refine hb _ ?_
      conv => lhs; rw [c]
      rw [a0]; simp [encH]
    · have cm : t % 2 = 1 := by omega
      rw [cm]
      refine hb _ ?_
      conv => lhs; rw [c]
      rw [a1]; simp [encH]
theorem vx_px (vs : List Vx) (i : Int) : (vx vs i).x = px vs i ∧ (vx vs i).y = py vs i := by
  unfold vx px py
  cases fV vs i <;> exact ⟨rfl, rfl⟩
theorem rdV_rnd {o1 o2 a1 a2 b1 b2 : Int} (ho : Rng o1 o2) (ha : Rng a1 a2) (hb : Rng b1 b2) (h1 : ¬ (a1 = o1 ∧ a2 = o2)) (h2 : ¬ (b1 = o1 ∧ b2 = o2)) : rdV o1 o2 a1 a2 b1 b2 = rndP o1 o2 a1 a2 b1 b2 := by
  have h3 : in3 o1 o2 a1 a2 b1 b2 = true := in3_iff.2 ⟨ho, ha, hb⟩
  have h4 : decide (a1 = o1 ∧ a2 = o2) = false := decide_eq_false h1
  have h5 : decide (b1 = o1 ∧ b2 = o2) = false := decide_eq_false h2
  unfold rdV rndP laB tn
  rw [h3, h4, h5]
  by_cases k1 : Late o1 o2 a1 a2 <;> by_cases k2 : Late o1 o2 b1 b2 <;> simp [k1, k2]
/-- the halves of a right plan, as the web has them -/
theorem lk_wys {vs : List Vx} {es : List Eg} (hE : es.Pairwise fun u v => u.id < v.id) {h : Hf} (hh : h ∈ hfs es) : lkG (wyP (wys vs es)) h = some (wV (vx vs (frm es h), vx vs (dst es h))) := by
  obtain ⟨e, he, k1, k2, k3, k4⟩ := half_edge hE hh
  have hm : (h, vx vs (frm es h), vx vs (dst es h)) ∈ wys vs es := by
    unfold wys
    refine List.mem_flatMap.2 ⟨e, he, ?_⟩
    rw [k3, k4]
    obtain ⟨a, b⟩ := h
    simp only at k1
    subst k1
    cases b <;> simp [wy2]
  have hn : ((wys vs es).map (·.1)).Nodup := by rw [wys_halves]; exact hfs_nodup hE
  generalize wys vs es = P at *
  unfold lkG wyP
  induction P with
  | nil => cases hm
  | cons y P ih =>
    rw [List.map_cons, List.find?_cons]
    rw [List.map_cons, List.nodup_cons] at hn
    rcases List.mem_cons.1 hm with e1 | e1
    · rw [← e1]; simp
    · have hne : ¬ h = y.1 := fun e2 => hn.1 (by rw [← e2]; exact List.mem_map.2 ⟨_, e1, rfl⟩)
      rw [decide_eq_false (p := h = (y.1, wV y.2).1) hne]
      exact ih e1 hn.2
theorem lk_wys_none {vs : List Vx} {es : List Eg} {h : Hf} (hh : h ∉ hfs es) : lkG (wyP (wys vs es)) h = none := wyP_none fun y hy e => hh (by
  rw [← wys_halves vs es]
  exact List.mem_map.2 ⟨y, hy, e⟩)
theorem cm_px {vs : List Vx} {es : List Eg} (hV : FlV vs) (hE : FlE vs es) {i : Int} {x y : Hf} (hx : x ∈ lv es i) (hy : y ∈ lv es i) :
    rdV (vx vs (frm es x)).x (vx vs (frm es x)).y (vx vs (dst es x)).x (vx vs (dst es x)).y (vx vs (dst es y)).x (vx vs (dst es y)).y = cmH vs es i x y := by
  obtain ⟨hx1, hx2⟩ := mem_lv.1 hx
  obtain ⟨hy1, hy2⟩ := mem_lv.1 hy
  obtain ⟨f1, f2, f3⟩ := half_has hE hx1
  obtain ⟨g1, g2, g3⟩ := half_has hE hy1
  rw [hx2] at f1 f3 ⊢
  rw [hy2] at g1 g3
  rw [(vx_px vs i).1, (vx_px vs i).2, (vx_px vs (dst es x)).1, (vx_px vs (dst es x)).2, (vx_px vs (dst es y)).1, (vx_px vs (dst es y)).2]
  exact rdV_rnd (rng_px hV f1) (rng_px hV f2) (rng_px hV g2) (px_two hV f1 f2 f3) (px_two hV g1 g2 g3)
section
variable {w : World} {B : Nat} {v : Value} {L : List Hf}
set_option maxRecDepth 10000 in
theorem clone_any (h : HIn w v L) (hv : v = .slice none 0 0 ∨ L ≠ []) (hn : L.length ≤ 100000) : Calls Try.prog 71 #[v] w fun r w' => ∃ v', r = .returned v' ∧ HOwn w' w.heap.size v' L ∧ Below w.heap.size w w' := by
  obtain ⟨i0, hi0, hz0, hz1, hz2⟩ := info_of info_Half
  have q40 : ∀ (w : World) (a : Option Addr) (n c n' c' : Nat), (binOp .eql 40 (.slice a n c) (.slice none n' c')).run Try.prog w = .ok (.bool a.isNone) w := fun w a n c n' c' => Lib.run_eql_slice_nil w _ _ a n c n' c' Try.underlying40
  by_cases hL : L = []
  · subst hL
    obtain rfl : v = .slice none 0 0 := hv.resolve_right fun k => k rfl
    clear hv h
    go_enter Try.func71, Try.ntmps71
    go_wp2
    go_ret
    exact ⟨_, rfl, HOwn.nil _ _, Below.refl _ _⟩
  · obtain ⟨a, cap, rfl, h1, h2, h5⟩ := h
    rcases h5 with h5 | ⟨b, o, rfl, hb, hcl⟩
    · exact absurd h5 hL
    · clear hv
      have hpos : 0 < L.length := List.length_pos_iff.2 hL
      have CE : Hid (∀ j u, (hC L)[j]? = some u → (w.alloc (.cells #[] 42)).cell? ((⟨b, o, none⟩ : Addr).add j) = some u) := Lib.hid fun j u hu => by
        have hj : j < L.length * 2 := by rw [← hC_len]; exact (List.getElem?_eq_some_iff.1 hu).1
        have e : (⟨b, o, none⟩ : Addr).add j = ⟨b, o + j, none⟩ := by unfold Addr.add; split <;> simp_all
        rw [e]
        obtain ⟨q, k⟩ : ∃ q, j = q * 2 ∨ j = q * 2 + 1 := ⟨j / 2, by omega⟩
        have hq : q < L.length := by omega
        obtain ⟨a0, a1⟩ := hC_at L q hq
        obtain ⟨c0, c1⟩ := hcl q hq
        rcases k with rfl | rfl
        · rw [a0] at hu
          rw [← Option.some.inj hu]
          exact keep ((Below.refl _ _).alloc (Nat.le_refl _) _) c0
        · rw [a1] at hu
          rw [← Option.some.inj hu, ← Nat.add_assoc]
          exact keep ((Below.refl _ _).alloc (Nat.le_refl _) _) c1
      have ON : Hid ((w.alloc (.cells #[] 42)).ownsRow w.heap.size 42 2 (.slice (some ⟨w.heap.size, 0, none⟩) 0 0) 0 []) := Lib.hid (World.ownsRow_made w #[] 0 (Nat.le_refl _) (by unfold maxLen; omega) (by simp))
      have H1 : Hid (∀ u ∈ hC L, u.oneCell' = true) := Lib.hid fun u hu => by
        unfold hC at hu
        obtain ⟨x, _, hx⟩ := List.mem_flatMap.1 hu
        simp at hx
        rcases hx with rfl | rfl <;> rfl
      have HL := Lib.hid (hC_len L)
      obtain ⟨X, hX⟩ : ∃ X, X = hC L := ⟨_, rfl⟩
      rw [← hX] at CE H1 HL
      have HX := Lib.hid hX
      have BX : Hid (Below w.heap.size w (w.alloc (.cells #[] 42))) := Lib.hid (bx1 _ _ _)
      have hnz : (L.length == 0) = false := by simp; omega
      clear hX hcl hL
      generalize hn9 : L.length = n at *
      go_enter Try.func71, Try.ntmps71
      go_wp2_with (at_builtin; refine wpList_append_own_at _ rfl _ _ 40 rfl w.heap.size 42 i0 (.agg #[.int .i64 0, .bool false]) 2 16 Try.underlying40 hi0 hz0 hz1 hz2 rfl (by decide) (.slice (some ⟨w.heap.size, 0, none⟩) 0 0) 0 [] rfl ON.out ⟨b, o, none⟩ n cap X rfl HL.out CE.out H1.out (by unfold maxLen; omega) (by omega) BX.out.size ?_; intro v9 w9 hown hgrow hnil hloc; obtain ⟨ya, yc, rfl⟩ := row_shape hown; have HO9 := Lib.hid hown; have HG9 := Lib.hid hgrow; clear hown hgrow hnil hloc)
      go_ret
      refine ⟨_, rfl, ?_, BX.out.grown HG9.out BX.out.size fun k hk => by cases hk; exact Nat.le_refl _⟩
      have := HO9.out
      unfold HOwn
      rw [← HX.out, hn9]
      simpa using this
theorem sorted_h {vs : List Vx} {es : List Eg} (hV : FlV vs) (hE : FlE vs es) {i : Int} [Inhabited {h : Hf // h ∈ lv es i}] {d d' : Array {h : Hf // h ∈ lv es i}} (hd : (d.toList.map (·.1)).Perm (lv es i)) (hp : PermIn 0 d.size d d') (hs : SortedIn (ltOf (cfH vs es i)) 0 d.size d') : d'.toList.map (·.1) = ot vs es i := by
  obtain ⟨h1, -, h3⟩ := hp
  rw [← h1, Array.extract_size] at h3
  have e1 : (d.extract 0 d'.size) = d := by rw [h1, Array.extract_size]
  rw [e1] at h3
  have hp2 : (d'.toList.map (·.1)).Perm (lv es i) := (h3.map (·.1)).trans hd
  refine ot_one hV hE hp2 ?_
  rw [List.pairwise_iff_getElem]
  intro a b ha hb hab
  have ha' : a < d'.size := by simpa using ha
  have hb' : b < d'.size := by simpa using hb
  have := hs a b (Nat.zero_le _) hab (by omega)
  rw [getElem!_pos _ a ha', getElem!_pos _ b hb', ltO] at this
  simpa using this
theorem sort_any {vs : List Vx} {es : List Eg} (fV' : FlV vs) (hE : FlE vs es) {i : Int} {bx p m2 m3 : Nat} {hv : Value} (h : HOwn w B v L) (hL : L.Perm (lv es i)) (hn : L.length ≤ 100000)
    (OB : Own w bx 72 #[.pointer (some ⟨p, 0, none⟩)]) (OW : Own w p 83 #[hv, .map (some m2), .map (some m3)]) (MW : MapG w m2 hV (wyP (wys vs es))) :
    Calls Try.prog 72 #[v, .func (.func 73) #[] #[.pointer (some ⟨bx, 0, none⟩)]] w fun e w' => e = .returned (.tuple #[]) ∧ HOwn w' B v (ot vs es i) ∧ Chg (fun q => v.ownBlock = some q) w w' := by
  by_cases hx0 : L = []
  · subst hx0
    have h0 : ot vs es i = [] := ((ot_perm i).trans hL.symm).eq_nil
    rw [h0]
    obtain ⟨a, cp, rfl⟩ := h.shape
    refine (AnyF.slices_SortFunc_none Try.sortSh a cp _ w).mono ?_
    rintro e w' ⟨rfl, rfl⟩
    exact ⟨rfl, h, Chg.refl _ _⟩
  · obtain ⟨x0, hx0m⟩ := List.exists_mem_of_ne_nil _ hx0
    haveI : Inhabited {h : Hf // h ∈ lv es i} := ⟨⟨x0, hL.mem_iff.1 hx0m⟩⟩
    have hfar := fun g (hg : v.ownBlock = some g) => row_far h hg
    rcases h.2 with ⟨rfl, h0⟩ | ⟨g, cap, cur, rfl, hg, hb, h1, h2, h3, h4⟩
    · exact absurd (List.eq_nil_of_length_eq_zero h0) hx0
    · have hlen := hC_len L
      obtain ⟨D, hD⟩ : ∃ D : List {h : Hf // h ∈ lv es i}, D.map (·.1) = L := ⟨L.attachWith _ fun x hx => hL.mem_iff.1 hx, List.attachWith_map_subtype_val _⟩
      have hfl := flat_h vs D
      rw [hD] at hfl
      have hsz : D.toArray.size = L.length := by rw [← hD]; simp
      have hH : HoldsK (encH (vs := vs)) 2 w g 0 D.toArray := by
        unfold HoldsK
        rw [hfl]
        exact holds_id hb (by rw [hlen]; exact h4)
      have eg : ∀ args w, (callFunc 73 args).run Try.prog w = .ok (.enter 73 args) w := fun args w => enter_fn Try.func73 rfl rfl args w
      have hcmp : CmpLays Try.prog 73 #[.pointer (some ⟨bx, 0, none⟩)] (encH (vs := vs)) 2 (cfH vs es i) g 0 D.toArray.size w := fun m os dk _ x y => by
        have hc := chg_sort (encH (vs := vs)) 2 w g m dk os
        obtain ⟨es2, ck2, e2⟩ := mapG_obj MW
        have OB2 := hc.own OB ((hfar g rfl).1 OB (by decide))
        have OW2 := hc.own OW ((hfar g rfl).1 OW (by decide))
        have MW2 := MW.keep (hc.block _ MW.in_ ((hfar g rfl).2 e2))
        have hx := (mem_lv.1 x.2).1
        have hy := (mem_lv.1 y.2).1
        refine (clos_any x.1 y.1 _ _ _ _ (lk_wys hE.rise hx) (lk_wys hE.rise hy) OB2 OW2 MW2).mono ?_
        rintro e w' ⟨rfl, hb⟩
        exact ⟨by rw [cm_px fV' hE x.2 y.2]; rfl, bel_grow hb⟩
      have hcon := AnyQ.slices_SortFunc Try.sortSh 2 Try.isAgg42 Try.sizeOf42 (encH (vs := vs)) (fun _ => rfl) (fun x u hu => by simp [encH] at hu; rcases hu with rfl | rfl <;> rfl) (cfH vs es i) (swoH fV' hE i) 73 #[.pointer (some ⟨bx, 0, none⟩)] g 0 cap D.toArray w eg hcmp hH (Array.getElem?_eq_some_iff.1 hb).1 (by rw [hsz]; omega)
      rw [hsz] at hcon
      refine hcon.mono ?_
      rintro e w' ⟨rfl, d', n, os, hpi, hso, rfl⟩
      rw [← hsz] at hpi hso
      have hd := sorted_h fV' hE (d := D.toArray) (by simpa [hD] using hL) hpi hso
      have hd' : flatK (encH (vs := vs)) 2 d' = (hC (ot vs es i)).toArray := by
        have := flat_h vs d'.toList
        rw [hd] at this
        exact this
      have hll : (ot vs es i).length = L.length := ((ot_perm i).trans hL.symm).length_eq
      have hml : (hC (ot vs es i)).length = L.length * 2 := by rw [hC_len, hll]
      refine ⟨rfl, ⟨by rw [hml, hll], .inr ⟨g, cap, Sort.putCells id 0 (hC (ot vs es i)).toArray cur, by rw [hll], hg, ?_, by rw [hll]; exact h1, h2, ?_, ?_⟩⟩, ?_⟩
      · unfold sortWorldK putRowK
        rw [hd']
        exact heap_id _ hb
      · simp [Sort.putCells, h3]
      · rw [hll, ← hml]
        exact take_id cur (hC (ot vs es i)) (by rw [hml, h3]; omega)
      · exact (chg_sort (encH (vs := vs)) 2 w g n d' os).mono fun q _ k => by rw [k]; rfl
end
end Go.Proofs.Ytibnackmddigaaa.Pl