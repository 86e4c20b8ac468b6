
/- The contracts of around and follow. Conditions: a right plan; at most 30,000 edges. -/
import Derived.Test.YtibnackmddigaaaSpnS
import Derived.Laws.EntriesVeiled
namespace Go.Proofs.Ytibnackmddigaaa.Pl
open Go.ChangeShapes Go.WideShapes Go.ChangeAt Go.RowKit Go.Proofs.Ytibnackmddigaaa.Mp
set_option linter.unusedVariables false
set_option linter.unusedSimpArgs false

theorem vx_id {vs : List Vx} {i : Int} (h : hasV vs i = true) : (vx vs i).id = i := by
  obtain ⟨v, hv⟩ := fV_some h
  unfold vx
  rw [hv]
  exact (fV_mem hv).2
theorem wys_from {vs : List Vx} {es : List Eg} (hE : FlE vs es) {y : Wy} (hy : y ∈ wys vs es) : y.2.1.id = frm es y.1 := by
  unfold wys at hy
  obtain ⟨e, he, k⟩ := List.mem_flatMap.1 hy
  have hf := fE_of hE.rise he
  obtain ⟨_, q1, q2⟩ := hE.ends e he
  simp [wy2] at k
  rcases k with rfl | rfl
  · simp only [frm, hf]; rw [vx_id q1]; rfl
  · simp only [frm, hf]; rw [vx_id q2]; rfl
theorem wys_lv {vs : List Vx} {es : List Eg} (hE : FlE vs es) (i : Int) : ((wys vs es).filter fun y => y.2.1.id == i).map (·.1) = lv es i := by
  unfold lv
  rw [← wys_halves vs es, List.filter_map]
  congr 1
  refine List.filter_congr fun y hy => ?_
  rw [wys_from hE hy]
  rfl
section
variable {w : World} {B p : Nat} {vs : List Vx} {es : List Eg} {Z : Nat → Prop}
set_option maxRecDepth 10000 in
theorem around_any (fV' : FlV vs) (hE : FlE vs es) (h : Web w B p (wys vs es) Z) (hm : es.length ≤ 30000) (i : Int) :
    Calls Try.prog 56 #[.pointer (some ⟨p, 0, none⟩), .int .i64 i] w fun r w' => ∃ v, r = .returned v ∧ HOwn w' w.heap.size v (ot vs es i) ∧ Below w.heap.size w w' := by
  obtain ⟨m2, m3, hv, M, hW, hL, hZ⟩ := h
  obtain ⟨v, L, hi⟩ := row_of w B M i
  have hLL : L = lv es i := by rw [hL.row hi, wys_lv hE]
  have hv0 := hi.own hW.rows
  have hne : v = .slice none 0 0 ∨ L ≠ [] := by
    rcases hi with k | ⟨_, k, _⟩
    · exact .inr (hL.1 _ k).1
    · exact .inl k
  have hn : L.length ≤ 100000 := by rw [hLL]; have := lv_len (es := es) i; omega
  obtain ⟨W0, hW0⟩ : ∃ W0, W0 = w.alloc (.cells #[.pointer (some ⟨p, 0, none⟩)] 72) := ⟨_, rfl⟩
  have B0 : Hid (Below w.heap.size w W0) := Lib.hid (by rw [hW0]; exact bx1 _ _ _)
  have OB : Hid (Own W0 w.heap.size 72 #[.pointer (some ⟨p, 0, none⟩)]) := Lib.hid (by rw [hW0]; exact Own.made _ _ _)
  have OW := Lib.hid (hW.own.keep B0.out)
  have MW := Lib.hid (hW.ways.keep (B0.out.block _ hW.ways.in_))
  have LK := hi.look (hW.leave.keep (B0.out.block _ hW.leave.in_))
  have CL := Lib.hid (clone_any (hv0.below B0.out).in_ hne hn)
  have HP := Lib.hid hLL
  clear hi hW hv0 hLL hne hL hZ
  obtain ⟨q1, q2⟩ := OB.out.at_
  obtain ⟨r1, r2⟩ := OW.out.at_
  go_enter Try.func56, Try.ntmps56
  go_upto_region 1 with fail
  rw [← hW0]
  clear hW0
  go_upto_region 2 with (go_at_call 71; refine CL.out.mono ?_; rintro e w2 ⟨v2, rfl, ho, b2⟩; have HO := Lib.hid ho; have B2 := Lib.hid b2; clear ho b2)
  have OB2 := Lib.hid (OB.out.keep B2.out)
  have SO := Lib.hid (sort_any fV' hE (i := i) HO.out (by rw [HP.out]) hn OB2.out (OW.out.keep B2.out) (MW.out.keep (B2.out.block _ MW.out.in_)))
  have HB2 := Lib.hid (then_ B0.out B2.out B0.out.size)
  have far : Hid (∀ g, v2.ownBlock = some g → w.heap.size ≤ g) := Lib.hid fun g hg => Nat.le_trans B0.out.size (HO.out.own hg).1
  obtain ⟨a2, c2, hv2⟩ := HO.out.shape
  subst hv2
  clear CL OB OW MW HO B0 B2 q1 q2 r1 r2 LK
  obtain ⟨q1, q2⟩ := OB2.out.at_
  generalize L.length = n at *
  go_wp2_with (go_at_call 72; refine SO.out.mono ?_; rintro e w3 ⟨rfl, ho, c3⟩; have HO3 := Lib.hid ho; have C3 := Lib.hid c3; clear ho c3)
  go_ret
  exact ⟨_, rfl, ⟨HO3.out.1, HO3.out.2.imp id fun ⟨g, cap, cur, e, k1, k2⟩ => ⟨g, cap, cur, e, Nat.le_trans HB2.out.size (Nat.le_of_eq rfl) |> fun _ => far.out g (by rw [e]; rfl), k2⟩⟩, HB2.out.trans (C3.out.below HB2.out.size fun q k => far.out q k)⟩
/-- a web, and a loop over its rows -/
structure Flw (wr : World) (B p m2 m3 r : Nat) (hv : Value) (H : List Hf) (W2 : List (Hf × Value)) (M : List Rw) (rest : List (Int × Value)) : Prop where
  web : WebAt wr B p m2 m3 hv H W2 M
  rng : Mp.Rng wr r m3 .i64 (mL M) rest
theorem Flw.keep {wr w' : World} {m2 m3 r : Nat} {hv : Value} {H : List Hf} {W2 : List (Hf × Value)} {M : List Rw} {rest : List (Int × Value)} {S : Nat → Prop} (h : Flw wr B p m2 m3 r hv H W2 M rest) (hc : Chg S wr w') (hS : ∀ q, S q → ¬ WZ p m2 m3 hv M q ∧ q ≠ r) : Flw w' B p m2 m3 r hv H W2 M rest :=
  ⟨h.web.keep hc fun q k => (hS q k).1, h.rng.keep (hc.block _ h.web.leave.in_ fun k => (hS _ k).1 (.inr (.inr (.inl rfl)))) (hc.block _ h.rng.in_ fun k => (hS _ k).2 rfl)⟩
theorem Flw.below {wr w' : World} {m2 m3 r : Nat} {hv : Value} {H : List Hf} {W2 : List (Hf × Value)} {M : List Rw} {rest : List (Int × Value)} (h : Flw wr B p m2 m3 r hv H W2 M rest) (hb : Below wr.heap.size wr w') : Flw w' B p m2 m3 r hv H W2 M rest := h.keep (Chg.of (S := fun _ => False) hb) fun _ k => k.elim
theorem idx_nodup {l : List Hf} (h : l.Nodup) {k : Nat} (hk : k < l.length) : l.idxOf (l[k]'hk) = k := by
  induction l generalizing k with
  | nil => simp at hk
  | cons x l ih =>
    rw [List.nodup_cons] at h
    cases k with
    | zero => simp
    | succ k =>
      have hk' : k < l.length := by simpa using hk
      have hne : x ≠ l[k] := fun e => h.1 (by rw [e]; exact List.getElem_mem _)
      simp only [List.getElem_cons_succ]
      have hb : (x == l[k]) = false := beq_eq_false_iff_ne.2 hne
      rw [List.idxOf_cons, hb, ih h.2 hk']
      rfl
theorem prv_at {l : List Hf} (h : l.Nodup) {k : Nat} (hk : k < l.length) : prv l (l[k]'hk) = if k = 0 then l.getLastD (0, false) else l.getD (k - 1) (0, false) := by
  unfold prv
  rw [idx_nodup h hk]
/-- what follow has put in: of the vertices that are done, and of the first k halves of another one -/
def Fol (vs : List Vx) (es : List Eg) (ids : List Int) (i : Int) (k : Nat) (L : List (Hf × Value)) : Prop :=
  ∀ h, ((h ∈ hfs es ∧ (dst es h ∈ ids ∨ dst es h = i ∧ tw h ∈ (ot vs es i).take k)) → lkG L h = some (hV (nx vs es h))) ∧ (¬ (h ∈ hfs es ∧ (dst es h ∈ ids ∨ dst es h = i ∧ tw h ∈ (ot vs es i).take k)) → lkG L h = none)
theorem lkG_snoc (L : List (Hf × Value)) (h : Hf) (v : Value) (hn : lkG L h = none) (g : Hf) : lkG (L ++ [(h, v)]) g = if g = h then some v else lkG L g := by
  unfold lkG at *
  rw [List.find?_append]
  by_cases e : g = h
  · subst e
    rw [if_pos rfl]
    have hn2 : L.find? (fun p => decide (g = p.1)) = none := by
      cases k : L.find? (fun p => decide (g = p.1)) with
      | none => rfl
      | some x => rw [k] at hn; cases hn
    rw [hn2]
    simp
  · rw [if_neg e]
    have : [(h, v)].find? (fun p => decide (g = p.1)) = none := by simp [e]
    rw [this, Option.or_none]
theorem Fol.step (hE : FlE vs es) {ids : List Int} {i : Int} {k : Nat} {L : List (Hf × Value)} (h : Fol vs es ids i k L) (hi : i ∉ ids) (hk : k < (ot vs es i).length) {g : Hf} (hg : g = (ot vs es i)[k]'hk) :
    lkG L (tw g) = none ∧ Fol vs es ids i (k + 1) (L ++ [(tw g, hV (nx vs es (tw g)))]) := by
  have hm : g ∈ ot vs es i := by rw [hg]; exact List.getElem_mem _
  obtain ⟨h1, h2⟩ := mem_ot.1 hm
  have hd : dst es (tw g) = i := by rw [dst_tw]; exact h2
  have hnt : g ∉ (ot vs es i).take k := fun e => by
    obtain ⟨j, hj, e2⟩ := List.mem_take_iff_getElem.1 e
    have hj2 : j < (ot vs es i).length := by omega
    have := List.pairwise_iff_getElem.1 (List.nodup_iff_pairwise_ne.1 (ot_nodup hE i)) j k hj2 hk (by omega)
    exact this (by rw [e2, hg])
  have hn : lkG L (tw g) = none := (h (tw g)).2 fun ⟨_, k2⟩ => by
    rcases k2 with k2 | ⟨_, k2⟩
    · rw [hd] at k2; exact hi k2
    · rw [tw_tw] at k2; exact hnt k2
  refine ⟨hn, fun x => ?_⟩
  rw [lkG_snoc _ _ _ hn]
  have ht : (ot vs es i).take (k + 1) = (ot vs es i).take k ++ [g] := by rw [hg]; exact (List.take_append_getElem hk).symm
  rw [ht]
  by_cases e : x = tw g
  · subst e
    rw [if_pos rfl]
    refine ⟨fun _ => rfl, fun hx => absurd ⟨tw_mem.2 h1, .inr ⟨hd, by rw [tw_tw]; simp⟩⟩ hx⟩
  · rw [if_neg e]
    have hxe : tw x ∉ [g] := fun k3 => e (by rw [List.mem_singleton] at k3; rw [← k3, tw_tw])
    refine ⟨fun ⟨q1, q2⟩ => (h x).1 ⟨q1, q2.imp id fun ⟨q3, q4⟩ => ⟨q3, (List.mem_append.1 q4).resolve_right hxe⟩⟩, fun hx => (h x).2 fun ⟨q1, q2⟩ => hx ⟨q1, q2.imp id fun ⟨q3, q4⟩ => ⟨q3, List.mem_append.2 (.inl q4)⟩⟩⟩
theorem Fol.start (i : Int) : Fol vs es [] i 0 [] := fun h => ⟨fun ⟨_, k⟩ => by simp at k, fun _ => rfl⟩
theorem Fol.done {ids : List Int} {i j : Int} {L : List (Hf × Value)} (h : Fol vs es ids i (ot vs es i).length L) : Fol vs es (ids ++ [i]) j 0 L := fun x => by
  have key : (x ∈ hfs es ∧ (dst es x ∈ ids ++ [i] ∨ dst es x = j ∧ tw x ∈ (ot vs es j).take 0)) ↔ (x ∈ hfs es ∧ (dst es x ∈ ids ∨ dst es x = i ∧ tw x ∈ (ot vs es i).take (ot vs es i).length)) := by
    rw [List.take_length, List.take_zero, List.mem_append, List.mem_singleton]
    constructor
    · rintro ⟨h1, h2⟩
      refine ⟨h1, ?_⟩
      rcases h2 with (h2 | h2) | ⟨_, h2⟩
      · exact .inl h2
      · exact .inr ⟨h2, mem_ot.2 ⟨tw_mem.2 h1, h2⟩⟩
      · cases h2
    · rintro ⟨h1, h2⟩
      exact ⟨h1, .inl (h2.imp id fun k => k.1)⟩
  rw [key]
  exact h x
theorem Fol.next {ids : List Int} {i j : Int} {L : List (Hf × Value)} (h : Fol vs es ids i 0 L) : Fol vs es ids j 0 L := fun x => by
  have := h x
  rw [List.take_zero] at this ⊢
  simpa using this
theorem hOwn_cells {v : Value} {L : List Hf} (h : HOwn w B v L) (hL : 0 < L.length) : ∃ g c, v = .slice (some ⟨g, 0, none⟩) L.length c ∧ L.length ≤ c ∧ c ≤ maxLen ∧ B ≤ g ∧ g < w.heap.size := by
  rcases h.2 with ⟨_, h0⟩ | ⟨g, cap, cur, rfl, h1, h2, h3, h4, h5, h6⟩
  · omega
  · have ho : Own w g 42 cur := h2
    exact ⟨g, cap, rfl, h3, h4, h1, ho.in_⟩
theorem hOwn_cell {g n c : Nat} {L : List Hf} (h : HOwn w B (.slice (some ⟨g, 0, none⟩) n c) L) {i : Nat} (hi : i < L.length) : w.cell? ⟨g, i * 2, none⟩ = some (.int .i64 (L[i]'hi).1) ∧ w.cell? ⟨g, i * 2 + 1, none⟩ = some (.bool (L[i]'hi).2) := by
  obtain ⟨a, cap, e, _, _, h5⟩ := h.in_
  rcases h5 with h5 | ⟨b, o, e2, _, hcl⟩
  · subst h5; simp at hi
  · have e3 : b = g ∧ o = 0 := by rw [e2] at e; injection e with e _ _; injection e with e; injection e with e5 e6; exact ⟨e5.symm, e6.symm⟩
    obtain ⟨rfl, rfl⟩ := e3
    have := hcl i hi
    rwa [Nat.zero_add] at this
theorem last_at {l : List Hf} {n : Nat} (hn : l.length = n + 1) : l[n]'(by omega) = l.getLastD (0, false) := by
  have h1 : l.getLast? = some (l[n]'(by omega)) := by
    rw [List.getLast?_eq_getElem?]
    have : l.length - 1 = n := by omega
    rw [this]
    exact List.getElem?_eq_getElem _
  rw [List.getLastD_eq_getLast?, h1]
  rfl
theorem split_mL : ∀ {rest : List Rw} {s t : List (Int × Value)} {i : Int} {v : Value}, mL rest = s ++ (i, v) :: t → ∃ S x T, rest = S ++ x :: T ∧ mL S = s ∧ x.1 = i ∧ x.2.1 = v ∧ mL T = t
  | [], s, t, i, v, h => by cases s <;> simp [mL] at h
  | y :: rest, [], t, i, v, h => by
    simp only [mL, List.map_cons, List.nil_append, List.cons.injEq, Prod.mk.injEq] at h
    exact ⟨[], y, rest, rfl, rfl, h.1.1, h.1.2, h.2⟩
  | y :: rest, z :: s, t, i, v, h => by
    simp only [mL, List.map_cons, List.cons_append, List.cons.injEq] at h
    obtain ⟨S, x, T, rfl, e1, e2, e3, e4⟩ := split_mL (rest := rest) (s := s) (t := t) (i := i) (v := v) h.2
    exact ⟨y :: S, x, T, rfl, by simp only [mL, List.map_cons]; rw [h.1]; exact congrArg _ e1, e2, e3, e4⟩
set_option maxRecDepth 10000 in
set_option maxHeartbeats 2000000 in
theorem follow_any (fV' : FlV vs) (hE : FlE vs es) (h : Web w B p (wys vs es) Z) (hm : es.length ≤ 30000) :
    Calls Try.prog 36 #[.pointer (some ⟨p, 0, none⟩)] w fun r w' => ∃ m L, r = .returned (.map (some m)) ∧ w.heap.size ≤ m ∧ MapG w' m hV L ∧ (∀ h, (h ∈ hfs es → lkG L h = some (hV (nx vs es h))) ∧ (h ∉ hfs es → lkG L h = none)) ∧ Below w.heap.size w w' := by
  obtain ⟨m2, m3, hv, M, hW, hL, hZ⟩ := h
  have HW := Lib.hid hW
  have HL := Lib.hid hL
  have FT : Hid (∀ q, WZ p m2 m3 hv M q → q < w.heap.size) := Lib.hid fun q k => (hW.foot k).2
  have ND : Hid ((M.map (·.1)).Nodup) := Lib.hid (by have := hW.leave.nodup; unfold mL at this; rw [List.map_map] at this; exact this)
  clear hW hL hZ
  have hmk := @run_makeMap Try.prog
  have BX : Hid (Below w.heap.size w (w.alloc (.map #[] 0))) := Lib.hid ((Below.refl _ _).alloc (Nat.le_refl _) _)
  have MB0 : Hid (MapG (w.alloc (.map #[] 0)) w.heap.size hV []) := Lib.hid (MapG.made w hV)
  have HW0 := Lib.hid (HW.out.below BX.out)
  have S0 : Hid (w.heap.size + 1 = (w.alloc (.map #[] 0)).heap.size) := Lib.hid (by simp)
  obtain ⟨q1, q2, q3⟩ := HW0.out.own.at_
  go_enter Try.func36, Try.ntmps36
  go_upto_region 2 with fail
  generalize hW1 : w.alloc (.map #[] 0) = W1 at *
  clear hW1
  go_wp2_with (first
    | (at_range; refine wp_range_map _ rfl _ _ rfl _ _ Try.underlying81 .i64 m3 _ rfl HW0.out.leave ?_; intro w0 hr0 hb0 hs0)
    | go_in)
  go_frame
  have FL0 : Hid (Flw w0 B p m2 m3 W1.heap.size hv ((wys vs es).map (·.1)) (wyP (wys vs es)) M (mL M)) := Lib.hid ⟨HW0.out.below hb0, hr0⟩
  have MB1 := Lib.hid (MB0.out.keep (hb0.block _ MB0.out.in_))
  have HB1 := Lib.hid (then_ BX.out hb0 BX.out.size)
  clear hr0 hb0 hs0 q1 q2 q3 MB0 HW0 BX
  rw [← S0.out] at FL0 ⊢
  generalize hr : w.heap.size + 1 = r at *
  have hr' := Lib.hid hr
  clear hr S0
  go_loopw [] (fun wr => ∃ (done rest : List Rw) (L : List (Hf × Value)), (done ++ rest).Perm M ∧ Hid (MapG wr w.heap.size hV L) ∧ Hid (Fol vs es (done.map (·.1)) 0 0 L) ∧ Hid (Flw wr B p m2 m3 r hv ((wys vs es).map (·.1)) (wyP (wys vs es)) M (mL rest)) ∧ Hid (Below w.heap.size w wr))
    (fun wr => wr.rangeLeft m3 r)
  case atStart => exact ⟨[], M, [], List.Perm.refl _, MB1, Lib.hid (Fol.start 0), FL0, HB1⟩
  case round =>
    clear MB1 FL0 HB1
    obtain ⟨done, rest, L, hp, HM, HF, HFL, HB⟩ := hrel
    have HP := Lib.hid hp
    clear hp
    go_wp2_with (first
      | (at_next; refine wp_next_map _ rfl _ rfl .i64 m3 r _ _ rfl HFL.out.rng ?_ ?_)
      | go_in)
    · intro he
      obtain rfl : rest = [] := by cases rest with
        | nil => rfl
        | cons x r => cases he
      have FIN : Hid (∀ h, (h ∈ hfs es → lkG L h = some (hV (nx vs es h))) ∧ (h ∉ hfs es → lkG L h = none)) := Lib.hid fun h => by
        refine ⟨fun k => (HF.out h).1 ⟨k, .inl ?_⟩, fun k => (HF.out h).2 fun k2 => k k2.1⟩
        have hperm := HP.out
        rw [List.append_nil] at hperm
        have hy : tw h ∈ (wys vs es).map (·.1) := by rw [wys_halves]; exact tw_mem.2 k
        obtain ⟨y, hy1, hy2⟩ := List.mem_map.1 hy
        obtain ⟨x, hx1, hx2⟩ := HL.out.2 y hy1
        rw [wys_from hE hy1, hy2] at hx2
        exact List.mem_map.2 ⟨x, hperm.mem_iff.2 hx1, hx2⟩
      clear he
      go_wp2
      go_ret
      exact ⟨_, L, rfl, Nat.le_refl _, HM.out, FIN.out, HB.out⟩
    · intro s0 i v t0 w1 he hr1 hc1 hs1 hen
      obtain ⟨S, x, T, rfl, rfl, rfl, rfl, rfl⟩ := split_mL he
      obtain ⟨xi, xv, xL⟩ := x
      have hxM : (xi, xv, xL) ∈ M := HP.out.mem_iff.1 (by simp)
      have hnW : ∀ q, WZ p m2 m3 hv M q → q < w.heap.size := FT.out
      have FL1 : Hid (Flw w1 B p m2 m3 r hv ((wys vs es).map (·.1)) (wyP (wys vs es)) M (mL (S ++ T))) := Lib.hid ⟨HFL.out.web.keep hc1 fun q e k => by have := hnW q k; have := hr'.out; omega, by unfold mL; rw [List.map_append]; exact hr1⟩
      have HM1 := Lib.hid (HM.out.keep (hc1.block _ HM.out.in_ (by have := hr'.out; omega)))
      have HB1 := Lib.hid (HB.out.trans (hc1.below HB.out.size fun q e => by have := hr'.out; omega))
      have HI : Hid (xi ∉ done.map (·.1)) := Lib.hid fun k => by
        have hn := (HP.out.map (·.1)).nodup_iff.2 ND.out
        rw [List.map_append, List.nodup_append] at hn
        exact hn.2.2 xi k xi (by simp) rfl
      have HO0 : Hid (0 < (ot vs es xi).length) := Lib.hid (by
        obtain ⟨k1, k2⟩ := HL.out.1 _ hxM
        simp only at k1 k2
        rw [wys_lv hE] at k2
        rw [(ot_perm xi).length_eq, ← k2]
        exact List.length_pos_iff.2 k1)
      have HP1 : Hid (((done ++ [(xi, xv, xL)]) ++ (S ++ T)).Perm M) := Lib.hid (by
        refine List.Perm.trans ?_ HP.out
        rw [List.append_assoc]
        exact List.Perm.append_left done (List.perm_middle (a := (xi, xv, xL)) (l₁ := S) (l₂ := T)).symm)
      have HF1 : Hid (Fol vs es (done.map (·.1)) xi 0 L) := Lib.hid HF.out.next
      have AR := Lib.hid (around_any fV' hE ⟨m2, m3, hv, M, FL1.out.web, HL.out, fun q => Iff.rfl⟩ hm xi)
      have hms0 := HFL.out.rng.left
      have HMS : Hid ((mL (S ++ T)).length < wr.rangeLeft m3 r) := Lib.hid (by rw [hms0]; simp [mL])
      have SZ1 : Hid (r < w1.heap.size) := Lib.hid FL1.out.rng.in_
      clear hms0 he hr1 hc1 hs1 HF HFL HM HB hxM HP
      simp only at hen ⊢
      go_upto_region 6 with (go_at_call 56; refine AR.out.mono ?_; rintro e w2 ⟨v2, rfl, ho, b2⟩; have HO := Lib.hid ho; have B2 := Lib.hid b2; clear ho b2)
      have FL2 := Lib.hid (FL1.out.below B2.out)
      have HM2 := Lib.hid (HM1.out.keep (B2.out.block _ HM1.out.in_))
      have HB2 := Lib.hid (then_ HB1.out B2.out HB1.out.size)
      have SZ2 : Hid (r < w2.heap.size) := Lib.hid (Nat.lt_of_lt_of_le SZ1.out B2.out.size)
      have HOL : Hid ((ot vs es xi).length ≤ 60000) := Lib.hid (by have := lv_len (es := es) xi; rw [(ot_perm xi).length_eq]; omega)
      have HND := Lib.hid (ot_nodup hE xi)
      have NXK : Hid (∀ k (hk : k < (ot vs es xi).length), nx vs es (tw ((ot vs es xi)[k]'hk)) = if k = 0 then (ot vs es xi).getLastD (0, false) else (ot vs es xi).getD (k - 1) (0, false)) := Lib.hid fun k hk => by
        have hd : dst es (tw ((ot vs es xi)[k]'hk)) = xi := by rw [dst_tw]; exact (mem_ot.1 (List.getElem_mem hk)).2
        unfold nx
        rw [hd, tw_tw]
        exact prv_at HND.out hk
      have STEP : Hid (∀ (k : Nat) (hk : k < (ot vs es xi).length) (L' : List (Hf × Value)), Fol vs es (done.map (·.1)) xi k L' → lkG L' (tw ((ot vs es xi)[k]'hk)) = none ∧ Fol vs es (done.map (·.1)) xi (k + 1) (L' ++ [(tw ((ot vs es xi)[k]'hk), hV (nx vs es (tw ((ot vs es xi)[k]'hk))))])) := Lib.hid fun k hk L' hf => Fol.step hE hf HI.out hk rfl
      have LAST : Hid (∀ L', Fol vs es (done.map (·.1)) xi (ot vs es xi).length L' → Fol vs es ((done ++ [(xi, xv, xL)]).map (·.1)) 0 0 L') := Lib.hid fun L' hf => by
        rw [List.map_append]
        exact Fol.done hf
      obtain ⟨O, hOO⟩ : ∃ O, O = ot vs es xi := ⟨_, rfl⟩
      rw [← hOO] at HO HO0 HOL NXK STEP LAST
      clear AR HM1 HB1 FL1 HND hOO HI hnW
      obtain ⟨g, c2, hv2, k1, k2, hg1, hg2⟩ := hOwn_cells HO.out HO0.out
      subst hv2
      obtain ⟨n, hn⟩ : ∃ n, O.length = n + 1 := ⟨O.length - 1, by have := HO0.out; omega⟩
      obtain ⟨y1, y2⟩ := hOwn_cell HO.out (i := n) (by omega)
      have HLA := Lib.hid (last_at hn)
      obtain ⟨la, hla⟩ : ∃ la, la = O[n]'(by omega) := ⟨_, rfl⟩
      rw [← hla] at y1 y2 HLA
      clear hla
      obtain ⟨le, lb⟩ := la
      simp only at y1 y2
      have HN := Lib.hid hn
      have BX := Lib.hid (bx1 w2 42 #[.int .i64 le, .bool lb])
      have FL3 := Lib.hid (FL2.out.below BX.out)
      have HM3 := Lib.hid (HM2.out.keep (BX.out.block _ HM2.out.in_))
      have HB3 := Lib.hid (then_ HB2.out BX.out HB2.out.size)
      have HO3 := Lib.hid (HO.out.below BX.out)
      have Q3 := Lib.hid (Own.made w2 42 #[.int .i64 le, .bool lb])
      have HM0 : Hid (w.heap.size < w1.heap.size ∧ w1.heap.size ≤ w2.heap.size) := Lib.hid ⟨by have := SZ1.out; have := hr'.out; omega, B2.out.size⟩
      rw [hn] at HO HO3 k1 ⊢
      have hnb : n < 60000 := by have := HOL.out; omega
      have hwr : RowKit.wrap64 (n : Int) = (n : Int) := by unfold RowKit.wrap64; omega
      clear FL2 HM2 HB2 HO hn
      go_upto_region 7 with fail
      clear hwr y1 y2
      generalize hW3 : w2.alloc (.cells #[.int .i64 le, .bool lb] 42) = W3 at *
      clear hW3
      generalize w2.heap.size = q6 at *
      go_wp2
      go_loopw [30] (fun j wq => ∃ (k : Nat) (L' : List (Hf × Value)) (la : Hf), k ≤ n + 1 ∧ j = .int .i64 (k : Int) ∧ Hid (la = if k = 0 then O.getLastD (0, false) else O.getD (k - 1) (0, false)) ∧ Hid (MapG wq w.heap.size hV L') ∧ Hid (Fol vs es (done.map (·.1)) xi k L') ∧ Hid (Flw wq B p m2 m3 r hv ((wys vs es).map (·.1)) (wyP (wys vs es)) M (mL (S ++ T))) ∧ Hid (HOwn wq w1.heap.size (.slice (some ⟨g, 0, none⟩) (n + 1) c2) O) ∧ Hid (Own wq q6 42 #[.int .i64 la.1, .bool la.2]) ∧ Hid (Below w.heap.size w wq)) (fun j wq => n + 1 - (intOf j).toNat)
      case atStart => exact ⟨0, L, (le, lb), by omega, rfl, Lib.hid (by rw [if_pos rfl]; exact HLA.out), HM3, HF1, FL3, HO3, Q3, HB3⟩
      case round =>
        clear HM3 HF1 FL3 HO3 Q3 HB3
        obtain ⟨k, L', la, hk, rfl, HLL, HM, HF, HFL, HO, HQ, HB⟩ := hrel
        obtain ⟨le2, lb2⟩ := la
        simp only at HQ
        by_cases hlt : k < n + 1
        · have hkl : k < O.length := by rw [HN.out]; exact hlt
          obtain ⟨y1, y2⟩ := hOwn_cell HO.out hkl
          have ST := Lib.hid (STEP.out k hkl L' HF.out)
          have NX := Lib.hid (NXK.out k hkl)
          rw [← HLL.out] at NX
          have NL : Hid (O[k]'hkl = if k + 1 = 0 then O.getLastD (0, false) else O.getD (k + 1 - 1) (0, false)) := Lib.hid (by
            rw [if_neg (by omega), Nat.add_sub_cancel, List.getD_eq_getElem?_getD, List.getElem?_eq_getElem hkl]
            rfl)
          obtain ⟨x, hx⟩ : ∃ x, x = O[k]'hkl := ⟨_, rfl⟩
          rw [← hx] at y1 y2 ST NX NL
          clear hx
          rw [NX.out] at ST
          obtain ⟨xe, xb⟩ := x
          simp only at y1 y2
          have BX := Lib.hid (bx1 wr 42 #[.int .i64 xe, .bool xb])
          have FL4 := Lib.hid (HFL.out.below BX.out)
          have HM4 := Lib.hid (HM.out.keep (BX.out.block _ HM.out.in_))
          have HB4 := Lib.hid (then_ HB.out BX.out HB.out.size)
          have HO4 := Lib.hid (HO.out.below BX.out)
          have Q4 := Lib.hid (HQ.out.keep BX.out)
          have E4 := Lib.hid (Own.made wr 42 #[.int .i64 xe, .bool xb])
          have NE : Hid (q6 < wr.heap.size) := Lib.hid HQ.out.in_
          clear HM HF HFL HO HQ HB
          go_upto_region 10 with fail
          generalize hW4 : wr.alloc (.cells #[.int .i64 xe, .bool xb] 42) = W4 at *
          clear hW4
          generalize wr.heap.size = q8 at *
          have TW := Lib.hid (fun W => twin_any (xe, xb) W)
          have PT : Hid (∀ W, Below W4.heap.size W4 W → ∃ w', (Instr.mapUpdate 74 (.map (some w.heap.size)) (.agg #[.int .i64 xe, .bool !xb]) (.agg #[.int .i64 le2, .bool lb2])).run Try.prog W = .ok () w' ∧ MapG w' w.heap.size hV (L' ++ [(tw (xe, xb), hV (le2, lb2))]) ∧ Chg (· = w.heap.size) W w') := Lib.hid fun W hW => by
            obtain ⟨w', r1, r2, r3, _⟩ := (HM4.out.keep (hW.block _ HM4.out.in_)).put (t := 74) Try.underlying74 key_half (tw (xe, xb)) (hV (le2, lb2)) ST.out.1
            exact ⟨w', r1, r2, r3⟩
          unfold hV tw at TW
          simp only at TW
          refine wp_region_seq (fun W => Own W q8 42 #[.int .i64 xe, .bool xb] ∧ Own W q6 42 #[.int .i64 le2, .bool lb2]) (0 :: 1 :: 3 :: []) (1 :: 3 :: []) (0 :: 1 :: 3 :: 2 :: 4 :: []) (by kernel_rfl) (by kernel_rfl) rfl (by kernel_rfl) rfl (⟨E4.out, Q4.out⟩) (by simp only [picked, List.filterMap_cons, List.filterMap_nil, List.getElem?_cons_zero, List.getElem?_cons_succ, Option.map_some]; exact rfl) ?_
          iterate 3
            refine seq_want (v := ?_) rfl rfl (fun W hS => ?_) ?_
            rotate_left
            · first
                | (conv => lhs; simp [go_sem]
                   first | done | exact rfl)
                | (have hS := hS rfl
                   obtain ⟨a0, a1⟩ := half_at hS.1
                   obtain ⟨b0, b1⟩ := half_at hS.2
                   conv => lhs; simp [go_sem, *]
                   first | done | exact rfl)
            simp only [Act.put, List.setIfInBounds_toArray, List.set_cons_zero, List.set_cons_succ]
          refine seq_on rfl rfl fun K hK => ?_
          go_wp2_with (go_at_call 55; refine (TW.out _).mono ?_; rintro e w5 ⟨rfl, b5⟩)
          have B5 := Lib.hid (then_ (Below.refl _ _).drew b5 (Nat.le_refl _))
          clear b5
          obtain ⟨w6, r6, p6, c6⟩ := PT.out _ B5.out
          have P6 := Lib.hid p6
          have C6 := Lib.hid c6
          clear p6 c6
          refine hK _ _ ⟨E4.out.keep B5.out, Q4.out.keep B5.out⟩ ?_
          clear hK K
          refine seq_last rfl rfl (by kernel_rfl) rfl fun K hK => ?_
          go_wp2
          refine hK _ _ ?_
          clear hK K
          refine seq_end ?_
          have hm0 := HM0.out
          have hS6 : ∀ q, q = w.heap.size → ¬ WZ p m2 m3 hv M q ∧ q ≠ r := fun q e => ⟨fun k => by have := FT.out q k; omega, by have := hr'.out; omega⟩
          have FL6 := Lib.hid ((FL4.out.below B5.out).keep C6.out hS6)
          have E6 := Lib.hid (C6.out.own (E4.out.keep B5.out) (by have := NE.out; omega))
          have Q6 := Lib.hid (C6.out.own (Q4.out.keep B5.out) (by omega))
          have HO6 := Lib.hid ((HO4.out.below B5.out).keep C6.out fun g' hg' e => by have := (HO4.out.own hg').1; omega)
          have HB5 := then_ HB4.out B5.out HB4.out.size
          have HB6 := Lib.hid (HB5.trans (C6.out.below HB5.size fun q e => by omega))
          clear HB5 hS6 FL4 HM4 HB4 HO4 Q4 E4 PT TW r6
          obtain ⟨e1, e2⟩ := half_at E6.out
          obtain ⟨f1, f2, f3⟩ := Q6.out.at_
          have C7 : Hid (Chg (· = q6) w6 ((w6.setCell ⟨q6, 0, none⟩ (.int .i64 xe)).setCell ⟨q6, 1, none⟩ (.bool xb))) := Lib.hid (((Chg.refl (· = q6) w6).set ⟨q6, 0, none⟩ (.inl rfl) _).set ⟨q6, 1, none⟩ (.inl rfl) _)
          have Q7 : Hid (Own ((w6.setCell ⟨q6, 0, none⟩ (.int .i64 xe)).setCell ⟨q6, 1, none⟩ (.bool xb)) q6 42 #[.int .i64 xe, .bool xb]) := Lib.hid (((Q6.out.put 0 _).put 1 _).as (by simp))
          have hS7 : ∀ q, q = q6 → ¬ WZ p m2 m3 hv M q ∧ q ≠ r := fun q e => ⟨fun k => by have := FT.out q k; omega, by have := SZ2.out; omega⟩
          have FL7 := Lib.hid (FL6.out.keep C7.out hS7)
          have P7 := Lib.hid (P6.out.keep (C7.out.block _ P6.out.in_ (by omega)))
          have HO7 := Lib.hid (HO6.out.keep C7.out fun g' hg' e => by have e3 : g' = g := (by cases hg'; rfl); omega)
          have HB7 := Lib.hid (HB6.out.trans (C7.out.below HB6.out.size fun q e => by omega))
          go_wp2
          go_roundw
          case rel => exact ⟨k + 1, _, (xe, xb), by omega, by go_num, NL, P7, Lib.hid ST.out.2, FL7, HO7, Q7, HB7⟩
          case measure => simp [intOf] <;> omega
        · obtain rfl : k = n + 1 := by omega
          have FE : Hid (Fol vs es ((done ++ [(xi, xv, xL)]).map (·.1)) 0 0 L') := Lib.hid (LAST.out L' (by rw [HN.out]; exact HF.out))
          have hms := HFL.out.rng.left
          have HMS2 : Hid (wr.rangeLeft m3 r = (mL (S ++ T)).length) := Lib.hid hms
          clear hms
          go_wp2
          go_roundw
          case rel => exact ⟨_, _, L', HP1.out, HM, FE, HFL, HB⟩
          case measure => rw [HMS2.out]; exact HMS.out
end
end Go.Proofs.Ytibnackmddigaaa.Pl