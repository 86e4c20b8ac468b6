
/- The contracts of add and link. Conditions: those that each theorem names. -/
import Derived.Test.YtibnackmddigaaaPlnE
namespace Go.Proofs.Ytibnackmddigaaa.Pl
open Go.ChangeShapes Go.WideShapes Go.ChangeAt Go.RowKit
set_option linter.unusedVariables false
set_option linter.unusedSimpArgs false

section
variable {w w' : World} {B d : Nat} {vs : List Vx} {es : List Eg}
theorem map_DT {m : Nat} {k : IntKind} {f : Int → Option Value} (h : MapAt w m k f) (hB : B ≤ m) : DT w B m := by
  obtain ⟨es, ck, e, _⟩ := h
  exact ⟨hB, .inl ⟨es, ck, e⟩⟩
theorem mapG_DT {α : Type} {K : α → Value} {M : List (α × Value)} {m : Nat} (h : MapG w m K M) (hB : B ≤ m) : DT w B m := by
  obtain ⟨es, ck, e, _⟩ := h
  exact ⟨hB, .inl ⟨es, ck, e⟩⟩
/-- what is a drawing's block behind a change of such blocks was one, or is new -/
theorem DT.back {Z : Nat → Prop} (hc : Chg Z w w') (hZ : ∀ q, Z q → DT w B q) {q : Nat} (hq : q < w.heap.size) (h : DT w' B q) : DT w B q := by
  by_cases k : Z q
  · exact hZ q k
  · have e := hc.block q hq k
    refine ⟨h.1, ?_⟩
    rcases h.2 with ⟨es, ck, e2⟩ | ⟨T, cs, ho, hT⟩
    · exact .inl ⟨es, ck, by rw [← e]; exact e2⟩
    · exact .inr ⟨T, cs, by unfold Own at ho ⊢; rw [← e]; exact ho, hT⟩
theorem chg_then {w1 w2 : World} (h1 : Chg (DT w B) w w1) (h2 : Chg (DT w1 B) w1 w2) : Chg (DT w B) w w2 := h1.trans h2 fun q hq k => DT.back h1 (fun q k => k) hq k
set_option maxRecDepth 10000 in
set_option maxHeartbeats 1000000 in
theorem add_any (h : DrawAt w B d vs []) (v : Vx) (hid : hasV vs v.id = false) (hat : atV vs v.x v.y = false) (hn : vs.length ≤ 100000) (hB : B ≤ w.heap.size) :
    Calls Try.prog 58 #[.pointer (some ⟨d, 0, none⟩), .agg #[.int .i64 v.id, .int .i64 v.x, .int .i64 v.y]] w fun e w' => e = .returned (.tuple #[]) ∧ DrawAt w' B d (vs ++ [v]) [] ∧ Chg (DT w B) w w' := by
  obtain ⟨m1, m2, m3, pv, lv, L, h⟩ := h
  obtain ⟨i0, hi0, hz0, hz1, hz2⟩ := info_of info_Point
  have HS : L = [] := by simpa using h.segs
  subst HS
  have FIN := Lib.hid (plF_snoc vs v hid)
  have HLK : Hid (lkG (mtF vs) (v.x, v.y) = none) := Lib.hid (by
    have := atV_lk vs v.x v.y
    rw [hat] at this
    simpa using this)
  obtain ⟨vi, vx, vy⟩ := v
  simp only at FIN HLK ⊢
  have B0 := Lib.hid (bx1 w 39 #[.int .i64 vi, .int .i64 vx, .int .i64 vy])
  have O0 := Lib.hid (Own.made w 39 #[.int .i64 vi, .int .i64 vx, .int .i64 vy])
  have H0 := Lib.hid (h.five.below (B0.out))
  have HB0 := Lib.hid (Nat.le_trans hB B0.out.size)
  have C0 : Hid (Chg (DT w B) w (w.alloc (.cells #[.int .i64 vi, .int .i64 vx, .int .i64 vy] 39))) := Lib.hid (Chg.of B0.out)
  clear h hid hat hB
  go_enter Try.func58, Try.ntmps58
  go_upto_region 1 with fail
  generalize hW0 : w.alloc (.cells #[.int .i64 vi, .int .i64 vx, .int .i64 vy] 39) = W0 at B0 O0 H0 HB0 C0 ⊢
  clear hW0
  have B0d : Below W0.heap.size W0 W0.drew := (Below.refl _ _).drew
  have H1 := Lib.hid (H0.out.below B0d)
  have O1 := Lib.hid (O0.out.keep B0d)
  have C1 := Lib.hid (C0.out.same (Chg.of B0d))
  obtain ⟨w1, r1, p1, c1, z1⟩ := H1.out.places.put (t := 118) Try.underlying118 Try.underlying3 vi (.agg #[.int .i64 vx, .int .i64 vy])
  have H2 := Lib.hid (H1.out.put1 c1 (U := vs ++ [⟨vi, vx, vy⟩]) (FIN.out ▸ p1))
  have O2 := Lib.hid (c1.own O1.out fun k => (H1.out.places.ne O1.out) k.symm)
  have C2 := Lib.hid (chg_then C1.out (c1.mono fun q _ e => by rw [e]; exact map_DT H1.out.places H1.out.base.2.1))
  have Z2 : Hid (W0.heap.size ≤ w1.heap.size) := Lib.hid c1.size
  clear p1 c1 z1 B0d
  refine wp_region_seq (fun W => W = W0.drew) (0 :: 1 :: 2 :: 3 :: 4 :: 5 :: 6 :: 7 :: []) (3 :: 5 :: 7 :: []) (0 :: 1 :: 2 :: 3 :: 4 :: 5 :: 6 :: 7 :: 8 :: []) (by kernel_rfl) (by kernel_rfl) rfl (by kernel_rfl) rfl (rfl) (by simp only [picked, List.filterMap_cons, List.filterMap_nil, List.getElem?_cons_zero, List.getElem?_cons_succ, Option.map_some]; exact rfl) ?_
  iterate 8
    refine seq_want (v := ?_) rfl rfl (fun W hS => ?_) ?_
    rotate_left
    · first
        | (conv => lhs; simp [go_sem]
           first | done | exact rfl)
        | (have hS := hS rfl
           subst hS
           obtain ⟨q1, q2, q3⟩ := H1.out.own.at_
           obtain ⟨g1, g2, g3⟩ := three_at O1.out
           conv => lhs; simp [go_sem, *]
           first | done | exact rfl)
    simp only [Act.put, List.setIfInBounds_toArray, List.set_cons_zero, List.set_cons_succ]
  refine seq_last rfl rfl (by kernel_rfl) rfl fun K hK => ?_
  go_wp2
  refine hK _ _ ?_
  clear hK K
  refine seq_end ?_
  clear H1 O1 C1 r1
  have B2d : Below w1.heap.size w1 w1.drew := (Below.refl _ _).drew
  have H3 := Lib.hid (H2.out.below B2d)
  have O3 := Lib.hid (O2.out.keep B2d)
  have C3 := Lib.hid (C2.out.same (Chg.of B2d))
  obtain ⟨w2, r2, p2, c2, z2⟩ := H3.out.met.put (t := 119) Try.underlying119 key_pt (vx, vy) (.int .i64 vi) HLK.out
  have H4 := Lib.hid (H3.out.put2 c2 (U := vs ++ [⟨vi, vx, vy⟩]) (mtF_snoc vs ⟨vi, vx, vy⟩ ▸ p2))
  have O4 := Lib.hid (c2.own O3.out fun k => (H3.out.met.ne O3.out) k.symm)
  have C4 := Lib.hid (chg_then C3.out (c2.mono fun q _ e => by rw [e]; exact mapG_DT H3.out.met H3.out.base.2.2.1))
  have Z4 : Hid (W0.heap.size ≤ w2.heap.size) := Lib.hid (Nat.le_trans Z2.out c2.size)
  unfold k2 at r2
  simp only at r2
  clear p2 c2 z2 B2d H2 O2 C2
  go_upto_region 2 with fail
  refine wp_region_seq (fun W => W = w1.drew) (0 :: 1 :: 2 :: 3 :: 4 :: 5 :: 6 :: 7 :: []) (3 :: 5 :: 7 :: []) (0 :: 1 :: 2 :: 3 :: 4 :: 5 :: 6 :: 7 :: 8 :: []) (by kernel_rfl) (by kernel_rfl) rfl (by kernel_rfl) rfl (rfl) (by simp only [picked, List.filterMap_cons, List.filterMap_nil, List.getElem?_cons_zero, List.getElem?_cons_succ, Option.map_some]; exact rfl) ?_
  iterate 8
    refine seq_want (v := ?_) rfl rfl (fun W hS => ?_) ?_
    rotate_left
    · first
        | (conv => lhs; simp [go_sem]
           first | done | exact rfl)
        | (have hS := hS rfl
           subst hS
           obtain ⟨q1, q2, q3⟩ := H3.out.own.at_
           obtain ⟨g1, g2, g3⟩ := three_at O3.out
           conv => lhs; simp [go_sem, *]
           first | done | exact rfl)
    simp only [Act.put, List.setIfInBounds_toArray, List.set_cons_zero, List.set_cons_succ]
  refine seq_last rfl rfl (by kernel_rfl) rfl fun K hK => ?_
  go_wp2
  refine hK _ _ ?_
  clear hK K
  refine seq_end ?_
  clear H3 O3 C3 r2
  obtain ⟨a3, c3, hpv⟩ := row_shape H4.out.points
  subst hpv
  have B4d : Below w2.heap.size w2 w2.drew := (Below.refl _ _).drew
  have BX : Hid (Below w2.heap.size w2 (w2.alloc (.cells #[.int .i64 vx, .int .i64 vy] 37)).drew) := Lib.hid ((bx1 _ _ _).drew)
  have RW : Hid (∀ W, Below w2.heap.size w2 W → W.ownsRow B 37 2 (.slice a3 vs.length c3) vs.length (ptC vs)) := Lib.hid fun W hW => row_below H4.out.points hW
  have HB3 : Hid (B ≤ w2.heap.size) := Lib.hid (Nat.le_trans HB0.out Z4.out)
  have KS : Hid (∀ w9, (w2.alloc (.cells #[.int .i64 vx, .int .i64 vy] 37)).drew.grownBy w9 (Value.slice a3 vs.length c3).ownBlock → Own w9 d 124 #[.map (some m1), .map (some m2), .map (some m3), .slice a3 vs.length c3, lv] ∧ Own w9 w.heap.size 39 #[.int .i64 vi, .int .i64 vx, .int .i64 vy]) := Lib.hid fun w9 hg => by
    have hc : Chg (fun q => (Value.slice a3 vs.length c3).ownBlock = some q) _ w9 := (Chg.refl _ _).grown hg fun k hk => .inl hk
    have k : ∀ {q : Nat} {T : TypeId} {cs : Array Value}, Own (w2.alloc (.cells #[.int .i64 vx, .int .i64 vy] 37)).drew q T cs → T ≠ 37 → Own w9 q T cs := fun ho hT => hc.own ho fun e => by
      obtain ⟨_, cur, ho2⟩ := row_own (RW.out _ BX.out) e
      exact own_ne ho ho2 hT rfl
    exact ⟨k (H4.out.own.keep BX.out) (by decide), k (O4.out.keep BX.out) (by decide)⟩
  generalize hn9 : vs.length = n at *
  go_upto_region 3 with fail
  refine wp_region_seq (fun W => Own W d 124 #[.map (some m1), .map (some m2), .map (some m3), .slice a3 n c3, lv] ∧ Own W w.heap.size 39 #[.int .i64 vi, .int .i64 vx, .int .i64 vy]) (0 :: 1 :: 2 :: 3 :: 4 :: 5 :: 6 :: 9 :: 10 :: []) (4 :: 6 :: []) (0 :: 1 :: 2 :: 3 :: 4 :: 5 :: 6 :: 7 :: 8 :: 9 :: 10 :: 11 :: []) (by kernel_rfl) (by kernel_rfl) rfl (by kernel_rfl) rfl (⟨H4.out.own, O4.out⟩) (by simp only [picked, List.filterMap_cons, List.filterMap_nil, List.getElem?_cons_zero, List.getElem?_cons_succ, Option.map_some]; exact rfl) ?_
  iterate 7
    refine seq_want (v := ?_) rfl rfl (fun W hS => ?_) ?_
    rotate_left
    · first
        | (conv => lhs; simp [go_sem]
           first | done | exact rfl)
        | (have hS := hS rfl
           obtain ⟨q1, q2, q3⟩ := hS.1.at_
           obtain ⟨g1, g2, g3⟩ := three_at hS.2
           conv => lhs; simp [go_sem, *]
           first | done | exact rfl)
    simp only [Act.put, List.setIfInBounds_toArray, List.set_cons_zero, List.set_cons_succ]
  refine seq_on rfl rfl fun K hK => ?_
  go_wp2
  refine hK _ _ (⟨H4.out.own.keep BX.out, O4.out.keep BX.out⟩) ?_
  clear hK K
  refine seq_on rfl rfl fun K hK => ?_
  go_wp2_with (at_builtin; refine wpList_append_own_at _ rfl _ _ 121 rfl B 37 i0 (.agg #[.int .i64 0, .int .i64 0]) 2 16 Try.underlying121 hi0 hz0 hz1 hz2 rfl (by decide) (.slice a3 n c3) n (ptC vs) rfl (RW.out _ BX.out) ⟨w2.heap.size, 0, none⟩ 1 1 [.int .i64 vx, .int .i64 vy] rfl rfl (fun j u hu => new_two w2 _ _ _ j hu) (by intro u hu; simp at hu; rcases hu with rfl | rfl <;> rfl) (by unfold maxLen; omega) (by omega) (by have := BX.out.size; have := HB3.out; omega) ?_; intro v9 w9 hown hgrow hnil hloc; obtain ⟨ya, yc, rfl⟩ := row_shape hown; have HO9 := Lib.hid hown; have HG9 := Lib.hid hgrow; clear hown hgrow hnil hloc)
  have S9 := Lib.hid (KS.out _ HG9.out)
  obtain ⟨q1, q2, q3⟩ := S9.out.1.at_
  refine hK _ _ S9.out ?_
  clear hK K
  iterate 2
    refine seq_want (v := ?_) rfl rfl (fun W hS => ?_) ?_
    rotate_left
    · first
        | (conv => lhs; simp [go_sem]
           first | done | exact rfl)
        | (have hS := hS rfl
           obtain ⟨q1, q2, q3⟩ := hS.1.at_
           obtain ⟨g1, g2, g3⟩ := three_at hS.2
           conv => lhs; simp [go_sem, *]
           first | done | exact rfl)
    simp only [Act.put, List.setIfInBounds_toArray, List.set_cons_zero, List.set_cons_succ]
  refine seq_last rfl rfl (by kernel_rfl) rfl fun K hK => ?_
  go_wp2
  refine hK _ _ ?_
  clear hK K
  refine seq_end ?_
  have FIN9 := (H4.out.below BX.out).pts (U := vs ++ [⟨vi, vx, vy⟩]) HG9.out (by have := HO9.out; rw [ptC_snoc vs ⟨vi, vx, vy⟩] at this; rw [List.length_append, hn9]; exact this)
  have F9 := Lib.hid FIN9.1
  have C9 := Lib.hid (chg_then (C4.out.same (Chg.of BX.out)) FIN9.2)
  clear FIN9
  exact bodyPost_end (v := .tuple #[]) (results_none Try.results58 _ _ _) rfl ⟨rfl, ⟨m1, m2, m3, _, _, _, F9.out.all (by simp)⟩, C9.out⟩
set_option maxRecDepth 10000 in
set_option maxHeartbeats 1000000 in
theorem link_any (h : DrawAt w B d vs es) (v : Eg) (hj : jnL es v.a v.b = false) (hn : es.length ≤ 100000) (hB : B ≤ w.heap.size) :
    Calls Try.prog 60 #[.pointer (some ⟨d, 0, none⟩), .agg #[.int .i64 v.id, .int .i64 v.a, .int .i64 v.b]] w fun e w' => e = .returned (.tuple #[]) ∧ DrawAt w' B d vs (es ++ [v]) ∧ Chg (DT w B) w w' := by
  obtain ⟨m1, m2, m3, pv, lv, L, h⟩ := h
  obtain ⟨i0, hi0, hz0, hz1, hz2⟩ := info_of info_ptr
  have HS := Lib.hid h.segs
  have HLK : Hid (lkG (jnF es) (min v.a v.b, max v.a v.b) = none) := Lib.hid (by
    have := jnL_lk es v.a v.b
    rw [hj] at this
    simpa using this)
  have hln := h.len
  obtain ⟨vi, va, vb⟩ := v
  simp only at HLK ⊢
  have HPR := Lib.hid (fun W => pair_any va vb W)
  have B0 := Lib.hid (bx1 w 71 #[.int .i64 vi, .int .i64 va, .int .i64 vb])
  have O0 := Lib.hid (Own.made w 71 #[.int .i64 vi, .int .i64 va, .int .i64 vb])
  have H0 := Lib.hid (h.five.below (B0.out))
  have HB0 := Lib.hid (Nat.le_trans hB B0.out.size)
  have C0 : Hid (Chg (DT w B) w (w.alloc (.cells #[.int .i64 vi, .int .i64 va, .int .i64 vb] 71))) := Lib.hid (Chg.of B0.out)
  clear h hj hB
  unfold k2 at HPR
  simp only at HPR
  go_enter Try.func60, Try.ntmps60
  go_upto_region 1 with fail
  generalize hW0 : w.alloc (.cells #[.int .i64 vi, .int .i64 va, .int .i64 vb] 71) = W0 at B0 O0 H0 HB0 C0 ⊢
  clear hW0
  refine wp_region_seq (fun W => Own W d 124 #[.map (some m1), .map (some m2), .map (some m3), pv, lv] ∧ Own W w.heap.size 71 #[.int .i64 vi, .int .i64 va, .int .i64 vb]) (0 :: 1 :: 2 :: 3 :: 4 :: 5 :: 6 :: 7 :: 9 :: 10 :: []) (3 :: 5 :: 7 :: 10 :: []) (0 :: 1 :: 2 :: 3 :: 4 :: 5 :: 6 :: 7 :: 9 :: 10 :: 8 :: 11 :: []) (by kernel_rfl) (by kernel_rfl) rfl (by kernel_rfl) rfl (⟨H0.out.own, O0.out⟩) (by simp only [picked, List.filterMap_cons, List.filterMap_nil, List.getElem?_cons_zero, List.getElem?_cons_succ, Option.map_some]; exact rfl) ?_
  iterate 10
    refine seq_want (v := ?_) rfl rfl (fun W hS => ?_) ?_
    rotate_left
    · first
        | (conv => lhs; simp [go_sem]
           first | done | exact rfl)
        | (have hS := hS rfl
           obtain ⟨q1, q2, q3⟩ := hS.1.at_
           obtain ⟨g1, g2, g3⟩ := three_at hS.2
           conv => lhs; simp [go_sem, *]
           first | done | exact rfl)
    simp only [Act.put, List.setIfInBounds_toArray, List.set_cons_zero, List.set_cons_succ]
  refine seq_on rfl rfl fun K hK => ?_
  go_wp2_with (go_at_call 80; refine (HPR.out _).mono ?_; rintro e w1 ⟨rfl, b1⟩)
  have B1 := Lib.hid (then_ (Below.refl _ _).drew b1 (Nat.le_refl _))
  have H1 := Lib.hid (H0.out.below B1.out)
  have O1 := Lib.hid (O0.out.keep B1.out)
  have C1 := Lib.hid (C0.out.same (Chg.of B1.out))
  have Z1 : Hid (W0.heap.size ≤ w1.heap.size) := Lib.hid B1.out.size
  obtain ⟨w2, r2, p2, c2, z2⟩ := H1.out.joined.put (t := 120) Try.underlying120 key_two (min va vb, max va vb) (.int .i64 vi) HLK.out
  have H2 := Lib.hid (H1.out.put3 c2 (U := es ++ [⟨vi, va, vb⟩]) (jnF_snoc es ⟨vi, va, vb⟩ ▸ p2))
  have O2 := Lib.hid (c2.own O1.out fun k => (H1.out.joined.ne O1.out) k.symm)
  have C2 := Lib.hid (chg_then C1.out (c2.mono fun q _ e => by rw [e]; exact mapG_DT H1.out.joined H1.out.base.2.2.2))
  have Z2 : Hid (W0.heap.size ≤ w2.heap.size) := Lib.hid (Nat.le_trans Z1.out c2.size)
  unfold k2 at r2
  simp only at r2
  clear p2 c2 z2 b1
  refine hK _ _ ⟨H1.out.own, O1.out⟩ ?_
  clear hK K
  refine seq_last rfl rfl (by kernel_rfl) rfl fun K hK => ?_
  go_wp2
  refine hK _ _ ?_
  clear hK K
  refine seq_end ?_
  clear H1 O1 C1 r2 H0 O0 C0 B1 Z1
  obtain ⟨a3, c3, hpv⟩ := row_shape H2.out.lines
  subst hpv
  have LL := Lib.hid (line_of H2.out.own H2.out.places va vb)
  have B2d : Below w2.heap.size w2 w2.drew := (Below.refl _ _).drew
  have LD := Lib.hid (line_of (H2.out.below B2d).own (H2.out.below B2d).places va vb)
  clear LL
  have RW : Hid (∀ W, Below w2.heap.size w2 W → W.ownsRow B 148 1 (.slice a3 L.length c3) L.length (lpC L)) := Lib.hid fun W hW => row_below H2.out.lines hW
  have HB3 : Hid (B ≤ w2.heap.size) := Lib.hid (Nat.le_trans HB0.out Z2.out)
  have KS : Hid (∀ w8 w9, Below w2.heap.size w2 w8 → w8.grownBy w9 (Value.slice a3 L.length c3).ownBlock → Own w9 d 124 #[.map (some m1), .map (some m2), .map (some m3), pv, .slice a3 L.length c3] ∧ Own w9 w.heap.size 71 #[.int .i64 vi, .int .i64 va, .int .i64 vb]) := Lib.hid fun w8 w9 hb hg => by
    have hc : Chg (fun q => (Value.slice a3 L.length c3).ownBlock = some q) _ w9 := (Chg.refl _ _).grown hg fun k hk => .inl hk
    have k : ∀ {q : Nat} {T : TypeId} {cs : Array Value}, Own w8 q T cs → T ≠ 148 → Own w9 q T cs := fun ho hT => hc.own ho fun e => by
      obtain ⟨_, cur, ho2⟩ := row_own (RW.out _ hb) e
      exact own_ne ho ho2 hT rfl
    exact ⟨k (H2.out.own.keep hb) (by decide), k (O2.out.keep hb) (by decide)⟩
  have hl9 : L.length ≤ 100000 := by omega
  clear hln hn
  generalize hn9 : L.length = n at *
  go_upto_region 2 with fail
  refine wp_region_seq (fun W => Own W d 124 #[.map (some m1), .map (some m2), .map (some m3), pv, .slice a3 n c3] ∧ Own W w.heap.size 71 #[.int .i64 vi, .int .i64 va, .int .i64 vb]) (0 :: 1 :: 2 :: 3 :: 4 :: 5 :: 6 :: 7 :: 8 :: 9 :: 13 :: 14 :: []) (4 :: 7 :: 9 :: []) (0 :: 1 :: 2 :: 3 :: 4 :: 5 :: 6 :: 7 :: 8 :: 9 :: 10 :: 11 :: 12 :: 13 :: 14 :: 15 :: []) (by kernel_rfl) (by kernel_rfl) rfl (by kernel_rfl) rfl (⟨H2.out.own, O2.out⟩) (by simp only [picked, List.filterMap_cons, List.filterMap_nil, List.getElem?_cons_zero, List.getElem?_cons_succ, Option.map_some]; exact rfl) ?_
  iterate 10
    refine seq_want (v := ?_) rfl rfl (fun W hS => ?_) ?_
    rotate_left
    · first
        | (conv => lhs; simp [go_sem]
           first | done | exact rfl)
        | (have hS := hS rfl
           obtain ⟨q1, q2, q3⟩ := hS.1.at_
           obtain ⟨g1, g2, g3⟩ := three_at hS.2
           conv => lhs; simp [go_sem, *]
           first | done | exact rfl)
    simp only [Act.put, List.setIfInBounds_toArray, List.set_cons_zero, List.set_cons_succ]
  refine seq_on rfl rfl fun K hK => ?_
  go_wp2_with (go_at_call 81; refine LD.out.mono ?_; rintro e w3 ⟨q, rfl, lq, lnq, b3⟩)
  have B3 := Lib.hid (then_ B2d b3 (Nat.le_refl _))
  have LQ := Lib.hid (show w2.heap.size ≤ q from lq)
  have LNQ := Lib.hid lnq
  clear lq lnq b3
  refine hK _ _ ⟨H2.out.own.keep B3.out, O2.out.keep B3.out⟩ ?_
  clear hK K
  refine seq_on rfl rfl fun K hK => ?_
  go_wp2
  have BX := B3.out.alloc B3.out.size (.cells #[.pointer (some ⟨q, 0, none⟩)] 148)
  refine hK _ _ (⟨H2.out.own.keep BX, O2.out.keep BX⟩) ?_
  clear hK K
  refine seq_on rfl rfl fun K hK => ?_
  go_wp2_with (at_builtin; refine wpList_append_own_at _ rfl _ _ 122 rfl B 148 i0 (.pointer none) 1 8 Try.underlying122 hi0 hz0 hz1 hz2 rfl (by decide) (.slice a3 n c3) n (lpC L) rfl (RW.out _ BX) ⟨w3.heap.size, 0, none⟩ 1 1 [.pointer (some ⟨q, 0, none⟩)] rfl rfl (fun j u hu => cell_one_new _ _ _ j u hu) (by intro u hu; simp at hu; subst hu; rfl) (by unfold maxLen; omega) (by omega) (by have := BX.size; have := HB3.out; omega) ?_; intro v9 w9 hown hgrow hnil hloc; obtain ⟨ya, yc, rfl⟩ := row_shape hown; have HO9 := Lib.hid hown; have HG9 := Lib.hid hgrow; clear hown hgrow hnil hloc)
  have S9 := Lib.hid (KS.out _ _ BX HG9.out)
  obtain ⟨q1, q2, q3⟩ := S9.out.1.at_
  refine hK _ _ S9.out ?_
  clear hK K
  iterate 2
    refine seq_want (v := ?_) rfl rfl (fun W hS => ?_) ?_
    rotate_left
    · first
        | (conv => lhs; simp [go_sem]
           first | done | exact rfl)
        | (have hS := hS rfl
           obtain ⟨q1, q2, q3⟩ := hS.1.at_
           obtain ⟨g1, g2, g3⟩ := three_at hS.2
           conv => lhs; simp [go_sem, *]
           first | done | exact rfl)
    simp only [Act.put, List.setIfInBounds_toArray, List.set_cons_zero, List.set_cons_succ]
  refine seq_last rfl rfl (by kernel_rfl) rfl fun K hK => ?_
  go_wp2
  refine hK _ _ ?_
  clear hK K
  refine seq_end ?_
  have FIN9 := (H2.out.below BX).lns (U := L ++ [(q, sgOf vs va vb)]) HG9.out (by have := HO9.out; rw [lpC_snoc L (q, sgOf vs va vb)] at this; rw [List.length_append, hn9]; exact this) (fun x hx => by
    rcases List.mem_append.1 hx with hx | hx
    · exact ⟨(H2.out.each x hx).1, Own.keep (H2.out.each x hx).2 BX⟩
    · rw [List.mem_singleton] at hx
      subst hx
      exact ⟨Nat.le_trans HB3.out LQ.out, Own.more LNQ.out _⟩)
  have F9 := Lib.hid FIN9.1
  have C9 := Lib.hid (chg_then (C2.out.same (Chg.of BX)) FIN9.2)
  clear FIN9
  exact bodyPost_end (v := .tuple #[]) (results_none Try.results60 _ _ _) rfl ⟨rfl, ⟨m1, m2, m3, _, _, _, F9.out.all (by simp [HS.out])⟩, C9.out⟩
end
end Go.Proofs.Ytibnackmddigaaa.Pl