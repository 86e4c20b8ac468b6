
/- The contracts of the twelfth reference's Same and of the law's plain; slots that came in. Conditions: slots that stand in memory. -/
import Derived.Test.YteepggjbgdjchaaDoorSlrC
import Derived.Test.YteepggjbgdjchaaDoorSloL
namespace Go.Proofs.YteepggjbgdjchaaDoor
open Go.ChangeShapes Go.WideShapes Go.ChangeAt Go.RowKit
set_option linter.unusedVariables false
set_option linter.unusedSimpArgs false

theorem eq_RSlot (a b : Bool) (r s : ByteArray) (w : World) : (Op.equalIn 10000 38 (.agg #[.bool a, .string r]) (.agg #[.bool b, .string s])).run Tryd.prog w = .ok (a == b && r.toList == s.toList) w := by
  rw [show (10000 : Nat) = 9999 + 1 from rfl, run_equalIn_struct w 9999 38 _ _ (by simp [Program.fieldsOf, Tryd.underlying38]) (by kernel_rfl)]
  cases a <;> cases b <;> cases h : (r.toList == s.toList) <;> simp [go_sem, Op.eqFields, h]
theorem eq_sl (x y : Sl) (w : World) : (Op.equalIn 10000 38 (.agg #[.bool x.1, .string x.2]) (.agg #[.bool y.1, .string y.2])).run Tryd.prog w = .ok (decide (x = y)) w := by
  rw [eq_RSlot]
  congr 1
  by_cases h : x = y
  · subst h; simp
  · rw [decide_eq_false h]
    by_cases h1 : x.1 = y.1
    · have h2 : x.2 ≠ y.2 := fun e => h (Prod.ext h1 e)
      rw [str_ne h2, Bool.and_false]
    · rw [show (x.1 == y.1) = false by simpa using h1, Bool.false_and]
/-- slots in a slice that grows, of type T -/
def TRow (T : TypeId) (w : World) (B : Nat) (v : Value) (L : List Sl) : Prop := w.ownsRow B T 2 v L.length (cl L)
theorem TRow.nil (T : TypeId) (w : World) (B : Nat) : TRow T w B (.slice none 0 0) [] := World.ownsRow_nil _ _ _ _
theorem TRow.shape {T : TypeId} {w : World} {B : Nat} {v : Value} {L : List Sl} (h : TRow T w B v L) : ∃ a c, v = .slice a L.length c ∧ L.length ≤ c ∧ c ≤ maxLen := by
  rcases h.2 with ⟨rfl, h2⟩ | ⟨g, cap, cur, rfl, _, _, r1, r2, _⟩
  · exact ⟨none, 0, by rw [h2], by omega, Nat.zero_le _⟩
  · exact ⟨_, _, rfl, r1, r2⟩
theorem TRow.below {T : TypeId} {w w' : World} {B : Nat} {v : Value} {L : List Sl} (h : TRow T w B v L) (hb : Below w.heap.size w w') : TRow T w' B v L := by
  have hlt := World.ownsRow.lt h
  refine ⟨h.1, ?_⟩
  rcases h.2 with h2 | ⟨g, cap, cur, rfl, r1, r2, r3⟩
  · exact .inl h2
  · exact .inr ⟨g, cap, cur, rfl, r1, (hb.block g (hlt g rfl).2).trans r2, r3⟩
theorem TRow.push {T : TypeId} {w3 : World} {B : Nat} {v' : Value} {L : List Sl} (x : Sl) (hown : w3.ownsRow B T 2 v' (L.length + 1) (cl L ++ [.bool x.1, .string x.2])) : TRow T w3 B v' (L ++ [x]) := by
  unfold TRow
  rw [List.length_append, List.length_singleton, cl_app]
  exact hown
theorem TRow.in_ {T : TypeId} {w : World} {B : Nat} {v : Value} {L : List Sl} (h : TRow T w B v L) (hz : ∀ x ∈ L, x.2.size ≤ maxLen) : SlIn w v L := by
  rcases h.2 with ⟨rfl, h2⟩ | ⟨g, cap, cur, rfl, r1, r2, r3, r4, r5, r6⟩
  · obtain rfl : L = [] := List.length_eq_zero_iff.1 h2
    exact SlIn.nil w
  · have ho : Own w g T cur := r2
    have key : ∀ j, j < L.length * 2 → cur[j]? = (cl L)[j]? := fun j hj => by rw [← r6, List.getElem?_take_of_lt hj, Array.getElem?_toList]
    refine ⟨_, _, rfl, r3, r4, .inr ⟨g, 0, rfl, ho.in_, fun i hi => ?_⟩⟩
    have c := cl_at L i hi
    rw [Nat.zero_add]
    exact ⟨(ho.at_.1 _).trans ((key _ (by omega)).trans c.1), (ho.at_.1 _).trans ((key _ (by omega)).trans c.2), hz _ (List.getElem_mem hi)⟩
theorem sl_drawn (W : World) (T : TypeId) (x y : Value) (j : Nat) {u : Value} (hu : [x, y][j]? = some u) : (W.alloc (.cells #[x, y] T)).drew.cell? ((⟨W.heap.size, 0, none⟩ : Addr).add j) = some u := sl_cells W T x y j hu
set_option maxRecDepth 10000 in
set_option maxHeartbeats 1000000 in
theorem rsame_any (v v2 : Value) (L M : List Sl) (w : World) (h : SlIn w v L) (h2 : SlIn w v2 M) : Calls Tryd.prog 22 #[v, v2] w fun e w' => e = .returned (.bool (decide (L = M))) ∧ Below w.heap.size w w' := by
  obtain ⟨a, cap, rfl, hc1, hc2, -, hcl⟩ := h.open_
  obtain ⟨b2, cap2, rfl, hd1, hd2, -, hdl⟩ := h2.open_
  obtain ⟨F, hF⟩ : ∃ F, F = decide (L = M) := ⟨_, rfl⟩
  have HF := Lib.hid hF
  rw [← hF]
  obtain ⟨n, hn⟩ : ∃ n, n = L.length := ⟨_, rfl⟩
  obtain ⟨m, hm⟩ : ∃ m, m = M.length := ⟨_, rfl⟩
  rw [← hn] at hc1 ⊢
  rw [← hm] at hd1 ⊢
  have hn' := Lib.hid hn
  have hm' := Lib.hid hm
  have HB0 := Lib.hid (Below.refl w.heap.size w)
  have hmax : n ≤ 9223372036854775807 := by unfold maxLen at hc2; omega
  clear hF hn hm h h2
  by_cases hnm : n = m
  · subst hnm
    go_enter Tryd.func22, Tryd.ntmps22
    go_wp2
    go_loopw [5] (fun i wr => ∃ k : Nat, k ≤ n ∧ i = .int .i64 (k : Int) ∧ Hid (L.take k = M.take k) ∧ Hid (Below w.heap.size w wr)) (fun i wr => n - (intOf i).toNat)
    case atStart => exact ⟨0, by omega, rfl, Lib.hid (by simp), HB0⟩
    case round =>
      clear HB0
      obtain ⟨k, hk, rfl, hE, hB⟩ := hrel
      by_cases hlt : k < n
      · have hkL : k < L.length := by have := hn'.out; omega
        have hkM : k < M.length := by have := hm'.out; omega
        obtain ⟨b, o, rfl, hb, c1, c2, -⟩ := hcl k hkL
        obtain ⟨b', o', rfl, hb', d1, d2, -⟩ := hdl k hkM
        have KY : Hid (L[k]'hkL = M[k]'hkM → L.take (k + 1) = M.take (k + 1)) := Lib.hid fun e => by
          rw [← List.take_append_getElem hkL, ← List.take_append_getElem hkM, hE.out, e]
        have KN : Hid (L[k]'hkL ≠ M[k]'hkM → F = false) := Lib.hid fun e => by
          rw [HF.out]
          refine decide_eq_false fun h => e ?_
          subst h
          rfl
        obtain ⟨x, hx⟩ : ∃ x, x = L[k]'hkL := ⟨_, rfl⟩
        obtain ⟨y, hy⟩ : ∃ y, y = M[k]'hkM := ⟨_, rfl⟩
        rw [← hx] at c1 c2 KY KN
        rw [← hy] at d1 d2 KY KN
        have EQ := eq_sl x y
        replace c1 := keep hB.out c1
        replace c2 := keep hB.out c2
        replace d1 := keep hB.out d1
        replace d2 := keep hB.out d2
        have hkn : (k : Int) < (n : Int) := by omega
        obtain ⟨D, hD⟩ : ∃ D, D = decide (x = y) := ⟨_, rfl⟩
        rw [← hD] at EQ
        have hD' := Lib.hid hD
        obtain ⟨x1, x2⟩ := x
        obtain ⟨y1, y2⟩ := y
        simp only at c1 c2 d1 d2 EQ
        clear hx hy hD
        go_upto_region 6 with fail
        refine wp_region_seq (fun W => W.cell? ⟨b, o + k * 2, none⟩ = some (.bool x1) ∧ W.cell? ⟨b, o + k * 2 + 1, none⟩ = some (.string x2) ∧ W.cell? ⟨b', o' + k * 2, none⟩ = some (.bool y1) ∧ W.cell? ⟨b', o' + k * 2 + 1, none⟩ = some (.string y2)) (0 :: 1 :: 2 :: 3 :: 4 :: 5 :: 6 :: 7 :: 8 :: []) (3 :: 7 :: []) (0 :: 1 :: 2 :: 3 :: 4 :: 5 :: 6 :: 7 :: 8 :: []) (by kernel_rfl) (by kernel_rfl) rfl (by kernel_rfl) rfl (⟨c1, c2, d1, d2⟩) (by simp only [picked, List.filterMap_cons, List.filterMap_nil, List.getElem?_cons_zero, List.getElem?_cons_succ, Option.map_some]; exact rfl) ?_
        iterate 9
          refine seq_want (v := ?_) rfl rfl (fun W hS => ?_) ?_
          rotate_left
          · first
              | (conv => lhs; simp [go_sem, hkn, EQ]
                 first | done | exact rfl)
              | (have hS := hS rfl
                 obtain ⟨q1, q2, q3, q4⟩ := hS
                 conv => lhs; simp [go_sem, *, hkn, EQ]
                 first | done | exact rfl)
          simp only [Act.put, List.setIfInBounds_toArray, List.set_cons_zero, List.set_cons_succ]
        refine seq_end ?_
        cases D with
        | true =>
          have K2 := Lib.hid (KY.out (of_decide_eq_true hD'.out.symm))
          clear KY KN
          go_wp2
          go_roundw
          case rel => exact ⟨k + 1, by omega, by go_num, K2, Lib.hid hB.out.drew⟩
          case measure => simp [intOf]; omega
        | false =>
          have K2 := Lib.hid (KN.out (of_decide_eq_false hD'.out.symm))
          clear KY KN
          go_wp2
          go_ret
          exact ⟨by rw [K2.out]; rfl, hB.out.drew⟩
      · obtain rfl : k = n := by omega
        have K2 : Hid (F = true) := Lib.hid (by
          rw [HF.out]
          refine decide_eq_true ?_
          have h1 := hE.out
          rw [List.take_of_length_le (by have := hn'.out; omega), List.take_of_length_le (by have := hm'.out; omega)] at h1
          exact h1)
        go_wp2
        go_ret
        exact ⟨by rw [K2.out]; rfl, hB.out⟩
  · have q : ¬ ((n : Int) = (m : Int)) := by omega
    have K2 : Hid (F = false) := Lib.hid (by
      rw [HF.out]
      refine decide_eq_false fun h => hnm ?_
      rw [hn'.out, hm'.out, h])
    clear hnm
    go_enter Tryd.func22, Tryd.ntmps22
    go_wp2
    go_ret
    exact ⟨by rw [K2.out]; rfl, HB0.out⟩
set_option maxRecDepth 10000 in
set_option maxHeartbeats 1000000 in
theorem plain_any (v : Value) (L : List Sl) (w : World) (h : SlIn w v L) (hn : L.length ≤ 100000) : Calls Tryd.prog 23 #[v] w fun e w' => ∃ v', e = .returned v' ∧ TRow 38 w' w.heap.size v' L ∧ Below w.heap.size w w' := by
  obtain ⟨i0, hi0, hz0, hz1, hz2⟩ := info_parts info_rslot
  obtain ⟨a, cap, rfl, hc1, hc2, -, hcl⟩ := h.open_
  obtain ⟨n, hne⟩ : ∃ n, n = L.length := ⟨_, rfl⟩
  rw [← hne] at hc1 hn ⊢
  have hn' := Lib.hid hne
  have HB0 := Lib.hid (Below.refl w.heap.size w)
  have HR0 := Lib.hid (TRow.nil 38 w w.heap.size)
  have FIN : Hid (∀ (W : World) v', TRow 38 W w.heap.size v' (L.take n) → TRow 38 W w.heap.size v' L) := Lib.hid fun W v' h => by rwa [hne, List.take_length] at h
  clear hne h
  go_enter Tryd.func23, Tryd.ntmps23
  go_wp2
  go_loopw [3, 4] (fun v i wr => ∃ k : Nat, k ≤ n ∧ i = .int .i64 (k : Int) ∧ Hid (TRow 38 wr w.heap.size v (L.take k)) ∧ Hid (Below w.heap.size w wr)) (fun v i wr => n - (intOf i).toNat)
  case atStart => exact ⟨0, by omega, rfl, HR0, HB0⟩
  case round =>
    clear HB0 HR0
    obtain ⟨k, hk, rfl, hR, hB⟩ := hrel
    by_cases hlt : k < n
    · have hkL : k < L.length := by have := hn'.out; omega
      obtain ⟨b, o, rfl, hb, c1, c2, -⟩ := hcl k hkL
      have htk := List.take_append_getElem hkL
      obtain ⟨x, hx⟩ : ∃ x, x = L[k]'hkL := ⟨_, rfl⟩
      rw [← hx] at c1 c2 htk
      have HTK := Lib.hid htk
      replace c1 := keep hB.out c1
      replace c2 := keep hB.out c2
      have hkn : (k : Int) < (n : Int) := by omega
      obtain ⟨x1, x2⟩ := x
      simp only at c1 c2
      have hlk : (L.take k).length = k := by rw [List.length_take]; omega
      obtain ⟨va, vc, rfl, hv1, hv2⟩ := hR.out.shape
      rw [hlk] at hR hv1 ⊢
      have zz := hB.out.size
      have hlk' := Lib.hid hlk
      clear hx htk hlk
      go_upto_region 5 with fail
      have zb : b < wr.heap.size := by omega
      have hk1 := c1
      have hk2 := c2
      refine wp_region_seq (fun W => W.cell? ⟨b, o + k * 2, none⟩ = some (.bool x1) ∧ W.cell? ⟨b, o + k * 2 + 1, none⟩ = some (.string x2)) (0 :: 1 :: 2 :: 3 :: 4 :: 5 :: 6 :: 7 :: 8 :: 9 :: 10 :: 11 :: 14 :: []) (5 :: 10 :: []) (0 :: 1 :: 2 :: 3 :: 4 :: 5 :: 6 :: 7 :: 8 :: 9 :: 10 :: 11 :: 12 :: 13 :: 14 :: []) (by kernel_rfl) (by kernel_rfl) rfl (by kernel_rfl) rfl (⟨hk1, hk2⟩) (by simp only [picked, List.filterMap_cons, List.filterMap_nil, List.getElem?_cons_zero, List.getElem?_cons_succ, Option.map_some]; exact rfl) ?_
      iterate 12
        refine seq_want (v := ?_) rfl rfl (fun W hS => ?_) ?_
        rotate_left
        · first
            | (conv => lhs; simp [go_sem, hkn]
               first | done | exact rfl)
            | (have hS := hS rfl
               obtain ⟨q1, q2⟩ := hS
               conv => lhs; simp [go_sem, *, hkn]
               first | done | exact rfl)
        simp only [Act.put, List.setIfInBounds_toArray, List.set_cons_zero, List.set_cons_succ]
      refine seq_on rfl rfl fun K hK => ?_
      go_wp2
      obtain ⟨W0, hW0⟩ : ∃ W0, W0 = (wr.alloc (.cells #[.bool x1, .string x2] 38)).drew := ⟨_, rfl⟩
      have B0 : Below wr.heap.size wr W0 := hW0 ▸ ((Below.refl _ _).alloc (Nat.le_refl _) _).drew
      have C0 : ∀ j u, [Value.bool x1, .string x2][j]? = some u → W0.cell? ((⟨wr.heap.size, 0, none⟩ : Addr).add j) = some u := fun j u hu => hW0 ▸ sl_drawn wr _ _ _ j hu
      have Z0 : W0.heap.size = wr.heap.size + 1 := by rw [hW0]; simp
      have R0 : W0.ownsRow w.heap.size 38 2 (.slice va k vc) k (cl (L.take k)) := by
        have h1 := hR.out.below B0
        unfold TRow at h1
        rwa [hlk'.out] at h1
      first
        | rw [← hW0]
        | (rw [show wr.drew.alloc (.cells #[.bool x1, .string x2] 38) = W0 from hW0 ▸ rfl])
      clear hW0
      refine hK _ _ ⟨keep B0 hk1, keep B0 hk2⟩ ?_
      clear hK K
      refine seq_on rfl rfl fun K hK => ?_
      go_wp2_with (at_builtin; refine wpList_append_own_at _ rfl _ _ 36 rfl w.heap.size 38 i0 (.agg #[.bool false, .string ⟨#[]⟩]) 2 24 Tryd.underlying36 hi0 hz0 hz1 hz2 rfl (by decide) (.slice va k vc) k (cl (L.take k)) rfl R0 ⟨wr.heap.size, 0, none⟩ 1 1 [.bool x1, .string x2] rfl rfl C0 (by intro u hu; simp at hu; rcases hu with rfl | rfl <;> rfl) (by unfold maxLen; omega) (by omega) (by omega) ?_)
      intro v' w5 hown hgrow hnil hloc
      clear hnil
      have R5 : TRow 38 w5 w.heap.size v' (L.take (k + 1)) := by
        rw [← HTK.out]
        exact TRow.push (x1, x2) (by rw [hlk'.out]; exact hown)
      have B5 : Below w.heap.size w w5 := (then_ hB.out B0 zz).grown hgrow (by omega) (fun g hg => (R0.lt g hg).1)
      have k5 : w5.cell? ⟨b, o + k * 2, none⟩ = some (.bool x1) ∧ w5.cell? ⟨b, o + k * 2 + 1, none⟩ = some (.string x2) := by
        have hc : Chg (fun q => w.heap.size ≤ q) wr w5 := (Chg.of B0).grown hgrow fun g hg => .inl (R0.lt g hg).1
        exact ⟨hc.cell hk1 (by omega), hc.cell hk2 (by omega)⟩
      obtain ⟨ya, yc, rfl, hy1, hy2⟩ := R5.shape
      have hl1 : (L.take (k + 1)).length = k + 1 := by rw [List.length_take]; omega
      rw [hl1] at R5 ⊢
      clear hl1
      replace R5 := Lib.hid R5
      replace B5 := Lib.hid B5
      replace k5 := Lib.hid k5
      clear hown hgrow hloc R0 B0 C0 hy1 hy2
      go_wp2
      refine hK _ _ k5.out ?_
      clear hK K
      iterate 1
        refine seq_want (v := ?_) rfl rfl (fun W hS => ?_) ?_
        rotate_left
        · conv => lhs; simp [go_sem]
          first | done | exact rfl
        simp only [Act.put, List.setIfInBounds_toArray, List.set_cons_zero, List.set_cons_succ]
      refine seq_end ?_
      go_wp2
      go_roundw
      case rel => exact ⟨k + 1, by omega, by go_num, R5, B5⟩
      case measure => simp [intOf]; omega
    · obtain rfl : k = n := by omega
      have R2 := Lib.hid (FIN.out _ _ hR.out)
      obtain ⟨ya, yc, rfl, hy1, hy2⟩ := hR.out.shape
      go_wp2
      go_ret
      exact ⟨_, rfl, R2.out, hB.out⟩
end Go.Proofs.YteepggjbgdjchaaDoor
