
/- The document's Twin, Less, Has, Same (croftref16); the law package's few, plain and awake. Conditions: those that each theorem names. -/
import Derived.Test.YtibnackmddigaaaSpnH
namespace Go.Proofs.Ytibnackmddigaaa.Pl
open Go.ChangeShapes Go.WideShapes Go.ChangeAt Go.RowKit Go.Proofs.Ytibnackmddigaaa.Mp
set_option linter.unusedVariables false
set_option linter.unusedSimpArgs false

section
variable {v u : Value} {L M : List Hf} {w : World}
set_option maxRecDepth 10000 in
theorem rhas_any (hv : HIn w v L) (h : Hf) (hn : L.length ≤ 100000) : Calls Try.prog 17 #[v, hV h] w fun e w' => e = .returned (.bool (decide (h ∈ L))) ∧ Below w.heap.size w w' := by
  obtain ⟨a, cap, rfl, hc1, hc2, hcl⟩ := hv.open_
  have YES : Hid (∀ k (hk : k < L.length), L[k]'hk = h → decide (h ∈ L) = true) := Lib.hid fun k hk e => decide_eq_true (e ▸ List.getElem_mem hk)
  have NO : Hid ((∀ m (hm : m < L.length), L[m]'hm ≠ h) → decide (h ∈ L) = false) := Lib.hid fun h0 => decide_eq_false fun k => by
    obtain ⟨m, hm, e⟩ := List.mem_iff_getElem.1 k
    exact h0 m hm e
  obtain ⟨R, hR⟩ : ∃ R, R = decide (h ∈ L) := ⟨_, rfl⟩
  rw [← hR] at YES NO ⊢
  clear hR hv
  obtain ⟨n, hnn⟩ : ∃ n, n = L.length := ⟨_, rfl⟩
  rw [← hnn] at hc1 hn ⊢
  have HN := Lib.hid hnn
  clear hnn
  obtain ⟨e, b⟩ := h
  unfold hV
  simp only
  have OB := Lib.hid (Own.made w 42 #[.int .i64 e, .bool b])
  have BB := Lib.hid (bx1 w 42 #[.int .i64 e, .bool b])
  have EQ := eq_Half
  go_enter Try.func17, Try.ntmps17
  go_wp2
  go_loopw [5] (fun j wr => ∃ k : Nat, k ≤ n ∧ j = .int .i64 (k : Int) ∧ Hid (∀ m (hm : m < L.length), m < k → L[m]'hm ≠ (e, b)) ∧ Hid (Below w.heap.size w wr) ∧ Hid (Own wr w.heap.size 42 #[.int .i64 e, .bool b])) (fun j wr => n - (intOf j).toNat)
  case atStart => exact ⟨0, by omega, rfl, Lib.hid fun m hm h => by omega, BB, OB⟩
  case round =>
    obtain ⟨k, hk, rfl, hno, HB, HO⟩ := hrel
    obtain ⟨q1, q2⟩ := half_at HO.out
    by_cases hlt : k < n
    · have hkl : k < L.length := by rw [← HN.out]; exact hlt
      obtain ⟨g, o, rfl, hb, hc⟩ := hcl k hkl
      obtain ⟨c1, c2⟩ := hc wr HB.out
      have YK := Lib.hid (YES.out k hkl)
      obtain ⟨x, hx⟩ : ∃ x, x = L[k]'hkl := ⟨_, rfl⟩
      rw [← hx] at c1 c2 YK
      have HX := Lib.hid hx
      clear hx hcl hc
      obtain ⟨xe, xb⟩ := x
      simp only at c1 c2
      obtain ⟨t, ht⟩ : ∃ t, t = decide (xe = e ∧ xb = b) := ⟨_, rfl⟩
      have EK : ∀ W, (Op.equalIn 10000 42 (.agg #[.int .i64 xe, .bool xb]) (.agg #[.int .i64 e, .bool b])).run Try.prog W = .ok t W := fun W => by rw [ht]; exact EQ xe e xb b W
      have HT := Lib.hid ht
      have hki : (k : Int) < (n : Int) := by omega
      clear ht EQ
      cases t with
      | true =>
        have h3 := of_decide_eq_true HT.out.symm
        have e1 : R = true := YK.out (by rw [h3.1, h3.2])
        subst e1
        clear h3
        go_upto_region 4 with fail
        refine wp_region_seq (fun W => Below wr.heap.size wr W) (0 :: 1 :: 2 :: 3 :: 4 :: 5 :: []) (3 :: 4 :: []) (0 :: 1 :: 2 :: 3 :: 4 :: 5 :: []) (by kernel_rfl) (by kernel_rfl) rfl (by kernel_rfl) rfl ((Below.refl _ _).drew) (by simp only [picked, List.filterMap_cons, List.filterMap_nil, List.getElem?_cons_zero, List.getElem?_cons_succ, Option.map_some]; exact rfl) ?_
        iterate 6
          refine seq_want (v := ?_) rfl rfl (fun W hS => ?_) ?_
          rotate_left
          · first
              | (conv => lhs; simp [go_sem, hki, EK]
                 first | done | exact rfl)
              | (have hS := hS rfl
                 have d1 := keep hS c1
                 have d2 := keep hS c2
                 obtain ⟨q1, q2⟩ := half_at (HO.out.keep hS)
                 conv => lhs; simp [go_sem, *, hki, EK]
                 first | done | exact rfl)
          simp only [Act.put, List.setIfInBounds_toArray, List.set_cons_zero, List.set_cons_succ]
        refine seq_end ?_
        go_wp2
        go_ret
        exact ⟨rfl, HB.out.drew⟩
      | false =>
        have h3 := Lib.hid (of_decide_eq_false HT.out.symm)
        go_upto_region 4 with fail
        refine wp_region_seq (fun W => Below wr.heap.size wr W) (0 :: 1 :: 2 :: 3 :: 4 :: 5 :: []) (3 :: 4 :: []) (0 :: 1 :: 2 :: 3 :: 4 :: 5 :: []) (by kernel_rfl) (by kernel_rfl) rfl (by kernel_rfl) rfl ((Below.refl _ _).drew) (by simp only [picked, List.filterMap_cons, List.filterMap_nil, List.getElem?_cons_zero, List.getElem?_cons_succ, Option.map_some]; exact rfl) ?_
        iterate 6
          refine seq_want (v := ?_) rfl rfl (fun W hS => ?_) ?_
          rotate_left
          · first
              | (conv => lhs; simp [go_sem, hki, EK]
                 first | done | exact rfl)
              | (have hS := hS rfl
                 have d1 := keep hS c1
                 have d2 := keep hS c2
                 obtain ⟨q1, q2⟩ := half_at (HO.out.keep hS)
                 conv => lhs; simp [go_sem, *, hki, EK]
                 first | done | exact rfl)
          simp only [Act.put, List.setIfInBounds_toArray, List.set_cons_zero, List.set_cons_succ]
        refine seq_end ?_
        go_wp2
        go_roundw
        case rel =>
          refine ⟨k + 1, by omega, by go_num, Lib.hid fun m hm hmk => ?_, Lib.hid HB.out.drew, Lib.hid HO.out.drawn⟩
          rcases Nat.lt_succ_iff_lt_or_eq.1 hmk with hmk | rfl
          · exact hno.out m hm hmk
          · rw [← HX.out]
            intro e5
            exact h3.out ⟨congrArg Prod.fst e5, congrArg Prod.snd e5⟩
        case measure => simp [intOf] <;> omega
    · obtain rfl : k = n := by omega
      have e1 : R = false := NO.out fun m hm => hno.out m hm (by rw [HN.out]; exact hm)
      subst e1
      go_wp2
      go_ret
      exact ⟨rfl, HB.out⟩
set_option maxRecDepth 10000 in
theorem rsame_any (hv : HIn w v L) (hu : HIn w u M) (hn : L.length ≤ 100000) (hm : M.length ≤ 100000) : Calls Try.prog 26 #[v, u] w fun e w' => e = .returned (.bool (decide (L = M))) ∧ Below w.heap.size w w' := by
  obtain ⟨a, cap, rfl, hc1, hc2, hcl⟩ := hv.open_
  obtain ⟨a', cap', rfl, hc1', hc2', hcl'⟩ := hu.open_
  by_cases hlen : L.length = M.length
  · have NO : Hid (∀ k (hk : k < L.length) (hk2 : k < M.length), L[k]'hk ≠ M[k]'hk2 → decide (L = M) = false) := Lib.hid fun k hk hk2 e => decide_eq_false fun e2 => by
      subst e2
      exact e rfl
    have YES : Hid ((∀ m (hm : m < L.length) (hm2 : m < M.length), L[m]'hm = M[m]'hm2) → decide (L = M) = true) := Lib.hid fun h0 => decide_eq_true (List.ext_getElem hlen fun i h1 h2 => h0 i h1 h2)
    obtain ⟨R, hR⟩ : ∃ R, R = decide (L = M) := ⟨_, rfl⟩
    rw [← hR] at YES NO ⊢
    clear hR hv hu
    obtain ⟨n, hnn⟩ : ∃ n, n = L.length := ⟨_, rfl⟩
    rw [← hnn] at hc1 hn hlen ⊢
    rw [← hlen] at hc1' hm ⊢
    have HN := Lib.hid hnn
    have HM := Lib.hid hlen
    clear hnn hlen
    have EQ := eq_Half
    go_enter Try.func26, Try.ntmps26
    go_wp2
    go_loopw [5] (fun j wr => ∃ k : Nat, k ≤ n ∧ j = .int .i64 (k : Int) ∧ Hid (∀ m (hm : m < L.length) (hm2 : m < M.length), m < k → L[m]'hm = M[m]'hm2) ∧ Hid (Below w.heap.size w wr)) (fun j wr => n - (intOf j).toNat)
    case atStart => exact ⟨0, by omega, rfl, Lib.hid fun m hm hm2 h => by omega, Lib.hid (Below.refl _ _)⟩
    case round =>
      obtain ⟨k, hk, rfl, hno, HB⟩ := hrel
      by_cases hlt : k < n
      · have hkl : k < L.length := by rw [← HN.out]; exact hlt
        have hkm : k < M.length := by rw [← HM.out]; exact hlt
        obtain ⟨g, o, rfl, hb, hc⟩ := hcl k hkl
        obtain ⟨g', o', rfl, hb', hc'⟩ := hcl' k hkm
        obtain ⟨c1, c2⟩ := hc wr HB.out
        obtain ⟨d1, d2⟩ := hc' wr HB.out
        have NK := Lib.hid (NO.out k hkl hkm)
        obtain ⟨x, hx⟩ : ∃ x, x = L[k]'hkl := ⟨_, rfl⟩
        obtain ⟨y, hy⟩ : ∃ y, y = M[k]'hkm := ⟨_, rfl⟩
        rw [← hx] at c1 c2 NK
        rw [← hy] at d1 d2 NK
        have HX := Lib.hid hx
        have HY := Lib.hid hy
        clear hx hcl hc hy hcl' hc'
        obtain ⟨xe, xb⟩ := x
        obtain ⟨ye, yb⟩ := y
        simp only at c1 c2 d1 d2
        obtain ⟨t, ht⟩ : ∃ t, t = decide (xe = ye ∧ xb = yb) := ⟨_, rfl⟩
        have EK : ∀ W, (Op.equalIn 10000 42 (.agg #[.int .i64 xe, .bool xb]) (.agg #[.int .i64 ye, .bool yb])).run Try.prog W = .ok t W := fun W => by rw [ht]; exact EQ xe ye xb yb W
        have HT := Lib.hid ht
        have hki : (k : Int) < (n : Int) := by omega
        clear ht EQ
        cases t with
        | false =>
          have h3 := Lib.hid (of_decide_eq_false HT.out.symm)
          have e1 : R = false := NK.out fun e => h3.out ⟨congrArg Prod.fst e, congrArg Prod.snd e⟩
          subst e1
          go_upto_region 6 with fail
          refine wp_region_seq (fun W => Below wr.heap.size wr W) (0 :: 1 :: 2 :: 3 :: 4 :: 5 :: 6 :: 7 :: 8 :: []) (3 :: 7 :: []) (0 :: 1 :: 2 :: 3 :: 4 :: 5 :: 6 :: 7 :: 8 :: []) (by kernel_rfl) (by kernel_rfl) rfl (by kernel_rfl) rfl ((Below.refl _ _).drew) (by simp only [picked, List.filterMap_cons, List.filterMap_nil, List.getElem?_cons_zero, List.getElem?_cons_succ, Option.map_some]; exact rfl) ?_
          iterate 9
            refine seq_want (v := ?_) rfl rfl (fun W hS => ?_) ?_
            rotate_left
            · first
                | (conv => lhs; simp [go_sem, hki, EK]
                   first | done | exact rfl)
                | (have hS := hS rfl
                   have d3 := keep hS c1
                   have d4 := keep hS c2
                   have d5 := keep hS d1
                   have d6 := keep hS d2
                   conv => lhs; simp [go_sem, *, hki, EK]
                   first | done | exact rfl)
            simp only [Act.put, List.setIfInBounds_toArray, List.set_cons_zero, List.set_cons_succ]
          refine seq_end ?_
          go_wp2
          go_ret
          exact ⟨rfl, HB.out.drew⟩
        | true =>
          have h3 := Lib.hid (of_decide_eq_true HT.out.symm)
          go_upto_region 6 with fail
          refine wp_region_seq (fun W => Below wr.heap.size wr W) (0 :: 1 :: 2 :: 3 :: 4 :: 5 :: 6 :: 7 :: 8 :: []) (3 :: 7 :: []) (0 :: 1 :: 2 :: 3 :: 4 :: 5 :: 6 :: 7 :: 8 :: []) (by kernel_rfl) (by kernel_rfl) rfl (by kernel_rfl) rfl ((Below.refl _ _).drew) (by simp only [picked, List.filterMap_cons, List.filterMap_nil, List.getElem?_cons_zero, List.getElem?_cons_succ, Option.map_some]; exact rfl) ?_
          iterate 9
            refine seq_want (v := ?_) rfl rfl (fun W hS => ?_) ?_
            rotate_left
            · first
                | (conv => lhs; simp [go_sem, hki, EK]
                   first | done | exact rfl)
                | (have hS := hS rfl
                   have d3 := keep hS c1
                   have d4 := keep hS c2
                   have d5 := keep hS d1
                   have d6 := keep hS d2
                   conv => lhs; simp [go_sem, *, hki, EK]
                   first | done | exact rfl)
            simp only [Act.put, List.setIfInBounds_toArray, List.set_cons_zero, List.set_cons_succ]
          refine seq_end ?_
          go_wp2
          go_roundw
          case rel =>
            refine ⟨k + 1, by omega, by go_num, Lib.hid fun m hm hm2 hmk => ?_, Lib.hid HB.out.drew⟩
            rcases Nat.lt_succ_iff_lt_or_eq.1 hmk with hmk | rfl
            · exact hno.out m hm hm2 hmk
            · rw [← HX.out, ← HY.out, h3.out.1, h3.out.2]
          case measure => simp [intOf] <;> omega
      · obtain rfl : k = n := by omega
        have e1 : R = true := YES.out fun m hm hm2 => hno.out m hm hm2 (by rw [HN.out]; exact hm)
        subst e1
        go_wp2
        go_ret
        exact ⟨rfl, HB.out⟩
  · rw [decide_eq_false fun e => hlen (congrArg List.length e)]
    clear hcl hcl' hv hu
    generalize L.length = n at *
    generalize M.length = m at *
    have hne : ((n : Int) != (m : Int)) = true := by simp; omega
    clear hlen
    go_enter Try.func26, Try.ntmps26
    go_wp2
    go_ret
    exact ⟨rfl, Below.refl _ _⟩
end
section
variable {v e : Value} {vs : List Vx} {es : List Eg} {w : World}
def fewS (vs : List Vx) (es : List Eg) : Bool := decide (vs.length ≤ 40) && decide (es.length ≤ 40)
theorem fewS_yes (h : fewS vs es = true) : vs.length ≤ 40 ∧ es.length ≤ 40 := by
  unfold fewS at h
  simpa using h
set_option maxRecDepth 10000 in
theorem sfew_any (hv : VIn w v vs) (he : EIn w e es) : Calls Try.prog 9 #[.agg #[v, e]] w fun r w' => r = .returned (.bool (fewS vs es)) ∧ Below w.heap.size w w' := by
  obtain ⟨a, c, rfl⟩ := hv.sl
  obtain ⟨a', c', rfl⟩ := he.sl
  clear hv he
  have BB := Lib.hid (bx1 w 25 #[.slice a vs.length c, .slice a' es.length c'])
  unfold fewS
  have e1 : decide ((vs.length : Int) ≤ 40) = decide (vs.length ≤ 40) := by by_cases k : vs.length ≤ 40 <;> simp [k] <;> omega
  have e2 : decide ((es.length : Int) ≤ 40) = decide (es.length ≤ 40) := by by_cases k : es.length ≤ 40 <;> simp [k] <;> omega
  rw [← e1, ← e2]
  clear e1 e2
  generalize vs.length = n at *
  generalize es.length = m at *
  by_cases k : (n : Int) ≤ 40
  · have t1 : decide ((n : Int) ≤ 40) = true := by simpa using k
    rw [t1]
    clear k
    go_enter Try.func9, Try.ntmps9
    go_wp2
    go_ret
    exact ⟨rfl, BB.out⟩
  · have t1 : decide ((n : Int) ≤ 40) = false := by simpa using k
    rw [t1]
    clear k
    go_enter Try.func9, Try.ntmps9
    go_wp2
    go_ret
    exact ⟨rfl, BB.out⟩
set_option maxRecDepth 10000 in
theorem splain_any (hv : VIn w v vs) (he : EIn w e es) : Calls Try.prog 11 #[.agg #[v, e]] w fun r w' => r = .returned (.agg #[v, e]) ∧ Below w.heap.size w w' := by
  obtain ⟨a, c, rfl⟩ := hv.sl
  obtain ⟨a', c', rfl⟩ := he.sl
  clear hv he
  go_enter Try.func11, Try.ntmps11
  go_wp2
  refine bodyPost_ret (by simp [results, Try.results11, go_sem]) rfl ⟨rfl, ?_⟩
  repeat' (first | (with_reducible exact Below.refl _ _) | (with_reducible assumption) | (with_reducible refine below_drewN ?_ _) | (with_reducible refine Below.drew ?_) | (with_reducible refine Below.alloc ?_ ?_ _) | (with_reducible refine Below.setCell ?_ ?_ _) | (with_reducible refine then_ ?_ (by with_reducible assumption) ?_) | (with_reducible exact Nat.le_refl _) | (with_reducible exact Nat.le_succ _) | (with_reducible exact Nat.le_succ_of_le (by with_reducible assumption)) | omega | (simp; done) | (simp; omega) | (exact Nat.le_succ _) | (exact Nat.le_succ_of_le (by with_reducible assumption)))
end
end Go.Proofs.Ytibnackmddigaaa.Pl