/- -/
import Derived.Test.YthakafnecddliaaSpnH
section
namespace Go.Proofs.Ythakafnecddliaa.Pl
open Go.ChangeShapes Go.WideShapes Go.ChangeAt Go.RowKit Go.Proofs.Ythakafnecddliaa.Mp
set_option linter.unusedVariables false
set_option linter.unusedSimpArgs false

set_option maxRecDepth 10000 in
theorem rtwin_any (h : Hf) (w : World) : Calls Try.prog 27 #[hV h] w fun e w' => e = .returned (hV (tw h)) ∧ Below w.heap.size w w' := by
  obtain ⟨e, b⟩ := h
  unfold hV tw
  simp only
  go_enter Try.func27, Try.ntmps27
  go_wp2
  refine bodyPost_ret (by simp [results, Try.results27, go_sem]) rfl ⟨rfl, ?_⟩
  repeat' (first | (with_reducible exact Below.refl _ _) | (with_reducible assumption) | (with_reducible refine below_drewN ?_ _) | (with_reducible refine Below.drew ?_) | (with_reducible refine Below.alloc ?_ ?_ _) | (with_reducible refine Below.setCell ?_ ?_ _) | (with_reducible refine then_ ?_ (by with_reducible assumption) ?_) | (with_reducible exact Nat.le_refl _) | (with_reducible exact Nat.le_succ _) | (with_reducible exact Nat.le_succ_of_le (by with_reducible assumption)) | omega | (simp; done) | (simp; omega) | (exact Nat.le_succ _) | (exact Nat.le_succ_of_le (by with_reducible assumption)))
section
variable {v u : Value} {L M : List Hf} {w : World}
set_option maxRecDepth 10000 in
theorem rsame_any (hv : HIn w v L) (hu : HIn w u M) (hn : L.length ≤ 100000) (hm : M.length ≤ 100000) : Calls Try.prog 22 #[v, u] w fun e w' => e = .returned (.bool (decide (L = M))) ∧ Below w.heap.size w w' := by
  obtain ⟨a, cap, rfl, hc1, hc2, hcl⟩ := hv.open_
  obtain ⟨a', cap', rfl, hc1', hc2', hcl'⟩ := hu.open_
  by_cases hlen : L.length = M.length
  · have NO : Hid (∀ k (hk : k < L.length) (hk2 : k < M.length), L[k]'hk ≠ M[k]'hk2 → decide (L = M) = false) := Lib.hid fun k hk hk2 e => decide_eq_false fun e2 => by
      subst e2
      exact e rfl
    have YES : Hid ((∀ m (hm : m < L.length) (hm2 : m < M.length), L[m]'hm = M[m]'hm2) → decide (L = M) = true) := Lib.hid fun h0 => decide_eq_true (List.ext_getElem hlen fun i h1 h2 => h0 i h1 h2)
    obtain ⟨R, hR⟩ : ∃ R, R = decide (L = M) := ⟨_, rfl⟩
    rw [← hR] at YES NO ⊢
    clear hR hv hu
    obtain ⟨n, hnn⟩ : ∃ n, n = L.length := ⟨_, rfl⟩
    rw [← hnn] at hc1 hn hlen ⊢
    rw [← hlen] at hc1' hm ⊢
    have HN := Lib.hid hnn
    have HM := Lib.hid hlen
    clear hnn hlen
    have EQ := eq_Half
    go_enter Try.func22, Try.ntmps22
    go_wp2
    go_loopw [5] (fun j wr => ∃ k : Nat, k ≤ n ∧ j = .int .i64 (k : Int) ∧ Hid (∀ m (hm : m < L.length) (hm2 : m < M.length), m < k → L[m]'hm = M[m]'hm2) ∧ Hid (Below w.heap.size w wr)) (fun j wr => n - (intOf j).toNat)
    case atStart => exact ⟨0, by omega, rfl, Lib.hid fun m hm hm2 h => by omega, Lib.hid (Below.refl _ _)⟩
    case round =>
      obtain ⟨k, hk, rfl, hno, HB⟩ := hrel
      by_cases hlt : k < n
      · have hkl : k < L.length := by rw [← HN.out]; exact hlt
        have hkm : k < M.length := by rw [← HM.out]; exact hlt
        obtain ⟨g, o, rfl, hb, hc⟩ := hcl k hkl
        obtain ⟨g', o', rfl, hb', hc'⟩ := hcl' k hkm
        obtain ⟨c1, c2⟩ := hc wr HB.out
        obtain ⟨d1, d2⟩ := hc' wr HB.out
        have NK := Lib.hid (NO.out k hkl hkm)
        obtain ⟨x, hx⟩ : ∃ x, x = L[k]'hkl := ⟨_, rfl⟩
        obtain ⟨y, hy⟩ : ∃ y, y = M[k]'hkm := ⟨_, rfl⟩
        rw [← hx] at c1 c2 NK
        rw [← hy] at d1 d2 NK
        have HX := Lib.hid hx
        have HY := Lib.hid hy
        clear hx hcl hc hy hcl' hc'
        obtain ⟨xe, xb⟩ := x
        obtain ⟨ye, yb⟩ := y
        simp only at c1 c2 d1 d2
        obtain ⟨t, ht⟩ : ∃ t, t = decide (xe = ye ∧ xb = yb) := ⟨_, rfl⟩
        have EK : ∀ W, (Op.equalIn 10000 42 (.agg #[.int .i64 xe, .bool xb]) (.agg #[.int .i64 ye, .bool yb])).run Try.prog W = .ok t W := fun W => by rw [ht]; exact EQ xe ye xb yb W
        have HT := Lib.hid ht
        have hki : (k : Int) < (n : Int) := by omega
        clear ht EQ
        cases t with
        | false =>
          have h3 := Lib.hid (of_decide_eq_false HT.out.symm)
          have e1 : R = false := NK.out fun e => h3.out ⟨congrArg Prod.fst e, congrArg Prod.snd e⟩
          subst e1
          go_upto_region 6 with fail
          refine wp_region_seq (fun W => Below wr.heap.size wr W) (0 :: 1 :: 2 :: 3 :: 4 :: 5 :: 6 :: 7 :: 8 :: []) (3 :: 7 :: []) (0 :: 1 :: 2 :: 3 :: 4 :: 5 :: 6 :: 7 :: 8 :: []) (by kernel_rfl) (by kernel_rfl) rfl (by kernel_rfl) rfl ((Below.refl _ _).drew) (by simp only [picked, List.filterMap_cons, List.filterMap_nil, List.getElem?_cons_zero, List.getElem?_cons_succ, Option.map_some]; exact rfl) ?_
          iterate 9
            refine seq_want (v := ?_) rfl rfl (fun W hS => ?_) ?_
            rotate_left
            · first
                | (conv => lhs; simp [go_sem, hki, EK]
                   first | done | exact rfl)
                | (have hS := hS rfl
                   have d3 := keep hS c1
                   have d4 := keep hS c2
                   have d5 := keep hS d1
                   have d6 := keep hS d2
                   conv => lhs; simp [go_sem, *, hki, EK]
                   first | done | exact rfl)
            simp only [Act.put, List.setIfInBounds_toArray, List.set_cons_zero, List.set_cons_succ]
          refine seq_end ?_
          go_wp2
          go_ret
          exact ⟨rfl, HB.out.drew⟩
        | true =>
          have h3 := Lib.hid (of_decide_eq_true HT.out.symm)
          go_upto_region 6 with fail
          refine wp_region_seq (fun W => Below wr.heap.size wr W) (0 :: 1 :: 2 :: 3 :: 4 :: 5 :: 6 :: 7 :: 8 :: []) (3 :: 7 :: []) (0 :: 1 :: 2 :: 3 :: 4 :: 5 :: 6 :: 7 :: 8 :: []) (by kernel_rfl) (by kernel_rfl) rfl (by kernel_rfl) rfl ((Below.refl _ _).drew) (by simp only [picked, List.filterMap_cons, List.filterMap_nil, List.getElem?_cons_zero, List.getElem?_cons_succ, Option.map_some]; exact rfl) ?_
          iterate 9
            refine seq_want (v := ?_) rfl rfl (fun W hS => ?_) ?_
            rotate_left
            · first
                | (conv => lhs; simp [go_sem, hki, EK]
                   first | done | exact rfl)
                | (have hS := hS rfl
                   have d3 := keep hS c1
                   have d4 := keep hS c2
                   have d5 := keep hS d1
                   have d6 := keep hS d2
                   conv => lhs; simp [go_sem, *, hki, EK]
                   first | done | exact rfl)
            simp only [Act.put, List.setIfInBounds_toArray, List.set_cons_zero, List.set_cons_succ]
          refine seq_end ?_
          go_wp2
          go_roundw
          case rel =>
            refine ⟨k + 1, by omega, by go_num, Lib.hid fun m hm hm2 hmk => ?_, Lib.hid HB.out.drew⟩
            rcases Nat.lt_succ_iff_lt_or_eq.1 hmk with hmk | rfl
            · exact hno.out m hm hm2 hmk
            · rw [← HX.out, ← HY.out, h3.out.1, h3.out.2]
          case measure => simp [intOf] <;> omega
      · obtain rfl : k = n := by omega
        have e1 : R = true := YES.out fun m hm hm2 => hno.out m hm hm2 (by rw [HN.out]; exact hm)
        subst e1
        go_wp2
        go_ret
        exact ⟨rfl, HB.out⟩
  · rw [decide_eq_false fun e => hlen (congrArg List.length e)]
    clear hcl hcl' hv hu
    generalize L.length = n at *
    generalize M.length = m at *
    have hne : ((n : Int) != (m : Int)) = true := by simp; omega
    clear hlen
    go_enter Try.func22, Try.ntmps22
    go_wp2
    go_ret
    exact ⟨rfl, Below.refl _ _⟩
end
section
variable {v e : Value} {vs : List Vx} {es : List Eg} {w : World}
def fewS (vs : List Vx) (es : List Eg) : Bool := decide (vs.length ≤ 40) && decide (es.length ≤ 40)
theorem fewS_yes (h : fewS vs es = true) : vs.length ≤ 40 ∧ es.length ≤ 40 := by
  unfold fewS at h
  simpa using h
set_option maxRecDepth 10000 in
theorem sfew_any (hv : VIn w v vs) (he : EIn w e es) : Calls Try.prog 10 #[.agg #[v, e]] w fun r w' => r = .returned (.bool (fewS vs es)) ∧ Below w.heap.size w w' := by
  obtain ⟨a, c, rfl⟩ := hv.sl
  obtain ⟨a', c', rfl⟩ := he.sl
  clear hv he
  have BB := Lib.hid (bx1 w 25 #[.slice a vs.length c, .slice a' es.length c'])
  unfold fewS
  have e1 : decide ((vs.length : Int) ≤ 40) = decide (vs.length ≤ 40) := by by_cases k : vs.length ≤ 40 <;> simp [k] <;> omega
  have e2 : decide ((es.length : Int) ≤ 40) = decide (es.length ≤ 40) := by by_cases k : es.length ≤ 40 <;> simp [k] <;> omega
  rw [← e1, ← e2]
  clear e1 e2
  generalize vs.length = n at *
  generalize es.length = m at *
  by_cases k : (n : Int) ≤ 40
  · have t1 : decide ((n : Int) ≤ 40) = true := by simpa using k
    rw [t1]
    clear k
    go_enter Try.func10, Try.ntmps10
    go_wp2
    go_ret
    exact ⟨rfl, BB.out⟩
  · have t1 : decide ((n : Int) ≤ 40) = false := by simpa using k
    rw [t1]
    clear k
    go_enter Try.func10, Try.ntmps10
    go_wp2
    go_ret
    exact ⟨rfl, BB.out⟩
set_option maxRecDepth 10000 in
theorem splain_any (hv : VIn w v vs) (he : EIn w e es) : Calls Try.prog 12 #[.agg #[v, e]] w fun r w' => r = .returned (.agg #[v, e]) ∧ Below w.heap.size w w' := by
  obtain ⟨a, c, rfl⟩ := hv.sl
  obtain ⟨a', c', rfl⟩ := he.sl
  clear hv he
  go_enter Try.func12, Try.ntmps12
  go_wp2
  refine bodyPost_ret (by simp [results, Try.results12, go_sem]) rfl ⟨rfl, ?_⟩
  repeat' (first | (with_reducible exact Below.refl _ _) | (with_reducible assumption) | (with_reducible refine below_drewN ?_ _) | (with_reducible refine Below.drew ?_) | (with_reducible refine Below.alloc ?_ ?_ _) | (with_reducible refine Below.setCell ?_ ?_ _) | (with_reducible refine then_ ?_ (by with_reducible assumption) ?_) | (with_reducible exact Nat.le_refl _) | (with_reducible exact Nat.le_succ _) | (with_reducible exact Nat.le_succ_of_le (by with_reducible assumption)) | omega | (simp; done) | (simp; omega) | (exact Nat.le_succ _) | (exact Nat.le_succ_of_le (by with_reducible assumption)))
end
end Go.Proofs.Ythakafnecddliaa.Pl
end
section
namespace Go.Proofs.Ythakafnecddliaa.Pl
open Go.ChangeShapes Go.WideShapes Go.ChangeAt Go.RowKit Go.Proofs.Ythakafnecddliaa.Mp
set_option linter.unusedVariables false
set_option linter.unusedSimpArgs false

theorem RgAt.shape {w : World} {B : Nat} {v : Value} {PL : List (Value × List Hf)} (h : RgAt w B v PL) : ∃ a c, v = .slice a PL.length c ∧ PL.length ≤ c ∧ c ≤ maxLen := by
  rcases h.1.2 with ⟨rfl, h0⟩ | ⟨g, cap, cur, rfl, h1, h2, h3, h4, h5, h6⟩
  · exact ⟨none, 0, by rw [h0], by omega, Nat.zero_le _⟩
  · exact ⟨_, cap, rfl, h3, h4⟩
theorem RgAt.cell {w : World} {B n c : Nat} {a : Option Addr} {PL : List (Value × List Hf)} (h : RgAt w B (.slice a n c) PL) {i : Nat} (hi : i < PL.length) : ∃ g, a = some ⟨g, 0, none⟩ ∧ g < w.heap.size ∧ w.cell? ⟨g, i, none⟩ = some (PL[i]'hi).1 ∧ HOwn w B (PL[i]'hi).1 (PL[i]'hi).2 := by
  rcases h.1.2 with ⟨_, h0⟩ | ⟨g, cap, cur, e, h1, h2, h3, h4, h5, h6⟩
  · omega
  · injection e with e1 e2 e3
    have ho : Own w g 40 cur := h2
    refine ⟨g, e1, ho.in_, ?_, h.2 _ (List.getElem_mem hi)⟩
    rw [ho.at_.1]
    have e4 : (PL.map (·.1))[i]? = some (PL[i]'hi).1 := by rw [List.getElem?_map, List.getElem?_eq_getElem hi]; rfl
    rw [← h6, List.getElem?_take_of_lt (by omega), Array.getElem?_toList] at e4
    exact e4
def exS : List Vx := [⟨1, 0, 0⟩, ⟨2, 4, 0⟩]
def exT : List Eg := [⟨1, 1, 2⟩]
theorem exs_rt : Rt exS exT := by
  rw [rt_iff]
  refine ⟨⟨?_, ?_, ?_, ?_, ?_⟩, ⟨?_, ?_, ?_, ?_, ?_, ?_, ?_⟩⟩
  case refine_10 => decide +kernel
  all_goals simp [exS, exT, inB, hasV, fV]
theorem exs_rg : rg exS exT = [[(1, false), (1, true)]] := by decide +kernel
theorem six_row {w : World} {g : Nat} (h : Own w g 39 #[.int .i64 1, .int .i64 0, .int .i64 0, .int .i64 2, .int .i64 4, .int .i64 0]) : VIn w (.slice (some ⟨g, 0, none⟩) 2 2) exS := by
  refine ⟨_, 2, rfl, by simp [exS], by unfold maxLen; omega, .inr ⟨g, 0, rfl, h.in_, fun i hi => ?_⟩⟩
  have k := h.at_.1
  have hi3 : i < 2 := hi
  rw [k, k, k]
  match i, hi3 with
  | 0, _ => exact ⟨rfl, rfl, rfl⟩
  | 1, _ => exact ⟨rfl, rfl, rfl⟩
theorem one_row {w : World} {g : Nat} (h : Own w g 61 #[.int .i64 1, .int .i64 1, .int .i64 2]) : EIn w (.slice (some ⟨g, 0, none⟩) 1 1) exT := by
  refine ⟨_, 1, rfl, by simp [exT], by unfold maxLen; omega, .inr ⟨g, 0, rfl, h.in_, fun i hi => ?_⟩⟩
  have k := h.at_.1
  have hi3 : i < 1 := hi
  rw [k, k, k]
  match i, hi3 with
  | 0, _ => exact ⟨rfl, rfl, rfl⟩
theorem two_row {w : World} {g : Nat} (h : Own w g 42 #[.int .i64 1, .bool false, .int .i64 1, .bool true]) : HIn w (.slice (some ⟨g, 0, none⟩) 2 2) [(1, false), (1, true)] := by
  refine ⟨_, 2, rfl, by simp, by unfold maxLen; omega, .inr ⟨g, 0, rfl, h.in_, fun i hi => ?_⟩⟩
  have k := h.at_.1
  have hi3 : i < 2 := hi
  rw [k, k]
  match i, hi3 with
  | 0, _ => exact ⟨rfl, rfl⟩
  | 1, _ => exact ⟨rfl, rfl⟩
set_option maxRecDepth 10000 in
theorem sawake_any (w : World) : Calls Try.prog 9 #[] w fun r w' => r = .returned (.bool true) ∧ Below w.heap.size w w' := by
  have RG := Lib.hid (fun (W : World) (v e : Value) (hv : VIn W v exS) (he : EIn W e exT) => rings_any hv he (by decide) (by decide))
  rw [(pvs_yes exs_rt).1, (pvs_yes exs_rt).2, exs_rg] at RG
  have SM := Lib.hid (fun (W : World) (v u : Value) (L M : List Hf) (hv : HIn W v L) (hu : HIn W u M) (h1 : L.length ≤ 100000) (h2 : M.length ≤ 100000) => rsame_any hv hu h1 h2)
  obtain ⟨W0, hW0⟩ : ∃ W0, W0 = ((w.alloc (.cells #[.int .i64 1, .int .i64 0, .int .i64 0, .int .i64 2, .int .i64 4, .int .i64 0] 39)).alloc (.cells #[.int .i64 1, .int .i64 1, .int .i64 2] 61)).alloc (.cells #[.slice (some ⟨w.heap.size, 0, none⟩) 2 2, .slice (some ⟨w.heap.size + 1, 0, none⟩) 1 1] 30) := ⟨_, rfl⟩
  have B0 : Hid (Below w.heap.size w W0) := Lib.hid (by rw [hW0]; repeat' (first | (with_reducible exact Below.refl _ _) | (with_reducible assumption) | (with_reducible refine below_drewN ?_ _) | (with_reducible refine Below.drew ?_) | (with_reducible refine Below.alloc ?_ ?_ _) | (with_reducible refine Below.setCell ?_ ?_ _) | (with_reducible refine then_ ?_ (by with_reducible assumption) ?_) | (with_reducible exact Nat.le_refl _) | (with_reducible exact Nat.le_succ _) | (with_reducible exact Nat.le_succ_of_le (by with_reducible assumption)) | omega | (simp; done) | (simp; omega) | (exact Nat.le_succ _) | (exact Nat.le_succ_of_le (by with_reducible assumption))))
  have O0 : Hid (Own W0 (w.heap.size + 1 + 1) 30 #[.slice (some ⟨w.heap.size, 0, none⟩) 2 2, .slice (some ⟨w.heap.size + 1, 0, none⟩) 1 1]) := Lib.hid (by rw [hW0]; exact Own.made_at (by simp))
  have V0 : Hid (VIn W0 (.slice (some ⟨w.heap.size, 0, none⟩) 2 2) exS) := Lib.hid (six_row (by rw [hW0]; exact ((Own.made _ _ _).more _).more _))
  have E0 : Hid (EIn W0 (.slice (some ⟨w.heap.size + 1, 0, none⟩) 1 1) exT) := Lib.hid (one_row (by rw [hW0]; exact (Own.made_at (by simp)).more _))
  go_enter Try.func9, Try.ntmps9
  go_upto_region 2 with fail
  rw [← hW0]
  clear hW0
  obtain ⟨p1, p2⟩ := half_at O0.out
  go_upto_region 3 with (go_at_call 11; refine (RG.out _ _ _ V0.out E0.out).mono ?_; rintro e w1 ⟨u, PL, rfl, r1, r2, b1⟩; have R1 := Lib.hid r1; have R2 := Lib.hid r2; have B1 := Lib.hid (then_ B0.out b1 B0.out.size); clear r1 r2 b1)
  obtain ⟨x, rfl⟩ : ∃ x, PL = [x] := by
    have := congrArg List.length R2.out
    rw [List.length_map] at this
    exact List.length_eq_one_iff.1 this
  obtain ⟨x1, x2⟩ := x
  obtain rfl : x2 = [(1, false), (1, true)] := by simpa using R2.out
  obtain ⟨a, c, hsh, hc1, hc2⟩ := R1.out.shape
  subst hsh
  obtain ⟨g, rfl, hg, hcl, ho⟩ := R1.out.cell (i := 0) (by simp)
  simp only [List.getElem_cons_zero] at hcl ho
  obtain ⟨xa, xc, hx1⟩ := ho.shape
  subst hx1
  have BX := Lib.hid (bx1 w1 42 #[.int .i64 1, .bool false, .int .i64 1, .bool true])
  have HI := Lib.hid (ho.in_.below BX.out)
  have HJ := Lib.hid (two_row (Own.made w1 42 #[.int .i64 1, .bool false, .int .i64 1, .bool true]))
  have hlen : ([(Value.slice xa [((1 : Int), false), (1, true)].length xc, [((1 : Int), false), (1, true)])] : List (Value × List Hf)).length = 1 := rfl
  have hlen2 : [((1 : Int), false), (1, true)].length = 2 := rfl
  rw [hlen]
  rw [hlen2] at hcl HI
  clear R1 R2 ho hlen hlen2
  go_wp2_with (go_at_call 22; refine (SM.out _ _ _ _ _ HI.out HJ.out (by decide) (by decide)).mono ?_; rintro e w2 ⟨rfl, b2⟩; have B2 := Lib.hid (then_ (then_ B1.out BX.out B1.out.size) b2 (then_ B1.out BX.out B1.out.size).size); clear b2)
  go_ret
  exact ⟨rfl, B2.out⟩
end Go.Proofs.Ythakafnecddliaa.Pl
end
