
/- The contracts of the document's Pin and Clean. Conditions: those that each theorem names. -/
import Derived.Test.YtjncmaaofminkaaPorE
namespace Go.Proofs.Ytjncmaaofminkaa
open Go.ChangeShapes Go.WideShapes Go.ChangeAt Go.RowKit
set_option linter.unusedVariables false
set_option linter.unusedSimpArgs false

theorem row_put {w : World} {B : Nat} {e : TypeId} {size g n cap : Nat} {xs : List Value} (h : w.ownsRow B e size (.slice (some ⟨g, 0, none⟩) n cap) n xs) (j : Nat) (u : Value) : (w.setCell ⟨g, j, none⟩ u).ownsRow B e size (.slice (some ⟨g, 0, none⟩) n cap) n (xs.set j u) := by
  refine ⟨by rw [List.length_set]; exact h.1, ?_⟩
  rcases h.2 with ⟨h0, _⟩ | ⟨g', cap', cur, h0, r1, r2, r3, r4, r5, r6⟩
  · cases h0
  · obtain ⟨h1, -, rfl⟩ := Value.slice.inj h0
    obtain rfl : g = g' := by simpa using h1
    refine .inr ⟨g, cap, cur.setIfInBounds j u, rfl, r1, ?_, r3, r4, by simpa using r5, ?_⟩
    · simp [World.setCell, Array.getElem?_modify, r2]
    · rw [Array.toList_setIfInBounds, List.take_set, r6]
theorem fcs_set (S T : List RF) (f f' : RF) (q : Nat) (u : Value) (hq : q < 4) (h : (fc f).set q u = fc f') : (fcs (S ++ f :: T)).set (S.length * 4 + q) u = fcs (S ++ f' :: T) := by
  have e1 : fcs (f :: T) = fc f ++ fcs T := by simp [fcs]
  have e2 : fcs (f' :: T) = fc f' ++ fcs T := by simp [fcs]
  rw [fcs_app, fcs_app, List.set_append_right _ _ (by rw [fcs_len]; omega), fcs_len, show S.length * 4 + q - S.length * 4 = q by omega, e1, e2, List.set_append_left _ _ (by simp [fc]; omega), h]
section
variable {w w' W w5 : World} {B p n c : Nat} {v v1 v' : Value} {R R1 R2 S T : List RF} {f f' : RF}
/-- a cell of one frame is turned -/
theorem RefAt.turn (h : RefAt w B p n v (S ++ f :: T)) {g : Nat} (hg : v.ownBlock = some g) (q : Nat) (u : Value) (hq : q < 4) (hu : (fc f).set q u = fc f') : RefAt (w.setCell ⟨g, S.length * 4 + q, none⟩ u) B p n v (S ++ f' :: T) := by
  have hne := h.ne hg
  refine ⟨(chg_at w g _ u).own h.own (by omega), ?_, h.base⟩
  have hr := h.row
  rcases hr.2 with ⟨rfl, _⟩ | ⟨g', cap, cur, rfl, _⟩
  · cases hg
  · obtain rfl : g' = g := by simpa [Value.ownBlock] using hg
    have := row_put hr (S.length * 4 + q) u
    rw [fcs_set S T f f' q u hq hu] at this
    have e : (S ++ f' :: T).length = (S ++ f :: T).length := by simp
    rw [e]
    exact this
theorem RefAt.frozen (h : RefAt w B p n v R) {g : Nat} (hg : v.ownBlock = some g) : ∀ j, w.frozen? ⟨g, j, none⟩ = false := by
  intro j
  rcases h.row.2 with ⟨rfl, _⟩ | ⟨g', cap, cur, rfl, _, h1, _⟩
  · cases hg
  · obtain rfl : g' = g := by simpa [Value.ownBlock] using hg
    simp [World.frozen?, h1]
theorem drew_left {g j : Nat} {u : Value} (h : Left w (w.setCell ⟨g, j, none⟩ u) B p n v R) : Left w (w.drew.setCell ⟨g, j, none⟩ u) B p n v R := by
  obtain ⟨v', h1, h2, h3⟩ := h
  exact ⟨v', h1.drew_, h2.drew, h3⟩
theorem Left.turned {g : Nat} (hg : v.ownBlock = some g) (j : Nat) (u : Value) (h : RefAt (w.setCell ⟨g, j, none⟩ u) B p n v R) : Left w (w.setCell ⟨g, j, none⟩ u) B p n v R :=
  ⟨v, h, (chg_at w g j u).mono fun q _ e => .inr (by rw [hg, e]), fun g' h' => .inl h'⟩
set_option maxRecDepth 10000 in
set_option maxHeartbeats 1000000 in
theorem rpin_up (h : RefAt w B p n v R) (hR : OkR R n c) (hn : n ≤ 65536) (hc : c ≤ 1000000) (no : Int) : Calls Try.prog 19 #[.pointer (some ⟨p, 0, none⟩), .int .i64 no, .int .i64 1] w fun e w' =>
    e = .returned (.bool (pinR R no).1) ∧ Left w w' B p n v (pinR R no).2 := by
  have hl : R.length ≤ 65536 := Nat.le_trans hR.few hn
  have HF := rfind_any h no (by omega)
  cases hk : look R no with
  | none =>
    have E := Lib.hid (show pinR R no = (false, R) by unfold pinR; rw [hk])
    rw [idx_none fun x hx e => look_none hk (List.mem_map.2 ⟨x, hx, e⟩)] at HF
    replace HF := Lib.hid HF
    have H := Lib.hid h
    clear h hk hR
    go_enter Try.func19, Try.ntmps19
    go_wp2_with (go_at_call 30; refine HF.out.mono ?_; rintro e w' ⟨rfl, rfl⟩)
    go_ret
    rw [E.out]
    exact ⟨rfl, Left.same H.out⟩
  | some x =>
    obtain ⟨rfl, S, T, rfl⟩ := look_some hk
    have E := Lib.hid (show pinR (S ++ x :: T) x.no = (true, S ++ up x :: T) by unfold pinR; rw [hk]; simp only; rw [upd_at hR.nos])
    rw [idx_mid hR.nos] at HF
    have hpn : x.pins ≤ c := hR.pins x (by simp)
    have hmN : S.length < (S ++ x :: T).length := by simp
    obtain ⟨a, cp, rfl, hc1, hc2, hcell⟩ := h.slice
    obtain ⟨g, rfl, hg, -, -, -, c3⟩ := hcell S.length hmN
    rw [get_mid] at c3
    have FZ := h.frozen hg
    have L1 := Left.turned hg _ _ (h.turn (f' := up x) hg 3 (.int .i64 ((x.pins : Int) + 1)) (by omega) rfl)
    replace L1 := Lib.hid L1
    obtain ⟨N, hN⟩ : ∃ N, N = (S ++ x :: T).length := ⟨_, rfl⟩
    obtain ⟨m, hm⟩ : ∃ m, m = S.length := ⟨_, rfl⟩
    obtain ⟨pn, hpe⟩ : ∃ pn, pn = x.pins := ⟨_, rfl⟩
    have P0 : Own w p 39 #[.int .i64 (n : Int), .slice (some ⟨g, 0, none⟩) N cp] := by rw [hN]; exact h.own
    rw [← hm] at HF c3 hmN L1
    rw [← hN] at hl hc1 hmN L1
    rw [← hpe] at hpn c3 L1
    unfold maxLen at hc2
    replace HF := Lib.hid HF
    have HC := Lib.hid (And.intro P0 c3)
    have DL := Lib.hid (drew_left L1.out)
    have hmi : (m : Int) < (N : Int) := by omega
    have hwr : RowKit.wrap64 ((pn : Int) + 1) = (pn : Int) + 1 := by unfold RowKit.wrap64; omega
    clear h hk hR hcell hN hm hpe hg c3 P0 L1
    go_enter Try.func19, Try.ntmps19
    go_upto_region 4 with (go_at_call 30; refine HF.out.mono ?_; rintro e w' ⟨rfl, rfl⟩)
    refine wp_region_seq (fun W => Own W p 39 #[.int .i64 (n : Int), .slice (some ⟨g, 0, none⟩) N cp] ∧ W.cell? ⟨g, m * 4 + 3, none⟩ = some (.int .i64 (pn : Int))) (0 :: 1 :: 2 :: 3 :: 4 :: 5 :: 6 :: 7 :: 8 :: 9 :: 10 :: 11 :: 12 :: 13 :: 14 :: 15 :: 16 :: []) (3 :: 8 :: 12 :: []) (0 :: 1 :: 2 :: 3 :: 4 :: 5 :: 6 :: 7 :: 8 :: 9 :: 10 :: 11 :: 12 :: 13 :: 14 :: 15 :: 16 :: 17 :: []) (by kernel_rfl) (by kernel_rfl) rfl (by kernel_rfl) rfl (HC.out) (by simp only [picked, List.filterMap_cons, List.filterMap_nil, List.getElem?_cons_zero, List.getElem?_cons_succ, Option.map_some]; exact rfl) ?_
    iterate 17
      refine seq_want (v := ?_) rfl rfl (fun W hS => ?_) ?_
      rotate_left
      · first
          | (conv => lhs; simp [go_sem, hmi, hwr]
             first | done | exact rfl)
          | (have hS := hS rfl
             obtain ⟨q1, q2⟩ := hS
             obtain ⟨q1, q3, q4⟩ := q1.at_
             conv => lhs; simp [go_sem, *, hmi, hwr]
             first | done | exact rfl)
      simp only [Act.put, List.setIfInBounds_toArray, List.set_cons_zero, List.set_cons_succ]
    refine seq_last rfl rfl (by kernel_rfl) rfl fun K hK => ?_
    obtain ⟨t1, t2⟩ := HC.out
    go_wp2
    refine hK _ _ ?_
    clear hK K t1 t2
    refine seq_end ?_
    go_wp2
    go_ret
    rw [E.out]
    exact ⟨rfl, DL.out⟩
set_option maxRecDepth 10000 in
set_option maxHeartbeats 1000000 in
theorem rpin_down (h : RefAt w B p n v R) (hR : OkR R n c) (hn : n ≤ 65536) (hc : c ≤ 1000000) (no : Int) : Calls Try.prog 19 #[.pointer (some ⟨p, 0, none⟩), .int .i64 no, .int .i64 (-1)] w fun e w' =>
    e = .returned (.bool (unpinR R no).1) ∧ Left w w' B p n v (unpinR R no).2 := by
  have hl : R.length ≤ 65536 := Nat.le_trans hR.few hn
  have HF := rfind_any h no (by omega)
  cases hk : look R no with
  | none =>
    have E := Lib.hid (show unpinR R no = (false, R) by unfold unpinR; rw [hk])
    rw [idx_none fun x hx e => look_none hk (List.mem_map.2 ⟨x, hx, e⟩)] at HF
    replace HF := Lib.hid HF
    have H := Lib.hid h
    clear h hk hR
    go_enter Try.func19, Try.ntmps19
    go_wp2_with (go_at_call 30; refine HF.out.mono ?_; rintro e w' ⟨rfl, rfl⟩)
    go_ret
    rw [E.out]
    exact ⟨rfl, Left.same H.out⟩
  | some x =>
    obtain ⟨rfl, S, T, rfl⟩ := look_some hk
    rw [idx_mid hR.nos] at HF
    have hpn : x.pins ≤ c := hR.pins x (by simp)
    have hmN : S.length < (S ++ x :: T).length := by simp
    obtain ⟨a, cp, rfl, hc1, hc2, hcell⟩ := h.slice
    obtain ⟨g, rfl, hg, -, -, -, c3⟩ := hcell S.length hmN
    rw [get_mid] at c3
    have FZ := h.frozen hg
    obtain ⟨N, hN⟩ : ∃ N, N = (S ++ x :: T).length := ⟨_, rfl⟩
    obtain ⟨m, hm⟩ : ∃ m, m = S.length := ⟨_, rfl⟩
    obtain ⟨pn, hpe⟩ : ∃ pn, pn = x.pins := ⟨_, rfl⟩
    have H := Lib.hid h
    have P0 : Own w p 39 #[.int .i64 (n : Int), .slice (some ⟨g, 0, none⟩) N cp] := by rw [hN]; exact h.own
    rw [← hm] at HF c3 hmN
    rw [← hN] at hl hc1 hmN
    rw [← hpe] at hpn c3
    unfold maxLen at hc2
    replace HF := Lib.hid HF
    have HC := Lib.hid (And.intro P0 c3)
    have hmi : (m : Int) < (N : Int) := by omega
    obtain ⟨t1, t2, t3⟩ := P0.at_
    by_cases h0 : pn = 0
    · have E := Lib.hid (show unpinR (S ++ x :: T) x.no = (false, S ++ x :: T) by unfold unpinR; rw [hk]; simp only; rw [if_pos (by omega)])
      have t0 : ((pn : Int) == 0) = true := by simp; omega
      clear h hk hR hcell hN hm hpe hg P0 h0
      go_enter Try.func19, Try.ntmps19
      go_wp2_with (go_at_call 30; refine HF.out.mono ?_; rintro e w' ⟨rfl, rfl⟩)
      go_ret
      rw [E.out]
      exact ⟨rfl, Left.same H.out⟩
    · have E := Lib.hid (show unpinR (S ++ x :: T) x.no = (true, S ++ down x :: T) by unfold unpinR; rw [hk]; simp only; rw [if_neg (by omega), upd_at hR.nos])
      have t0 : ((pn : Int) == 0) = false := by simp; omega
      have L1 := Left.turned hg _ _ (h.turn (f' := down x) hg 3 (.int .i64 ((pn : Int) + -1)) (by omega) (by
        show [_, _, _, _] = [_, _, _, _]
        simp only [List.cons.injEq, Value.int.injEq, true_and, and_true]
        exact ⟨rfl, rfl, rfl, by show (pn : Int) + -1 = ((x.pins - 1 : Nat) : Int); omega⟩))
      rw [← hm] at L1
      have DL := Lib.hid (drew_left L1)
      have hwr : RowKit.wrap64 ((pn : Int) + -1) = (pn : Int) + -1 := by unfold RowKit.wrap64; omega
      clear h hk hR hcell hN hm hpe hg P0 L1
      go_enter Try.func19, Try.ntmps19
      go_upto_region 4 with (go_at_call 30; refine HF.out.mono ?_; rintro e w' ⟨rfl, rfl⟩)
      refine wp_region_seq (fun W => Own W p 39 #[.int .i64 (n : Int), .slice (some ⟨g, 0, none⟩) N cp] ∧ W.cell? ⟨g, m * 4 + 3, none⟩ = some (.int .i64 (pn : Int))) (0 :: 1 :: 2 :: 3 :: 4 :: 5 :: 6 :: 7 :: 8 :: 9 :: 10 :: 11 :: 12 :: 13 :: 14 :: 15 :: 16 :: []) (3 :: 8 :: 12 :: []) (0 :: 1 :: 2 :: 3 :: 4 :: 5 :: 6 :: 7 :: 8 :: 9 :: 10 :: 11 :: 12 :: 13 :: 14 :: 15 :: 16 :: 17 :: []) (by kernel_rfl) (by kernel_rfl) rfl (by kernel_rfl) rfl (HC.out) (by simp only [picked, List.filterMap_cons, List.filterMap_nil, List.getElem?_cons_zero, List.getElem?_cons_succ, Option.map_some]; exact rfl) ?_
      iterate 17
        refine seq_want (v := ?_) rfl rfl (fun W hS => ?_) ?_
        rotate_left
        · first
            | (conv => lhs; simp [go_sem, hmi, hwr]
               first | done | exact rfl)
            | (have hS := hS rfl
               obtain ⟨q1, q2⟩ := hS
               obtain ⟨q1, q3, q4⟩ := q1.at_
               conv => lhs; simp [go_sem, *, hmi, hwr]
               first | done | exact rfl)
        simp only [Act.put, List.setIfInBounds_toArray, List.set_cons_zero, List.set_cons_succ]
      refine seq_last rfl rfl (by kernel_rfl) rfl fun K hK => ?_
      obtain ⟨t1, t2⟩ := HC.out
      go_wp2
      refine hK _ _ ?_
      clear hK K t1 t2
      refine seq_end ?_
      go_wp2
      go_ret
      rw [E.out]
      exact ⟨rfl, DL.out⟩
set_option maxRecDepth 10000 in
set_option maxHeartbeats 1000000 in
theorem rclean_any (h : RefAt w B p n v R) (hl : R.length ≤ 100000) : Calls Try.prog 20 #[.pointer (some ⟨p, 0, none⟩)] w fun e w' => e = .returned (.tuple #[]) ∧ Left w w' B p n v (cleanR R) := by
  obtain ⟨N, hN⟩ : ∃ N, N = R.length := ⟨_, rfl⟩
  have HN := Lib.hid hN
  have H := Lib.hid h
  rw [← hN] at hl
  clear h hN
  go_enter Try.func20, Try.ntmps20
  go_wp2
  go_loopw [2] (fun i wr => ∃ k : Nat, k ≤ N ∧ i = .int .i64 k ∧ RefAt wr B p n v (cleanR (R.take k) ++ R.drop k) ∧ Chg (fref p v) w wr) (fun i wr => N - (intOf i).toNat)
  case atStart => exact ⟨0, by omega, rfl, by simpa [cleanR] using H.out, Chg.refl _ _⟩
  case round =>
    obtain ⟨k, hk, rfl, hr, hc⟩ := hrel
    have HC := Lib.hid hc
    have HR := Lib.hid hr
    have e0 : (cleanR (R.take k) ++ R.drop k).length = N := by rw [HN.out]; simp [cleanR]; have := HN.out; omega
    obtain ⟨a, cp, hv, hc1, hc2, hcell⟩ := hr.slice
    rw [e0] at hv hc1
    have hP := hr.own
    rw [hv] at hP
    obtain ⟨o1, o2, o3⟩ := hP.at_
    have HV := Lib.hid hv
    unfold maxLen at hc2
    by_cases hlt : k < N
    · have hlt2 : k < R.length := by rw [← HN.out]; exact hlt
      have hkl : (cleanR (R.take k)).length = k := by simp [cleanR]; omega
      obtain ⟨g, rfl, hg, -, -, c2, -⟩ := hcell k (by rw [e0]; exact hlt)
      obtain ⟨x, hx⟩ : ∃ x, x = R[k]'hlt2 := ⟨_, rfl⟩
      have e1 : cleanR (R.take k) ++ R.drop k = cleanR (R.take k) ++ x :: R.drop (k + 1) := by rw [List.drop_eq_getElem_cons hlt2, hx]
      have e2 : (cleanR (R.take k) ++ R.drop k)[k]'(by rw [e0]; exact hlt) = x := by
        have h9 : (cleanR (R.take k) ++ R.drop k)[k]? = some x := by
          rw [e1, List.getElem?_append_right (by omega), hkl, Nat.sub_self]; rfl
        exact (List.getElem?_eq_some_iff.1 h9).2
      rw [e2] at c2
      have FZ := hr.frozen hg
      have e3 : cleanR (R.take (k + 1)) ++ R.drop (k + 1) = cleanR (R.take k) ++ clean x :: R.drop (k + 1) := by
        rw [List.take_succ_eq_append_getElem hlt2, ← hx]
        simp [cleanR]
      have r2 : RefAt (wr.setCell ⟨g, k * 4 + 2, none⟩ (.bool false)) B p n v (cleanR (R.take (k + 1)) ++ R.drop (k + 1)) := by
        rw [e3]
        have := RefAt.turn (S := cleanR (R.take k)) (T := R.drop (k + 1)) (f := x) (f' := clean x) (e1 ▸ hr) hg 2 (.bool false) (by omega) rfl
        rw [hkl] at this
        exact this
      have c9 : Chg (fref p v) w (wr.setCell ⟨g, k * 4 + 2, none⟩ (.bool false)) := HC.out.same ((chg_at wr g _ _).mono fun q _ e => .inr (by rw [hg, e]))
      have R2 := Lib.hid r2
      have C2 := Lib.hid c9
      have FZ2 := FZ (k * 4 + 2)
      clear hr hc hcell hv hP hx e1 e2 e3 r2 c9 hkl e0 FZ hg
      go_wp2
      go_roundw
      case rel => exact ⟨k + 1, by omega, by go_num, R2.out, C2.out⟩
      case measure => simp [intOf] <;> omega
    · obtain rfl : k = N := by omega
      have e4 : cleanR (R.take k) ++ R.drop k = cleanR R := by rw [HN.out]; simp
      rw [e4] at HR
      clear hr hc hcell hv hP e0 e4
      go_wp2
      go_end0
      exact ⟨rfl, v, HR.out, HC.out, fun g hg => .inl hg⟩
end
end Go.Proofs.Ytjncmaaofminkaa
