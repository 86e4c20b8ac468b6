
/- The contract of the document's without. Conditions: those that each theorem names. -/
import Derived.Test.YtjncmaaofminkaaPorA
namespace Go.Proofs.Ytjncmaaofminkaa
open Go.ChangeShapes Go.WideShapes Go.ChangeAt Go.RowKit
set_option linter.unusedVariables false
set_option linter.unusedSimpArgs false

theorem info_fr : (Try.prog.info? 60).map (fun i => (i.zero, i.size, i.bytes)) = some (some (.agg #[.int .i64 0, .string ⟨#[]⟩, .bool false, .int .i64 0]), 4, 40) := by kernel_rfl
theorem many_cells (W : World) (T : TypeId) (cs : Array Value) (j : Nat) {u : Value} (hu : cs[j]? = some u) : (W.alloc (.cells cs T)).cell? ((⟨W.heap.size, 0, none⟩ : Addr).add j) = some u := by
  have e : (⟨W.heap.size, 0, none⟩ : Addr).add j = ⟨W.heap.size, j, none⟩ := by unfold Addr.add; split <;> simp_all
  rw [e]
  exact ((Own.made W T cs).at_.1 j).trans hu
def fca (f : RF) : Array Value := #[.int .i64 f.no, .string f.s, .bool f.dirty, .int .i64 (f.pins : Int)]
/-- the first k frames but the one at m -/
def butAt (R : List RF) (m k : Nat) : List RF := (R.take k).eraseIdx m
theorem butAt_skip (R : List RF) (m : Nat) : butAt R m (m + 1) = butAt R m m := by
  unfold butAt
  by_cases h : m < R.length
  · rw [List.take_succ_eq_append_getElem h, List.eraseIdx_append_of_length_le (by simp; omega), List.length_take, Nat.min_eq_left (by omega), Nat.sub_self]
    rw [List.eraseIdx_of_length_le (l := R.take m) (by simp; omega)]
    simp
  · rw [List.take_of_length_le (by omega), List.take_of_length_le (by omega)]
theorem butAt_next (R : List RF) (m k : Nat) (hk : k < R.length) (h : k ≠ m) : butAt R m (k + 1) = butAt R m k ++ [R[k]'hk] := by
  unfold butAt
  rw [List.take_succ_eq_append_getElem hk]
  by_cases h1 : k < m
  · rw [List.eraseIdx_append_of_length_le (by simp; omega), List.eraseIdx_of_length_le (l := R.take k) (by simp; omega)]
    rw [List.eraseIdx_of_length_le (l := [R[k]]) (by simp; omega)]
  · rw [List.eraseIdx_append_of_lt_length (by simp; omega)]
theorem butAt_all (S T : List RF) (f : RF) : butAt (S ++ f :: T) S.length (S ++ f :: T).length = S ++ T := by
  unfold butAt
  rw [List.take_length, List.eraseIdx_append_of_length_le (Nat.le_refl _), Nat.sub_self]
  rfl
theorem butAt_len (R : List RF) (m k : Nat) : (butAt R m k).length ≤ k := by
  unfold butAt
  exact Nat.le_trans (List.length_eraseIdx_le _ _) (by simp; omega)
section
variable {w w' : World} {B p n c : Nat} {v : Value} {R S T : List RF} {f : RF}
theorem row_base {w : World} {B B' : Nat} {e : TypeId} {size : Nat} {v : Value} {n : Nat} {xs : List Value} (h : w.ownsRow B e size v n xs) (hB : B' ≤ B) : w.ownsRow B' e size v n xs := by
  refine ⟨h.1, ?_⟩
  rcases h.2 with h2 | ⟨g, cap, cur, rfl, r1, r2⟩
  · exact .inl h2
  · exact .inr ⟨g, cap, cur, rfl, by omega, r2⟩
/-- the pool's frames are another row -/
theorem RefAt.assign {v' : Value} {R' : List RF} {B' : Nat} (h : RefAt w B p n v R) (hr : w.ownsRow B' 60 4 v' R'.length (fcs R')) (hB : B ≤ B') : RefAt (w.setCell ⟨p, 1, none⟩ v') B p n v' R' := by
  refine ⟨Own.put h.own 1 _, ownsRow_keepB (row_base hr hB) fun g hg => (chg_at w p 1 v').block g (hr.lt g hg).2 fun e => ?_, h.base⟩
  subst e
  rcases hr.2 with ⟨rfl, _⟩ | ⟨g', cap, cur, rfl, _, h1, _⟩
  · cases hg
  · obtain rfl : g' = g := by simpa [Value.ownBlock] using hg
    have := h.own
    unfold Own at this
    rw [this] at h1
    injection h1 with h1
    injection h1 with h1 h2
    exact absurd h2 (by decide)
set_option maxRecDepth 10000 in
set_option maxHeartbeats 1000000 in
theorem without_any (h : RefAt w B p n v R) (hl : R.length ≤ 1000000) (hBw : B ≤ w.heap.size) (m : Nat) (hm : m < R.length) : Calls Try.prog 31 #[.pointer (some ⟨p, 0, none⟩), .int .i64 (m : Int)] w fun e w' =>
    e = .returned (.agg (fca (R[m]'hm))) ∧ ∃ v', RefAt w' B p n v' (butAt R m R.length) ∧ Chg (· = p) w w' ∧ ∀ g, v'.ownBlock = some g → w.heap.size ≤ g := by
  obtain ⟨a, cp, rfl, hc1, hc2, hcell⟩ := h.slice
  obtain ⟨g0, rfl, -, d0, d1, d2, d3⟩ := hcell m hm
  obtain ⟨o1, o2, o3⟩ := h.own.at_
  have hgl := h.in_ (q := g0) (.inr rfl)
  have hpl := h.own.in_
  obtain ⟨N, hN⟩ : ∃ N, N = R.length := ⟨_, rfl⟩
  obtain ⟨y, hy⟩ : ∃ y, y = R[m]'hm := ⟨_, rfl⟩
  rw [← hy] at d0 d1 d2 d3 ⊢
  have HN := Lib.hid hN
  have HC := Lib.hid hcell
  have H := Lib.hid h
  have HB := Lib.hid hBw
  rw [← hN] at hl hc1 o1 hm
  unfold maxLen at hc2
  obtain ⟨y1, y2, y3, y4⟩ := y
  simp only at d0 d1 d2 d3
  clear h hN hcell hy hBw
  go_enter Try.func31, Try.ntmps31
  go_upto_region 2 with fail
  go_name_world W0 hW0
  have O4 : Own W0 w.heap.size 60 #[.int .i64 0, .string ⟨#[]⟩, .bool false, .int .i64 0] := hW0 ▸ (Own.made w _ _).more _
  have O5 : Own W0 (w.heap.size + 1) 60 #[.int .i64 y1, .string y2, .bool y3, .int .i64 (y4 : Int)] := hW0 ▸ Own.made_at (by simp)
  have b0 : Below w.heap.size w W0 := hW0 ▸ ((Below.refl _ _).alloc (Nat.le_refl _) _).alloc (by simp) _
  have hz0 : w.heap.size + 2 ≤ W0.heap.size := by have := O5.in_; omega
  clear hW0 d0 d1 d2 d3
  have O4' := Lib.hid O4
  have O5' := Lib.hid O5
  have B0 := Lib.hid b0
  clear O4 O5 b0 o1 o2 o3
  go_wp2
  go_loopw [6, 7] (fun x i wr => ∃ (k : Nat) (out : Value), out = x ∧ k ≤ N ∧ i = .int .i64 k ∧ wr.ownsRow (w.heap.size + 2) 60 4 out (butAt R m k).length (fcs (butAt R m k)) ∧ Own wr w.heap.size 60 #[.int .i64 0, .string ⟨#[]⟩, .bool false, .int .i64 0] ∧
      Own wr (w.heap.size + 1) 60 #[.int .i64 y1, .string y2, .bool y3, .int .i64 (y4 : Int)] ∧ Below w.heap.size w wr ∧ w.heap.size + 2 ≤ wr.heap.size)
    (fun x i wr => N - (intOf i).toNat)
  case atStart => exact ⟨0, _, rfl, by omega, rfl, by
    have e : butAt R m 0 = [] := by unfold butAt; simp
    rw [e]; exact World.ownsRow_nil _ _ _ _, O4'.out, O5'.out, B0.out, hz0⟩
  case round =>
    obtain ⟨k, out, hxo, hk, rfl, hrow, h4, h5, hb, hzr⟩ := hrel
    subst hxo
    have HW := Lib.hid hrow
    have H4 := Lib.hid h4
    have H5 := Lib.hid h5
    have HBW := Lib.hid hb
    have hR := H.out.below hb
    have hlen := butAt_len R m k
    obtain ⟨o1, o2, o3⟩ := hR.own.at_
    rw [← HN.out] at o1
    clear hrow h4 h5 hb O4' O5' B0
    by_cases hlt : k < N
    · have hlt2 : k < R.length := by rw [← HN.out]; exact hlt
      obtain ⟨_, _, e1, -, -, hc⟩ := hR.slice
      obtain ⟨rfl, -, rfl⟩ := Value.slice.inj e1
      obtain ⟨g1, e2, -, d0, d1, d2, d3⟩ := hc k hlt2
      obtain rfl : g0 = g1 := by simpa using e2
      obtain ⟨x, hx⟩ : ∃ x, x = R[k]'hlt2 := ⟨_, rfl⟩
      rw [← hx] at d0 d1 d2 d3
      have HX := Lib.hid hx
      clear hx hc e1 e2 hR
      by_cases he : k = m
      · have E := Lib.hid (show butAt R m (k + 1) = butAt R m k by rw [he]; exact butAt_skip R m)
        subst he
        go_wp2
        go_roundw
        case rel => exact ⟨k + 1, out, rfl, by omega, by go_num, by rw [E.out]; exact HW.out, H4.out, H5.out, HBW.out, hzr⟩
        case measure => simp [intOf]; omega
      · have E := Lib.hid (butAt_next R m k hlt2 he)
        have he2 : ((k : Int) == (m : Int)) = false := by simp; omega
        have he3 : ((k : Int) != (m : Int)) = true := by simp; omega
        clear he
        obtain ⟨i0, hi0, hz0', hz1, hz2⟩ := info_parts info_fr
        have hw1 := HW.out
        obtain ⟨len, hle⟩ : ∃ len, len = (butAt R m k).length := ⟨_, rfl⟩
        rw [← hle] at hw1 hlen
        have HLE := Lib.hid hle
        clear hle
        obtain ⟨z1, z2, z3, z4⟩ := x
        simp only at d0 d1 d2 d3
        go_wp2_with (at_builtin; refine wpList_append_own_at _ rfl _ _ 37 rfl (w.heap.size + 2) 60 i0 (.agg #[.int .i64 0, .string ⟨#[]⟩, .bool false, .int .i64 0]) 4 40 Try.underlying37 hi0 hz0' hz1 hz2 rfl (by decide) out len (fcs (butAt R m k)) rfl (hw1.alloc _) ⟨wr.heap.size, 0, none⟩ 1 1 [.int .i64 z1, .string z2, .bool z3, .int .i64 (z4 : Int)] rfl rfl ?c1 ?c2 (by unfold maxLen; omega) (by omega) (by simp; omega) ?_)
        case c1 => intro j u hu; exact many_cells _ _ _ _ (by simpa using hu)
        case c2 => intro u hu; simp at hu; rcases hu with rfl | rfl | rfl | rfl <;> rfl
        intro v' w5 hown hgrow hnil hloc
        have hg5 : Chg (fun q => out.ownBlock = some q) wr w5 := ((Chg.refl _ wr).alloc _).grown hgrow fun q e => .inl e
        have hb5 : Below w.heap.size w w5 := ((Chg.of (S := fun q => w.heap.size ≤ q) HBW.out).same (hg5.mono fun q _ e => by have := (hw1.lt q e).1; omega)).below (Nat.le_refl _) fun q e => e
        have h45 := hg5.own H4.out fun e => by have := (hw1.lt _ e).1; omega
        have h55 := hg5.own H5.out fun e => by have := (hw1.lt _ e).1; omega
        have hz5 : w.heap.size + 2 ≤ w5.heap.size := Nat.le_trans hzr hg5.size
        have ho5 : w5.ownsRow (w.heap.size + 2) 60 4 v' (butAt R m (k + 1)).length (fcs (butAt R m (k + 1))) := by
          rw [E.out, ← HX.out, fcs_app, List.length_append, ← HLE.out]
          exact hown
        have B5 := Lib.hid hb5
        have G4 := Lib.hid h45
        have G5 := Lib.hid h55
        have O5 := Lib.hid ho5
        clear hown hgrow hnil hloc hg5 hb5 ho5 h45 h55 hw1 d0 d1 d2 d3
        go_wp2
        go_roundw
        case rel => exact ⟨k + 1, v', rfl, by omega, by go_num, O5.out, G4.out, G5.out, B5.out, hz5⟩
        case measure => simp [intOf]; omega
    · obtain rfl : k = N := by omega
      obtain ⟨q1, q2, q3⟩ := H5.out.at_
      obtain ⟨r1, r2, r3⟩ := H4.out.at_
      obtain ⟨va, vl, vc, rfl⟩ : ∃ va vl vc, out = .slice va vl vc := by
        rcases HW.out.2 with ⟨h0, _⟩ | ⟨g, cap, cur, h0, _⟩
        · exact ⟨_, _, _, h0⟩
        · exact ⟨_, _, _, h0⟩
      have HRR := Lib.hid hR
      clear hR
      go_wp2
      have r1 : RefAt (wr.setCell ⟨p, 1, none⟩ (.slice va vl vc)) B p n (.slice va vl vc) (butAt R m k) := HRR.out.assign HW.out (by have := HB.out; omega)
      have c1 := chg_at wr p 1 (.slice va vl vc)
      have h4 := c1.own H4.out (by omega)
      generalize wr.setCell ⟨p, 1, none⟩ (.slice va vl vc) = W1 at *
      have h5 : Own ((((W1.setCell ⟨w.heap.size, 0, none⟩ (.int .i64 y1)).setCell ⟨w.heap.size, 1, none⟩ (.string y2)).setCell ⟨w.heap.size, 2, none⟩ (.bool y3)).setCell ⟨w.heap.size, 3, none⟩ (.int .i64 (y4 : Int))) w.heap.size 60 #[.int .i64 y1, .string y2, .bool y3, .int .i64 (y4 : Int)] := ((((h4.put 0 _).put 1 _).put 2 _).put 3 _).as rfl
      have c5 : Chg (· = w.heap.size) W1 ((((W1.setCell ⟨w.heap.size, 0, none⟩ (.int .i64 y1)).setCell ⟨w.heap.size, 1, none⟩ (.string y2)).setCell ⟨w.heap.size, 2, none⟩ (.bool y3)).setCell ⟨w.heap.size, 3, none⟩ (.int .i64 (y4 : Int))) := (((chg_at _ _ _ _).same (chg_at _ _ _ _)).same (chg_at _ _ _ _)).same (chg_at _ _ _ _)
      generalize (((W1.setCell ⟨w.heap.size, 0, none⟩ (.int .i64 y1)).setCell ⟨w.heap.size, 1, none⟩ (.string y2)).setCell ⟨w.heap.size, 2, none⟩ (.bool y3)).setCell ⟨w.heap.size, 3, none⟩ (.int .i64 (y4 : Int)) = W9 at *
      obtain ⟨t1, t2, t3⟩ := h5.at_
      refine bodyPost_ret (v := .agg #[.int .i64 y1, .string y2, .bool y3, .int .i64 (y4 : Int)]) (by simp [results, Try.results31, go_sem, t1]) rfl ⟨rfl, .slice va vl vc, ?_, ?_, ?_⟩
      · rw [← HN.out]
        refine r1.keep c5 fun q hq e => ?_
        subst e
        rcases hq with hq | hq
        · omega
        · have := (HW.out.lt _ hq).1; omega
      · exact ((Chg.of HBW.out).same c1).trans c5 fun q hq e => absurd e (by omega)
      · intro g hg
        have := (HW.out.lt _ hg).1
        omega
end
end Go.Proofs.Ytjncmaaofminkaa
