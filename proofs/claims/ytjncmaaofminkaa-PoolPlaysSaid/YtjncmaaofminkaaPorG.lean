
/- The contracts of the document's Drop and Same. Conditions: those that each theorem names. -/
import Derived.Test.YtjncmaaofminkaaPorF
namespace Go.Proofs.Ytjncmaaofminkaa
open Go.ChangeShapes Go.WideShapes Go.ChangeAt Go.RowKit
set_option linter.unusedVariables false
set_option linter.unusedSimpArgs false

theorem dropR_yes (R : List RF) (k : Nat) (hk : k < R.length) (h : (R[k]'hk).dirty = false) : dropR (R.take (k + 1)) = dropR (R.take k) ++ [R[k]'hk] := by
  unfold dropR
  rw [List.take_succ_eq_append_getElem hk, List.filter_append]
  simp [h]
theorem dropR_no (R : List RF) (k : Nat) (hk : k < R.length) (h : (R[k]'hk).dirty = true) : dropR (R.take (k + 1)) = dropR (R.take k) := by
  unfold dropR
  rw [List.take_succ_eq_append_getElem hk, List.filter_append]
  simp [h]
theorem dropR_len (R : List RF) (k : Nat) : (dropR (R.take k)).length ≤ k := by
  unfold dropR
  exact Nat.le_trans (List.length_filter_le _ _) (by simp; omega)
section
variable {w w' W w5 : World} {B p n c : Nat} {v v1 v' : Value} {R R1 R2 S T : List RF} {f f' : RF}
set_option maxRecDepth 10000 in
set_option maxHeartbeats 1000000 in
theorem rdrop_any (h : RefAt w B p n v R) (hl : R.length ≤ 100000) : Calls Try.prog 21 #[.pointer (some ⟨p, 0, none⟩)] w fun e w' => e = .returned (.tuple #[]) ∧ Left w w' B p n v (dropR R) := by
  obtain ⟨a, cp, rfl, hc1, hc2, hcell⟩ := h.slice
  have hbw : B ≤ w.heap.size := by have := h.base; have := h.own.in_; omega
  have hpl := h.own.in_
  obtain ⟨N, hN⟩ : ∃ N, N = R.length := ⟨_, rfl⟩
  have HN := Lib.hid hN
  have HC := Lib.hid hcell
  have H := Lib.hid h
  have HB := Lib.hid hbw
  rw [← hN] at hl hc1
  unfold maxLen at hc2
  clear h hN hcell hbw
  go_enter Try.func21, Try.ntmps21
  go_wp2
  go_loopw [2, 3] (fun x i wr => ∃ (k : Nat) (out : Value), out = x ∧ k ≤ N ∧ i = .int .i64 k ∧ wr.ownsRow w.heap.size 60 4 out (dropR (R.take k)).length (fcs (dropR (R.take k))) ∧ Below w.heap.size w wr)
    (fun x i wr => N - (intOf i).toNat)
  case atStart => exact ⟨0, _, rfl, by omega, rfl, by
    have e : dropR (R.take 0) = [] := by simp [dropR]
    rw [e]; exact World.ownsRow_nil _ _ _ _, Below.refl _ _⟩
  case round =>
    obtain ⟨k, out, hxo, hk, rfl, hrow, hb⟩ := hrel
    subst hxo
    have HW := Lib.hid hrow
    have HBW := Lib.hid hb
    have hR := H.out.below hb
    have hlen := dropR_len R k
    have hzr := hb.size
    obtain ⟨o1, o2, o3⟩ := hR.own.at_
    rw [← HN.out] at o1
    clear hrow hb
    by_cases hlt : k < N
    · have hlt2 : k < R.length := by rw [← HN.out]; exact hlt
      obtain ⟨_, _, e1, -, -, hc⟩ := hR.slice
      obtain ⟨rfl, -, rfl⟩ := Value.slice.inj e1
      obtain ⟨g0, rfl, -, d0, d1, d2, d3⟩ := hc k hlt2
      obtain ⟨x, hx⟩ : ∃ x, x = R[k]'hlt2 := ⟨_, rfl⟩
      rw [← hx] at d0 d1 d2 d3
      have HX := Lib.hid hx
      clear hx hc e1 hR
      obtain ⟨z1, z2, z3, z4⟩ := x
      simp only at d0 d1 d2 d3
      cases z3 with
      | true =>
        have E := Lib.hid (dropR_no R k hlt2 (by rw [← HX.out]))
        go_wp2
        go_roundw
        case rel => exact ⟨k + 1, out, rfl, by omega, by go_num, by rw [E.out]; exact HW.out, HBW.out⟩
        case measure => simp [intOf] <;> omega
      | false =>
        have E := Lib.hid (dropR_yes R k hlt2 (by rw [← HX.out]))
        obtain ⟨i0, hi0, hz0', hz1, hz2⟩ := info_parts info_fr
        have hw1 := HW.out
        obtain ⟨len, hle⟩ : ∃ len, len = (dropR (R.take k)).length := ⟨_, rfl⟩
        rw [← hle] at hw1 hlen
        have HLE := Lib.hid hle
        clear hle
        go_wp2_with (at_builtin; refine wpList_append_own_at _ rfl _ _ 37 rfl w.heap.size 60 i0 (.agg #[.int .i64 0, .string ⟨#[]⟩, .bool false, .int .i64 0]) 4 40 Try.underlying37 hi0 hz0' hz1 hz2 rfl (by decide) out len (fcs (dropR (R.take k))) rfl (hw1.alloc _) ⟨wr.heap.size, 0, none⟩ 1 1 [.int .i64 z1, .string z2, .bool false, .int .i64 (z4 : Int)] rfl rfl ?c1 ?c2 (by unfold maxLen; omega) (by omega) (by simp; omega) ?_)
        case c1 => intro j u hu; exact many_cells _ _ _ _ (by simpa using hu)
        case c2 => exact fc_cells ⟨z1, z2, false, z4⟩
        intro v' w5 hown hgrow hnil hloc
        have hg5 : Chg (fun q => out.ownBlock = some q) wr w5 := ((Chg.refl _ wr).alloc _).grown hgrow fun q e => .inl e
        have hb5 : Below w.heap.size w w5 := ((Chg.of (S := fun q => w.heap.size ≤ q) HBW.out).same (hg5.mono fun q _ e => (hw1.lt q e).1)).below (Nat.le_refl _) fun q e => e
        have ho5 : w5.ownsRow w.heap.size 60 4 v' (dropR (R.take (k + 1))).length (fcs (dropR (R.take (k + 1)))) := by
          rw [E.out, ← HX.out, fcs_app, List.length_append, ← HLE.out]
          exact hown
        have B5 := Lib.hid hb5
        have O5 := Lib.hid ho5
        clear hown hgrow hnil hloc hg5 hb5 ho5 hw1 d0 d1 d2 d3
        go_wp2
        go_roundw
        case rel => exact ⟨k + 1, v', rfl, by omega, by go_num, O5.out, B5.out⟩
        case measure => simp [intOf] <;> omega
    · obtain rfl : k = N := by omega
      obtain ⟨va, vl, vc, rfl⟩ : ∃ va vl vc, out = .slice va vl vc := by
        rcases HW.out.2 with ⟨h0, _⟩ | ⟨g, cap, cur, h0, _⟩
        · exact ⟨_, _, _, h0⟩
        · exact ⟨_, _, _, h0⟩
      have e : dropR (R.take k) = dropR R := by rw [HN.out, List.take_length]
      rw [e] at HW
      have r1 : RefAt (wr.setCell ⟨p, 1, none⟩ (.slice va vl vc)) B p n (.slice va vl vc) (dropR R) := hR.assign HW.out HB.out
      have L1 : Left w (wr.setCell ⟨p, 1, none⟩ (.slice va vl vc)) B p n (.slice a R.length cp) (dropR R) :=
        ⟨_, r1, (Chg.of HBW.out).same ((chg_at wr p 1 _).mono fun q _ e => .inl e), fun g hg => .inr (HW.out.lt g hg).1⟩
      replace L1 := Lib.hid L1
      clear hR r1 e HC
      go_wp2
      go_end0
      exact ⟨rfl, L1.out⟩
set_option maxRecDepth 10000 in
set_option maxHeartbeats 1000000 in
/-- two slices of the same numbers are the same -/
theorem rsame_any {B1 B2 : Nat} {va vb : Value} {xs : List Int} (ha : w.ownsRow B1 3 1 va xs.length (ints xs)) (hb : w.ownsRow B2 3 1 vb xs.length (ints xs)) (hl : xs.length ≤ 1000000) :
    Calls Try.prog 22 #[va, vb] w fun e w' => e = .returned (.bool true) ∧ Below w.heap.size w w' := by
  have shape : ∀ {B : Nat} {v : Value}, w.ownsRow B 3 1 v xs.length (ints xs) → ∃ a c, v = .slice a xs.length c ∧ xs.length ≤ c ∧ c ≤ maxLen ∧ ∀ k (hk : k < xs.length), ∃ g, a = some ⟨g, 0, none⟩ ∧ w.cell? ⟨g, k, none⟩ = some (.int .i64 (xs[k]'hk)) := by
    intro B v h
    rcases h.2 with ⟨rfl, h0⟩ | ⟨g, cap, cur, rfl, h1, h2, h3, h4, h5, h6⟩
    · exact ⟨none, 0, by rw [h0], by omega, by unfold maxLen; omega, fun k hk => by omega⟩
    · refine ⟨_, cap, rfl, h3, h4, fun k hk => ⟨g, rfl, ?_⟩⟩
      have := World.ownsRow.cellAt h k (by omega)
      rw [this]
      simp [ints, hk]
  obtain ⟨a, ca, rfl, ha1, ha2, hac⟩ := shape ha
  obtain ⟨b, cb, rfl, hb1, hb2, hbc⟩ := shape hb
  clear shape ha hb
  obtain ⟨N, hN⟩ : ∃ N, N = xs.length := ⟨_, rfl⟩
  rw [← hN] at hl ha1 hb1 ⊢
  have HN := Lib.hid hN
  have HA := Lib.hid hac
  have HB := Lib.hid hbc
  unfold maxLen at ha2 hb2
  clear hN hac hbc
  go_enter Try.func22, Try.ntmps22
  go_wp2
  go_loopw [5] (fun i wr => ∃ (k q : Nat), k ≤ N ∧ i = .int .i64 k ∧ wr = w.drewN q) (fun i wr => N - (intOf i).toNat)
  case atStart => exact ⟨0, 0, by omega, rfl, rfl⟩
  case round =>
    obtain ⟨k, q, hk, rfl, rfl⟩ := hrel
    by_cases hlt : k < N
    · have hlt2 : k < xs.length := by rw [← HN.out]; exact hlt
      obtain ⟨ga, rfl, c1⟩ := HA.out k hlt2
      obtain ⟨gb, rfl, c2⟩ := HB.out k hlt2
      obtain ⟨x, hx⟩ : ∃ x, x = xs[k]'hlt2 := ⟨_, rfl⟩
      rw [← hx] at c1 c2
      have hmi : (k : Int) < (N : Int) := by omega
      clear hx
      go_upto_region 6 with fail
      refine wp_region_seq (fun W => W.cell? ⟨ga, k, none⟩ = some (.int .i64 x) ∧ W.cell? ⟨gb, k, none⟩ = some (.int .i64 x)) (0 :: 1 :: 2 :: 3 :: 4 :: 5 :: 6 :: 7 :: 8 :: []) (3 :: 7 :: []) (0 :: 1 :: 2 :: 3 :: 4 :: 5 :: 6 :: 7 :: 8 :: []) (by kernel_rfl) (by kernel_rfl) rfl (by kernel_rfl) rfl (⟨c1, c2⟩) (by simp only [picked, List.filterMap_cons, List.filterMap_nil, List.getElem?_cons_zero, List.getElem?_cons_succ, Option.map_some]; exact rfl) ?_
      iterate 9
        refine seq_want (v := ?_) rfl rfl (fun W hS => ?_) ?_
        rotate_left
        · first
            | (conv => lhs; simp [go_sem, hmi]
               first | done | exact rfl)
            | (have hS := hS rfl
               obtain ⟨q1, q2⟩ := hS
               conv => lhs; simp [go_sem, *, hmi]
               first | done | exact rfl)
        simp only [Act.put, List.setIfInBounds_toArray, List.set_cons_zero, List.set_cons_succ]
      refine seq_end ?_
      go_wp2
      go_roundw
      case rel => exact ⟨k + 1, q + 1, by omega, by go_num, rfl⟩
      case measure => simp [intOf] <;> omega
    · obtain rfl : k = N := by omega
      go_wp2
      go_ret
      exact ⟨rfl, below_drewN (Below.refl _ _) _⟩
end
end Go.Proofs.Ytjncmaaofminkaa
