
/- The contract of the document's Dirty. Conditions: those that each theorem names. -/
import Derived.Test.YtjncmaaofminkaaPorH
namespace Go.Proofs.Ytjncmaaofminkaa
open Go.ChangeShapes Go.WideShapes Go.ChangeAt Go.RowKit
set_option linter.unusedVariables false
set_option linter.unusedSimpArgs false

section
variable {w w' W w5 : World} {B p n c : Nat} {v v1 v' : Value} {R R1 R2 S T : List RF} {f f' : RF}
set_option maxRecDepth 10000 in
set_option maxHeartbeats 4000000 in
theorem rdirty_any (h : RefAt w B p n v R) (hl : R.length ≤ 100000) : Calls Try.prog 24 #[.pointer (some ⟨p, 0, none⟩)] w fun e w' => ∃ v', e = .returned v' ∧ w'.ownsRow w.heap.size 3 1 v' (dirtyR R).length (ints (dirtyR R)) ∧ Below w.heap.size w w' := by
  have hpl := h.own.in_
  obtain ⟨N, hN⟩ : ∃ N, N = R.length := ⟨_, rfl⟩
  have HN := Lib.hid hN
  have H := Lib.hid h
  rw [← hN] at hl
  clear h hN
  go_enter Try.func24, Try.ntmps24
  go_wp2
  go_loopw [3, 4] (fun x i wr => ∃ (k : Nat) (out : Value), out = x ∧ k ≤ N ∧ i = .int .i64 k ∧ wr.ownsRow w.heap.size 3 1 out (dk R k).length (ints (dk R k)) ∧ Below w.heap.size w wr)
    (fun x i wr => N - (intOf i).toNat)
  case atStart => exact ⟨0, _, rfl, by omega, rfl, by
    have e : dk R 0 = [] := by simp [dk, dirtyR, sortI]
    rw [e]; exact World.ownsRow_nil _ _ _ _, Below.refl _ _⟩
  case round =>
    obtain ⟨k, out, hxo, hk, rfl, hrow, hb⟩ := hrel
    subst hxo
    have HW := Lib.hid hrow
    have HBW := Lib.hid hb
    have hR := H.out.below hb
    have hlen := dk_len R k
    have hzr := hb.size
    obtain ⟨a, cp, hv, hc1, hc2, hc⟩ := hR.slice
    have hP := hR.own
    rw [hv, ← HN.out] at hP
    rw [← HN.out] at hc1
    obtain ⟨o1, o2, o3⟩ := hP.at_
    unfold maxLen at hc2
    clear hrow hb hR hP hv
    by_cases hlt : k < N
    · have hlt2 : k < R.length := by rw [← HN.out]; exact hlt
      obtain ⟨g0, rfl, -, d0, d1, d2, d3⟩ := hc k hlt2
      obtain ⟨x, hx⟩ : ∃ x, x = R[k]'hlt2 := ⟨_, rfl⟩
      rw [← hx] at d0 d1 d2 d3
      have HX := Lib.hid hx
      clear hx hc
      obtain ⟨nn, z2, z3, z4⟩ := x
      simp only at d0 d1 d2 d3
      cases z3 with
      | false =>
        have E := Lib.hid (dk_no R k hlt2 (by rw [← HX.out]))
        go_wp2
        go_roundw
        case rel => exact ⟨k + 1, out, rfl, by omega, by go_num, by rw [E.out]; exact HW.out, HBW.out⟩
        case measure => simp [intOf] <;> omega
      | true =>
        have E := dk_yes R k hlt2 (by rw [← HX.out])
        rw [← HX.out] at E
        simp only at E
        obtain ⟨xs, hxs⟩ : ∃ xs, xs = dk R k := ⟨_, rfl⟩
        rw [← hxs] at HW hlen E
        obtain ⟨oa, oc, ho, hoc1, hoc2, hcell⟩ := row_shape HW.out
        unfold maxLen at hoc2
        obtain ⟨M, hM⟩ : ∃ M, M = xs.length := ⟨_, rfl⟩
        rw [← hM] at ho hoc1 hlen
        have HCE := Lib.hid hcell
        have HM := Lib.hid hM
        have HE := Lib.hid E
        have HOL := Lib.hid (fun g hg => HW.out.lt g hg)
        subst ho
        clear d1 d3 hcell hM E hxs o2 o3
        go_upto_region 9 with fail
        go_wp2
        clear o1 d0 d2
        obtain ⟨k1, hk1⟩ : ∃ m : Nat, m = k := ⟨_, rfl⟩
        subst hk1
        obtain ⟨wr1, hwr1⟩ : ∃ x : World, x = wr := ⟨_, rfl⟩
        subst hwr1
        go_loopw [6, 7, 8] (fun l d j wi => ∃ (q : Nat) (lv : Value) (L : List Int) (D : Bool), lv = l ∧ q ≤ M ∧ j = .int .i64 q ∧ d = .bool D ∧ stI nn (xs.take q) = (L, D) ∧ wi.ownsRow wr1.heap.size 3 1 lv L.length (ints L) ∧ Below wr1.heap.size wr1 wi) (fun l d j wi => M - (intOf j).toNat)
        case atStart => exact ⟨0, _, [], false, rfl, by omega, rfl, rfl, rfl, World.ownsRow_nil _ _ _ _, Below.refl _ _⟩
        case round =>
          obtain ⟨q, lv, L, D, hlv, hq, rfl, rfl, hst, hrw0, hb0⟩ := hrel
          subst hlv
          have hll : L.length ≤ q + 1 := by have := stI_few nn xs q; rw [hst] at this; exact this
          have HST := Lib.hid hst
          have HR0 := Lib.hid hrw0
          have HB0 := Lib.hid hb0
          clear hst hrw0 hb0
          by_cases hqM : q < M
          · have hq2 : q < xs.length := by rw [← HM.out]; exact hqM
            obtain ⟨g, rfl, hg, c1⟩ := HCE.out q hq2
            have hgl := (HOL.out g (by rw [HM.out]; exact hg)).2
            have c2 := (HB0.out.cell (p := ⟨g, q, none⟩) hgl).trans c1
            obtain ⟨y, hy⟩ : ∃ y, y = xs[q]'hq2 := ⟨_, rfl⟩
            rw [← hy] at c2 c1
            have C1H := Lib.hid c1
            have hnx := stI_next nn xs q hq2
            rw [HST.out, ← hy] at hnx
            clear c1 hg hy
            cases D with
            | true =>
              have hnx2 : stI nn (xs.take (q + 1)) = (L ++ [y], true) := by rw [hnx]; simp [stepI]
              have NX := Lib.hid hnx2
              clear hnx hnx2
              obtain ⟨i0, hi0, hz0, hz1, hz2⟩ := info_parts info_in
              have hrw := HR0.out
              have hbw := HB0.out
              have hbs := hbw.size
              go_upto_region 11 with (at_builtin; refine wpList_append_own_at _ rfl _ _ 43 rfl wr1.heap.size 3 i0 (.int .i64 0) 1 8 Try.underlying43 hi0 hz0 hz1 hz2 rfl (by decide) lv L.length (ints L) rfl (hrw.alloc _) ⟨wr.heap.size, 0, none⟩ 1 1 [.int .i64 y] rfl rfl (fun j u hu => one_cell _ _ _ _ hu) (by intro u hu; simp at hu; subst hu; rfl) (by unfold maxLen; omega) (by omega) (by simp; omega) ?_; intro v5 w5 hown hgrow hnil hloc; obtain ⟨ro5, rb5, rc5⟩ := row_push hrw hgrow hown hbw (Nat.le_refl _) hbs; have RO_w5 := Lib.hid ro5; have RB_w5 := Lib.hid rb5; clear hown hgrow hnil hloc ro5 rb5 rc5 hrw hbw hbs)
              clear c2
              go_wp2
              go_roundw
              case rel => exact ⟨q + 1, _, L ++ [y], true, rfl, by omega, by go_num, rfl, NX.out, RO_w5.out, RB_w5.out⟩
              case measure => simp [intOf] <;> omega
            | false =>
              by_cases hlty : nn < y
              · have hnx2 : stI nn (xs.take (q + 1)) = (L ++ [nn] ++ [y], true) := by rw [hnx]; simp [stepI, hlty]
                have NX := Lib.hid hnx2
                clear hnx hnx2
                obtain ⟨i0, hi0, hz0, hz1, hz2⟩ := info_parts info_in
                have hrw := HR0.out
                have hbw := HB0.out
                have hbs := hbw.size
                go_upto_region 15 with (at_builtin; refine wpList_append_own_at _ rfl _ _ 43 rfl wr1.heap.size 3 i0 (.int .i64 0) 1 8 Try.underlying43 hi0 hz0 hz1 hz2 rfl (by decide) lv L.length (ints L) rfl (hrw.alloc _) ⟨wr.heap.size, 0, none⟩ 1 1 [.int .i64 nn] rfl rfl (fun j u hu => one_cell _ _ _ _ hu) (by intro u hu; simp at hu; subst hu; rfl) (by unfold maxLen; omega) (by omega) (by simp; omega) ?_; intro v5 w5 hown hgrow hnil hloc; obtain ⟨ro5, rb5, rc5⟩ := row_push hrw hgrow hown hbw (Nat.le_refl _) hbs; have RO_w5 := Lib.hid ro5; have RB_w5 := Lib.hid rb5; clear hown hgrow hnil hloc ro5 rb5 rc5 hrw hbw hbs)
                clear c2
                have c2 := (RB_w5.out.cell (p := ⟨g, q, none⟩) hgl).trans C1H.out
                have hll2 : (L ++ [nn]).length ≤ q + 2 := by simp; omega
                obtain ⟨i1, hi1, hy0, hy1, hy2⟩ := info_parts info_in
                have hrw := RO_w5.out
                have hbw := RB_w5.out
                have hbs := hbw.size
                go_upto_region 11 with (at_builtin; refine wpList_append_own_at _ rfl _ _ 43 rfl wr1.heap.size 3 i1 (.int .i64 0) 1 8 Try.underlying43 hi1 hy0 hy1 hy2 rfl (by decide) v5 (L ++ [nn]).length (ints (L ++ [nn])) rfl (hrw.alloc _) ⟨w5.heap.size, 0, none⟩ 1 1 [.int .i64 y] rfl rfl (fun j u hu => one_cell _ _ _ _ hu) (by intro u hu; simp at hu; subst hu; rfl) (by unfold maxLen; omega) (by omega) (by simp; omega) ?_; intro v6 w6 hown hgrow hnil hloc; obtain ⟨ro5, rb5, rc5⟩ := row_push hrw hgrow hown hbw (Nat.le_refl _) hbs; have RO_w6 := Lib.hid ro5; have RB_w6 := Lib.hid rb5; clear hown hgrow hnil hloc ro5 rb5 rc5 hrw hbw hbs)
                clear c2
                go_wp2
                go_roundw
                case rel => exact ⟨q + 1, _, L ++ [nn] ++ [y], true, rfl, by omega, by go_num, rfl, NX.out, RO_w6.out, RB_w6.out⟩
                case measure => simp [intOf] <;> omega
              · have hnx2 : stI nn (xs.take (q + 1)) = (L ++ [y], false) := by rw [hnx]; simp [stepI, hlty]
                have NX := Lib.hid hnx2
                clear hnx hnx2
                obtain ⟨i0, hi0, hz0, hz1, hz2⟩ := info_parts info_in
                have hrw := HR0.out
                have hbw := HB0.out
                have hbs := hbw.size
                go_upto_region 11 with (at_builtin; refine wpList_append_own_at _ rfl _ _ 43 rfl wr1.heap.size 3 i0 (.int .i64 0) 1 8 Try.underlying43 hi0 hz0 hz1 hz2 rfl (by decide) lv L.length (ints L) rfl (hrw.alloc _) ⟨wr.heap.size, 0, none⟩ 1 1 [.int .i64 y] rfl rfl (fun j u hu => one_cell _ _ _ _ hu) (by intro u hu; simp at hu; subst hu; rfl) (by unfold maxLen; omega) (by omega) (by simp; omega) ?_; intro v5 w5 hown hgrow hnil hloc; obtain ⟨ro5, rb5, rc5⟩ := row_push hrw hgrow hown hbw (Nat.le_refl _) hbs; have RO_w5 := Lib.hid ro5; have RB_w5 := Lib.hid rb5; clear hown hgrow hnil hloc ro5 rb5 rc5 hrw hbw hbs)
                clear c2
                go_wp2
                go_roundw
                case rel => exact ⟨q + 1, _, L ++ [y], false, rfl, by omega, by go_num, rfl, NX.out, RO_w5.out, RB_w5.out⟩
                case measure => simp [intOf] <;> omega
          · have hqe : xs.take q = xs := by rw [List.take_of_length_le (by have := HM.out; omega)]
            have hfin : finI nn (L, D) = dk R (k1 + 1) := by
              rw [HE.out, ← HST.out, hqe]
              have := stI_ins nn xs []
              simpa [stI] using this
            have HFN := Lib.hid hfin
            clear hfin hqe
            cases D with
            | true =>
              have hf2 : L = dk R (k1 + 1) := HFN.out
              have HF2 := Lib.hid hf2
              have LB := Lib.hid (then_ HBW.out HB0.out hzr)
              clear hf2
              go_wp2
              go_roundw
              case rel => exact ⟨k1 + 1, _, rfl, by omega, by go_num, by rw [← HF2.out]; exact row_base HR0.out hzr, LB.out⟩
              case measure => simp [intOf] <;> omega
            | false =>
              have hf2 : L ++ [nn] = dk R (k1 + 1) := HFN.out
              have HF2 := Lib.hid hf2
              clear hf2
              obtain ⟨i0, hi0, hz0, hz1, hz2⟩ := info_parts info_in
              have hrw := HR0.out
              have hbw := HB0.out
              have hbs := hbw.size
              go_upto_region 18 with (at_builtin; refine wpList_append_own_at _ rfl _ _ 43 rfl wr1.heap.size 3 i0 (.int .i64 0) 1 8 Try.underlying43 hi0 hz0 hz1 hz2 rfl (by decide) lv L.length (ints L) rfl (hrw.alloc _) ⟨wr.heap.size, 0, none⟩ 1 1 [.int .i64 nn] rfl rfl (fun j u hu => one_cell _ _ _ _ hu) (by intro u hu; simp at hu; subst hu; rfl) (by unfold maxLen; omega) (by omega) (by simp; omega) ?_; intro v5 w5 hown hgrow hnil hloc; obtain ⟨ro5, rb5, rc5⟩ := row_push hrw hgrow hown hbw (Nat.le_refl _) hbs; have RO_w5 := Lib.hid ro5; have RB_w5 := Lib.hid rb5; clear hown hgrow hnil hloc ro5 rb5 rc5 hrw hbw hbs)
              have LB := Lib.hid (then_ HBW.out RB_w5.out hzr)
              go_wp2
              go_roundw
              case rel => exact ⟨k1 + 1, _, rfl, by omega, by go_num, by rw [← HF2.out]; exact row_base RO_w5.out hzr, LB.out⟩
              case measure => simp [intOf] <;> omega
    · obtain rfl : k = N := by omega
      have e : dk R k = dirtyR R := by unfold dk; rw [HN.out, List.take_length]
      rw [e] at HW
      clear hc e
      go_wp2
      go_ret
      exact ⟨_, rfl, HW.out, HBW.out⟩
end
end Go.Proofs.Ytjncmaaofminkaa
