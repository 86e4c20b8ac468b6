
/- The contract of croftref03.Text: a number in decimal. Condition: fewer than 1000 decimal digits. -/
import Derived.Test.YtdnjkminicmffaaDoorMulA
import Derived.Test.YtdnjkminicmffaaDoorFmt
import Derived.Laws.IdiomStrings
namespace Go.Proofs.YtdnjkminicmffaaDoor
open Go.ChangeShapes Go.WideShapes Go.ChangeAt Go.RowKit
set_option linter.unusedVariables false

set_option maxHeartbeats 16000000 in
set_option maxRecDepth 20000 in
theorem text_num (T C : Nat) (v : Value) (z : Int) (w : World) (hv : Num w T C v z) (hl : (digs z.natAbs).length ≤ 1000000) (hdl : (Lib.decDigits z.natAbs).length ≤ 1000) :
    Calls Tryd.prog 32 #[v] w fun e w' => e = .returned (.string ⟨((if z < 0 then [45] else []) ++ Lib.decDigits z.natAbs).toArray⟩) ∧ Below w.heap.size w w' := by
  obtain ⟨a0, len0, cap0, rfl, hr⟩ := hv
  have HR := Lib.hid hr
  obtain ⟨n0, hn0⟩ : ∃ n, z.natAbs = n := ⟨_, rfl⟩
  rw [hn0] at HR hl hdl ⊢
  obtain ⟨s, hs⟩ : ∃ s, decide (z < 0) = s := ⟨_, rfl⟩
  rw [hs]
  obtain ⟨pre, hpre⟩ : ∃ pre, (if z < 0 then ([45] : List UInt8) else []) = pre := ⟨_, rfl⟩
  rw [hpre]
  have HS := Lib.hid (show pre = bif s then [45] else [] by rw [← hpre, ← hs]; by_cases h : z < 0 <;> simp [h])
  clear hpre
  clear hr hn0 hs
  replace hl := Lib.hid hl
  replace hdl := Lib.hid hdl
  go_enter Tryd.func32, Tryd.ntmps32
  go_upto_region 2 with fail
  go_name_world W0 hW0
  have OA : Own W0 w.heap.size 27 #[.bool s, .slice a0 len0 cap0] := hW0 ▸ (by repeat' (first | (with_reducible assumption) | (with_reducible refine Own.drawnN ?_ _) | (with_reducible refine Own.drawn ?_) | (with_reducible refine Own.made_at ?_; first | rfl | (simp; done) | omega | (simp; omega)) | (with_reducible refine Own.more ?_ _) | (with_reducible refine Own.apart ?_ ?_ _ _; rotate_left; first | omega | (simp; done) | (simp; omega)) | (refine Own.put ?_ _ _)))
  have hB0 : Below w.heap.size w W0 := hW0 ▸ (by repeat' (first | (with_reducible exact Below.refl _ _) | (with_reducible assumption) | (with_reducible refine below_drewN ?_ _) | (with_reducible refine Below.drew ?_) | (with_reducible refine Below.alloc ?_ ?_ _) | (with_reducible refine Below.setCell ?_ ?_ _) | (with_reducible refine then_ ?_ (by with_reducible assumption) ?_) | (with_reducible exact Nat.le_refl _) | (with_reducible exact Nat.le_succ _) | (with_reducible exact Nat.le_succ_of_le (by with_reducible assumption)) | omega | (simp; done) | (simp; omega) | (exact Nat.le_succ _) | (exact Nat.le_succ_of_le (by with_reducible assumption))))
  have DR : DRow W0 T C a0 len0 cap0 (digs n0) := hW0 ▸ (HR.out.keep (by repeat' (first | (with_reducible exact Below.refl _ _) | (with_reducible assumption) | (with_reducible refine below_drewN ?_ _) | (with_reducible refine Below.drew ?_) | (with_reducible refine Below.alloc ?_ ?_ _) | (with_reducible refine Below.setCell ?_ ?_ _) | (with_reducible refine then_ ?_ (by with_reducible assumption) ?_) | (with_reducible exact Nat.le_refl _) | (with_reducible exact Nat.le_succ _) | (with_reducible exact Nat.le_succ_of_le (by with_reducible assumption)) | omega | (simp; done) | (simp; omega) | (exact Nat.le_succ _) | (exact Nat.le_succ_of_le (by with_reducible assumption)))))
  clear hW0
  obtain ⟨P1, P2, P3⟩ := OA.at_
  go_wp2
  clear P1 P2 P3
  go_loopg [3, 4] n0 (fun g s' l wr => ∃ (a : Option Addr) (len cap T' C' : Nat) (t : List UInt8), l = .slice a len cap ∧ s' = .string ⟨t.toArray⟩ ∧ len ≤ 1000000 ∧ Hid (Lib.decDigits n0 = Lib.decDigits g ++ t) ∧ DRow wr T' C' a len cap (digs g) ∧ Own wr w.heap.size 27 #[.bool s, .slice a0 len0 cap0] ∧ Below w.heap.size w wr)
  case atStart =>
    exact ⟨a0, len0, cap0, T, C, [], rfl, rfl, by have := HR.out.hlen; have := hl.out; omega, Lib.hid (by simp), DR, OA, hB0⟩
  case round =>
    clear OA hB0 DR HR
    obtain ⟨a, len, cap, T', C', t, rfl, rfl, hlen6, HT, HR, OA, hB⟩ := hrel
    obtain ⟨m, hm⟩ : ∃ m : Nat, m = gk := ⟨_, rfl⟩
    subst hm
    obtain ⟨V, hV⟩ : ∃ V : World, V = wr := ⟨_, rfl⟩
    subst hV
    have hlen := HR.hlen
    have HX := Lib.hid HR.hcells
    have HD := Lib.hid (Dg.digs m)
    have HV := Lib.hid (vl_digs m)
    have ht : t.length ≤ 1000 := by have := hdl.out; rw [HT.out] at this; simp at this; omega
    have LN := Lib.hid hlen
    have HM := run_make_row' (P := Tryd.prog) 25 3 (.int .i64 0) 8 Tryd.underlying25 info_intH rfl .i64 .i64 len (by omega) (by omega)
    clear hlen HR
    obtain ⟨l, hll⟩ : ∃ l, digs m = l := ⟨_, rfl⟩
    rw [hll] at HX HD HV LN
    replace hll := Lib.hid hll
    go_upto_region 5 with fail
    go_name_world W1 hW1
    have OA1 : Own W1 w.heap.size 27 #[.bool s, .slice a0 len0 cap0] := hW1 ▸ (by repeat' (first | (with_reducible assumption) | (with_reducible refine Own.drawnN ?_ _) | (with_reducible refine Own.drawn ?_) | (with_reducible refine Own.made_at ?_; first | rfl | (simp; done) | omega | (simp; omega)) | (with_reducible refine Own.more ?_ _) | (with_reducible refine Own.apart ?_ ?_ _ _; rotate_left; first | omega | (simp; done) | (simp; omega)) | (refine Own.put ?_ _ _)))
    have OO : Own W1 V.heap.size 3 (cells (List.replicate len 0)) := hW1 ▸ (by rw [cells_made]; repeat' (first | (with_reducible assumption) | (with_reducible refine Own.drawnN ?_ _) | (with_reducible refine Own.drawn ?_) | (with_reducible refine Own.made_at ?_; first | rfl | (simp; done) | omega | (simp; omega)) | (with_reducible refine Own.more ?_ _) | (with_reducible refine Own.apart ?_ ?_ _ _; rotate_left; first | omega | (simp; done) | (simp; omega)) | (refine Own.put ?_ _ _)))
    have hB1 : Below V.heap.size V W1 := hW1 ▸ (by repeat' (first | (with_reducible exact Below.refl _ _) | (with_reducible assumption) | (with_reducible refine below_drewN ?_ _) | (with_reducible refine Below.drew ?_) | (with_reducible refine Below.alloc ?_ ?_ _) | (with_reducible refine Below.setCell ?_ ?_ _) | (with_reducible refine then_ ?_ (by with_reducible assumption) ?_) | (with_reducible exact Nat.le_refl _) | (with_reducible exact Nat.le_succ _) | (with_reducible exact Nat.le_succ_of_le (by with_reducible assumption)) | omega | (simp; done) | (simp; omega) | (exact Nat.le_succ _) | (exact Nat.le_succ_of_le (by with_reducible assumption))))
    clear hW1 HM
    go_wp2
    go_loopg [5, 7] len (fun g r i wv => g ≤ len ∧ i = .int .i64 ((g : Int) - 1) ∧ r = .int .i64 (dvl 10 (l.drop g)).2 ∧ Own wv w.heap.size 27 #[.bool s, .slice a0 len0 cap0] ∧ Own wv V.heap.size 3 (cells (List.replicate g 0 ++ (dvl 10 (l.drop g)).1)) ∧ Below V.heap.size V wv)
    case atStart =>
      have e : l.drop len = [] := List.drop_eq_nil_of_le (by have := LN.out; omega)
      rw [e]
      exact ⟨Nat.le_refl _, rfl, rfl, OA1, by simpa [dvl] using OO, hB1⟩
    case round =>
      clear OA1 OO hB1
      have hp3 := OA.in_
      obtain ⟨hk, rfl, rfl, OA1, OO, hB1⟩ := hrel
      cases gk with
      | zero =>
        rw [List.drop_zero] at OO ⊢
        obtain ⟨h1, h2, -, -, -⟩ := dvl_ok (q := 10) (by omega) HD.out
        obtain ⟨h5, h6⟩ := dvl_quo (q := 10) (by omega) HD.out
        have hv := HV.out
        rw [hv] at h5 h6
        generalize (dvl 10 l).1 = o at *
        generalize (dvl 10 l).2 = R at *
        obtain ⟨r, hr⟩ : ∃ r : Nat, m % 10 = r := ⟨_, rfl⟩
        have hR : R = (r : Int) := by omega
        subst hR
        have r10 : r < 10 := by omega
        obtain ⟨D, hD⟩ : ∃ D : UInt8, D = UInt8.ofNat (48 + m % 10) := ⟨_, rfl⟩
        have hDn : ((D.toNat : Nat) : Int) = 48 + (r : Int) := by rw [hD, hr, UInt8.toNat_ofNat']; omega
        have hrun : (convert 75 9 (.slice (some ⟨wr.heap.size, 0, none⟩) 1 1)).run Tryd.prog (wr.alloc (.cells #[.int .u8 (48 + (r : Int))] 5)) = .ok (.string ⟨[D].toArray⟩) (wr.alloc (.cells #[.int .u8 (48 + (r : Int))] 5)) := by
          exact run_convert_bytes_back (P := Tryd.prog) (wr.alloc (.cells #[.int .u8 (48 + (r : Int))] 5)) 75 9 5 ⟨wr.heap.size, 0, none⟩ 1 [D] Tryd.underlying75 Tryd.underlying5 Tryd.underlying9
            (fun i hi => by
              have hij : i = 0 := by simpa using hi
              subst hij
              have ea : (⟨wr.heap.size, 0, none⟩ : Addr).add 0 = ⟨wr.heap.size, 0, none⟩ := rfl
              rw [ea, World.cell?_alloc_mark]
              simp [hDn])
        obtain ⟨q, hq⟩ : ∃ q : Nat, m / 10 = q := ⟨_, rfl⟩
        have OD : DRow wr 0 V.heap.size (some ⟨V.heap.size, 0, none⟩) len len o := own_drow (by simpa using OO) (by have := LN.out; omega) (by unfold maxLen; omega) (Nat.le_refl _)
        obtain ⟨tb, htb⟩ : ∃ tb, decide (q = 0) = tb := ⟨_, rfl⟩
        have hql : (digs q).length ≤ len := by
          have h7 := LN.out
          rw [← hll.out] at h7
          rw [← h7]
          exact Nat.le_of_not_lt fun h => by have := digs_longer h; omega
        have TR1 : ∀ w', Below wr.heap.size wr w' → Calls Tryd.prog 33 #[.agg #[.bool false, .slice (some ⟨V.heap.size, 0, none⟩) len len]] w' fun e w'' => ∃ s2 a' l' c', e = .returned (.agg #[.bool s2, .slice a' l' c']) ∧ ((l' : Int) == 0) = tb ∧ l' ≤ 1000000 ∧ DRow w'' 0 V.heap.size a' l' c' (digs q) ∧ Below w'.heap.size w' w'' := fun w' hb => by
          refine (trim_num 0 V.heap.size false (some ⟨V.heap.size, 0, none⟩) len len o (q : Int) w' (OD.keep hb) h2 (by omega)).mono ?_
          rintro e w'' ⟨v, rfl, ⟨a', l', c', rfl, hd⟩, hb'⟩
          have e1 : (if false = true then -(q : Int) else (q : Int)).natAbs = q := by simp
          rw [e1] at hd
          refine ⟨_, a', l', c', rfl, ?_, by have := hd.hlen; omega, hd, hb'⟩
          have h8 := hd.hlen
          rw [← htb]
          by_cases h0 : q = 0
          · rw [h0, digs_zero] at h8
            simp at h8
            rw [← h8, h0]; rfl
          · have h9 := digs_len h0
            rw [show decide (q = 0) = false by simpa using h0, beq_eq_false_iff_ne]
            omega
        have TR := Lib.hid TR1
        have ND := num_digits
        have DSTEP : m < 10 → Lib.decDigits m = [D] := fun h => by rw [hD]; exact dec_one m h
        have DMORE : 10 ≤ m → Lib.decDigits m = Lib.decDigits q ++ [D] := fun h => by rw [hD, ← hq]; exact dec_step m h
        have DS := Lib.hid DSTEP
        have DM := Lib.hid DMORE
        have HQ := Lib.hid hq
        have HTB := Lib.hid htb
        have hp4 := OO.in_
        have hp5 := hB1.size
        clear TR1 OD OO HX HD HV h1 h2 h5 h6 hv hD hDn hr hq hql htb LN hll DSTEP DMORE hdl hl
        cases tb with
        | false =>
          have hq0 : q ≠ 0 := by have := HTB.out; simpa using this
          have hm10 : 10 ≤ m := by have := HQ.out; omega
          have HT2 := Lib.hid (show Lib.decDigits n0 = Lib.decDigits q ++ (D :: t) by rw [HT.out, DM.out hm10]; simp)
          have hqm : q < m := by have := HQ.out; omega
          clear HT DS DM HQ HTB hq0 hm10
          go_wp2_with (go_at_call 33; refine (TR.out _ (by repeat' (first | (with_reducible exact Below.refl _ _) | (with_reducible assumption) | (with_reducible refine below_drewN ?_ _) | (with_reducible refine Below.drew ?_) | (with_reducible refine Below.alloc ?_ ?_ _) | (with_reducible refine Below.setCell ?_ ?_ _) | (with_reducible refine then_ ?_ (by with_reducible assumption) ?_) | (with_reducible exact Nat.le_refl _) | (with_reducible exact Nat.le_succ _) | (with_reducible exact Nat.le_succ_of_le (by with_reducible assumption)) | omega | (simp; done) | (simp; omega) | (exact Nat.le_succ _) | (exact Nat.le_succ_of_le (by with_reducible assumption))))).mono ?_; rintro e w2 ⟨s2, a', l', c', rfl, hz, hl6, hd, hb2⟩)
          have hB2 : Below wr.heap.size wr w2 := then_ (by repeat' (first | (with_reducible exact Below.refl _ _) | (with_reducible assumption) | (with_reducible refine below_drewN ?_ _) | (with_reducible refine Below.drew ?_) | (with_reducible refine Below.alloc ?_ ?_ _) | (with_reducible refine Below.setCell ?_ ?_ _) | (with_reducible refine then_ ?_ (by with_reducible assumption) ?_) | (with_reducible exact Nat.le_refl _) | (with_reducible exact Nat.le_succ _) | (with_reducible exact Nat.le_succ_of_le (by with_reducible assumption)) | omega | (simp; done) | (simp; omega) | (exact Nat.le_succ _) | (exact Nat.le_succ_of_le (by with_reducible assumption)))) hb2 (by simp)
          go_roundg q
          case measure => exact hqm
          case rel => exact ⟨a', l', c', 0, V.heap.size, D :: t, rfl, congrArg Value.string (ByteArray.ext (by simp)), hl6, HT2, hd, OA1.keep hB2, then_ (then_ hB hB1 hB.size) hB2 (by have := hB.size; omega)⟩
        | true =>
          have hq0 : q = 0 := by have := HTB.out; simpa using this
          have hm10 : m < 10 := by have := HQ.out; omega
          have HT2 := Lib.hid (show Lib.decDigits n0 = D :: t by rw [HT.out, DS.out hm10]; simp)
          clear HT DS DM HQ HTB hq0 hm10
          cases s
          all_goals
            go_wp2_with (go_at_call 33; refine (TR.out _ (by repeat' (first | (with_reducible exact Below.refl _ _) | (with_reducible assumption) | (with_reducible refine below_drewN ?_ _) | (with_reducible refine Below.drew ?_) | (with_reducible refine Below.alloc ?_ ?_ _) | (with_reducible refine Below.setCell ?_ ?_ _) | (with_reducible refine then_ ?_ (by with_reducible assumption) ?_) | (with_reducible exact Nat.le_refl _) | (with_reducible exact Nat.le_succ _) | (with_reducible exact Nat.le_succ_of_le (by with_reducible assumption)) | omega | (simp; done) | (simp; omega) | (exact Nat.le_succ _) | (exact Nat.le_succ_of_le (by with_reducible assumption))))).mono ?_; rintro e w2 ⟨s2, a', l', c', rfl, hz, hl6, hd, hb2⟩; have hB2 : Below wr.heap.size wr w2 := then_ (by repeat' (first | (with_reducible exact Below.refl _ _) | (with_reducible assumption) | (with_reducible refine below_drewN ?_ _) | (with_reducible refine Below.drew ?_) | (with_reducible refine Below.alloc ?_ ?_ _) | (with_reducible refine Below.setCell ?_ ?_ _) | (with_reducible refine then_ ?_ (by with_reducible assumption) ?_) | (with_reducible exact Nat.le_refl _) | (with_reducible exact Nat.le_succ _) | (with_reducible exact Nat.le_succ_of_le (by with_reducible assumption)) | omega | (simp; done) | (simp; omega) | (exact Nat.le_succ _) | (exact Nat.le_succ_of_le (by with_reducible assumption)))) hb2 (by simp); have OA2 := OA1.keep hB2; obtain ⟨P1, P2, P3⟩ := OA2.at_; clear hd)
            go_ret
            refine ⟨rets_eq ?_, then_ (then_ hB hB1 hB.size) hB2 (by have := hB.size; omega)⟩
            have HS2 : pre = _ := HS.out
            simp only [cond_false, cond_true] at HS2
            rw [HS2, HT2.out]
            exact ByteArray.ext (by simp)
      | succ j =>
        obtain ⟨d, hd⟩ : ∃ d, l[j]? = some d := ⟨l[j]'(by have := LN.out; omega), by simp⟩
        obtain ⟨d0, d1⟩ := HD.out.at hd
        obtain ⟨b, o, rfl, hc⟩ : ∃ b o, a = some ⟨b, o, none⟩ ∧ V.cell? ⟨b, o + j, none⟩ = some (.int .i64 d) := by
          rcases HX.out with h | ⟨b, o, h1, _, h2⟩
          · rw [h] at hd; simp at hd
          · exact ⟨b, o, h1, h2 j d hd⟩
        have C1 : wr.cell? ⟨b, o + j, none⟩ = some (.int .i64 d) := by rw [hB1.cell (cell_lt hc)]; exact hc
        have DD := Lib.hid (dvl_drop 10 l j d hd)
        obtain ⟨-, -, r0, r1, -⟩ := dvl_ok (q := 10) (by omega) (HD.out.drop (j + 1))
        generalize (dvl 10 (l.drop (j + 1))).1 = Q at *
        generalize (dvl 10 (l.drop (j + 1))).2 = R at *
        have SET := Lib.hid (show (cells (List.replicate (j + 1) 0 ++ Q)).setIfInBounds j (.int .i64 ((R * 65536 + d) / 10)) = cells (List.replicate j 0 ++ (dvl 10 (l.drop j)).1) by
          rw [DD.out, cells_set]
          congr 1
          rw [List.replicate_succ', List.append_assoc]
          rw [List.set_append_right _ _ (by simp)]
          simp)
        have hj : ((j + 1 : Nat) : Int) - 1 = (j : Int) := by omega
        have hj0 : (0 : Int) ≤ (j : Int) := by omega
        have hj1 : (j : Int) < (len : Int) := by omega
        obtain ⟨P1, P2, P3⟩ := OO.at_
        have P4 : wr.cell? ⟨V.heap.size, j, none⟩ = some (.int .i64 0) := (P1 j).trans (cells_get _ _ (by rw [List.getElem?_append_left (by simp)]; simp))
        have hb1 : b ≠ V.heap.size := by have := cell_lt hc; omega
        rw [hj]
        clear hd hc HX hj P1 HD
        go_wp2
        go_roundg j
        case measure => omega
        case rel => exact ⟨by omega, by go_num, by rw [DD.out], OA1.apart (by omega) _ _, (OO.put j _).as SET.out, hB1.setCell (Nat.le_refl _) _⟩
end Go.Proofs.YtdnjkminicmffaaDoor
