
/- The contract of wide.divide: the long way. Conditions: sizes, b not nought. -/
import Derived.Test.YtjmojddnedngaaaDoorWideV
import Derived.IntWalk
namespace Go.Proofs.YtjmojddnedngaaaDoor
open Go.ChangeShapes Go.WideShapes Go.ChangeAt Go.RowKit
set_option linter.unusedVariables false

set_option maxHeartbeats 16000000 in
set_option maxRecDepth 20000 in
theorem divide_long_f (a b : Int) (hSa : Siz a) (hSb : Siz b) (hb1 : 0 < b) (hsa : decide (L1 a = 0 ∧ L2 a = 0 ∧ L3 a = 0) = false) (la lb : Int) (P : Nat) (hla : blz a = la) (hlb : blz b = lb) (ha : 0 ≤ la) (ha2 : la ≤ 256) (hb : lb ≤ 256) (hb0 : 1 ≤ lb) (hl : la - lb = P) (hP1 : a < b * 2 ^ (P + 1)) (hP2 : b * 2 ^ P ≤ 115792089237316195423570985008687907853269984665640564039457584007913129639935) (w : World) :
    Calls Tryd.prog 51 #[.agg #[.int .u64 (L0 a), .int .u64 (L1 a), .int .u64 (L2 a), .int .u64 (L3 a)], .agg #[.int .u64 (L0 b), .int .u64 (L1 b), .int .u64 (L2 b), .int .u64 (L3 b)]] w fun e w' => e = .returned (.tuple #[.agg #[.int .u64 (L0 (a / b)), .int .u64 (L1 (a / b)), .int .u64 (L2 (a / b)), .int .u64 (L3 (a / b))], .agg #[.int .u64 (L0 (a % b)), .int .u64 (L1 (a % b)), .int .u64 (L2 (a % b)), .int .u64 (L3 (a % b))]]) ∧ Below w.heap.size w w' := by
  have EA : ∀ w, (Op.equalIn 10000 58 (.agg #[.int .u64 (L0 a), .int .u64 (L1 a), .int .u64 (L2 a), .int .u64 (L3 a)]) (.agg #[.int .u64 (L0 a), .int .u64 0, .int .u64 0, .int .u64 0])).run Tryd.prog w = .ok false w := fun w => by rw [eq_first, hsa]
  have LA := Lib.hid (fun w => length_any a w); rw [hla] at LA
  have LB := Lib.hid (fun w => length_any b w); rw [hlb] at LB
  have hPb : (P : Int) ≤ 255 := by omega
  have hPw : IntKind.i64.wrap (P : Int) = P := IntWalk.i64_in _ (by omega)
  have UP0 : ∀ w, Calls Tryd.prog 56 #[.agg #[.int .u64 (L0 b), .int .u64 (L1 b), .int .u64 (L2 b), .int .u64 (L3 b)], .int .i64 P] w fun e w' => e = .returned (.agg #[.int .u64 (L0 (b * 2 ^ P)), .int .u64 (L1 (b * 2 ^ P)), .int .u64 (L2 (b * 2 ^ P)), .int .u64 (L3 (b * 2 ^ P))]) ∧ ∃ c1 c2 c3 m, w' = (((w.alloc (.cells c1 58)).alloc (.cells c2 58)).alloc (.cells c3 58)).drewN m := fun w => by
    have := up_any b P (by omega) (by omega) w
    rw [Int.toNat_natCast] at this
    exact this
  have UP := Lib.hid UP0
  clear UP0
  have D0 := Lib.hid (DivAt.begin a b (P + 1) hSa.lo hP1)
  have DD := Lib.hid (fun q r (h : DivAt a b q r 0) => h.done hb1)
  have DS := Lib.hid (fun q r n (h : DivAt a b q r n) => h.siz hSa hb1)
  have hP3 := Lib.hid (show ∀ k, k ≤ P → Siz (b * 2 ^ k) from fun k hk => by
    have p := Int.pow_pos (n := 2) (m := k) (by decide)
    have m := Int.mul_le_mul_of_nonneg_left (show (2 : Int) ^ k ≤ 2 ^ P by exact_mod_cast Nat.pow_le_pow_right (by omega : 0 < 2) hk) (show 0 ≤ b by omega)
    exact ⟨Int.mul_nonneg (by omega) (by omega), by omega⟩)
  have PT := Lib.hid (DivAt.part b P)
  clear hla hlb hsa hP1 hP2
  · obtain ⟨da, hda⟩ : ∃ x, x = a / b := ⟨_, rfl⟩
    obtain ⟨db, hdb⟩ : ∃ x, x = a % b := ⟨_, rfl⟩
    rw [← hda, ← hdb]
    have Hda := Lib.hid hda; have Hdb := Lib.hid hdb
    clear hda hdb
    generalize hpt : b * 2 ^ P = pt0 at UP PT
    have Hpt := Lib.hid hpt
    clear hpt
    generalize L0 b = y0 at *; generalize L1 b = y1 at *; generalize L2 b = y2 at *; generalize L3 b = y3 at *
    go_enter Tryd.func51, Tryd.ntmps51
    go_wp2
    go_region_held3 (fun W => W.cell? ⟨w.heap.size, 0, none⟩ = some (.int .u64 (L0 a)) ∧ W.cell? ⟨w.heap.size, 1, none⟩ = some (.int .u64 (L1 a)) ∧ W.cell? ⟨w.heap.size, 2, none⟩ = some (.int .u64 (L2 a)) ∧ W.cell? ⟨w.heap.size, 3, none⟩ = some (.int .u64 (L3 a)) ∧ W.cell? ⟨w.heap.size + 1, 0, none⟩ = some (.int .u64 y0) ∧ W.cell? ⟨w.heap.size + 1, 1, none⟩ = some (.int .u64 y1) ∧ W.cell? ⟨w.heap.size + 1, 2, none⟩ = some (.int .u64 y2) ∧ W.cell? ⟨w.heap.size + 1, 3, none⟩ = some (.int .u64 y3)) (simp [go_sem, World.cell?_alloc_past])
      (first
        | (go_at_call 55; with_reducible refine (LA.out _).mono ?_; rintro e w2 ⟨rfl, c, rfl⟩)
        | (go_at_call 55; with_reducible refine (LB.out _).mono ?_; rintro e w2 ⟨rfl, c, rfl⟩))
    rename_i hh; clear hh
    go_wp2_with (go_at_call 56; refine (UP.out _).mono ?_; rintro e w2 ⟨rfl, c1, c2, c3, m, rfl⟩)
    go_loopw [6, 8] (fun s6 s8 wr => ∃ (n pt : Nat) (q r : Int), n ≤ P + 1 ∧ s6 = .int .i64 ((n : Int) - 1) ∧ s8 = .pointer (some ⟨pt, 0, none⟩) ∧ Hid (DivAt a b q r n) ∧ w.heap.size + 1 + 1 + 1 + 1 + 1 + 1 < pt ∧ Own wr (w.heap.size) 58 #[.int .u64 (L0 r), .int .u64 (L1 r), .int .u64 (L2 r), .int .u64 (L3 r)] ∧ Own wr (w.heap.size + 1 + 1 + 1 + 1 + 1 + 1) 58 #[.int .u64 (L0 q), .int .u64 (L1 q), .int .u64 (L2 q), .int .u64 (L3 q)] ∧ Own wr (pt) 58 #[.int .u64 (L0 (b * 2 ^ n / 2)), .int .u64 (L1 (b * 2 ^ n / 2)), .int .u64 (L2 (b * 2 ^ n / 2)), .int .u64 (L3 (b * 2 ^ n / 2))] ∧ Own wr (w.heap.size + 1 + 1) 58 #[.int .u64 0, .int .u64 0, .int .u64 0, .int .u64 0] ∧ Own wr (w.heap.size + 1 + 1 + 1) 58 #[.int .u64 0, .int .u64 0, .int .u64 0, .int .u64 0] ∧ Below w.heap.size w wr) (fun s6 _ _ => (intOf s6 + 1).toNat)
    case atStart =>
      refine ⟨P + 1, _, 0, a, Nat.le_refl _, by congr 1; omega, rfl, D0, by omega, ?_, ?_, ?_, ?_, ?_, ?_⟩
      · repeat' (first | (with_reducible assumption) | (with_reducible refine Own.drawnN ?_ _) | (with_reducible refine Own.drawn ?_) | (with_reducible refine Own.made_at ?_; first | rfl | (simp; done) | omega | (simp; omega)) | (with_reducible refine Own.more ?_ _) | (with_reducible refine Own.apart ?_ ?_ _ _; rotate_left; first | omega | (simp; done) | (simp; omega)) | (refine Own.put ?_ _ _))
      · refine Own.as (cs := #[.int .u64 0, .int .u64 0, .int .u64 0, .int .u64 0]) ?_ rfl
        repeat' (first | (with_reducible assumption) | (with_reducible refine Own.drawnN ?_ _) | (with_reducible refine Own.drawn ?_) | (with_reducible refine Own.made_at ?_; first | rfl | (simp; done) | omega | (simp; omega)) | (with_reducible refine Own.more ?_ _) | (with_reducible refine Own.apart ?_ ?_ _ _; rotate_left; first | omega | (simp; done) | (simp; omega)) | (refine Own.put ?_ _ _))
      · rw [PT.out]
        repeat' (first | (with_reducible assumption) | (with_reducible refine Own.drawnN ?_ _) | (with_reducible refine Own.drawn ?_) | (with_reducible refine Own.made_at ?_; first | rfl | (simp; done) | omega | (simp; omega)) | (with_reducible refine Own.more ?_ _) | (with_reducible refine Own.apart ?_ ?_ _ _; rotate_left; first | omega | (simp; done) | (simp; omega)) | (refine Own.put ?_ _ _))
      · repeat' (first | (with_reducible assumption) | (with_reducible refine Own.drawnN ?_ _) | (with_reducible refine Own.drawn ?_) | (with_reducible refine Own.made_at ?_; first | rfl | (simp; done) | omega | (simp; omega)) | (with_reducible refine Own.more ?_ _) | (with_reducible refine Own.apart ?_ ?_ _ _; rotate_left; first | omega | (simp; done) | (simp; omega)) | (refine Own.put ?_ _ _))
      · repeat' (first | (with_reducible assumption) | (with_reducible refine Own.drawnN ?_ _) | (with_reducible refine Own.drawn ?_) | (with_reducible refine Own.made_at ?_; first | rfl | (simp; done) | omega | (simp; omega)) | (with_reducible refine Own.more ?_ _) | (with_reducible refine Own.apart ?_ ?_ _ _; rotate_left; first | omega | (simp; done) | (simp; omega)) | (refine Own.put ?_ _ _))
      · repeat' (first | (with_reducible exact Below.refl _ _) | (with_reducible assumption) | (with_reducible refine below_drewN ?_ _) | (with_reducible refine Below.drew ?_) | (with_reducible refine Below.alloc ?_ ?_ _) | (with_reducible refine Below.setCell ?_ ?_ _) | (with_reducible refine then_ ?_ (by with_reducible assumption) ?_) | (with_reducible exact Nat.le_refl _) | (with_reducible exact Nat.le_succ _) | (with_reducible exact Nat.le_succ_of_le (by with_reducible assumption)) | omega | (simp; done) | (simp; omega) | (exact Nat.le_succ _) | (exact Nat.le_succ_of_le (by with_reducible assumption)))
    case round =>
      obtain ⟨n, pt, q, r, hn, rfl, rfl, HD, hpq, OA, OQ, OP, O4, O5, hB⟩ := hrel
      rename_i wr
      obtain ⟨A1, A2, A3⟩ := OA.at_
      obtain ⟨Q1, Q2, Q3⟩ := OQ.at_
      obtain ⟨P1, P2, P3⟩ := OP.at_
      obtain ⟨F1, F2, F3⟩ := O4.at_
      obtain ⟨G1, G2, G3⟩ := O5.at_
      by_cases hn0 : n = 0
      · subst hn0
        obtain ⟨e1, e2⟩ := DD.out q r HD.out
        rw [← Hda.out] at e1; rw [← Hdb.out] at e2
        subst e1 e2
        clear P1 P2 P3
        go_wp2
        go_region
        all_goals go_wp2
        try simp only [setCell_drawn]
        refine bodyPost_ret (by simp [results, Tryd.results51, go_sem, F1, G1]) rfl ⟨rfl, ?_⟩
        repeat' (first | (with_reducible exact Below.refl _ _) | (with_reducible assumption) | (with_reducible refine below_drewN ?_ _) | (with_reducible refine Below.drew ?_) | (with_reducible refine Below.alloc ?_ ?_ _) | (with_reducible refine Below.setCell ?_ ?_ _) | (with_reducible refine then_ ?_ (by with_reducible assumption) ?_) | (with_reducible exact Nat.le_refl _) | (with_reducible exact Nat.le_succ _) | (with_reducible exact Nat.le_succ_of_le (by with_reducible assumption)) | omega | (simp; done) | (simp; omega) | (exact Nat.le_succ _) | (exact Nat.le_succ_of_le (by with_reducible assumption)))
      · obtain ⟨k, rfl⟩ : ∃ k, n = k + 1 := ⟨n - 1, by omega⟩
        have i2 : ((k + 1 : Nat) : Int) - 1 = (k : Int) := by omega
        rw [i2]
        clear i2 hn0 F1 F2 F3 G1 G2 G3
        have S1 := DS.out q r _ HD.out
        have S2 := hP3.out k (by omega)
        have PE := DivAt.part b k
        rw [PE] at OP P1
        obtain ⟨pr, hpr⟩ : ∃ x, x = b * 2 ^ k := ⟨_, rfl⟩
        rw [← hpr] at OP P1 S2 PE
        have Hpr := Lib.hid hpr; have HPE := Lib.hid PE
        clear hpr PE
        have CV := cmp_siz S1.2 S2
        have kb : (k : Int) ≤ 255 := by omega
        have CX : ∀ i, i < 4 → wr.cell? ⟨w.heap.size, i, none⟩ = some (.int .u64 (Lf r i)) := fun i hi => by
          rw [A1]
          rcases (by omega : i = 0 ∨ i = 1 ∨ i = 2 ∨ i = 3) with rfl | rfl | rfl | rfl <;> rfl
        have CY : ∀ i, i < 4 → wr.cell? ⟨pt, i, none⟩ = some (.int .u64 (Lf pr i)) := fun i hi => by
          rw [P1]
          rcases (by omega : i = 0 ∨ i = 1 ∨ i = 2 ∨ i = 3) with rfl | rfl | rfl | rfl <;> rfl
        have CM : ∀ n, Calls Tryd.prog 57 #[.slice (some ⟨w.heap.size, 0, none⟩) 4 4, .slice (some ⟨pt, 0, none⟩) 4 4] (wr.drewN n) fun e w'' => e = .returned (.int .i64 (cmpW (Lf r) (Lf pr) 4)) ∧ ∃ m, w'' = wr.drewN m := fun n =>
          Calls.quiet_of (compare_any (Lf r) (Lf pr) w.heap.size pt 4 4 4 (by decide) (wr.drewN n) CX CY)
        have DN := Lib.hid (fun w => down_b pr 1 S2 (by decide) (by decide) w)
        have MI := Lib.hid (fun w => minus_b r pr w)
        clear CX CY S2 S1
        by_cases hc : pr ≤ r
        · obtain ⟨cv, hcv, hc0⟩ : ∃ cv : Int, cmpW (Lf r) (Lf pr) 4 = cv ∧ 0 ≤ cv := ⟨_, rfl, by rw [CV]; split; omega; split <;> decide⟩
          rw [hcv] at CM
          clear hcv CV
          have DT := HD.out.take (by rw [← Hpr.out]; exact hc)
          rw [← Hpr.out] at DT
          have HDT := Lib.hid DT
          clear hc DT
          have CMH := Lib.hid CM
          clear CM
          have n1 : ¬ pt = w.heap.size := by omega
          have n2 : ¬ pt = w.heap.size + 1 + 1 + 1 + 1 + 1 + 1 := by omega
          obtain ⟨mm, hmm⟩ : ∃ mm, (k : Int) % 64 = mm := ⟨_, rfl⟩
          have m0 : 0 ≤ mm := by omega
          have m1 : mm ≤ 63 := by omega
          have hlow := HD.out.low
          have k4 : (k : Int) / 64 = 0 ∨ (k : Int) / 64 = 1 ∨ (k : Int) / 64 = 2 ∨ (k : Int) / 64 = 3 := by omega
          rcases k4 with k0 | k0 | k0 | k0
          · have SB := Lib.hid (set_bit_0 q mm k k0 hmm hlow)
            clear hlow
            go_wp2
            go_quiet ((go_at_call 57; exact CMH.out _))
            go_wp2_with (first
              | (go_at_call 29; refine (MI.out _).mono ?_; rintro e w2 ⟨rfl, hb2⟩; have OA2 := (OA.drawnN _).keep hb2; have OQ2 := (OQ.drawnN _).keep hb2; have OP2 := (OP.drawnN _).keep hb2; have O42 := (O4.drawnN _).keep hb2; have O52 := (O5.drawnN _).keep hb2; clear OA OQ OP O4 O5 A1 A2 A3 Q1 Q2 Q3 P1 P2 P3; obtain ⟨A1, A2, A3⟩ := OA2.at_; obtain ⟨Q1, Q2, Q3⟩ := OQ2.at_; obtain ⟨P1, P2, P3⟩ := OP2.at_; have hB2 : Below w.heap.size w w2 := then_ (below_drewN hB _) hb2 hB.size)
              | (go_at_call 58; refine (DN.out _).mono ?_; rintro e w3 ⟨rfl, hb3⟩
                 have OP3 : Own w3 pt 58 #[.int .u64 (L0 pr), .int .u64 (L1 pr), .int .u64 (L2 pr), .int .u64 (L3 pr)] := by
                   refine Own.keep ?_ hb3
                   repeat' (first | (with_reducible assumption) | (with_reducible refine Own.drawnN ?_ _) | (with_reducible refine Own.drawn ?_) | (with_reducible refine Own.made_at ?_; first | rfl | (simp; done) | omega | (simp; omega)) | (with_reducible refine Own.more ?_ _) | (with_reducible refine Own.apart ?_ ?_ _ _; rotate_left; first | omega | (simp; done) | (simp; omega)) | (refine Own.put ?_ _ _))
                 clear A1 A2 A3 Q1 Q2 Q3 P1 P2 P3
                 obtain ⟨P1, P2, P3⟩ := OP3.at_))
            have OA3 : Own w3 w.heap.size 58 #[.int .u64 (L0 (r - pr)), .int .u64 (L1 (r - pr)), .int .u64 (L2 (r - pr)), .int .u64 (L3 (r - pr))] := by
              refine Own.keep ?_ hb3
              refine Own.as (cs := ((((#[.int .u64 (L0 r), .int .u64 (L1 r), .int .u64 (L2 r), .int .u64 (L3 r)] : Array Value).setIfInBounds 0 (.int .u64 (L0 (r - pr)))).setIfInBounds 1 (.int .u64 (L1 (r - pr)))).setIfInBounds 2 (.int .u64 (L2 (r - pr)))).setIfInBounds 3 (.int .u64 (L3 (r - pr)))) ?_ rfl
              repeat' (first | (with_reducible assumption) | (with_reducible refine Own.drawnN ?_ _) | (with_reducible refine Own.drawn ?_) | (with_reducible refine Own.made_at ?_; first | rfl | (simp; done) | omega | (simp; omega)) | (with_reducible refine Own.more ?_ _) | (with_reducible refine Own.apart ?_ ?_ _ _; rotate_left; first | omega | (simp; done) | (simp; omega)) | (refine Own.put ?_ _ _))
            have OQ3 : Own w3 (w.heap.size + 1 + 1 + 1 + 1 + 1 + 1) 58 #[Value.int .u64 (L0 (q + 2 ^ k)), Value.int .u64 (L1 (q + 2 ^ k)), Value.int .u64 (L2 (q + 2 ^ k)), Value.int .u64 (L3 (q + 2 ^ k))] := by
              refine Own.keep ?_ hb3
              obtain ⟨s0, s1, s2, s3⟩ := SB.out
              refine Own.as (cs := (#[.int .u64 (L0 q), .int .u64 (L1 q), .int .u64 (L2 q), .int .u64 (L3 q)] : Array Value).setIfInBounds 0 (.int .u64 (bits BinOp.or IntKind.u64 (L0 q) (IntKind.u64.wrap (2 ^ mm.toNat))))) ?_ (by show #[Value.int .u64 (bits BinOp.or IntKind.u64 (L0 q) (IntKind.u64.wrap (2 ^ mm.toNat))), Value.int .u64 (L1 q), Value.int .u64 (L2 q), Value.int .u64 (L3 q)] = _; rw [s0, s1, s2, s3])
              repeat' (first | (with_reducible assumption) | (with_reducible refine Own.drawnN ?_ _) | (with_reducible refine Own.drawn ?_) | (with_reducible refine Own.made_at ?_; first | rfl | (simp; done) | omega | (simp; omega)) | (with_reducible refine Own.more ?_ _) | (with_reducible refine Own.apart ?_ ?_ _ _; rotate_left; first | omega | (simp; done) | (simp; omega)) | (refine Own.put ?_ _ _))
            have O43 : Own w3 (w.heap.size + 1 + 1) 58 #[.int .u64 0, .int .u64 0, .int .u64 0, .int .u64 0] := by
              refine Own.keep ?_ hb3
              repeat' (first | (with_reducible assumption) | (with_reducible refine Own.drawnN ?_ _) | (with_reducible refine Own.drawn ?_) | (with_reducible refine Own.made_at ?_; first | rfl | (simp; done) | omega | (simp; omega)) | (with_reducible refine Own.more ?_ _) | (with_reducible refine Own.apart ?_ ?_ _ _; rotate_left; first | omega | (simp; done) | (simp; omega)) | (refine Own.put ?_ _ _))
            have O53 : Own w3 (w.heap.size + 1 + 1 + 1) 58 #[.int .u64 0, .int .u64 0, .int .u64 0, .int .u64 0] := by
              refine Own.keep ?_ hb3
              repeat' (first | (with_reducible assumption) | (with_reducible refine Own.drawnN ?_ _) | (with_reducible refine Own.drawn ?_) | (with_reducible refine Own.made_at ?_; first | rfl | (simp; done) | omega | (simp; omega)) | (with_reducible refine Own.more ?_ _) | (with_reducible refine Own.apart ?_ ?_ _ _; rotate_left; first | omega | (simp; done) | (simp; omega)) | (refine Own.put ?_ _ _))
            have hB3 : Below w.heap.size w w3 := by
              refine then_ ?_ hb3 ?_
              · repeat' (first | (with_reducible exact Below.refl _ _) | (with_reducible assumption) | (with_reducible refine below_drewN ?_ _) | (with_reducible refine Below.drew ?_) | (with_reducible refine Below.alloc ?_ ?_ _) | (with_reducible refine Below.setCell ?_ ?_ _) | (with_reducible refine then_ ?_ (by with_reducible assumption) ?_) | (with_reducible exact Nat.le_refl _) | (with_reducible exact Nat.le_succ _) | (with_reducible exact Nat.le_succ_of_le (by with_reducible assumption)) | omega | (simp; done) | (simp; omega) | (exact Nat.le_succ _) | (exact Nat.le_succ_of_le (by with_reducible assumption)))
              · have := hB2.size
                simpa using this
            clear OA2 OQ2 OP2 O42 O52 hB2
            have hz := OQ3.in_
            have hzp := OP3.in_
            have hzs := hB3.size
            go_roundw
            case rel =>
              refine ⟨k, _, q + 2 ^ k, r - pr, by omega, rfl, rfl, HDT, hz, ?_, ?_, ?_, ?_, ?_, ?_⟩
              · repeat' (first | (with_reducible assumption) | (with_reducible refine Own.drawnN ?_ _) | (with_reducible refine Own.drawn ?_) | (with_reducible refine Own.made_at ?_; first | rfl | (simp; done) | omega | (simp; omega)) | (with_reducible refine Own.more ?_ _) | (with_reducible refine Own.apart ?_ ?_ _ _; rotate_left; first | omega | (simp; done) | (simp; omega)) | (refine Own.put ?_ _ _))
              · repeat' (first | (with_reducible assumption) | (with_reducible refine Own.drawnN ?_ _) | (with_reducible refine Own.drawn ?_) | (with_reducible refine Own.made_at ?_; first | rfl | (simp; done) | omega | (simp; omega)) | (with_reducible refine Own.more ?_ _) | (with_reducible refine Own.apart ?_ ?_ _ _; rotate_left; first | omega | (simp; done) | (simp; omega)) | (refine Own.put ?_ _ _))
              · rw [Hpr.out.symm]
                repeat' (first | (with_reducible assumption) | (with_reducible refine Own.drawnN ?_ _) | (with_reducible refine Own.drawn ?_) | (with_reducible refine Own.made_at ?_; first | rfl | (simp; done) | omega | (simp; omega)) | (with_reducible refine Own.more ?_ _) | (with_reducible refine Own.apart ?_ ?_ _ _; rotate_left; first | omega | (simp; done) | (simp; omega)) | (refine Own.put ?_ _ _))
              · repeat' (first | (with_reducible assumption) | (with_reducible refine Own.drawnN ?_ _) | (with_reducible refine Own.drawn ?_) | (with_reducible refine Own.made_at ?_; first | rfl | (simp; done) | omega | (simp; omega)) | (with_reducible refine Own.more ?_ _) | (with_reducible refine Own.apart ?_ ?_ _ _; rotate_left; first | omega | (simp; done) | (simp; omega)) | (refine Own.put ?_ _ _))
              · repeat' (first | (with_reducible assumption) | (with_reducible refine Own.drawnN ?_ _) | (with_reducible refine Own.drawn ?_) | (with_reducible refine Own.made_at ?_; first | rfl | (simp; done) | omega | (simp; omega)) | (with_reducible refine Own.more ?_ _) | (with_reducible refine Own.apart ?_ ?_ _ _; rotate_left; first | omega | (simp; done) | (simp; omega)) | (refine Own.put ?_ _ _))
              · repeat' (first | (with_reducible exact Below.refl _ _) | (with_reducible assumption) | (with_reducible refine below_drewN ?_ _) | (with_reducible refine Below.drew ?_) | (with_reducible refine Below.alloc ?_ ?_ _) | (with_reducible refine Below.setCell ?_ ?_ _) | (with_reducible refine then_ ?_ (by with_reducible assumption) ?_) | (with_reducible exact Nat.le_refl _) | (with_reducible exact Nat.le_succ _) | (with_reducible exact Nat.le_succ_of_le (by with_reducible assumption)) | omega | (simp; done) | (simp; omega) | (exact Nat.le_succ _) | (exact Nat.le_succ_of_le (by with_reducible assumption)))
            case measure => simp [intOf]
          · have SB := Lib.hid (set_bit_1 q mm k k0 hmm hlow)
            clear hlow
            go_wp2
            go_quiet ((go_at_call 57; exact CMH.out _))
            go_wp2_with (first
              | (go_at_call 29; refine (MI.out _).mono ?_; rintro e w2 ⟨rfl, hb2⟩; have OA2 := (OA.drawnN _).keep hb2; have OQ2 := (OQ.drawnN _).keep hb2; have OP2 := (OP.drawnN _).keep hb2; have O42 := (O4.drawnN _).keep hb2; have O52 := (O5.drawnN _).keep hb2; clear OA OQ OP O4 O5 A1 A2 A3 Q1 Q2 Q3 P1 P2 P3; obtain ⟨A1, A2, A3⟩ := OA2.at_; obtain ⟨Q1, Q2, Q3⟩ := OQ2.at_; obtain ⟨P1, P2, P3⟩ := OP2.at_; have hB2 : Below w.heap.size w w2 := then_ (below_drewN hB _) hb2 hB.size)
              | (go_at_call 58; refine (DN.out _).mono ?_; rintro e w3 ⟨rfl, hb3⟩
                 have OP3 : Own w3 pt 58 #[.int .u64 (L0 pr), .int .u64 (L1 pr), .int .u64 (L2 pr), .int .u64 (L3 pr)] := by
                   refine Own.keep ?_ hb3
                   repeat' (first | (with_reducible assumption) | (with_reducible refine Own.drawnN ?_ _) | (with_reducible refine Own.drawn ?_) | (with_reducible refine Own.made_at ?_; first | rfl | (simp; done) | omega | (simp; omega)) | (with_reducible refine Own.more ?_ _) | (with_reducible refine Own.apart ?_ ?_ _ _; rotate_left; first | omega | (simp; done) | (simp; omega)) | (refine Own.put ?_ _ _))
                 clear A1 A2 A3 Q1 Q2 Q3 P1 P2 P3
                 obtain ⟨P1, P2, P3⟩ := OP3.at_))
            have OA3 : Own w3 w.heap.size 58 #[.int .u64 (L0 (r - pr)), .int .u64 (L1 (r - pr)), .int .u64 (L2 (r - pr)), .int .u64 (L3 (r - pr))] := by
              refine Own.keep ?_ hb3
              refine Own.as (cs := ((((#[.int .u64 (L0 r), .int .u64 (L1 r), .int .u64 (L2 r), .int .u64 (L3 r)] : Array Value).setIfInBounds 0 (.int .u64 (L0 (r - pr)))).setIfInBounds 1 (.int .u64 (L1 (r - pr)))).setIfInBounds 2 (.int .u64 (L2 (r - pr)))).setIfInBounds 3 (.int .u64 (L3 (r - pr)))) ?_ rfl
              repeat' (first | (with_reducible assumption) | (with_reducible refine Own.drawnN ?_ _) | (with_reducible refine Own.drawn ?_) | (with_reducible refine Own.made_at ?_; first | rfl | (simp; done) | omega | (simp; omega)) | (with_reducible refine Own.more ?_ _) | (with_reducible refine Own.apart ?_ ?_ _ _; rotate_left; first | omega | (simp; done) | (simp; omega)) | (refine Own.put ?_ _ _))
            have OQ3 : Own w3 (w.heap.size + 1 + 1 + 1 + 1 + 1 + 1) 58 #[Value.int .u64 (L0 (q + 2 ^ k)), Value.int .u64 (L1 (q + 2 ^ k)), Value.int .u64 (L2 (q + 2 ^ k)), Value.int .u64 (L3 (q + 2 ^ k))] := by
              refine Own.keep ?_ hb3
              obtain ⟨s0, s1, s2, s3⟩ := SB.out
              refine Own.as (cs := (#[.int .u64 (L0 q), .int .u64 (L1 q), .int .u64 (L2 q), .int .u64 (L3 q)] : Array Value).setIfInBounds 1 (.int .u64 (bits BinOp.or IntKind.u64 (L1 q) (IntKind.u64.wrap (2 ^ mm.toNat))))) ?_ (by show #[Value.int .u64 (L0 q), Value.int .u64 (bits BinOp.or IntKind.u64 (L1 q) (IntKind.u64.wrap (2 ^ mm.toNat))), Value.int .u64 (L2 q), Value.int .u64 (L3 q)] = _; rw [s0, s1, s2, s3])
              repeat' (first | (with_reducible assumption) | (with_reducible refine Own.drawnN ?_ _) | (with_reducible refine Own.drawn ?_) | (with_reducible refine Own.made_at ?_; first | rfl | (simp; done) | omega | (simp; omega)) | (with_reducible refine Own.more ?_ _) | (with_reducible refine Own.apart ?_ ?_ _ _; rotate_left; first | omega | (simp; done) | (simp; omega)) | (refine Own.put ?_ _ _))
            have O43 : Own w3 (w.heap.size + 1 + 1) 58 #[.int .u64 0, .int .u64 0, .int .u64 0, .int .u64 0] := by
              refine Own.keep ?_ hb3
              repeat' (first | (with_reducible assumption) | (with_reducible refine Own.drawnN ?_ _) | (with_reducible refine Own.drawn ?_) | (with_reducible refine Own.made_at ?_; first | rfl | (simp; done) | omega | (simp; omega)) | (with_reducible refine Own.more ?_ _) | (with_reducible refine Own.apart ?_ ?_ _ _; rotate_left; first | omega | (simp; done) | (simp; omega)) | (refine Own.put ?_ _ _))
            have O53 : Own w3 (w.heap.size + 1 + 1 + 1) 58 #[.int .u64 0, .int .u64 0, .int .u64 0, .int .u64 0] := by
              refine Own.keep ?_ hb3
              repeat' (first | (with_reducible assumption) | (with_reducible refine Own.drawnN ?_ _) | (with_reducible refine Own.drawn ?_) | (with_reducible refine Own.made_at ?_; first | rfl | (simp; done) | omega | (simp; omega)) | (with_reducible refine Own.more ?_ _) | (with_reducible refine Own.apart ?_ ?_ _ _; rotate_left; first | omega | (simp; done) | (simp; omega)) | (refine Own.put ?_ _ _))
            have hB3 : Below w.heap.size w w3 := by
              refine then_ ?_ hb3 ?_
              · repeat' (first | (with_reducible exact Below.refl _ _) | (with_reducible assumption) | (with_reducible refine below_drewN ?_ _) | (with_reducible refine Below.drew ?_) | (with_reducible refine Below.alloc ?_ ?_ _) | (with_reducible refine Below.setCell ?_ ?_ _) | (with_reducible refine then_ ?_ (by with_reducible assumption) ?_) | (with_reducible exact Nat.le_refl _) | (with_reducible exact Nat.le_succ _) | (with_reducible exact Nat.le_succ_of_le (by with_reducible assumption)) | omega | (simp; done) | (simp; omega) | (exact Nat.le_succ _) | (exact Nat.le_succ_of_le (by with_reducible assumption)))
              · have := hB2.size
                simpa using this
            clear OA2 OQ2 OP2 O42 O52 hB2
            have hz := OQ3.in_
            have hzp := OP3.in_
            have hzs := hB3.size
            go_roundw
            case rel =>
              refine ⟨k, _, q + 2 ^ k, r - pr, by omega, rfl, rfl, HDT, hz, ?_, ?_, ?_, ?_, ?_, ?_⟩
              · repeat' (first | (with_reducible assumption) | (with_reducible refine Own.drawnN ?_ _) | (with_reducible refine Own.drawn ?_) | (with_reducible refine Own.made_at ?_; first | rfl | (simp; done) | omega | (simp; omega)) | (with_reducible refine Own.more ?_ _) | (with_reducible refine Own.apart ?_ ?_ _ _; rotate_left; first | omega | (simp; done) | (simp; omega)) | (refine Own.put ?_ _ _))
              · repeat' (first | (with_reducible assumption) | (with_reducible refine Own.drawnN ?_ _) | (with_reducible refine Own.drawn ?_) | (with_reducible refine Own.made_at ?_; first | rfl | (simp; done) | omega | (simp; omega)) | (with_reducible refine Own.more ?_ _) | (with_reducible refine Own.apart ?_ ?_ _ _; rotate_left; first | omega | (simp; done) | (simp; omega)) | (refine Own.put ?_ _ _))
              · rw [Hpr.out.symm]
                repeat' (first | (with_reducible assumption) | (with_reducible refine Own.drawnN ?_ _) | (with_reducible refine Own.drawn ?_) | (with_reducible refine Own.made_at ?_; first | rfl | (simp; done) | omega | (simp; omega)) | (with_reducible refine Own.more ?_ _) | (with_reducible refine Own.apart ?_ ?_ _ _; rotate_left; first | omega | (simp; done) | (simp; omega)) | (refine Own.put ?_ _ _))
              · repeat' (first | (with_reducible assumption) | (with_reducible refine Own.drawnN ?_ _) | (with_reducible refine Own.drawn ?_) | (with_reducible refine Own.made_at ?_; first | rfl | (simp; done) | omega | (simp; omega)) | (with_reducible refine Own.more ?_ _) | (with_reducible refine Own.apart ?_ ?_ _ _; rotate_left; first | omega | (simp; done) | (simp; omega)) | (refine Own.put ?_ _ _))
              · repeat' (first | (with_reducible assumption) | (with_reducible refine Own.drawnN ?_ _) | (with_reducible refine Own.drawn ?_) | (with_reducible refine Own.made_at ?_; first | rfl | (simp; done) | omega | (simp; omega)) | (with_reducible refine Own.more ?_ _) | (with_reducible refine Own.apart ?_ ?_ _ _; rotate_left; first | omega | (simp; done) | (simp; omega)) | (refine Own.put ?_ _ _))
              · repeat' (first | (with_reducible exact Below.refl _ _) | (with_reducible assumption) | (with_reducible refine below_drewN ?_ _) | (with_reducible refine Below.drew ?_) | (with_reducible refine Below.alloc ?_ ?_ _) | (with_reducible refine Below.setCell ?_ ?_ _) | (with_reducible refine then_ ?_ (by with_reducible assumption) ?_) | (with_reducible exact Nat.le_refl _) | (with_reducible exact Nat.le_succ _) | (with_reducible exact Nat.le_succ_of_le (by with_reducible assumption)) | omega | (simp; done) | (simp; omega) | (exact Nat.le_succ _) | (exact Nat.le_succ_of_le (by with_reducible assumption)))
            case measure => simp [intOf]
          · have SB := Lib.hid (set_bit_2 q mm k k0 hmm hlow)
            clear hlow
            go_wp2
            go_quiet ((go_at_call 57; exact CMH.out _))
            go_wp2_with (first
              | (go_at_call 29; refine (MI.out _).mono ?_; rintro e w2 ⟨rfl, hb2⟩; have OA2 := (OA.drawnN _).keep hb2; have OQ2 := (OQ.drawnN _).keep hb2; have OP2 := (OP.drawnN _).keep hb2; have O42 := (O4.drawnN _).keep hb2; have O52 := (O5.drawnN _).keep hb2; clear OA OQ OP O4 O5 A1 A2 A3 Q1 Q2 Q3 P1 P2 P3; obtain ⟨A1, A2, A3⟩ := OA2.at_; obtain ⟨Q1, Q2, Q3⟩ := OQ2.at_; obtain ⟨P1, P2, P3⟩ := OP2.at_; have hB2 : Below w.heap.size w w2 := then_ (below_drewN hB _) hb2 hB.size)
              | (go_at_call 58; refine (DN.out _).mono ?_; rintro e w3 ⟨rfl, hb3⟩
                 have OP3 : Own w3 pt 58 #[.int .u64 (L0 pr), .int .u64 (L1 pr), .int .u64 (L2 pr), .int .u64 (L3 pr)] := by
                   refine Own.keep ?_ hb3
                   repeat' (first | (with_reducible assumption) | (with_reducible refine Own.drawnN ?_ _) | (with_reducible refine Own.drawn ?_) | (with_reducible refine Own.made_at ?_; first | rfl | (simp; done) | omega | (simp; omega)) | (with_reducible refine Own.more ?_ _) | (with_reducible refine Own.apart ?_ ?_ _ _; rotate_left; first | omega | (simp; done) | (simp; omega)) | (refine Own.put ?_ _ _))
                 clear A1 A2 A3 Q1 Q2 Q3 P1 P2 P3
                 obtain ⟨P1, P2, P3⟩ := OP3.at_))
            have OA3 : Own w3 w.heap.size 58 #[.int .u64 (L0 (r - pr)), .int .u64 (L1 (r - pr)), .int .u64 (L2 (r - pr)), .int .u64 (L3 (r - pr))] := by
              refine Own.keep ?_ hb3
              refine Own.as (cs := ((((#[.int .u64 (L0 r), .int .u64 (L1 r), .int .u64 (L2 r), .int .u64 (L3 r)] : Array Value).setIfInBounds 0 (.int .u64 (L0 (r - pr)))).setIfInBounds 1 (.int .u64 (L1 (r - pr)))).setIfInBounds 2 (.int .u64 (L2 (r - pr)))).setIfInBounds 3 (.int .u64 (L3 (r - pr)))) ?_ rfl
              repeat' (first | (with_reducible assumption) | (with_reducible refine Own.drawnN ?_ _) | (with_reducible refine Own.drawn ?_) | (with_reducible refine Own.made_at ?_; first | rfl | (simp; done) | omega | (simp; omega)) | (with_reducible refine Own.more ?_ _) | (with_reducible refine Own.apart ?_ ?_ _ _; rotate_left; first | omega | (simp; done) | (simp; omega)) | (refine Own.put ?_ _ _))
            have OQ3 : Own w3 (w.heap.size + 1 + 1 + 1 + 1 + 1 + 1) 58 #[Value.int .u64 (L0 (q + 2 ^ k)), Value.int .u64 (L1 (q + 2 ^ k)), Value.int .u64 (L2 (q + 2 ^ k)), Value.int .u64 (L3 (q + 2 ^ k))] := by
              refine Own.keep ?_ hb3
              obtain ⟨s0, s1, s2, s3⟩ := SB.out
              refine Own.as (cs := (#[.int .u64 (L0 q), .int .u64 (L1 q), .int .u64 (L2 q), .int .u64 (L3 q)] : Array Value).setIfInBounds 2 (.int .u64 (bits BinOp.or IntKind.u64 (L2 q) (IntKind.u64.wrap (2 ^ mm.toNat))))) ?_ (by show #[Value.int .u64 (L0 q), Value.int .u64 (L1 q), Value.int .u64 (bits BinOp.or IntKind.u64 (L2 q) (IntKind.u64.wrap (2 ^ mm.toNat))), Value.int .u64 (L3 q)] = _; rw [s0, s1, s2, s3])
              repeat' (first | (with_reducible assumption) | (with_reducible refine Own.drawnN ?_ _) | (with_reducible refine Own.drawn ?_) | (with_reducible refine Own.made_at ?_; first | rfl | (simp; done) | omega | (simp; omega)) | (with_reducible refine Own.more ?_ _) | (with_reducible refine Own.apart ?_ ?_ _ _; rotate_left; first | omega | (simp; done) | (simp; omega)) | (refine Own.put ?_ _ _))
            have O43 : Own w3 (w.heap.size + 1 + 1) 58 #[.int .u64 0, .int .u64 0, .int .u64 0, .int .u64 0] := by
              refine Own.keep ?_ hb3
              repeat' (first | (with_reducible assumption) | (with_reducible refine Own.drawnN ?_ _) | (with_reducible refine Own.drawn ?_) | (with_reducible refine Own.made_at ?_; first | rfl | (simp; done) | omega | (simp; omega)) | (with_reducible refine Own.more ?_ _) | (with_reducible refine Own.apart ?_ ?_ _ _; rotate_left; first | omega | (simp; done) | (simp; omega)) | (refine Own.put ?_ _ _))
            have O53 : Own w3 (w.heap.size + 1 + 1 + 1) 58 #[.int .u64 0, .int .u64 0, .int .u64 0, .int .u64 0] := by
              refine Own.keep ?_ hb3
              repeat' (first | (with_reducible assumption) | (with_reducible refine Own.drawnN ?_ _) | (with_reducible refine Own.drawn ?_) | (with_reducible refine Own.made_at ?_; first | rfl | (simp; done) | omega | (simp; omega)) | (with_reducible refine Own.more ?_ _) | (with_reducible refine Own.apart ?_ ?_ _ _; rotate_left; first | omega | (simp; done) | (simp; omega)) | (refine Own.put ?_ _ _))
            have hB3 : Below w.heap.size w w3 := by
              refine then_ ?_ hb3 ?_
              · repeat' (first | (with_reducible exact Below.refl _ _) | (with_reducible assumption) | (with_reducible refine below_drewN ?_ _) | (with_reducible refine Below.drew ?_) | (with_reducible refine Below.alloc ?_ ?_ _) | (with_reducible refine Below.setCell ?_ ?_ _) | (with_reducible refine then_ ?_ (by with_reducible assumption) ?_) | (with_reducible exact Nat.le_refl _) | (with_reducible exact Nat.le_succ _) | (with_reducible exact Nat.le_succ_of_le (by with_reducible assumption)) | omega | (simp; done) | (simp; omega) | (exact Nat.le_succ _) | (exact Nat.le_succ_of_le (by with_reducible assumption)))
              · have := hB2.size
                simpa using this
            clear OA2 OQ2 OP2 O42 O52 hB2
            have hz := OQ3.in_
            have hzp := OP3.in_
            have hzs := hB3.size
            go_roundw
            case rel =>
              refine ⟨k, _, q + 2 ^ k, r - pr, by omega, rfl, rfl, HDT, hz, ?_, ?_, ?_, ?_, ?_, ?_⟩
              · repeat' (first | (with_reducible assumption) | (with_reducible refine Own.drawnN ?_ _) | (with_reducible refine Own.drawn ?_) | (with_reducible refine Own.made_at ?_; first | rfl | (simp; done) | omega | (simp; omega)) | (with_reducible refine Own.more ?_ _) | (with_reducible refine Own.apart ?_ ?_ _ _; rotate_left; first | omega | (simp; done) | (simp; omega)) | (refine Own.put ?_ _ _))
              · repeat' (first | (with_reducible assumption) | (with_reducible refine Own.drawnN ?_ _) | (with_reducible refine Own.drawn ?_) | (with_reducible refine Own.made_at ?_; first | rfl | (simp; done) | omega | (simp; omega)) | (with_reducible refine Own.more ?_ _) | (with_reducible refine Own.apart ?_ ?_ _ _; rotate_left; first | omega | (simp; done) | (simp; omega)) | (refine Own.put ?_ _ _))
              · rw [Hpr.out.symm]
                repeat' (first | (with_reducible assumption) | (with_reducible refine Own.drawnN ?_ _) | (with_reducible refine Own.drawn ?_) | (with_reducible refine Own.made_at ?_; first | rfl | (simp; done) | omega | (simp; omega)) | (with_reducible refine Own.more ?_ _) | (with_reducible refine Own.apart ?_ ?_ _ _; rotate_left; first | omega | (simp; done) | (simp; omega)) | (refine Own.put ?_ _ _))
              · repeat' (first | (with_reducible assumption) | (with_reducible refine Own.drawnN ?_ _) | (with_reducible refine Own.drawn ?_) | (with_reducible refine Own.made_at ?_; first | rfl | (simp; done) | omega | (simp; omega)) | (with_reducible refine Own.more ?_ _) | (with_reducible refine Own.apart ?_ ?_ _ _; rotate_left; first | omega | (simp; done) | (simp; omega)) | (refine Own.put ?_ _ _))
              · repeat' (first | (with_reducible assumption) | (with_reducible refine Own.drawnN ?_ _) | (with_reducible refine Own.drawn ?_) | (with_reducible refine Own.made_at ?_; first | rfl | (simp; done) | omega | (simp; omega)) | (with_reducible refine Own.more ?_ _) | (with_reducible refine Own.apart ?_ ?_ _ _; rotate_left; first | omega | (simp; done) | (simp; omega)) | (refine Own.put ?_ _ _))
              · repeat' (first | (with_reducible exact Below.refl _ _) | (with_reducible assumption) | (with_reducible refine below_drewN ?_ _) | (with_reducible refine Below.drew ?_) | (with_reducible refine Below.alloc ?_ ?_ _) | (with_reducible refine Below.setCell ?_ ?_ _) | (with_reducible refine then_ ?_ (by with_reducible assumption) ?_) | (with_reducible exact Nat.le_refl _) | (with_reducible exact Nat.le_succ _) | (with_reducible exact Nat.le_succ_of_le (by with_reducible assumption)) | omega | (simp; done) | (simp; omega) | (exact Nat.le_succ _) | (exact Nat.le_succ_of_le (by with_reducible assumption)))
            case measure => simp [intOf]
          · have SB := Lib.hid (set_bit_3 q mm k k0 hmm hlow)
            clear hlow
            go_wp2
            go_quiet ((go_at_call 57; exact CMH.out _))
            go_wp2_with (first
              | (go_at_call 29; refine (MI.out _).mono ?_; rintro e w2 ⟨rfl, hb2⟩; have OA2 := (OA.drawnN _).keep hb2; have OQ2 := (OQ.drawnN _).keep hb2; have OP2 := (OP.drawnN _).keep hb2; have O42 := (O4.drawnN _).keep hb2; have O52 := (O5.drawnN _).keep hb2; clear OA OQ OP O4 O5 A1 A2 A3 Q1 Q2 Q3 P1 P2 P3; obtain ⟨A1, A2, A3⟩ := OA2.at_; obtain ⟨Q1, Q2, Q3⟩ := OQ2.at_; obtain ⟨P1, P2, P3⟩ := OP2.at_; have hB2 : Below w.heap.size w w2 := then_ (below_drewN hB _) hb2 hB.size)
              | (go_at_call 58; refine (DN.out _).mono ?_; rintro e w3 ⟨rfl, hb3⟩
                 have OP3 : Own w3 pt 58 #[.int .u64 (L0 pr), .int .u64 (L1 pr), .int .u64 (L2 pr), .int .u64 (L3 pr)] := by
                   refine Own.keep ?_ hb3
                   repeat' (first | (with_reducible assumption) | (with_reducible refine Own.drawnN ?_ _) | (with_reducible refine Own.drawn ?_) | (with_reducible refine Own.made_at ?_; first | rfl | (simp; done) | omega | (simp; omega)) | (with_reducible refine Own.more ?_ _) | (with_reducible refine Own.apart ?_ ?_ _ _; rotate_left; first | omega | (simp; done) | (simp; omega)) | (refine Own.put ?_ _ _))
                 clear A1 A2 A3 Q1 Q2 Q3 P1 P2 P3
                 obtain ⟨P1, P2, P3⟩ := OP3.at_))
            have OA3 : Own w3 w.heap.size 58 #[.int .u64 (L0 (r - pr)), .int .u64 (L1 (r - pr)), .int .u64 (L2 (r - pr)), .int .u64 (L3 (r - pr))] := by
              refine Own.keep ?_ hb3
              refine Own.as (cs := ((((#[.int .u64 (L0 r), .int .u64 (L1 r), .int .u64 (L2 r), .int .u64 (L3 r)] : Array Value).setIfInBounds 0 (.int .u64 (L0 (r - pr)))).setIfInBounds 1 (.int .u64 (L1 (r - pr)))).setIfInBounds 2 (.int .u64 (L2 (r - pr)))).setIfInBounds 3 (.int .u64 (L3 (r - pr)))) ?_ rfl
              repeat' (first | (with_reducible assumption) | (with_reducible refine Own.drawnN ?_ _) | (with_reducible refine Own.drawn ?_) | (with_reducible refine Own.made_at ?_; first | rfl | (simp; done) | omega | (simp; omega)) | (with_reducible refine Own.more ?_ _) | (with_reducible refine Own.apart ?_ ?_ _ _; rotate_left; first | omega | (simp; done) | (simp; omega)) | (refine Own.put ?_ _ _))
            have OQ3 : Own w3 (w.heap.size + 1 + 1 + 1 + 1 + 1 + 1) 58 #[Value.int .u64 (L0 (q + 2 ^ k)), Value.int .u64 (L1 (q + 2 ^ k)), Value.int .u64 (L2 (q + 2 ^ k)), Value.int .u64 (L3 (q + 2 ^ k))] := by
              refine Own.keep ?_ hb3
              obtain ⟨s0, s1, s2, s3⟩ := SB.out
              refine Own.as (cs := (#[.int .u64 (L0 q), .int .u64 (L1 q), .int .u64 (L2 q), .int .u64 (L3 q)] : Array Value).setIfInBounds 3 (.int .u64 (bits BinOp.or IntKind.u64 (L3 q) (IntKind.u64.wrap (2 ^ mm.toNat))))) ?_ (by show #[Value.int .u64 (L0 q), Value.int .u64 (L1 q), Value.int .u64 (L2 q), Value.int .u64 (bits BinOp.or IntKind.u64 (L3 q) (IntKind.u64.wrap (2 ^ mm.toNat)))] = _; rw [s0, s1, s2, s3])
              repeat' (first | (with_reducible assumption) | (with_reducible refine Own.drawnN ?_ _) | (with_reducible refine Own.drawn ?_) | (with_reducible refine Own.made_at ?_; first | rfl | (simp; done) | omega | (simp; omega)) | (with_reducible refine Own.more ?_ _) | (with_reducible refine Own.apart ?_ ?_ _ _; rotate_left; first | omega | (simp; done) | (simp; omega)) | (refine Own.put ?_ _ _))
            have O43 : Own w3 (w.heap.size + 1 + 1) 58 #[.int .u64 0, .int .u64 0, .int .u64 0, .int .u64 0] := by
              refine Own.keep ?_ hb3
              repeat' (first | (with_reducible assumption) | (with_reducible refine Own.drawnN ?_ _) | (with_reducible refine Own.drawn ?_) | (with_reducible refine Own.made_at ?_; first | rfl | (simp; done) | omega | (simp; omega)) | (with_reducible refine Own.more ?_ _) | (with_reducible refine Own.apart ?_ ?_ _ _; rotate_left; first | omega | (simp; done) | (simp; omega)) | (refine Own.put ?_ _ _))
            have O53 : Own w3 (w.heap.size + 1 + 1 + 1) 58 #[.int .u64 0, .int .u64 0, .int .u64 0, .int .u64 0] := by
              refine Own.keep ?_ hb3
              repeat' (first | (with_reducible assumption) | (with_reducible refine Own.drawnN ?_ _) | (with_reducible refine Own.drawn ?_) | (with_reducible refine Own.made_at ?_; first | rfl | (simp; done) | omega | (simp; omega)) | (with_reducible refine Own.more ?_ _) | (with_reducible refine Own.apart ?_ ?_ _ _; rotate_left; first | omega | (simp; done) | (simp; omega)) | (refine Own.put ?_ _ _))
            have hB3 : Below w.heap.size w w3 := by
              refine then_ ?_ hb3 ?_
              · repeat' (first | (with_reducible exact Below.refl _ _) | (with_reducible assumption) | (with_reducible refine below_drewN ?_ _) | (with_reducible refine Below.drew ?_) | (with_reducible refine Below.alloc ?_ ?_ _) | (with_reducible refine Below.setCell ?_ ?_ _) | (with_reducible refine then_ ?_ (by with_reducible assumption) ?_) | (with_reducible exact Nat.le_refl _) | (with_reducible exact Nat.le_succ _) | (with_reducible exact Nat.le_succ_of_le (by with_reducible assumption)) | omega | (simp; done) | (simp; omega) | (exact Nat.le_succ _) | (exact Nat.le_succ_of_le (by with_reducible assumption)))
              · have := hB2.size
                simpa using this
            clear OA2 OQ2 OP2 O42 O52 hB2
            have hz := OQ3.in_
            have hzp := OP3.in_
            have hzs := hB3.size
            go_roundw
            case rel =>
              refine ⟨k, _, q + 2 ^ k, r - pr, by omega, rfl, rfl, HDT, hz, ?_, ?_, ?_, ?_, ?_, ?_⟩
              · repeat' (first | (with_reducible assumption) | (with_reducible refine Own.drawnN ?_ _) | (with_reducible refine Own.drawn ?_) | (with_reducible refine Own.made_at ?_; first | rfl | (simp; done) | omega | (simp; omega)) | (with_reducible refine Own.more ?_ _) | (with_reducible refine Own.apart ?_ ?_ _ _; rotate_left; first | omega | (simp; done) | (simp; omega)) | (refine Own.put ?_ _ _))
              · repeat' (first | (with_reducible assumption) | (with_reducible refine Own.drawnN ?_ _) | (with_reducible refine Own.drawn ?_) | (with_reducible refine Own.made_at ?_; first | rfl | (simp; done) | omega | (simp; omega)) | (with_reducible refine Own.more ?_ _) | (with_reducible refine Own.apart ?_ ?_ _ _; rotate_left; first | omega | (simp; done) | (simp; omega)) | (refine Own.put ?_ _ _))
              · rw [Hpr.out.symm]
                repeat' (first | (with_reducible assumption) | (with_reducible refine Own.drawnN ?_ _) | (with_reducible refine Own.drawn ?_) | (with_reducible refine Own.made_at ?_; first | rfl | (simp; done) | omega | (simp; omega)) | (with_reducible refine Own.more ?_ _) | (with_reducible refine Own.apart ?_ ?_ _ _; rotate_left; first | omega | (simp; done) | (simp; omega)) | (refine Own.put ?_ _ _))
              · repeat' (first | (with_reducible assumption) | (with_reducible refine Own.drawnN ?_ _) | (with_reducible refine Own.drawn ?_) | (with_reducible refine Own.made_at ?_; first | rfl | (simp; done) | omega | (simp; omega)) | (with_reducible refine Own.more ?_ _) | (with_reducible refine Own.apart ?_ ?_ _ _; rotate_left; first | omega | (simp; done) | (simp; omega)) | (refine Own.put ?_ _ _))
              · repeat' (first | (with_reducible assumption) | (with_reducible refine Own.drawnN ?_ _) | (with_reducible refine Own.drawn ?_) | (with_reducible refine Own.made_at ?_; first | rfl | (simp; done) | omega | (simp; omega)) | (with_reducible refine Own.more ?_ _) | (with_reducible refine Own.apart ?_ ?_ _ _; rotate_left; first | omega | (simp; done) | (simp; omega)) | (refine Own.put ?_ _ _))
              · repeat' (first | (with_reducible exact Below.refl _ _) | (with_reducible assumption) | (with_reducible refine below_drewN ?_ _) | (with_reducible refine Below.drew ?_) | (with_reducible refine Below.alloc ?_ ?_ _) | (with_reducible refine Below.setCell ?_ ?_ _) | (with_reducible refine then_ ?_ (by with_reducible assumption) ?_) | (with_reducible exact Nat.le_refl _) | (with_reducible exact Nat.le_succ _) | (with_reducible exact Nat.le_succ_of_le (by with_reducible assumption)) | omega | (simp; done) | (simp; omega) | (exact Nat.le_succ _) | (exact Nat.le_succ_of_le (by with_reducible assumption)))
            case measure => simp [intOf]
        · obtain ⟨cv, hcv, hc0⟩ : ∃ cv : Int, cmpW (Lf r) (Lf pr) 4 = cv ∧ cv < 0 := ⟨_, rfl, by rw [CV, if_pos (by omega)]; decide⟩
          rw [hcv] at CM
          clear hcv CV
          have HDT := Lib.hid (HD.out.pass (by rw [← Hpr.out]; omega))
          have hcd : decide (0 ≤ cv) = false := by simpa using hc0
          clear hc
          have CMH := Lib.hid CM
          clear CM
          go_wp2
          go_quiet ((go_at_call 57; exact CMH.out _))
          go_wp2_with (go_at_call 58; refine (DN.out _).mono ?_; rintro e w2 ⟨rfl, hb2⟩; have OA2 := (OA.drawnN _).keep hb2; have OQ2 := (OQ.drawnN _).keep hb2; have OP2 := (OP.drawnN _).keep hb2; have O42 := (O4.drawnN _).keep hb2; have O52 := (O5.drawnN _).keep hb2; clear OA OQ OP O4 O5 A1 A2 A3 Q1 Q2 Q3 P1 P2 P3; obtain ⟨P1, P2, P3⟩ := OP2.at_)
          have hz := OQ2.in_
          have hzp := OP2.in_
          have hBB : Below w.heap.size w w2 := then_ (below_drewN hB _) hb2 hB.size
          go_roundw
          case rel =>
            refine ⟨k, _, q, r, by omega, rfl, rfl, HDT, hz, ?_, ?_, ?_, ?_, ?_, ?_⟩
            · repeat' (first | (with_reducible assumption) | (with_reducible refine Own.drawnN ?_ _) | (with_reducible refine Own.drawn ?_) | (with_reducible refine Own.made_at ?_; first | rfl | (simp; done) | omega | (simp; omega)) | (with_reducible refine Own.more ?_ _) | (with_reducible refine Own.apart ?_ ?_ _ _; rotate_left; first | omega | (simp; done) | (simp; omega)) | (refine Own.put ?_ _ _))
            · repeat' (first | (with_reducible assumption) | (with_reducible refine Own.drawnN ?_ _) | (with_reducible refine Own.drawn ?_) | (with_reducible refine Own.made_at ?_; first | rfl | (simp; done) | omega | (simp; omega)) | (with_reducible refine Own.more ?_ _) | (with_reducible refine Own.apart ?_ ?_ _ _; rotate_left; first | omega | (simp; done) | (simp; omega)) | (refine Own.put ?_ _ _))
            · rw [Hpr.out.symm]
              repeat' (first | (with_reducible assumption) | (with_reducible refine Own.drawnN ?_ _) | (with_reducible refine Own.drawn ?_) | (with_reducible refine Own.made_at ?_; first | rfl | (simp; done) | omega | (simp; omega)) | (with_reducible refine Own.more ?_ _) | (with_reducible refine Own.apart ?_ ?_ _ _; rotate_left; first | omega | (simp; done) | (simp; omega)) | (refine Own.put ?_ _ _))
            · repeat' (first | (with_reducible assumption) | (with_reducible refine Own.drawnN ?_ _) | (with_reducible refine Own.drawn ?_) | (with_reducible refine Own.made_at ?_; first | rfl | (simp; done) | omega | (simp; omega)) | (with_reducible refine Own.more ?_ _) | (with_reducible refine Own.apart ?_ ?_ _ _; rotate_left; first | omega | (simp; done) | (simp; omega)) | (refine Own.put ?_ _ _))
            · repeat' (first | (with_reducible assumption) | (with_reducible refine Own.drawnN ?_ _) | (with_reducible refine Own.drawn ?_) | (with_reducible refine Own.made_at ?_; first | rfl | (simp; done) | omega | (simp; omega)) | (with_reducible refine Own.more ?_ _) | (with_reducible refine Own.apart ?_ ?_ _ _; rotate_left; first | omega | (simp; done) | (simp; omega)) | (refine Own.put ?_ _ _))
            · repeat' (first | (with_reducible exact Below.refl _ _) | (with_reducible assumption) | (with_reducible refine below_drewN ?_ _) | (with_reducible refine Below.drew ?_) | (with_reducible refine Below.alloc ?_ ?_ _) | (with_reducible refine Below.setCell ?_ ?_ _) | (with_reducible refine then_ ?_ (by with_reducible assumption) ?_) | (with_reducible exact Nat.le_refl _) | (with_reducible exact Nat.le_succ _) | (with_reducible exact Nat.le_succ_of_le (by with_reducible assumption)) | omega | (simp; done) | (simp; omega) | (exact Nat.le_succ _) | (exact Nat.le_succ_of_le (by with_reducible assumption)))
          case measure => simp [intOf]
set_option maxHeartbeats 16000000 in
set_option maxRecDepth 20000 in
theorem divide_long_t (a b : Int) (hSa : Siz a) (hSb : Siz b) (hb1 : 0 < b) (hsa : decide (L1 a = 0 ∧ L2 a = 0 ∧ L3 a = 0) = true) (hsb : decide (L1 b = 0 ∧ L2 b = 0 ∧ L3 b = 0) = false) (la lb : Int) (P : Nat) (hla : blz a = la) (hlb : blz b = lb) (ha : 0 ≤ la) (ha2 : la ≤ 256) (hb : lb ≤ 256) (hb0 : 1 ≤ lb) (hl : la - lb = P) (hP1 : a < b * 2 ^ (P + 1)) (hP2 : b * 2 ^ P ≤ 115792089237316195423570985008687907853269984665640564039457584007913129639935) (w : World) :
    Calls Tryd.prog 51 #[.agg #[.int .u64 (L0 a), .int .u64 (L1 a), .int .u64 (L2 a), .int .u64 (L3 a)], .agg #[.int .u64 (L0 b), .int .u64 (L1 b), .int .u64 (L2 b), .int .u64 (L3 b)]] w fun e w' => e = .returned (.tuple #[.agg #[.int .u64 (L0 (a / b)), .int .u64 (L1 (a / b)), .int .u64 (L2 (a / b)), .int .u64 (L3 (a / b))], .agg #[.int .u64 (L0 (a % b)), .int .u64 (L1 (a % b)), .int .u64 (L2 (a % b)), .int .u64 (L3 (a % b))]]) ∧ Below w.heap.size w w' := by
  have EA : ∀ w, (Op.equalIn 10000 58 (.agg #[.int .u64 (L0 a), .int .u64 (L1 a), .int .u64 (L2 a), .int .u64 (L3 a)]) (.agg #[.int .u64 (L0 a), .int .u64 0, .int .u64 0, .int .u64 0])).run Tryd.prog w = .ok true w := fun w => by rw [eq_first, hsa]
  have EB : ∀ w, (Op.equalIn 10000 58 (.agg #[.int .u64 (L0 b), .int .u64 (L1 b), .int .u64 (L2 b), .int .u64 (L3 b)]) (.agg #[.int .u64 (L0 b), .int .u64 0, .int .u64 0, .int .u64 0])).run Tryd.prog w = .ok false w := fun w => by rw [eq_first, hsb]
  have LA := Lib.hid (fun w => length_any a w); rw [hla] at LA
  have LB := Lib.hid (fun w => length_any b w); rw [hlb] at LB
  have hPb : (P : Int) ≤ 255 := by omega
  have hPw : IntKind.i64.wrap (P : Int) = P := IntWalk.i64_in _ (by omega)
  have UP0 : ∀ w, Calls Tryd.prog 56 #[.agg #[.int .u64 (L0 b), .int .u64 (L1 b), .int .u64 (L2 b), .int .u64 (L3 b)], .int .i64 P] w fun e w' => e = .returned (.agg #[.int .u64 (L0 (b * 2 ^ P)), .int .u64 (L1 (b * 2 ^ P)), .int .u64 (L2 (b * 2 ^ P)), .int .u64 (L3 (b * 2 ^ P))]) ∧ ∃ c1 c2 c3 m, w' = (((w.alloc (.cells c1 58)).alloc (.cells c2 58)).alloc (.cells c3 58)).drewN m := fun w => by
    have := up_any b P (by omega) (by omega) w
    rw [Int.toNat_natCast] at this
    exact this
  have UP := Lib.hid UP0
  clear UP0
  have D0 := Lib.hid (DivAt.begin a b (P + 1) hSa.lo hP1)
  have DD := Lib.hid (fun q r (h : DivAt a b q r 0) => h.done hb1)
  have DS := Lib.hid (fun q r n (h : DivAt a b q r n) => h.siz hSa hb1)
  have hP3 := Lib.hid (show ∀ k, k ≤ P → Siz (b * 2 ^ k) from fun k hk => by
    have p := Int.pow_pos (n := 2) (m := k) (by decide)
    have m := Int.mul_le_mul_of_nonneg_left (show (2 : Int) ^ k ≤ 2 ^ P by exact_mod_cast Nat.pow_le_pow_right (by omega : 0 < 2) hk) (show 0 ≤ b by omega)
    exact ⟨Int.mul_nonneg (by omega) (by omega), by omega⟩)
  have PT := Lib.hid (DivAt.part b P)
  clear hla hlb hsa hsb hP1 hP2
  · obtain ⟨da, hda⟩ : ∃ x, x = a / b := ⟨_, rfl⟩
    obtain ⟨db, hdb⟩ : ∃ x, x = a % b := ⟨_, rfl⟩
    rw [← hda, ← hdb]
    have Hda := Lib.hid hda; have Hdb := Lib.hid hdb
    clear hda hdb
    generalize hpt : b * 2 ^ P = pt0 at UP PT
    have Hpt := Lib.hid hpt
    clear hpt
    generalize L0 b = y0 at *; generalize L1 b = y1 at *; generalize L2 b = y2 at *; generalize L3 b = y3 at *
    go_enter Tryd.func51, Tryd.ntmps51
    go_wp2
    go_region_held3 (fun W => W.cell? ⟨w.heap.size, 0, none⟩ = some (.int .u64 (L0 a)) ∧ W.cell? ⟨w.heap.size, 1, none⟩ = some (.int .u64 (L1 a)) ∧ W.cell? ⟨w.heap.size, 2, none⟩ = some (.int .u64 (L2 a)) ∧ W.cell? ⟨w.heap.size, 3, none⟩ = some (.int .u64 (L3 a)) ∧ W.cell? ⟨w.heap.size + 1, 0, none⟩ = some (.int .u64 y0) ∧ W.cell? ⟨w.heap.size + 1, 1, none⟩ = some (.int .u64 y1) ∧ W.cell? ⟨w.heap.size + 1, 2, none⟩ = some (.int .u64 y2) ∧ W.cell? ⟨w.heap.size + 1, 3, none⟩ = some (.int .u64 y3)) (simp [go_sem, World.cell?_alloc_past])
      (first
        | (go_at_call 55; with_reducible refine (LA.out _).mono ?_; rintro e w2 ⟨rfl, c, rfl⟩)
        | (go_at_call 55; with_reducible refine (LB.out _).mono ?_; rintro e w2 ⟨rfl, c, rfl⟩))
    rename_i hh; clear hh
    go_wp2_with (go_at_call 56; refine (UP.out _).mono ?_; rintro e w2 ⟨rfl, c1, c2, c3, m, rfl⟩)
    go_loopw [6, 8] (fun s6 s8 wr => ∃ (n pt : Nat) (q r : Int), n ≤ P + 1 ∧ s6 = .int .i64 ((n : Int) - 1) ∧ s8 = .pointer (some ⟨pt, 0, none⟩) ∧ Hid (DivAt a b q r n) ∧ w.heap.size + 1 + 1 + 1 + 1 + 1 + 1 < pt ∧ Own wr (w.heap.size) 58 #[.int .u64 (L0 r), .int .u64 (L1 r), .int .u64 (L2 r), .int .u64 (L3 r)] ∧ Own wr (w.heap.size + 1 + 1 + 1 + 1 + 1 + 1) 58 #[.int .u64 (L0 q), .int .u64 (L1 q), .int .u64 (L2 q), .int .u64 (L3 q)] ∧ Own wr (pt) 58 #[.int .u64 (L0 (b * 2 ^ n / 2)), .int .u64 (L1 (b * 2 ^ n / 2)), .int .u64 (L2 (b * 2 ^ n / 2)), .int .u64 (L3 (b * 2 ^ n / 2))] ∧ Own wr (w.heap.size + 1 + 1) 58 #[.int .u64 0, .int .u64 0, .int .u64 0, .int .u64 0] ∧ Own wr (w.heap.size + 1 + 1 + 1) 58 #[.int .u64 0, .int .u64 0, .int .u64 0, .int .u64 0] ∧ Below w.heap.size w wr) (fun s6 _ _ => (intOf s6 + 1).toNat)
    case atStart =>
      refine ⟨P + 1, _, 0, a, Nat.le_refl _, by congr 1; omega, rfl, D0, by omega, ?_, ?_, ?_, ?_, ?_, ?_⟩
      · repeat' (first | (with_reducible assumption) | (with_reducible refine Own.drawnN ?_ _) | (with_reducible refine Own.drawn ?_) | (with_reducible refine Own.made_at ?_; first | rfl | (simp; done) | omega | (simp; omega)) | (with_reducible refine Own.more ?_ _) | (with_reducible refine Own.apart ?_ ?_ _ _; rotate_left; first | omega | (simp; done) | (simp; omega)) | (refine Own.put ?_ _ _))
      · refine Own.as (cs := #[.int .u64 0, .int .u64 0, .int .u64 0, .int .u64 0]) ?_ rfl
        repeat' (first | (with_reducible assumption) | (with_reducible refine Own.drawnN ?_ _) | (with_reducible refine Own.drawn ?_) | (with_reducible refine Own.made_at ?_; first | rfl | (simp; done) | omega | (simp; omega)) | (with_reducible refine Own.more ?_ _) | (with_reducible refine Own.apart ?_ ?_ _ _; rotate_left; first | omega | (simp; done) | (simp; omega)) | (refine Own.put ?_ _ _))
      · rw [PT.out]
        repeat' (first | (with_reducible assumption) | (with_reducible refine Own.drawnN ?_ _) | (with_reducible refine Own.drawn ?_) | (with_reducible refine Own.made_at ?_; first | rfl | (simp; done) | omega | (simp; omega)) | (with_reducible refine Own.more ?_ _) | (with_reducible refine Own.apart ?_ ?_ _ _; rotate_left; first | omega | (simp; done) | (simp; omega)) | (refine Own.put ?_ _ _))
      · repeat' (first | (with_reducible assumption) | (with_reducible refine Own.drawnN ?_ _) | (with_reducible refine Own.drawn ?_) | (with_reducible refine Own.made_at ?_; first | rfl | (simp; done) | omega | (simp; omega)) | (with_reducible refine Own.more ?_ _) | (with_reducible refine Own.apart ?_ ?_ _ _; rotate_left; first | omega | (simp; done) | (simp; omega)) | (refine Own.put ?_ _ _))
      · repeat' (first | (with_reducible assumption) | (with_reducible refine Own.drawnN ?_ _) | (with_reducible refine Own.drawn ?_) | (with_reducible refine Own.made_at ?_; first | rfl | (simp; done) | omega | (simp; omega)) | (with_reducible refine Own.more ?_ _) | (with_reducible refine Own.apart ?_ ?_ _ _; rotate_left; first | omega | (simp; done) | (simp; omega)) | (refine Own.put ?_ _ _))
      · repeat' (first | (with_reducible exact Below.refl _ _) | (with_reducible assumption) | (with_reducible refine below_drewN ?_ _) | (with_reducible refine Below.drew ?_) | (with_reducible refine Below.alloc ?_ ?_ _) | (with_reducible refine Below.setCell ?_ ?_ _) | (with_reducible refine then_ ?_ (by with_reducible assumption) ?_) | (with_reducible exact Nat.le_refl _) | (with_reducible exact Nat.le_succ _) | (with_reducible exact Nat.le_succ_of_le (by with_reducible assumption)) | omega | (simp; done) | (simp; omega) | (exact Nat.le_succ _) | (exact Nat.le_succ_of_le (by with_reducible assumption)))
    case round =>
      obtain ⟨n, pt, q, r, hn, rfl, rfl, HD, hpq, OA, OQ, OP, O4, O5, hB⟩ := hrel
      rename_i wr
      obtain ⟨A1, A2, A3⟩ := OA.at_
      obtain ⟨Q1, Q2, Q3⟩ := OQ.at_
      obtain ⟨P1, P2, P3⟩ := OP.at_
      obtain ⟨F1, F2, F3⟩ := O4.at_
      obtain ⟨G1, G2, G3⟩ := O5.at_
      by_cases hn0 : n = 0
      · subst hn0
        obtain ⟨e1, e2⟩ := DD.out q r HD.out
        rw [← Hda.out] at e1; rw [← Hdb.out] at e2
        subst e1 e2
        clear P1 P2 P3
        go_wp2
        go_region
        all_goals go_wp2
        try simp only [setCell_drawn]
        refine bodyPost_ret (by simp [results, Tryd.results51, go_sem, F1, G1]) rfl ⟨rfl, ?_⟩
        repeat' (first | (with_reducible exact Below.refl _ _) | (with_reducible assumption) | (with_reducible refine below_drewN ?_ _) | (with_reducible refine Below.drew ?_) | (with_reducible refine Below.alloc ?_ ?_ _) | (with_reducible refine Below.setCell ?_ ?_ _) | (with_reducible refine then_ ?_ (by with_reducible assumption) ?_) | (with_reducible exact Nat.le_refl _) | (with_reducible exact Nat.le_succ _) | (with_reducible exact Nat.le_succ_of_le (by with_reducible assumption)) | omega | (simp; done) | (simp; omega) | (exact Nat.le_succ _) | (exact Nat.le_succ_of_le (by with_reducible assumption)))
      · obtain ⟨k, rfl⟩ : ∃ k, n = k + 1 := ⟨n - 1, by omega⟩
        have i2 : ((k + 1 : Nat) : Int) - 1 = (k : Int) := by omega
        rw [i2]
        clear i2 hn0 F1 F2 F3 G1 G2 G3
        have S1 := DS.out q r _ HD.out
        have S2 := hP3.out k (by omega)
        have PE := DivAt.part b k
        rw [PE] at OP P1
        obtain ⟨pr, hpr⟩ : ∃ x, x = b * 2 ^ k := ⟨_, rfl⟩
        rw [← hpr] at OP P1 S2 PE
        have Hpr := Lib.hid hpr; have HPE := Lib.hid PE
        clear hpr PE
        have CV := cmp_siz S1.2 S2
        have kb : (k : Int) ≤ 255 := by omega
        have CX : ∀ i, i < 4 → wr.cell? ⟨w.heap.size, i, none⟩ = some (.int .u64 (Lf r i)) := fun i hi => by
          rw [A1]
          rcases (by omega : i = 0 ∨ i = 1 ∨ i = 2 ∨ i = 3) with rfl | rfl | rfl | rfl <;> rfl
        have CY : ∀ i, i < 4 → wr.cell? ⟨pt, i, none⟩ = some (.int .u64 (Lf pr i)) := fun i hi => by
          rw [P1]
          rcases (by omega : i = 0 ∨ i = 1 ∨ i = 2 ∨ i = 3) with rfl | rfl | rfl | rfl <;> rfl
        have CM : ∀ n, Calls Tryd.prog 57 #[.slice (some ⟨w.heap.size, 0, none⟩) 4 4, .slice (some ⟨pt, 0, none⟩) 4 4] (wr.drewN n) fun e w'' => e = .returned (.int .i64 (cmpW (Lf r) (Lf pr) 4)) ∧ ∃ m, w'' = wr.drewN m := fun n =>
          Calls.quiet_of (compare_any (Lf r) (Lf pr) w.heap.size pt 4 4 4 (by decide) (wr.drewN n) CX CY)
        have DN := Lib.hid (fun w => down_b pr 1 S2 (by decide) (by decide) w)
        have MI := Lib.hid (fun w => minus_b r pr w)
        clear CX CY S2 S1
        by_cases hc : pr ≤ r
        · obtain ⟨cv, hcv, hc0⟩ : ∃ cv : Int, cmpW (Lf r) (Lf pr) 4 = cv ∧ 0 ≤ cv := ⟨_, rfl, by rw [CV]; split; omega; split <;> decide⟩
          rw [hcv] at CM
          clear hcv CV
          have DT := HD.out.take (by rw [← Hpr.out]; exact hc)
          rw [← Hpr.out] at DT
          have HDT := Lib.hid DT
          clear hc DT
          have CMH := Lib.hid CM
          clear CM
          have n1 : ¬ pt = w.heap.size := by omega
          have n2 : ¬ pt = w.heap.size + 1 + 1 + 1 + 1 + 1 + 1 := by omega
          obtain ⟨mm, hmm⟩ : ∃ mm, (k : Int) % 64 = mm := ⟨_, rfl⟩
          have m0 : 0 ≤ mm := by omega
          have m1 : mm ≤ 63 := by omega
          have hlow := HD.out.low
          have k4 : (k : Int) / 64 = 0 ∨ (k : Int) / 64 = 1 ∨ (k : Int) / 64 = 2 ∨ (k : Int) / 64 = 3 := by omega
          rcases k4 with k0 | k0 | k0 | k0
          · have SB := Lib.hid (set_bit_0 q mm k k0 hmm hlow)
            clear hlow
            go_wp2
            go_quiet ((go_at_call 57; exact CMH.out _))
            go_wp2_with (first
              | (go_at_call 29; refine (MI.out _).mono ?_; rintro e w2 ⟨rfl, hb2⟩; have OA2 := (OA.drawnN _).keep hb2; have OQ2 := (OQ.drawnN _).keep hb2; have OP2 := (OP.drawnN _).keep hb2; have O42 := (O4.drawnN _).keep hb2; have O52 := (O5.drawnN _).keep hb2; clear OA OQ OP O4 O5 A1 A2 A3 Q1 Q2 Q3 P1 P2 P3; obtain ⟨A1, A2, A3⟩ := OA2.at_; obtain ⟨Q1, Q2, Q3⟩ := OQ2.at_; obtain ⟨P1, P2, P3⟩ := OP2.at_; have hB2 : Below w.heap.size w w2 := then_ (below_drewN hB _) hb2 hB.size)
              | (go_at_call 58; refine (DN.out _).mono ?_; rintro e w3 ⟨rfl, hb3⟩
                 have OP3 : Own w3 pt 58 #[.int .u64 (L0 pr), .int .u64 (L1 pr), .int .u64 (L2 pr), .int .u64 (L3 pr)] := by
                   refine Own.keep ?_ hb3
                   repeat' (first | (with_reducible assumption) | (with_reducible refine Own.drawnN ?_ _) | (with_reducible refine Own.drawn ?_) | (with_reducible refine Own.made_at ?_; first | rfl | (simp; done) | omega | (simp; omega)) | (with_reducible refine Own.more ?_ _) | (with_reducible refine Own.apart ?_ ?_ _ _; rotate_left; first | omega | (simp; done) | (simp; omega)) | (refine Own.put ?_ _ _))
                 clear A1 A2 A3 Q1 Q2 Q3 P1 P2 P3
                 obtain ⟨P1, P2, P3⟩ := OP3.at_))
            have OA3 : Own w3 w.heap.size 58 #[.int .u64 (L0 (r - pr)), .int .u64 (L1 (r - pr)), .int .u64 (L2 (r - pr)), .int .u64 (L3 (r - pr))] := by
              refine Own.keep ?_ hb3
              refine Own.as (cs := ((((#[.int .u64 (L0 r), .int .u64 (L1 r), .int .u64 (L2 r), .int .u64 (L3 r)] : Array Value).setIfInBounds 0 (.int .u64 (L0 (r - pr)))).setIfInBounds 1 (.int .u64 (L1 (r - pr)))).setIfInBounds 2 (.int .u64 (L2 (r - pr)))).setIfInBounds 3 (.int .u64 (L3 (r - pr)))) ?_ rfl
              repeat' (first | (with_reducible assumption) | (with_reducible refine Own.drawnN ?_ _) | (with_reducible refine Own.drawn ?_) | (with_reducible refine Own.made_at ?_; first | rfl | (simp; done) | omega | (simp; omega)) | (with_reducible refine Own.more ?_ _) | (with_reducible refine Own.apart ?_ ?_ _ _; rotate_left; first | omega | (simp; done) | (simp; omega)) | (refine Own.put ?_ _ _))
            have OQ3 : Own w3 (w.heap.size + 1 + 1 + 1 + 1 + 1 + 1) 58 #[Value.int .u64 (L0 (q + 2 ^ k)), Value.int .u64 (L1 (q + 2 ^ k)), Value.int .u64 (L2 (q + 2 ^ k)), Value.int .u64 (L3 (q + 2 ^ k))] := by
              refine Own.keep ?_ hb3
              obtain ⟨s0, s1, s2, s3⟩ := SB.out
              refine Own.as (cs := (#[.int .u64 (L0 q), .int .u64 (L1 q), .int .u64 (L2 q), .int .u64 (L3 q)] : Array Value).setIfInBounds 0 (.int .u64 (bits BinOp.or IntKind.u64 (L0 q) (IntKind.u64.wrap (2 ^ mm.toNat))))) ?_ (by show #[Value.int .u64 (bits BinOp.or IntKind.u64 (L0 q) (IntKind.u64.wrap (2 ^ mm.toNat))), Value.int .u64 (L1 q), Value.int .u64 (L2 q), Value.int .u64 (L3 q)] = _; rw [s0, s1, s2, s3])
              repeat' (first | (with_reducible assumption) | (with_reducible refine Own.drawnN ?_ _) | (with_reducible refine Own.drawn ?_) | (with_reducible refine Own.made_at ?_; first | rfl | (simp; done) | omega | (simp; omega)) | (with_reducible refine Own.more ?_ _) | (with_reducible refine Own.apart ?_ ?_ _ _; rotate_left; first | omega | (simp; done) | (simp; omega)) | (refine Own.put ?_ _ _))
            have O43 : Own w3 (w.heap.size + 1 + 1) 58 #[.int .u64 0, .int .u64 0, .int .u64 0, .int .u64 0] := by
              refine Own.keep ?_ hb3
              repeat' (first | (with_reducible assumption) | (with_reducible refine Own.drawnN ?_ _) | (with_reducible refine Own.drawn ?_) | (with_reducible refine Own.made_at ?_; first | rfl | (simp; done) | omega | (simp; omega)) | (with_reducible refine Own.more ?_ _) | (with_reducible refine Own.apart ?_ ?_ _ _; rotate_left; first | omega | (simp; done) | (simp; omega)) | (refine Own.put ?_ _ _))
            have O53 : Own w3 (w.heap.size + 1 + 1 + 1) 58 #[.int .u64 0, .int .u64 0, .int .u64 0, .int .u64 0] := by
              refine Own.keep ?_ hb3
              repeat' (first | (with_reducible assumption) | (with_reducible refine Own.drawnN ?_ _) | (with_reducible refine Own.drawn ?_) | (with_reducible refine Own.made_at ?_; first | rfl | (simp; done) | omega | (simp; omega)) | (with_reducible refine Own.more ?_ _) | (with_reducible refine Own.apart ?_ ?_ _ _; rotate_left; first | omega | (simp; done) | (simp; omega)) | (refine Own.put ?_ _ _))
            have hB3 : Below w.heap.size w w3 := by
              refine then_ ?_ hb3 ?_
              · repeat' (first | (with_reducible exact Below.refl _ _) | (with_reducible assumption) | (with_reducible refine below_drewN ?_ _) | (with_reducible refine Below.drew ?_) | (with_reducible refine Below.alloc ?_ ?_ _) | (with_reducible refine Below.setCell ?_ ?_ _) | (with_reducible refine then_ ?_ (by with_reducible assumption) ?_) | (with_reducible exact Nat.le_refl _) | (with_reducible exact Nat.le_succ _) | (with_reducible exact Nat.le_succ_of_le (by with_reducible assumption)) | omega | (simp; done) | (simp; omega) | (exact Nat.le_succ _) | (exact Nat.le_succ_of_le (by with_reducible assumption)))
              · have := hB2.size
                simpa using this
            clear OA2 OQ2 OP2 O42 O52 hB2
            have hz := OQ3.in_
            have hzp := OP3.in_
            have hzs := hB3.size
            go_roundw
            case rel =>
              refine ⟨k, _, q + 2 ^ k, r - pr, by omega, rfl, rfl, HDT, hz, ?_, ?_, ?_, ?_, ?_, ?_⟩
              · repeat' (first | (with_reducible assumption) | (with_reducible refine Own.drawnN ?_ _) | (with_reducible refine Own.drawn ?_) | (with_reducible refine Own.made_at ?_; first | rfl | (simp; done) | omega | (simp; omega)) | (with_reducible refine Own.more ?_ _) | (with_reducible refine Own.apart ?_ ?_ _ _; rotate_left; first | omega | (simp; done) | (simp; omega)) | (refine Own.put ?_ _ _))
              · repeat' (first | (with_reducible assumption) | (with_reducible refine Own.drawnN ?_ _) | (with_reducible refine Own.drawn ?_) | (with_reducible refine Own.made_at ?_; first | rfl | (simp; done) | omega | (simp; omega)) | (with_reducible refine Own.more ?_ _) | (with_reducible refine Own.apart ?_ ?_ _ _; rotate_left; first | omega | (simp; done) | (simp; omega)) | (refine Own.put ?_ _ _))
              · rw [Hpr.out.symm]
                repeat' (first | (with_reducible assumption) | (with_reducible refine Own.drawnN ?_ _) | (with_reducible refine Own.drawn ?_) | (with_reducible refine Own.made_at ?_; first | rfl | (simp; done) | omega | (simp; omega)) | (with_reducible refine Own.more ?_ _) | (with_reducible refine Own.apart ?_ ?_ _ _; rotate_left; first | omega | (simp; done) | (simp; omega)) | (refine Own.put ?_ _ _))
              · repeat' (first | (with_reducible assumption) | (with_reducible refine Own.drawnN ?_ _) | (with_reducible refine Own.drawn ?_) | (with_reducible refine Own.made_at ?_; first | rfl | (simp; done) | omega | (simp; omega)) | (with_reducible refine Own.more ?_ _) | (with_reducible refine Own.apart ?_ ?_ _ _; rotate_left; first | omega | (simp; done) | (simp; omega)) | (refine Own.put ?_ _ _))
              · repeat' (first | (with_reducible assumption) | (with_reducible refine Own.drawnN ?_ _) | (with_reducible refine Own.drawn ?_) | (with_reducible refine Own.made_at ?_; first | rfl | (simp; done) | omega | (simp; omega)) | (with_reducible refine Own.more ?_ _) | (with_reducible refine Own.apart ?_ ?_ _ _; rotate_left; first | omega | (simp; done) | (simp; omega)) | (refine Own.put ?_ _ _))
              · repeat' (first | (with_reducible exact Below.refl _ _) | (with_reducible assumption) | (with_reducible refine below_drewN ?_ _) | (with_reducible refine Below.drew ?_) | (with_reducible refine Below.alloc ?_ ?_ _) | (with_reducible refine Below.setCell ?_ ?_ _) | (with_reducible refine then_ ?_ (by with_reducible assumption) ?_) | (with_reducible exact Nat.le_refl _) | (with_reducible exact Nat.le_succ _) | (with_reducible exact Nat.le_succ_of_le (by with_reducible assumption)) | omega | (simp; done) | (simp; omega) | (exact Nat.le_succ _) | (exact Nat.le_succ_of_le (by with_reducible assumption)))
            case measure => simp [intOf]
          · have SB := Lib.hid (set_bit_1 q mm k k0 hmm hlow)
            clear hlow
            go_wp2
            go_quiet ((go_at_call 57; exact CMH.out _))
            go_wp2_with (first
              | (go_at_call 29; refine (MI.out _).mono ?_; rintro e w2 ⟨rfl, hb2⟩; have OA2 := (OA.drawnN _).keep hb2; have OQ2 := (OQ.drawnN _).keep hb2; have OP2 := (OP.drawnN _).keep hb2; have O42 := (O4.drawnN _).keep hb2; have O52 := (O5.drawnN _).keep hb2; clear OA OQ OP O4 O5 A1 A2 A3 Q1 Q2 Q3 P1 P2 P3; obtain ⟨A1, A2, A3⟩ := OA2.at_; obtain ⟨Q1, Q2, Q3⟩ := OQ2.at_; obtain ⟨P1, P2, P3⟩ := OP2.at_; have hB2 : Below w.heap.size w w2 := then_ (below_drewN hB _) hb2 hB.size)
              | (go_at_call 58; refine (DN.out _).mono ?_; rintro e w3 ⟨rfl, hb3⟩
                 have OP3 : Own w3 pt 58 #[.int .u64 (L0 pr), .int .u64 (L1 pr), .int .u64 (L2 pr), .int .u64 (L3 pr)] := by
                   refine Own.keep ?_ hb3
                   repeat' (first | (with_reducible assumption) | (with_reducible refine Own.drawnN ?_ _) | (with_reducible refine Own.drawn ?_) | (with_reducible refine Own.made_at ?_; first | rfl | (simp; done) | omega | (simp; omega)) | (with_reducible refine Own.more ?_ _) | (with_reducible refine Own.apart ?_ ?_ _ _; rotate_left; first | omega | (simp; done) | (simp; omega)) | (refine Own.put ?_ _ _))
                 clear A1 A2 A3 Q1 Q2 Q3 P1 P2 P3
                 obtain ⟨P1, P2, P3⟩ := OP3.at_))
            have OA3 : Own w3 w.heap.size 58 #[.int .u64 (L0 (r - pr)), .int .u64 (L1 (r - pr)), .int .u64 (L2 (r - pr)), .int .u64 (L3 (r - pr))] := by
              refine Own.keep ?_ hb3
              refine Own.as (cs := ((((#[.int .u64 (L0 r), .int .u64 (L1 r), .int .u64 (L2 r), .int .u64 (L3 r)] : Array Value).setIfInBounds 0 (.int .u64 (L0 (r - pr)))).setIfInBounds 1 (.int .u64 (L1 (r - pr)))).setIfInBounds 2 (.int .u64 (L2 (r - pr)))).setIfInBounds 3 (.int .u64 (L3 (r - pr)))) ?_ rfl
              repeat' (first | (with_reducible assumption) | (with_reducible refine Own.drawnN ?_ _) | (with_reducible refine Own.drawn ?_) | (with_reducible refine Own.made_at ?_; first | rfl | (simp; done) | omega | (simp; omega)) | (with_reducible refine Own.more ?_ _) | (with_reducible refine Own.apart ?_ ?_ _ _; rotate_left; first | omega | (simp; done) | (simp; omega)) | (refine Own.put ?_ _ _))
            have OQ3 : Own w3 (w.heap.size + 1 + 1 + 1 + 1 + 1 + 1) 58 #[Value.int .u64 (L0 (q + 2 ^ k)), Value.int .u64 (L1 (q + 2 ^ k)), Value.int .u64 (L2 (q + 2 ^ k)), Value.int .u64 (L3 (q + 2 ^ k))] := by
              refine Own.keep ?_ hb3
              obtain ⟨s0, s1, s2, s3⟩ := SB.out
              refine Own.as (cs := (#[.int .u64 (L0 q), .int .u64 (L1 q), .int .u64 (L2 q), .int .u64 (L3 q)] : Array Value).setIfInBounds 1 (.int .u64 (bits BinOp.or IntKind.u64 (L1 q) (IntKind.u64.wrap (2 ^ mm.toNat))))) ?_ (by show #[Value.int .u64 (L0 q), Value.int .u64 (bits BinOp.or IntKind.u64 (L1 q) (IntKind.u64.wrap (2 ^ mm.toNat))), Value.int .u64 (L2 q), Value.int .u64 (L3 q)] = _; rw [s0, s1, s2, s3])
              repeat' (first | (with_reducible assumption) | (with_reducible refine Own.drawnN ?_ _) | (with_reducible refine Own.drawn ?_) | (with_reducible refine Own.made_at ?_; first | rfl | (simp; done) | omega | (simp; omega)) | (with_reducible refine Own.more ?_ _) | (with_reducible refine Own.apart ?_ ?_ _ _; rotate_left; first | omega | (simp; done) | (simp; omega)) | (refine Own.put ?_ _ _))
            have O43 : Own w3 (w.heap.size + 1 + 1) 58 #[.int .u64 0, .int .u64 0, .int .u64 0, .int .u64 0] := by
              refine Own.keep ?_ hb3
              repeat' (first | (with_reducible assumption) | (with_reducible refine Own.drawnN ?_ _) | (with_reducible refine Own.drawn ?_) | (with_reducible refine Own.made_at ?_; first | rfl | (simp; done) | omega | (simp; omega)) | (with_reducible refine Own.more ?_ _) | (with_reducible refine Own.apart ?_ ?_ _ _; rotate_left; first | omega | (simp; done) | (simp; omega)) | (refine Own.put ?_ _ _))
            have O53 : Own w3 (w.heap.size + 1 + 1 + 1) 58 #[.int .u64 0, .int .u64 0, .int .u64 0, .int .u64 0] := by
              refine Own.keep ?_ hb3
              repeat' (first | (with_reducible assumption) | (with_reducible refine Own.drawnN ?_ _) | (with_reducible refine Own.drawn ?_) | (with_reducible refine Own.made_at ?_; first | rfl | (simp; done) | omega | (simp; omega)) | (with_reducible refine Own.more ?_ _) | (with_reducible refine Own.apart ?_ ?_ _ _; rotate_left; first | omega | (simp; done) | (simp; omega)) | (refine Own.put ?_ _ _))
            have hB3 : Below w.heap.size w w3 := by
              refine then_ ?_ hb3 ?_
              · repeat' (first | (with_reducible exact Below.refl _ _) | (with_reducible assumption) | (with_reducible refine below_drewN ?_ _) | (with_reducible refine Below.drew ?_) | (with_reducible refine Below.alloc ?_ ?_ _) | (with_reducible refine Below.setCell ?_ ?_ _) | (with_reducible refine then_ ?_ (by with_reducible assumption) ?_) | (with_reducible exact Nat.le_refl _) | (with_reducible exact Nat.le_succ _) | (with_reducible exact Nat.le_succ_of_le (by with_reducible assumption)) | omega | (simp; done) | (simp; omega) | (exact Nat.le_succ _) | (exact Nat.le_succ_of_le (by with_reducible assumption)))
              · have := hB2.size
                simpa using this
            clear OA2 OQ2 OP2 O42 O52 hB2
            have hz := OQ3.in_
            have hzp := OP3.in_
            have hzs := hB3.size
            go_roundw
            case rel =>
              refine ⟨k, _, q + 2 ^ k, r - pr, by omega, rfl, rfl, HDT, hz, ?_, ?_, ?_, ?_, ?_, ?_⟩
              · repeat' (first | (with_reducible assumption) | (with_reducible refine Own.drawnN ?_ _) | (with_reducible refine Own.drawn ?_) | (with_reducible refine Own.made_at ?_; first | rfl | (simp; done) | omega | (simp; omega)) | (with_reducible refine Own.more ?_ _) | (with_reducible refine Own.apart ?_ ?_ _ _; rotate_left; first | omega | (simp; done) | (simp; omega)) | (refine Own.put ?_ _ _))
              · repeat' (first | (with_reducible assumption) | (with_reducible refine Own.drawnN ?_ _) | (with_reducible refine Own.drawn ?_) | (with_reducible refine Own.made_at ?_; first | rfl | (simp; done) | omega | (simp; omega)) | (with_reducible refine Own.more ?_ _) | (with_reducible refine Own.apart ?_ ?_ _ _; rotate_left; first | omega | (simp; done) | (simp; omega)) | (refine Own.put ?_ _ _))
              · rw [Hpr.out.symm]
                repeat' (first | (with_reducible assumption) | (with_reducible refine Own.drawnN ?_ _) | (with_reducible refine Own.drawn ?_) | (with_reducible refine Own.made_at ?_; first | rfl | (simp; done) | omega | (simp; omega)) | (with_reducible refine Own.more ?_ _) | (with_reducible refine Own.apart ?_ ?_ _ _; rotate_left; first | omega | (simp; done) | (simp; omega)) | (refine Own.put ?_ _ _))
              · repeat' (first | (with_reducible assumption) | (with_reducible refine Own.drawnN ?_ _) | (with_reducible refine Own.drawn ?_) | (with_reducible refine Own.made_at ?_; first | rfl | (simp; done) | omega | (simp; omega)) | (with_reducible refine Own.more ?_ _) | (with_reducible refine Own.apart ?_ ?_ _ _; rotate_left; first | omega | (simp; done) | (simp; omega)) | (refine Own.put ?_ _ _))
              · repeat' (first | (with_reducible assumption) | (with_reducible refine Own.drawnN ?_ _) | (with_reducible refine Own.drawn ?_) | (with_reducible refine Own.made_at ?_; first | rfl | (simp; done) | omega | (simp; omega)) | (with_reducible refine Own.more ?_ _) | (with_reducible refine Own.apart ?_ ?_ _ _; rotate_left; first | omega | (simp; done) | (simp; omega)) | (refine Own.put ?_ _ _))
              · repeat' (first | (with_reducible exact Below.refl _ _) | (with_reducible assumption) | (with_reducible refine below_drewN ?_ _) | (with_reducible refine Below.drew ?_) | (with_reducible refine Below.alloc ?_ ?_ _) | (with_reducible refine Below.setCell ?_ ?_ _) | (with_reducible refine then_ ?_ (by with_reducible assumption) ?_) | (with_reducible exact Nat.le_refl _) | (with_reducible exact Nat.le_succ _) | (with_reducible exact Nat.le_succ_of_le (by with_reducible assumption)) | omega | (simp; done) | (simp; omega) | (exact Nat.le_succ _) | (exact Nat.le_succ_of_le (by with_reducible assumption)))
            case measure => simp [intOf]
          · have SB := Lib.hid (set_bit_2 q mm k k0 hmm hlow)
            clear hlow
            go_wp2
            go_quiet ((go_at_call 57; exact CMH.out _))
            go_wp2_with (first
              | (go_at_call 29; refine (MI.out _).mono ?_; rintro e w2 ⟨rfl, hb2⟩; have OA2 := (OA.drawnN _).keep hb2; have OQ2 := (OQ.drawnN _).keep hb2; have OP2 := (OP.drawnN _).keep hb2; have O42 := (O4.drawnN _).keep hb2; have O52 := (O5.drawnN _).keep hb2; clear OA OQ OP O4 O5 A1 A2 A3 Q1 Q2 Q3 P1 P2 P3; obtain ⟨A1, A2, A3⟩ := OA2.at_; obtain ⟨Q1, Q2, Q3⟩ := OQ2.at_; obtain ⟨P1, P2, P3⟩ := OP2.at_; have hB2 : Below w.heap.size w w2 := then_ (below_drewN hB _) hb2 hB.size)
              | (go_at_call 58; refine (DN.out _).mono ?_; rintro e w3 ⟨rfl, hb3⟩
                 have OP3 : Own w3 pt 58 #[.int .u64 (L0 pr), .int .u64 (L1 pr), .int .u64 (L2 pr), .int .u64 (L3 pr)] := by
                   refine Own.keep ?_ hb3
                   repeat' (first | (with_reducible assumption) | (with_reducible refine Own.drawnN ?_ _) | (with_reducible refine Own.drawn ?_) | (with_reducible refine Own.made_at ?_; first | rfl | (simp; done) | omega | (simp; omega)) | (with_reducible refine Own.more ?_ _) | (with_reducible refine Own.apart ?_ ?_ _ _; rotate_left; first | omega | (simp; done) | (simp; omega)) | (refine Own.put ?_ _ _))
                 clear A1 A2 A3 Q1 Q2 Q3 P1 P2 P3
                 obtain ⟨P1, P2, P3⟩ := OP3.at_))
            have OA3 : Own w3 w.heap.size 58 #[.int .u64 (L0 (r - pr)), .int .u64 (L1 (r - pr)), .int .u64 (L2 (r - pr)), .int .u64 (L3 (r - pr))] := by
              refine Own.keep ?_ hb3
              refine Own.as (cs := ((((#[.int .u64 (L0 r), .int .u64 (L1 r), .int .u64 (L2 r), .int .u64 (L3 r)] : Array Value).setIfInBounds 0 (.int .u64 (L0 (r - pr)))).setIfInBounds 1 (.int .u64 (L1 (r - pr)))).setIfInBounds 2 (.int .u64 (L2 (r - pr)))).setIfInBounds 3 (.int .u64 (L3 (r - pr)))) ?_ rfl
              repeat' (first | (with_reducible assumption) | (with_reducible refine Own.drawnN ?_ _) | (with_reducible refine Own.drawn ?_) | (with_reducible refine Own.made_at ?_; first | rfl | (simp; done) | omega | (simp; omega)) | (with_reducible refine Own.more ?_ _) | (with_reducible refine Own.apart ?_ ?_ _ _; rotate_left; first | omega | (simp; done) | (simp; omega)) | (refine Own.put ?_ _ _))
            have OQ3 : Own w3 (w.heap.size + 1 + 1 + 1 + 1 + 1 + 1) 58 #[Value.int .u64 (L0 (q + 2 ^ k)), Value.int .u64 (L1 (q + 2 ^ k)), Value.int .u64 (L2 (q + 2 ^ k)), Value.int .u64 (L3 (q + 2 ^ k))] := by
              refine Own.keep ?_ hb3
              obtain ⟨s0, s1, s2, s3⟩ := SB.out
              refine Own.as (cs := (#[.int .u64 (L0 q), .int .u64 (L1 q), .int .u64 (L2 q), .int .u64 (L3 q)] : Array Value).setIfInBounds 2 (.int .u64 (bits BinOp.or IntKind.u64 (L2 q) (IntKind.u64.wrap (2 ^ mm.toNat))))) ?_ (by show #[Value.int .u64 (L0 q), Value.int .u64 (L1 q), Value.int .u64 (bits BinOp.or IntKind.u64 (L2 q) (IntKind.u64.wrap (2 ^ mm.toNat))), Value.int .u64 (L3 q)] = _; rw [s0, s1, s2, s3])
              repeat' (first | (with_reducible assumption) | (with_reducible refine Own.drawnN ?_ _) | (with_reducible refine Own.drawn ?_) | (with_reducible refine Own.made_at ?_; first | rfl | (simp; done) | omega | (simp; omega)) | (with_reducible refine Own.more ?_ _) | (with_reducible refine Own.apart ?_ ?_ _ _; rotate_left; first | omega | (simp; done) | (simp; omega)) | (refine Own.put ?_ _ _))
            have O43 : Own w3 (w.heap.size + 1 + 1) 58 #[.int .u64 0, .int .u64 0, .int .u64 0, .int .u64 0] := by
              refine Own.keep ?_ hb3
              repeat' (first | (with_reducible assumption) | (with_reducible refine Own.drawnN ?_ _) | (with_reducible refine Own.drawn ?_) | (with_reducible refine Own.made_at ?_; first | rfl | (simp; done) | omega | (simp; omega)) | (with_reducible refine Own.more ?_ _) | (with_reducible refine Own.apart ?_ ?_ _ _; rotate_left; first | omega | (simp; done) | (simp; omega)) | (refine Own.put ?_ _ _))
            have O53 : Own w3 (w.heap.size + 1 + 1 + 1) 58 #[.int .u64 0, .int .u64 0, .int .u64 0, .int .u64 0] := by
              refine Own.keep ?_ hb3
              repeat' (first | (with_reducible assumption) | (with_reducible refine Own.drawnN ?_ _) | (with_reducible refine Own.drawn ?_) | (with_reducible refine Own.made_at ?_; first | rfl | (simp; done) | omega | (simp; omega)) | (with_reducible refine Own.more ?_ _) | (with_reducible refine Own.apart ?_ ?_ _ _; rotate_left; first | omega | (simp; done) | (simp; omega)) | (refine Own.put ?_ _ _))
            have hB3 : Below w.heap.size w w3 := by
              refine then_ ?_ hb3 ?_
              · repeat' (first | (with_reducible exact Below.refl _ _) | (with_reducible assumption) | (with_reducible refine below_drewN ?_ _) | (with_reducible refine Below.drew ?_) | (with_reducible refine Below.alloc ?_ ?_ _) | (with_reducible refine Below.setCell ?_ ?_ _) | (with_reducible refine then_ ?_ (by with_reducible assumption) ?_) | (with_reducible exact Nat.le_refl _) | (with_reducible exact Nat.le_succ _) | (with_reducible exact Nat.le_succ_of_le (by with_reducible assumption)) | omega | (simp; done) | (simp; omega) | (exact Nat.le_succ _) | (exact Nat.le_succ_of_le (by with_reducible assumption)))
              · have := hB2.size
                simpa using this
            clear OA2 OQ2 OP2 O42 O52 hB2
            have hz := OQ3.in_
            have hzp := OP3.in_
            have hzs := hB3.size
            go_roundw
            case rel =>
              refine ⟨k, _, q + 2 ^ k, r - pr, by omega, rfl, rfl, HDT, hz, ?_, ?_, ?_, ?_, ?_, ?_⟩
              · repeat' (first | (with_reducible assumption) | (with_reducible refine Own.drawnN ?_ _) | (with_reducible refine Own.drawn ?_) | (with_reducible refine Own.made_at ?_; first | rfl | (simp; done) | omega | (simp; omega)) | (with_reducible refine Own.more ?_ _) | (with_reducible refine Own.apart ?_ ?_ _ _; rotate_left; first | omega | (simp; done) | (simp; omega)) | (refine Own.put ?_ _ _))
              · repeat' (first | (with_reducible assumption) | (with_reducible refine Own.drawnN ?_ _) | (with_reducible refine Own.drawn ?_) | (with_reducible refine Own.made_at ?_; first | rfl | (simp; done) | omega | (simp; omega)) | (with_reducible refine Own.more ?_ _) | (with_reducible refine Own.apart ?_ ?_ _ _; rotate_left; first | omega | (simp; done) | (simp; omega)) | (refine Own.put ?_ _ _))
              · rw [Hpr.out.symm]
                repeat' (first | (with_reducible assumption) | (with_reducible refine Own.drawnN ?_ _) | (with_reducible refine Own.drawn ?_) | (with_reducible refine Own.made_at ?_; first | rfl | (simp; done) | omega | (simp; omega)) | (with_reducible refine Own.more ?_ _) | (with_reducible refine Own.apart ?_ ?_ _ _; rotate_left; first | omega | (simp; done) | (simp; omega)) | (refine Own.put ?_ _ _))
              · repeat' (first | (with_reducible assumption) | (with_reducible refine Own.drawnN ?_ _) | (with_reducible refine Own.drawn ?_) | (with_reducible refine Own.made_at ?_; first | rfl | (simp; done) | omega | (simp; omega)) | (with_reducible refine Own.more ?_ _) | (with_reducible refine Own.apart ?_ ?_ _ _; rotate_left; first | omega | (simp; done) | (simp; omega)) | (refine Own.put ?_ _ _))
              · repeat' (first | (with_reducible assumption) | (with_reducible refine Own.drawnN ?_ _) | (with_reducible refine Own.drawn ?_) | (with_reducible refine Own.made_at ?_; first | rfl | (simp; done) | omega | (simp; omega)) | (with_reducible refine Own.more ?_ _) | (with_reducible refine Own.apart ?_ ?_ _ _; rotate_left; first | omega | (simp; done) | (simp; omega)) | (refine Own.put ?_ _ _))
              · repeat' (first | (with_reducible exact Below.refl _ _) | (with_reducible assumption) | (with_reducible refine below_drewN ?_ _) | (with_reducible refine Below.drew ?_) | (with_reducible refine Below.alloc ?_ ?_ _) | (with_reducible refine Below.setCell ?_ ?_ _) | (with_reducible refine then_ ?_ (by with_reducible assumption) ?_) | (with_reducible exact Nat.le_refl _) | (with_reducible exact Nat.le_succ _) | (with_reducible exact Nat.le_succ_of_le (by with_reducible assumption)) | omega | (simp; done) | (simp; omega) | (exact Nat.le_succ _) | (exact Nat.le_succ_of_le (by with_reducible assumption)))
            case measure => simp [intOf]
          · have SB := Lib.hid (set_bit_3 q mm k k0 hmm hlow)
            clear hlow
            go_wp2
            go_quiet ((go_at_call 57; exact CMH.out _))
            go_wp2_with (first
              | (go_at_call 29; refine (MI.out _).mono ?_; rintro e w2 ⟨rfl, hb2⟩; have OA2 := (OA.drawnN _).keep hb2; have OQ2 := (OQ.drawnN _).keep hb2; have OP2 := (OP.drawnN _).keep hb2; have O42 := (O4.drawnN _).keep hb2; have O52 := (O5.drawnN _).keep hb2; clear OA OQ OP O4 O5 A1 A2 A3 Q1 Q2 Q3 P1 P2 P3; obtain ⟨A1, A2, A3⟩ := OA2.at_; obtain ⟨Q1, Q2, Q3⟩ := OQ2.at_; obtain ⟨P1, P2, P3⟩ := OP2.at_; have hB2 : Below w.heap.size w w2 := then_ (below_drewN hB _) hb2 hB.size)
              | (go_at_call 58; refine (DN.out _).mono ?_; rintro e w3 ⟨rfl, hb3⟩
                 have OP3 : Own w3 pt 58 #[.int .u64 (L0 pr), .int .u64 (L1 pr), .int .u64 (L2 pr), .int .u64 (L3 pr)] := by
                   refine Own.keep ?_ hb3
                   repeat' (first | (with_reducible assumption) | (with_reducible refine Own.drawnN ?_ _) | (with_reducible refine Own.drawn ?_) | (with_reducible refine Own.made_at ?_; first | rfl | (simp; done) | omega | (simp; omega)) | (with_reducible refine Own.more ?_ _) | (with_reducible refine Own.apart ?_ ?_ _ _; rotate_left; first | omega | (simp; done) | (simp; omega)) | (refine Own.put ?_ _ _))
                 clear A1 A2 A3 Q1 Q2 Q3 P1 P2 P3
                 obtain ⟨P1, P2, P3⟩ := OP3.at_))
            have OA3 : Own w3 w.heap.size 58 #[.int .u64 (L0 (r - pr)), .int .u64 (L1 (r - pr)), .int .u64 (L2 (r - pr)), .int .u64 (L3 (r - pr))] := by
              refine Own.keep ?_ hb3
              refine Own.as (cs := ((((#[.int .u64 (L0 r), .int .u64 (L1 r), .int .u64 (L2 r), .int .u64 (L3 r)] : Array Value).setIfInBounds 0 (.int .u64 (L0 (r - pr)))).setIfInBounds 1 (.int .u64 (L1 (r - pr)))).setIfInBounds 2 (.int .u64 (L2 (r - pr)))).setIfInBounds 3 (.int .u64 (L3 (r - pr)))) ?_ rfl
              repeat' (first | (with_reducible assumption) | (with_reducible refine Own.drawnN ?_ _) | (with_reducible refine Own.drawn ?_) | (with_reducible refine Own.made_at ?_; first | rfl | (simp; done) | omega | (simp; omega)) | (with_reducible refine Own.more ?_ _) | (with_reducible refine Own.apart ?_ ?_ _ _; rotate_left; first | omega | (simp; done) | (simp; omega)) | (refine Own.put ?_ _ _))
            have OQ3 : Own w3 (w.heap.size + 1 + 1 + 1 + 1 + 1 + 1) 58 #[Value.int .u64 (L0 (q + 2 ^ k)), Value.int .u64 (L1 (q + 2 ^ k)), Value.int .u64 (L2 (q + 2 ^ k)), Value.int .u64 (L3 (q + 2 ^ k))] := by
              refine Own.keep ?_ hb3
              obtain ⟨s0, s1, s2, s3⟩ := SB.out
              refine Own.as (cs := (#[.int .u64 (L0 q), .int .u64 (L1 q), .int .u64 (L2 q), .int .u64 (L3 q)] : Array Value).setIfInBounds 3 (.int .u64 (bits BinOp.or IntKind.u64 (L3 q) (IntKind.u64.wrap (2 ^ mm.toNat))))) ?_ (by show #[Value.int .u64 (L0 q), Value.int .u64 (L1 q), Value.int .u64 (L2 q), Value.int .u64 (bits BinOp.or IntKind.u64 (L3 q) (IntKind.u64.wrap (2 ^ mm.toNat)))] = _; rw [s0, s1, s2, s3])
              repeat' (first | (with_reducible assumption) | (with_reducible refine Own.drawnN ?_ _) | (with_reducible refine Own.drawn ?_) | (with_reducible refine Own.made_at ?_; first | rfl | (simp; done) | omega | (simp; omega)) | (with_reducible refine Own.more ?_ _) | (with_reducible refine Own.apart ?_ ?_ _ _; rotate_left; first | omega | (simp; done) | (simp; omega)) | (refine Own.put ?_ _ _))
            have O43 : Own w3 (w.heap.size + 1 + 1) 58 #[.int .u64 0, .int .u64 0, .int .u64 0, .int .u64 0] := by
              refine Own.keep ?_ hb3
              repeat' (first | (with_reducible assumption) | (with_reducible refine Own.drawnN ?_ _) | (with_reducible refine Own.drawn ?_) | (with_reducible refine Own.made_at ?_; first | rfl | (simp; done) | omega | (simp; omega)) | (with_reducible refine Own.more ?_ _) | (with_reducible refine Own.apart ?_ ?_ _ _; rotate_left; first | omega | (simp; done) | (simp; omega)) | (refine Own.put ?_ _ _))
            have O53 : Own w3 (w.heap.size + 1 + 1 + 1) 58 #[.int .u64 0, .int .u64 0, .int .u64 0, .int .u64 0] := by
              refine Own.keep ?_ hb3
              repeat' (first | (with_reducible assumption) | (with_reducible refine Own.drawnN ?_ _) | (with_reducible refine Own.drawn ?_) | (with_reducible refine Own.made_at ?_; first | rfl | (simp; done) | omega | (simp; omega)) | (with_reducible refine Own.more ?_ _) | (with_reducible refine Own.apart ?_ ?_ _ _; rotate_left; first | omega | (simp; done) | (simp; omega)) | (refine Own.put ?_ _ _))
            have hB3 : Below w.heap.size w w3 := by
              refine then_ ?_ hb3 ?_
              · repeat' (first | (with_reducible exact Below.refl _ _) | (with_reducible assumption) | (with_reducible refine below_drewN ?_ _) | (with_reducible refine Below.drew ?_) | (with_reducible refine Below.alloc ?_ ?_ _) | (with_reducible refine Below.setCell ?_ ?_ _) | (with_reducible refine then_ ?_ (by with_reducible assumption) ?_) | (with_reducible exact Nat.le_refl _) | (with_reducible exact Nat.le_succ _) | (with_reducible exact Nat.le_succ_of_le (by with_reducible assumption)) | omega | (simp; done) | (simp; omega) | (exact Nat.le_succ _) | (exact Nat.le_succ_of_le (by with_reducible assumption)))
              · have := hB2.size
                simpa using this
            clear OA2 OQ2 OP2 O42 O52 hB2
            have hz := OQ3.in_
            have hzp := OP3.in_
            have hzs := hB3.size
            go_roundw
            case rel =>
              refine ⟨k, _, q + 2 ^ k, r - pr, by omega, rfl, rfl, HDT, hz, ?_, ?_, ?_, ?_, ?_, ?_⟩
              · repeat' (first | (with_reducible assumption) | (with_reducible refine Own.drawnN ?_ _) | (with_reducible refine Own.drawn ?_) | (with_reducible refine Own.made_at ?_; first | rfl | (simp; done) | omega | (simp; omega)) | (with_reducible refine Own.more ?_ _) | (with_reducible refine Own.apart ?_ ?_ _ _; rotate_left; first | omega | (simp; done) | (simp; omega)) | (refine Own.put ?_ _ _))
              · repeat' (first | (with_reducible assumption) | (with_reducible refine Own.drawnN ?_ _) | (with_reducible refine Own.drawn ?_) | (with_reducible refine Own.made_at ?_; first | rfl | (simp; done) | omega | (simp; omega)) | (with_reducible refine Own.more ?_ _) | (with_reducible refine Own.apart ?_ ?_ _ _; rotate_left; first | omega | (simp; done) | (simp; omega)) | (refine Own.put ?_ _ _))
              · rw [Hpr.out.symm]
                repeat' (first | (with_reducible assumption) | (with_reducible refine Own.drawnN ?_ _) | (with_reducible refine Own.drawn ?_) | (with_reducible refine Own.made_at ?_; first | rfl | (simp; done) | omega | (simp; omega)) | (with_reducible refine Own.more ?_ _) | (with_reducible refine Own.apart ?_ ?_ _ _; rotate_left; first | omega | (simp; done) | (simp; omega)) | (refine Own.put ?_ _ _))
              · repeat' (first | (with_reducible assumption) | (with_reducible refine Own.drawnN ?_ _) | (with_reducible refine Own.drawn ?_) | (with_reducible refine Own.made_at ?_; first | rfl | (simp; done) | omega | (simp; omega)) | (with_reducible refine Own.more ?_ _) | (with_reducible refine Own.apart ?_ ?_ _ _; rotate_left; first | omega | (simp; done) | (simp; omega)) | (refine Own.put ?_ _ _))
              · repeat' (first | (with_reducible assumption) | (with_reducible refine Own.drawnN ?_ _) | (with_reducible refine Own.drawn ?_) | (with_reducible refine Own.made_at ?_; first | rfl | (simp; done) | omega | (simp; omega)) | (with_reducible refine Own.more ?_ _) | (with_reducible refine Own.apart ?_ ?_ _ _; rotate_left; first | omega | (simp; done) | (simp; omega)) | (refine Own.put ?_ _ _))
              · repeat' (first | (with_reducible exact Below.refl _ _) | (with_reducible assumption) | (with_reducible refine below_drewN ?_ _) | (with_reducible refine Below.drew ?_) | (with_reducible refine Below.alloc ?_ ?_ _) | (with_reducible refine Below.setCell ?_ ?_ _) | (with_reducible refine then_ ?_ (by with_reducible assumption) ?_) | (with_reducible exact Nat.le_refl _) | (with_reducible exact Nat.le_succ _) | (with_reducible exact Nat.le_succ_of_le (by with_reducible assumption)) | omega | (simp; done) | (simp; omega) | (exact Nat.le_succ _) | (exact Nat.le_succ_of_le (by with_reducible assumption)))
            case measure => simp [intOf]
        · obtain ⟨cv, hcv, hc0⟩ : ∃ cv : Int, cmpW (Lf r) (Lf pr) 4 = cv ∧ cv < 0 := ⟨_, rfl, by rw [CV, if_pos (by omega)]; decide⟩
          rw [hcv] at CM
          clear hcv CV
          have HDT := Lib.hid (HD.out.pass (by rw [← Hpr.out]; omega))
          have hcd : decide (0 ≤ cv) = false := by simpa using hc0
          clear hc
          have CMH := Lib.hid CM
          clear CM
          go_wp2
          go_quiet ((go_at_call 57; exact CMH.out _))
          go_wp2_with (go_at_call 58; refine (DN.out _).mono ?_; rintro e w2 ⟨rfl, hb2⟩; have OA2 := (OA.drawnN _).keep hb2; have OQ2 := (OQ.drawnN _).keep hb2; have OP2 := (OP.drawnN _).keep hb2; have O42 := (O4.drawnN _).keep hb2; have O52 := (O5.drawnN _).keep hb2; clear OA OQ OP O4 O5 A1 A2 A3 Q1 Q2 Q3 P1 P2 P3; obtain ⟨P1, P2, P3⟩ := OP2.at_)
          have hz := OQ2.in_
          have hzp := OP2.in_
          have hBB : Below w.heap.size w w2 := then_ (below_drewN hB _) hb2 hB.size
          go_roundw
          case rel =>
            refine ⟨k, _, q, r, by omega, rfl, rfl, HDT, hz, ?_, ?_, ?_, ?_, ?_, ?_⟩
            · repeat' (first | (with_reducible assumption) | (with_reducible refine Own.drawnN ?_ _) | (with_reducible refine Own.drawn ?_) | (with_reducible refine Own.made_at ?_; first | rfl | (simp; done) | omega | (simp; omega)) | (with_reducible refine Own.more ?_ _) | (with_reducible refine Own.apart ?_ ?_ _ _; rotate_left; first | omega | (simp; done) | (simp; omega)) | (refine Own.put ?_ _ _))
            · repeat' (first | (with_reducible assumption) | (with_reducible refine Own.drawnN ?_ _) | (with_reducible refine Own.drawn ?_) | (with_reducible refine Own.made_at ?_; first | rfl | (simp; done) | omega | (simp; omega)) | (with_reducible refine Own.more ?_ _) | (with_reducible refine Own.apart ?_ ?_ _ _; rotate_left; first | omega | (simp; done) | (simp; omega)) | (refine Own.put ?_ _ _))
            · rw [Hpr.out.symm]
              repeat' (first | (with_reducible assumption) | (with_reducible refine Own.drawnN ?_ _) | (with_reducible refine Own.drawn ?_) | (with_reducible refine Own.made_at ?_; first | rfl | (simp; done) | omega | (simp; omega)) | (with_reducible refine Own.more ?_ _) | (with_reducible refine Own.apart ?_ ?_ _ _; rotate_left; first | omega | (simp; done) | (simp; omega)) | (refine Own.put ?_ _ _))
            · repeat' (first | (with_reducible assumption) | (with_reducible refine Own.drawnN ?_ _) | (with_reducible refine Own.drawn ?_) | (with_reducible refine Own.made_at ?_; first | rfl | (simp; done) | omega | (simp; omega)) | (with_reducible refine Own.more ?_ _) | (with_reducible refine Own.apart ?_ ?_ _ _; rotate_left; first | omega | (simp; done) | (simp; omega)) | (refine Own.put ?_ _ _))
            · repeat' (first | (with_reducible assumption) | (with_reducible refine Own.drawnN ?_ _) | (with_reducible refine Own.drawn ?_) | (with_reducible refine Own.made_at ?_; first | rfl | (simp; done) | omega | (simp; omega)) | (with_reducible refine Own.more ?_ _) | (with_reducible refine Own.apart ?_ ?_ _ _; rotate_left; first | omega | (simp; done) | (simp; omega)) | (refine Own.put ?_ _ _))
            · repeat' (first | (with_reducible exact Below.refl _ _) | (with_reducible assumption) | (with_reducible refine below_drewN ?_ _) | (with_reducible refine Below.drew ?_) | (with_reducible refine Below.alloc ?_ ?_ _) | (with_reducible refine Below.setCell ?_ ?_ _) | (with_reducible refine then_ ?_ (by with_reducible assumption) ?_) | (with_reducible exact Nat.le_refl _) | (with_reducible exact Nat.le_succ _) | (with_reducible exact Nat.le_succ_of_le (by with_reducible assumption)) | omega | (simp; done) | (simp; omega) | (exact Nat.le_succ _) | (exact Nat.le_succ_of_le (by with_reducible assumption)))
          case measure => simp [intOf]
end Go.Proofs.YtjmojddnedngaaaDoor
