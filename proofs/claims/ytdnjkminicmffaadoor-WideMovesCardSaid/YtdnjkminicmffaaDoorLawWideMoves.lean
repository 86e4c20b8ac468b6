/- WideMoves: any number moved up or down by any bits is the document's, or doesn't fit; the tables start as the program's text lays them. -/
import Derived.Test.YtdnjkminicmffaaDoorRows
import Derived.Test.YtdnjkminicmffaaDoorBase
import Derived.Test.YtdnjkminicmffaaDoorRefW
import Derived.Test.YtdnjkminicmffaaDoorMulA
import Derived.Test.YtdnjkminicmffaaDoorFloA
import Derived.Test.YtdnjkminicmffaaDoorSeq
import Derived.Test.YtdnjkminicmffaaDoorAw3
import Derived.Test.YtdnjkminicmffaaDoorMemoZ
import Derived.WalkKit
import Derived.ProofKit
import Derived.OpenShut
import Derived.ShutString
import Derived.ChangeOld
import Derived.Below
import Derived.SliceStrings
import Derived.Test.YtdnjkminicmffaaDoorLaid
import Derived.Test.YtdnjkminicmffaaDoorCards
import Derived.Test.YtdnjkminicmffaaDoorTie
import Derived.LaidMore
import Derived.Stop.Joined
import Derived.SevenTiedAt
namespace Go.Proofs.YtdnjkminicmffaaDoor.wideMoves
open Go.ChangeShapes Go.WideShapes Go.ChangeAt Go.RowKit
open Go.ChangeMaps (open_string shut_string)
set_option linter.unusedVariables false

theorem shl_case (z : Int) (n : Nat) (fz : Fit z) (hn : n ≤ 9223372036854775807) : ∃ r er, (∀ w, Calls Tryd.prog 24 #[.agg #[.int .u64 (L0 z), .int .u64 (L1 z), .int .u64 (L2 z), .int .u64 (L3 z)], .int .i64 n] w fun e w' => e = .returned (.tuple #[.agg #[.int .u64 (L0 r), .int .u64 (L1 r), .int .u64 (L2 r), .int .u64 (L3 r)], .int .i64 er]) ∧ Below w.heap.size w w') ∧ Ans (z * 2 ^ n) r er := by
  by_cases h : Fit (z * 2 ^ n)
  · exact ⟨z * 2 ^ n, 0, fun w => (Shl_any z n fz (by omega) (by omega) w).mono fun e w' h' => ⟨h'.1 h, h'.2.2⟩, .inl ⟨h, rfl, rfl⟩⟩
  · exact ⟨0, 3, fun w => (Shl_any z n fz (by omega) (by omega) w).mono fun e w' h' => ⟨h'.2.1 h, h'.2.2⟩, .inr ⟨h, rfl, rfl⟩⟩
theorem div_small {z : Int} (fz : Fit z) (n : Nat) : z / 2 ^ min n 300 = z / 2 ^ n := by
  rcases Nat.le_total n 300 with h | h
  · rw [Nat.min_eq_left h]
  · rw [Nat.min_eq_right h]
    have big : ∀ k : Nat, 256 ≤ k → z / 2 ^ k = if z < 0 then -1 else 0 := by
      intro k hk
      obtain ⟨t, rfl⟩ : ∃ t, k = 256 + t := ⟨k - 256, by omega⟩
      have h1 : (115792089237316195423570985008687907853269984665640564039457584007913129639936 : Int) ≤ 2 ^ (256 + t) := by
        rw [Int.pow_add, show (2 : Int) ^ 256 = 115792089237316195423570985008687907853269984665640564039457584007913129639936 by decide]
        have := Int.mul_le_mul_of_nonneg_left (show (1 : Int) ≤ 2 ^ t from Int.pow_pos (by decide)) (show (0 : Int) ≤ 115792089237316195423570985008687907853269984665640564039457584007913129639936 by decide)
        omega
      obtain ⟨h2, h3⟩ := fz
      generalize (2 : Int) ^ (256 + t) = p at *
      split
      · rw [Int.ediv_eq_iff_of_pos (by omega)]; omega
      · exact Int.ediv_eq_zero_of_lt (by omega) (by omega)
    rw [big 300 (by omega), big n (by omega)]
theorem fit_div {z : Int} (fz : Fit z) (n : Nat) : Fit (z / 2 ^ n) := by
  obtain ⟨h2, h3⟩ := fz
  have hp : (1 : Int) ≤ 2 ^ n := Int.pow_pos (by decide)
  generalize (2 : Int) ^ n = p at *
  by_cases h : z < 0
  · have h4 : z ≤ z / p := by
      rw [Int.le_ediv_iff_mul_le (by omega)]
      have := Int.mul_le_mul_of_nonneg_left hp (show 0 ≤ -z by omega)
      rw [Int.neg_mul, Int.neg_mul] at this
      omega
    have h5 : z / p < 0 := Int.ediv_neg_of_neg_of_pos h (by omega)
    exact ⟨by omega, by omega⟩
  · have h4 : 0 ≤ z / p := Int.ediv_nonneg (by omega) (by omega)
    have h5 : z / p ≤ z := Int.ediv_le_self _ (by omega)
    exact ⟨by omega, by omega⟩
theorem nofit_pow {z : Int} (h : z ≠ 0) {n : Nat} (hn : 300 < n) : ¬ Fit (z * 2 ^ n) := by
  rintro ⟨h2, h3⟩
  obtain ⟨t, rfl⟩ : ∃ t, n = 256 + t := ⟨n - 256, by omega⟩
  have h1 : (115792089237316195423570985008687907853269984665640564039457584007913129639936 : Int) ≤ 2 ^ (256 + t) := by
    rw [Int.pow_add, show (2 : Int) ^ 256 = 115792089237316195423570985008687907853269984665640564039457584007913129639936 by decide]
    have := Int.mul_le_mul_of_nonneg_left (show (1 : Int) ≤ 2 ^ t from Int.pow_pos (by decide)) (show (0 : Int) ≤ 115792089237316195423570985008687907853269984665640564039457584007913129639936 by decide)
    omega
  generalize (2 : Int) ^ (256 + t) = p at *
  rcases (by omega : z ≤ -1 ∨ 1 ≤ z) with hz | hz
  · have := Int.mul_le_mul_of_nonneg_right hz (show 0 ≤ p by omega)
    omega
  · have := Int.mul_le_mul_of_nonneg_right hz (show 0 ≤ p by omega)
    omega
theorem num_len {w : World} {T C : Nat} {s : Bool} {a : Option Addr} {l c : Nat} {z : Int} (h : Num w T C (.agg #[.bool s, .slice a l c]) z) : ((l : Int) == 0) = decide (z = 0) := by
  obtain ⟨a', l', c', e, r⟩ := h
  obtain ⟨-, -, rfl, -⟩ : s = _ ∧ a = a' ∧ l = l' ∧ c = c' := by simpa using e
  have h8 := r.hlen
  by_cases h0 : z = 0
  · rw [h0, show (0 : Int).natAbs = 0 from rfl, digs_zero] at h8
    simp at h8
    rw [← h8, h0]; rfl
  · have h9 := digs_len (n := z.natAbs) (by omega)
    rw [show decide (z = 0) = false by simpa using h0, beq_eq_false_iff_ne]
    omega

theorem own : ownKnob Tryd.prog.godebug = none := by kernel_rfl
theorem laidOut : laidOutB Tryd.prog = true := by kernel_rfl

set_option maxHeartbeats 16000000 in
set_option maxRecDepth 20000 in
theorem walk (z0 : Int) (a1 : Int) (w : World) (f0 : Fit z0) (w1 : (Lit.int .i64 a1).wf = true) (hp : Pow10 w) :
    Calls Tryd.prog 7 #[.agg #[.int .u64 (L0 z0), .int .u64 (L1 z0), .int .u64 (L2 z0), .int .u64 (L3 z0)], .int .i64 a1] w fun e w' => e = .returned (.bool true) ∧ Below w.heap.size w w' := by
  obtain ⟨h0, h1⟩ := of_wf64 w1
  have F0 := Lib.hid (fun T w h => from_num T z0 f0 w h)
  have S0 := Lib.hid (fit_short f0)
  have EQA := eq_i z0
  have EQZ : ∀ w, (Op.equalIn 10000 24 (.agg #[.int .u64 0, .int .u64 0, .int .u64 0, .int .u64 0]) (.agg #[.int .u64 0, .int .u64 0, .int .u64 0, .int .u64 0])).run Tryd.prog w = .ok true w := fun w => eq_i 0 w
  replace hp := Lib.hid hp
  by_cases hn : a1 < 0
  · have SH : RowKit.Hid (∀ w, Calls Tryd.prog 24 #[.agg #[.int .u64 (L0 z0), .int .u64 (L1 z0), .int .u64 (L2 z0), .int .u64 (L3 z0)], .int .i64 a1] w fun e w' => e = .returned (.tuple #[.agg #[.int .u64 (L0 0), .int .u64 (L1 0), .int .u64 (L2 0), .int .u64 (L3 0)], .int .i64 1]) ∧ Below w.heap.size w w') := Lib.hid (fun w => Shl_arg z0 a1 hn w)
    have SR := Lib.hid (fun w => Shr_neg z0 a1 hn w)
    have EQ0 := eq_z0
    clear f0
    go_enter Tryd.func7, Tryd.ntmps7
    go_upto_region 1 with fail
    go_name_world W0 hW0e
    have OA : Own W0 w.heap.size 24 #[.int .u64 (L0 z0), .int .u64 (L1 z0), .int .u64 (L2 z0), .int .u64 (L3 z0)] := hW0e ▸ (by repeat' (first | (with_reducible assumption) | (with_reducible refine Own.drawnN ?_ _) | (with_reducible refine Own.drawn ?_) | (with_reducible refine Own.made_at ?_; first | rfl | (simp; done) | omega | (simp; omega)) | (with_reducible refine Own.more ?_ _) | (with_reducible refine Own.apart ?_ ?_ _ _; rotate_left; first | omega | (simp; done) | (simp; omega)) | (refine Own.put ?_ _ _)))
    have hB0 : Below w.heap.size w W0 := hW0e ▸ (by repeat' (first | (with_reducible exact Below.refl _ _) | (with_reducible assumption) | (with_reducible refine below_drewN ?_ _) | (with_reducible refine Below.drew ?_) | (with_reducible refine Below.alloc ?_ ?_ _) | (with_reducible refine Below.setCell ?_ ?_ _) | (with_reducible refine then_ ?_ (by with_reducible assumption) ?_) | (with_reducible exact Nat.le_refl _) | (with_reducible exact Nat.le_succ _) | (with_reducible exact Nat.le_succ_of_le (by with_reducible assumption)) | omega | (simp; done) | (simp; omega) | (exact Nat.le_succ _) | (exact Nat.le_succ_of_le (by with_reducible assumption))))
    clear hW0e
    obtain ⟨P1, P2, P3⟩ := OA.at_
    go_upto_region 2 with (go_at_call 10; refine (F0.out W0.heap.size W0 (Nat.le_refl _)).mono ?_; rintro e w1 ⟨v, rfl, hn0, hb1⟩; obtain ⟨s, na, nl, nc, rfl⟩ := hn0.shape; have hx := Lib.hid hn0; clear hn0)
    go_name_world W1 hW1e
    have OX : Own W1 w1.heap.size 27 #[.bool s, .slice na nl nc] := hW1e ▸ (by
      refine Own.as (cs := #[.bool s, .slice na nl nc]) ?_ rfl
      repeat' (first | (with_reducible assumption) | (with_reducible refine Own.drawnN ?_ _) | (with_reducible refine Own.drawn ?_) | (with_reducible refine Own.made_at ?_; first | rfl | (simp; done) | omega | (simp; omega)) | (with_reducible refine Own.more ?_ _) | (with_reducible refine Own.apart ?_ ?_ _ _; rotate_left; first | omega | (simp; done) | (simp; omega)) | (refine Own.put ?_ _ _)))
    have hb1' : Below w1.heap.size w1 W1 := hW1e ▸ (by repeat' (first | (with_reducible exact Below.refl _ _) | (with_reducible assumption) | (with_reducible refine below_drewN ?_ _) | (with_reducible refine Below.drew ?_) | (with_reducible refine Below.alloc ?_ ?_ _) | (with_reducible refine Below.setCell ?_ ?_ _) | (with_reducible refine then_ ?_ (by with_reducible assumption) ?_) | (with_reducible exact Nat.le_refl _) | (with_reducible exact Nat.le_succ _) | (with_reducible exact Nat.le_succ_of_le (by with_reducible assumption)) | omega | (simp; done) | (simp; omega) | (exact Nat.le_succ _) | (exact Nat.le_succ_of_le (by with_reducible assumption))))
    replace OA := (OA.keep hb1).keep hb1'
    have B1 : Below w.heap.size w W1 := then_ (then_ hB0 hb1 hB0.size) hb1' (by have := hB0.size; have := hb1.size; omega)
    replace hx := Lib.hid (hx.out.keep hb1')
    clear hW1e hb1 hb1' hB0 P1 P2 P3 F0
    obtain ⟨P1, P2, P3⟩ := OA.at_
    go_upto_region 3 with (go_at_call 24; refine (SH.out _).mono ?_; rintro e w2 ⟨rfl, hb2⟩)
    go_name_world W2 hW2e
    have OU : Own W2 w2.heap.size 24 #[.int .u64 (L0 0), .int .u64 (L1 0), .int .u64 (L2 0), .int .u64 (L3 0)] := hW2e ▸ (by repeat' (first | (with_reducible assumption) | (with_reducible refine Own.drawnN ?_ _) | (with_reducible refine Own.drawn ?_) | (with_reducible refine Own.made_at ?_; first | rfl | (simp; done) | omega | (simp; omega)) | (with_reducible refine Own.more ?_ _) | (with_reducible refine Own.apart ?_ ?_ _ _; rotate_left; first | omega | (simp; done) | (simp; omega)) | (refine Own.put ?_ _ _)))
    have hb2' : Below w2.heap.size w2 W2 := hW2e ▸ (by repeat' (first | (with_reducible exact Below.refl _ _) | (with_reducible assumption) | (with_reducible refine below_drewN ?_ _) | (with_reducible refine Below.drew ?_) | (with_reducible refine Below.alloc ?_ ?_ _) | (with_reducible refine Below.setCell ?_ ?_ _) | (with_reducible refine then_ ?_ (by with_reducible assumption) ?_) | (with_reducible exact Nat.le_refl _) | (with_reducible exact Nat.le_succ _) | (with_reducible exact Nat.le_succ_of_le (by with_reducible assumption)) | omega | (simp; done) | (simp; omega) | (exact Nat.le_succ _) | (exact Nat.le_succ_of_le (by with_reducible assumption))))
    replace OA := (OA.keep hb2).keep hb2'
    replace OX := (OX.keep hb2).keep hb2'
    have B0 : Below w.heap.size w W2 := then_ (then_ B1 hb2 B1.size) hb2' (by have := B1.size; have := hb2.size; omega)
    replace hx := Lib.hid ((hx.out.keep hb2).keep hb2')
    clear hW2e hb2 hb2' B1 P1 P2 P3 SH
    go_upto_region 4 with fail
    have HP : Pow10 W2.drew := hp.out.keep B0.drew
    refine wp_region_seq (fun W => Own W w.heap.size 24 #[.int .u64 (L0 z0), .int .u64 (L1 z0), .int .u64 (L2 z0), .int .u64 (L3 z0)] ∧ Own W w1.heap.size 27 #[.bool s, .slice na nl nc] ∧ Own W w2.heap.size 24 #[.int .u64 (L0 0), .int .u64 (L1 0), .int .u64 (L2 0), .int .u64 (L3 0)]) (1 :: 2 :: 3 :: 4 :: 5 :: 6 :: 7 :: 8 :: 9 :: 10 :: 11 :: 12 :: 14 :: 15 :: 16 :: 17 :: []) (6 :: 11 :: 14 :: []) (0 :: 1 :: 2 :: 3 :: 4 :: 5 :: 6 :: 7 :: 8 :: 9 :: 10 :: 11 :: 12 :: 14 :: 13 :: 15 :: 16 :: 17 :: []) (by kernel_rfl) (by kernel_rfl) rfl (by kernel_rfl) rfl (⟨OA.drawn, OX.drawn, OU.drawn⟩) (by simp only [picked, List.filterMap_cons, List.filterMap_nil, List.getElem?_cons_zero, List.getElem?_cons_succ, Option.map_some]; exact rfl) ?_
    refine seq_on rfl rfl fun K hK => ?_
    go_wp2_with (go_at_call 14; refine (awake_any _ HP).mono ?_; rintro e w3 ⟨rfl, hb⟩)
    replace OA := OA.drawn.keep hb
    replace OX := OX.drawn.keep hb
    replace OU := OU.drawn.keep hb
    have B1 : Below w.heap.size w w3 := then_ B0.drew hb B0.size
    refine hK _ _ ⟨OA, OX, OU⟩ ?_
    clear hK K B0 hb
    iterate 13
      refine seq_want (v := ?_) rfl rfl (fun W hS => ?_) ?_
      rotate_left
      · first
          | (conv => lhs; simp [go_sem, EQ0, EQZ, EQA]
             first | done | exact rfl)
          | (have hS := hS rfl
             obtain ⟨q1, q2, q3⟩ := hS
             obtain ⟨q11, q12, q13⟩ := q1.at_
             obtain ⟨q21, q22, q23⟩ := q2.at_
             obtain ⟨q31, q32, q33⟩ := q3.at_
             conv => lhs; simp [go_sem, *, EQ0, EQZ, EQA]
             first | done | exact rfl)
      simp only [Act.put, List.setIfInBounds_toArray, List.set_cons_zero, List.set_cons_succ]
    refine seq_on rfl rfl fun K hK => ?_
    go_wp2_with (go_at_call 25; refine (SR.out _).mono ?_; rintro e w4 ⟨rfl, hb⟩)
    replace OA := OA.keep hb
    replace OX := OX.keep hb
    replace OU := OU.keep hb
    have B2 : Below w.heap.size w w4 := then_ B1 hb B1.size
    refine hK _ _ ⟨OA, OX, OU⟩ ?_
    clear hK K B1 hb
    iterate 3
      refine seq_want (v := ?_) rfl rfl (fun W hS => ?_) ?_
      rotate_left
      · first
          | (conv => lhs; simp [go_sem, EQA]
             first | done | exact rfl)
          | (have hS := hS rfl
             obtain ⟨q1, q2, q3⟩ := hS
             obtain ⟨q11, q12, q13⟩ := q1.at_
             obtain ⟨q21, q22, q23⟩ := q2.at_
             obtain ⟨q31, q32, q33⟩ := q3.at_
             conv => lhs; simp [go_sem, *, EQA]
             first | done | exact rfl)
      simp only [Act.put, List.setIfInBounds_toArray, List.set_cons_zero, List.set_cons_succ]
    refine seq_end ?_
    go_wp2
    go_ret
    exact ⟨rfl, B2⟩
  · obtain ⟨n, rfl⟩ := Int.eq_ofNat_of_zero_le (show 0 ≤ a1 by omega)
    obtain ⟨r, er, SH1, hans⟩ := shl_case z0 n f0 (by omega)
    have SH := Lib.hid SH1
    have HA := Lib.hid hans
    have SR1 := fun w => Shr_any z0 n f0 (by omega) w
    have e1 : shrZ z0 n = z0 / 2 ^ n := by unfold shrZ; rw [if_neg hn]; rfl
    rw [e1] at SR1
    have FD := fit_div f0 n
    have FL1 := fun T w v hT hv => floor_num T n v z0 w hT hv (Nat.le_trans S0.out (by decide)) (by omega)
    rw [div_small f0 n] at FL1
    obtain ⟨d, hd⟩ : ∃ d, z0 / 2 ^ n = d := ⟨_, rfl⟩
    rw [hd] at SR1 FD FL1
    have WD := Lib.hid (fun T C v w (hv : Num w T C v d) => (words_num T C v d w hv).mono fun e w' h' => (⟨h'.1.elim (fun h => h.2) (fun h => absurd FD h.1), h'.2⟩ : e = .returned (.tuple #[.agg #[.int .u64 (L0 d), .int .u64 (L1 d), .int .u64 (L2 d), .int .u64 (L3 d)], .bool true]) ∧ Below w.heap.size w w'))
    have SR := Lib.hid SR1
    have FL := Lib.hid FL1
    have EQD := eq_i d
    clear SH1 hans SR1 FL1 e1 hd FD f0
    go_enter Tryd.func7, Tryd.ntmps7
    go_upto_region 1 with fail
    go_name_world W0 hW0e
    have OA : Own W0 w.heap.size 24 #[.int .u64 (L0 z0), .int .u64 (L1 z0), .int .u64 (L2 z0), .int .u64 (L3 z0)] := hW0e ▸ (by repeat' (first | (with_reducible assumption) | (with_reducible refine Own.drawnN ?_ _) | (with_reducible refine Own.drawn ?_) | (with_reducible refine Own.made_at ?_; first | rfl | (simp; done) | omega | (simp; omega)) | (with_reducible refine Own.more ?_ _) | (with_reducible refine Own.apart ?_ ?_ _ _; rotate_left; first | omega | (simp; done) | (simp; omega)) | (refine Own.put ?_ _ _)))
    have hB0 : Below w.heap.size w W0 := hW0e ▸ (by repeat' (first | (with_reducible exact Below.refl _ _) | (with_reducible assumption) | (with_reducible refine below_drewN ?_ _) | (with_reducible refine Below.drew ?_) | (with_reducible refine Below.alloc ?_ ?_ _) | (with_reducible refine Below.setCell ?_ ?_ _) | (with_reducible refine then_ ?_ (by with_reducible assumption) ?_) | (with_reducible exact Nat.le_refl _) | (with_reducible exact Nat.le_succ _) | (with_reducible exact Nat.le_succ_of_le (by with_reducible assumption)) | omega | (simp; done) | (simp; omega) | (exact Nat.le_succ _) | (exact Nat.le_succ_of_le (by with_reducible assumption))))
    clear hW0e
    obtain ⟨P1, P2, P3⟩ := OA.at_
    go_upto_region 2 with (go_at_call 10; refine (F0.out W0.heap.size W0 (Nat.le_refl _)).mono ?_; rintro e w1 ⟨v, rfl, hn0, hb1⟩; obtain ⟨s, na, nl, nc, rfl⟩ := hn0.shape; have hx := Lib.hid hn0; clear hn0)
    go_name_world W1 hW1e
    have OX : Own W1 w1.heap.size 27 #[.bool s, .slice na nl nc] := hW1e ▸ (by
      refine Own.as (cs := #[.bool s, .slice na nl nc]) ?_ rfl
      repeat' (first | (with_reducible assumption) | (with_reducible refine Own.drawnN ?_ _) | (with_reducible refine Own.drawn ?_) | (with_reducible refine Own.made_at ?_; first | rfl | (simp; done) | omega | (simp; omega)) | (with_reducible refine Own.more ?_ _) | (with_reducible refine Own.apart ?_ ?_ _ _; rotate_left; first | omega | (simp; done) | (simp; omega)) | (refine Own.put ?_ _ _)))
    have hb1' : Below w1.heap.size w1 W1 := hW1e ▸ (by repeat' (first | (with_reducible exact Below.refl _ _) | (with_reducible assumption) | (with_reducible refine below_drewN ?_ _) | (with_reducible refine Below.drew ?_) | (with_reducible refine Below.alloc ?_ ?_ _) | (with_reducible refine Below.setCell ?_ ?_ _) | (with_reducible refine then_ ?_ (by with_reducible assumption) ?_) | (with_reducible exact Nat.le_refl _) | (with_reducible exact Nat.le_succ _) | (with_reducible exact Nat.le_succ_of_le (by with_reducible assumption)) | omega | (simp; done) | (simp; omega) | (exact Nat.le_succ _) | (exact Nat.le_succ_of_le (by with_reducible assumption))))
    replace OA := (OA.keep hb1).keep hb1'
    have B1 : Below w.heap.size w W1 := then_ (then_ hB0 hb1 hB0.size) hb1' (by have := hB0.size; have := hb1.size; omega)
    replace hx := Lib.hid (hx.out.keep hb1')
    clear hW1e hb1 hb1' hB0 P1 P2 P3 F0
    obtain ⟨P1, P2, P3⟩ := OA.at_
    go_upto_region 3 with (go_at_call 24; refine (SH.out _).mono ?_; rintro e w2 ⟨rfl, hb2⟩)
    go_name_world W2 hW2e
    have OU : Own W2 w2.heap.size 24 #[.int .u64 (L0 r), .int .u64 (L1 r), .int .u64 (L2 r), .int .u64 (L3 r)] := hW2e ▸ (by repeat' (first | (with_reducible assumption) | (with_reducible refine Own.drawnN ?_ _) | (with_reducible refine Own.drawn ?_) | (with_reducible refine Own.made_at ?_; first | rfl | (simp; done) | omega | (simp; omega)) | (with_reducible refine Own.more ?_ _) | (with_reducible refine Own.apart ?_ ?_ _ _; rotate_left; first | omega | (simp; done) | (simp; omega)) | (refine Own.put ?_ _ _)))
    have hb2' : Below w2.heap.size w2 W2 := hW2e ▸ (by repeat' (first | (with_reducible exact Below.refl _ _) | (with_reducible assumption) | (with_reducible refine below_drewN ?_ _) | (with_reducible refine Below.drew ?_) | (with_reducible refine Below.alloc ?_ ?_ _) | (with_reducible refine Below.setCell ?_ ?_ _) | (with_reducible refine then_ ?_ (by with_reducible assumption) ?_) | (with_reducible exact Nat.le_refl _) | (with_reducible exact Nat.le_succ _) | (with_reducible exact Nat.le_succ_of_le (by with_reducible assumption)) | omega | (simp; done) | (simp; omega) | (exact Nat.le_succ _) | (exact Nat.le_succ_of_le (by with_reducible assumption))))
    replace OA := (OA.keep hb2).keep hb2'
    replace OX := (OX.keep hb2).keep hb2'
    have B0 : Below w.heap.size w W2 := then_ (then_ B1 hb2 B1.size) hb2' (by have := B1.size; have := hb2.size; omega)
    replace hx := Lib.hid ((hx.out.keep hb2).keep hb2')
    clear hW2e hb2 hb2' B1 P1 P2 P3 SH
    obtain ⟨P1, P2, P3⟩ := OX.at_
    go_upto_region 6 with (first
      | (go_at_call 27; refine (FL.out W2.heap.size _ _ (Nat.le_refl _) ((NumP.of hx.out (S := fun _ => True) (fun _ _ _ => trivial)).old _)).mono ?_; rintro e w3 ⟨v3, rfl, hn3, hb3⟩; replace hn3 := Lib.hid hn3)
      | (go_at_call 26; refine (WD.out _ _ v3 w3 hn3.out).mono ?_; rintro e w4 ⟨rfl, hb4⟩))
    go_name_world W4 hW4e
    have OD : Own W4 w4.heap.size 23 #[.int .u64 (L0 d), .int .u64 (L1 d), .int .u64 (L2 d), .int .u64 (L3 d)] := hW4e ▸ (by repeat' (first | (with_reducible assumption) | (with_reducible refine Own.drawnN ?_ _) | (with_reducible refine Own.drawn ?_) | (with_reducible refine Own.made_at ?_; first | rfl | (simp; done) | omega | (simp; omega)) | (with_reducible refine Own.more ?_ _) | (with_reducible refine Own.apart ?_ ?_ _ _; rotate_left; first | omega | (simp; done) | (simp; omega)) | (refine Own.put ?_ _ _)))
    have hb4' : Below w4.heap.size w4 W4 := hW4e ▸ (by repeat' (first | (with_reducible exact Below.refl _ _) | (with_reducible assumption) | (with_reducible refine below_drewN ?_ _) | (with_reducible refine Below.drew ?_) | (with_reducible refine Below.alloc ?_ ?_ _) | (with_reducible refine Below.setCell ?_ ?_ _) | (with_reducible refine then_ ?_ (by with_reducible assumption) ?_) | (with_reducible exact Nat.le_refl _) | (with_reducible exact Nat.le_succ _) | (with_reducible exact Nat.le_succ_of_le (by with_reducible assumption)) | omega | (simp; done) | (simp; omega) | (exact Nat.le_succ _) | (exact Nat.le_succ_of_le (by with_reducible assumption))))
    replace OA := ((OA.keep hb3).keep hb4).keep hb4'
    replace OX := ((OX.keep hb3).keep hb4).keep hb4'
    replace OU := ((OU.keep hb3).keep hb4).keep hb4'
    have hb34 : Below W2.heap.size W2 W4 := then_ (then_ hb3 hb4 hb3.size) hb4' (by have := hb3.size; have := hb4.size; omega)
    replace hx := Lib.hid (hx.out.keep hb34)
    replace B0 : Below w.heap.size w W4 := then_ B0 hb34 B0.size
    clear hW4e hb3 hb4 hb4' hb34 P1 P2 P3 hn3 FL WD
    refine wp_region_seq (fun W => Own W w.heap.size 24 #[.int .u64 (L0 z0), .int .u64 (L1 z0), .int .u64 (L2 z0), .int .u64 (L3 z0)] ∧ Own W w1.heap.size 27 #[.bool s, .slice na nl nc] ∧ Own W w2.heap.size 24 #[.int .u64 (L0 r), .int .u64 (L1 r), .int .u64 (L2 r), .int .u64 (L3 r)] ∧ Own W w4.heap.size 23 #[.int .u64 (L0 d), .int .u64 (L1 d), .int .u64 (L2 d), .int .u64 (L3 d)]) (0 :: 1 :: 3 :: 4 :: []) (0 :: 3 :: []) (0 :: 1 :: 3 :: 2 :: 4 :: []) (by kernel_rfl) (by kernel_rfl) rfl (by kernel_rfl) rfl (⟨OA.drawn, OX.drawn, OU.drawn, OD.drawn⟩) (by simp only [picked, List.filterMap_cons, List.filterMap_nil, List.getElem?_cons_zero, List.getElem?_cons_succ, Option.map_some]; exact rfl) ?_
    iterate 3
      refine seq_want (v := ?_) rfl rfl (fun W hS => ?_) ?_
      rotate_left
      · first
          | (conv => lhs; simp [go_sem]
             first | done | exact rfl)
          | (have hS := hS rfl
             obtain ⟨q1, q2, q3, q4⟩ := hS
             obtain ⟨q11, q12, q13⟩ := q1.at_
             obtain ⟨q21, q22, q23⟩ := q2.at_
             obtain ⟨q31, q32, q33⟩ := q3.at_
             obtain ⟨q41, q42, q43⟩ := q4.at_
             conv => lhs; simp [go_sem, *]
             first | done | exact rfl)
      simp only [Act.put, List.setIfInBounds_toArray, List.set_cons_zero, List.set_cons_succ]
    refine seq_on rfl rfl fun K hK => ?_
    go_wp2_with (go_at_call 25; refine (SR.out _).mono ?_; rintro e w5 ⟨rfl, hb⟩)
    replace OA := OA.drawn.keep hb
    replace OX := OX.drawn.keep hb
    replace OU := OU.drawn.keep hb
    replace OD := OD.drawn.keep hb
    have B1 : Below w.heap.size w w5 := then_ B0.drew hb B0.size
    replace hx := Lib.hid ((hx.out.keep (below_drewN (Below.refl _ _) 1)).keep hb)
    refine hK _ _ ⟨OA, OX, OU, OD⟩ ?_
    clear hK K B0 hb
    iterate 1
      refine seq_want (v := ?_) rfl rfl (fun W hS => ?_) ?_
      rotate_left
      · first
          | (conv => lhs; simp [go_sem, EQD]
             first | done | exact rfl)
          | (have hS := hS rfl
             obtain ⟨q1, q2, q3, q4⟩ := hS
             obtain ⟨q11, q12, q13⟩ := q1.at_
             obtain ⟨q21, q22, q23⟩ := q2.at_
             obtain ⟨q31, q32, q33⟩ := q3.at_
             obtain ⟨q41, q42, q43⟩ := q4.at_
             conv => lhs; simp [go_sem, *, EQD]
             first | done | exact rfl)
      simp only [Act.put, List.setIfInBounds_toArray, List.set_cons_zero, List.set_cons_succ]
    refine seq_end ?_
    clear OD SR EQD
    have HL := num_len hx.out
    obtain ⟨P1, P2, P3⟩ := OX.at_
    obtain ⟨tz, htz⟩ : ∃ tz, decide (z0 = 0) = tz := ⟨_, rfl⟩
    rw [htz] at HL
    replace htz := Lib.hid htz
    have HP0 := Lib.hid (show Pow10 w5 from hp.out.keep B1)
    cases tz with
    | true =>
      obtain ⟨hz, hr1, hr2⟩ : z0 = 0 ∧ r = 0 ∧ er = 0 := by
        have h := htz.out
        have hz : z0 = 0 := by simpa using h
        rcases HA.out with h2 | h2
        · refine ⟨hz, by rw [h2.2.1, hz, Int.zero_mul], h2.2.2⟩
        · exact absurd (by rw [hz, Int.zero_mul]; exact fit0) h2.1
      subst hr1 hr2
      have EQ9 : ∀ w, (Op.equalIn 10000 24 (.agg #[.int .u64 (L0 0), .int .u64 (L1 0), .int .u64 (L2 0), .int .u64 (L3 0)]) (.agg #[.int .u64 (L0 z0), .int .u64 (L1 z0), .int .u64 (L2 z0), .int .u64 (L3 z0)])).run Tryd.prog w = .ok true w := fun w => by rw [hz]; exact eq_i 0 w
      clear hz htz HA
      go_wp2_with (go_at_call 14; refine (awake_any _ HP0.out).mono ?_; rintro e w6 ⟨rfl, hb6⟩; have OA6 := OA.keep hb6; have OU6 := OU.keep hb6; obtain ⟨R1, R2, R3⟩ := OA6.at_; obtain ⟨U1, U2, U3⟩ := OU6.at_; have B6 := then_ B1 hb6 B1.size)
      go_ret
      exact ⟨rfl, B6⟩
    | false =>
      have hz : z0 ≠ 0 := by simpa using htz.out
      by_cases hn3 : 300 < n
      · obtain ⟨hr1, hr2⟩ : r = 0 ∧ er = 3 := by
          rcases HA.out with h2 | h2
          · exact absurd h2.1 (nofit_pow hz hn3)
          · exact h2.2
        subst hr1 hr2
        have hn4 : (300 : Int) < n := by omega
        have EQ9 := eq_z0
        clear HA htz hz
        go_wp2_with (go_at_call 14; refine (awake_any _ HP0.out).mono ?_; rintro e w6 ⟨rfl, hb6⟩; have OU6 := OU.keep hb6; obtain ⟨U1, U2, U3⟩ := OU6.at_; have B6 := then_ B1 hb6 B1.size)
        go_ret
        exact ⟨rfl, B6⟩
      · have hn4 : ¬ (300 : Int) < n := by omega
        have PW := Lib.hid (fun T w hT => power_num T n (by omega) w hT)
        have hpl := Lib.hid (pow_short (j := n) (by omega))
        replace hn3 := Lib.hid hn3
        clear htz hz
        go_upto_region 12 with fail
        have HP : Pow10 w5.drew := hp.out.keep B1.drew
        replace hx := Lib.hid (hx.out.keep (below_drewN (Below.refl _ _) 1))
        clear P1 P2 P3
        refine wp_region_seq (fun W => Own W w.heap.size 24 #[.int .u64 (L0 z0), .int .u64 (L1 z0), .int .u64 (L2 z0), .int .u64 (L3 z0)] ∧ Own W w1.heap.size 27 #[.bool s, .slice na nl nc] ∧ Own W w2.heap.size 24 #[.int .u64 (L0 r), .int .u64 (L1 r), .int .u64 (L2 r), .int .u64 (L3 r)]) (1 :: 2 :: 3 :: 4 :: 5 :: 9 :: 10 :: []) (2 :: 4 :: []) (0 :: 1 :: 2 :: 3 :: 4 :: 5 :: 6 :: 7 :: 8 :: 9 :: 10 :: []) (by kernel_rfl) (by kernel_rfl) rfl (by kernel_rfl) rfl (⟨OA.drawn, OX.drawn, OU.drawn⟩) (by simp only [picked, List.filterMap_cons, List.filterMap_nil, List.getElem?_cons_zero, List.getElem?_cons_succ, Option.map_some]; exact rfl) ?_
        refine seq_on rfl rfl fun K hK => ?_
        go_wp2_with (go_at_call 14; refine (awake_any _ HP).mono ?_; rintro e w6 ⟨rfl, hb⟩)
        replace OA := OA.drawn.keep hb
        replace OX := OX.drawn.keep hb
        replace OU := OU.drawn.keep hb
        have B2 : Below w.heap.size w w6 := then_ B1.drew hb B1.size
        replace hx := Lib.hid (hx.out.keep hb)
        refine hK _ _ ⟨OA, OX, OU⟩ ?_
        clear hK K B1 hb
        iterate 5
          refine seq_want (v := ?_) rfl rfl (fun W hS => ?_) ?_
          rotate_left
          · first
              | (conv => lhs; simp [go_sem]
                 first | done | exact rfl)
              | (have hS := hS rfl
                 obtain ⟨q1, q2, q3⟩ := hS
                 obtain ⟨q11, q12, q13⟩ := q1.at_
                 obtain ⟨q21, q22, q23⟩ := q2.at_
                 obtain ⟨q31, q32, q33⟩ := q3.at_
                 conv => lhs; simp [go_sem, *]
                 first | done | exact rfl)
          simp only [Act.put, List.setIfInBounds_toArray, List.set_cons_zero, List.set_cons_succ]
        refine seq_on rfl rfl fun K hK => ?_
        go_wp2_with (go_at_call 28; refine (PW.out w6.heap.size w6 (Nat.le_refl _)).mono ?_; rintro e w7 ⟨v7, rfl, n7, hb⟩)
        replace OA := OA.keep hb
        replace OX := OX.keep hb
        replace OU := OU.keep hb
        have B3 : Below w.heap.size w w7 := then_ B2 hb B2.size
        replace hx := Lib.hid (hx.out.keep hb)
        replace n7 := Lib.hid n7
        refine hK _ _ ⟨OA, OX, OU⟩ ?_
        clear hK K B2 hb
        refine seq_on rfl rfl fun K hK => ?_
        go_wp2_with (go_at_call 19; refine (mul_num w7.heap.size _ _ _ _ _ v7 z0 (2 ^ n) w7 (Nat.le_refl _) hx.out n7.out (Nat.le_trans S0.out (by decide)) (Nat.le_trans hpl.out (by decide))).mono ?_; rintro e w8 ⟨v8, rfl, n8, hb⟩)
        replace OA := OA.keep hb
        replace OX := OX.keep hb
        replace OU := OU.keep hb
        have B4 : Below w.heap.size w w8 := then_ B3 hb B3.size
        replace n8 := Lib.hid n8
        clear n7
        refine hK _ _ ⟨OA, OX, OU⟩ ?_
        clear hK K B3 hb
        refine seq_on rfl rfl fun K hK => ?_
        go_wp2_with (go_at_call 15; refine (is_num _ _ v8 (z0 * 2 ^ n) r er w8 n8.out HA.out).mono ?_; rintro e w9 ⟨rfl, hb⟩)
        replace OA := OA.keep hb
        replace OX := OX.keep hb
        replace OU := OU.keep hb
        have B5 : Below w.heap.size w w9 := then_ B4 hb B4.size
        clear n8
        refine hK _ _ ⟨OA, OX, OU⟩ ?_
        clear hK K B4 hb
        iterate 2
          refine seq_want (v := ?_) rfl rfl (fun W hS => ?_) ?_
          rotate_left
          · conv => lhs; simp [go_sem]
            first | done | exact rfl
          simp only [Act.put, List.setIfInBounds_toArray, List.set_cons_zero, List.set_cons_succ]
        refine seq_end ?_
        go_wp2
        go_ret
        exact ⟨rfl, B5⟩

set_option maxRecDepth 100000 in
theorem lifted (os : Os) (started : os.Started) (H : Type) (enc : TypeId × Value → H) :
    ReturnsInHanded {} Tryd.checked os 7 .any (fun w args => (Rows.wideMovesSpec.pre enc Tryd.prog Tryd.f7 [] false w args ∧ laidMetH Tryd.prog lay3 w) ∧ sizedMet enc Tryd.prog Tryd.f7 (OpenSpec.ofChange Rows.wideMovesSpec) false w args) (Rows.wideMovesSpec.post enc Tryd.prog Tryd.f7 false true false false) := by
  refine returnsInHanded_of_change_and (C := Tryd.checked) (X := fun w _ => laidMetH Tryd.prog lay3 w) (fun _ _ _ hh h => h.of_heap hh) own started (by kernel_rfl) Tryd.func7
    (ChangeSpec.witness_shaped (enc := enc) (C := Tryd.checked) (os := os) (X := fun w _ => laidMetH Tryd.prog lay3 w) false (World.doorLaid Tryd.prog 400 os) #[.agg #[.int .u64 0, .int .u64 0, .int .u64 0, .int .u64 0], .int .i64 0] 8 rfl (World.shaped_of_RefB (by kernel_rfl) (by kernel_rfl)) (by kernel_rfl) (by kernel_rfl) (by kernel_rfl) (door_met os _)) ?_
  intro W base args ds gs before hval0 hW _ _ hL _
  have hval : ∀ (j : Nat) t v, Tryd.f7.params[j]? = some t → args[j]? = some v → Value.okWide Tryd.prog W .any base t v := hval0
  have hW' := hW
  obtain ⟨p, q, hA0, hV, rfl, hfz, hnd⟩ := hW
  have hA : DataW.TrodAll enc Tryd.prog W 0 (fun _ => true) true Tryd.f7.params.toList args.toList ds p := hA0
  rw [Tryd.params7] at hA hval
  obtain ⟨v0, vs0, d0, ds0, p0, q0, hargs, rfl, rfl, h0, r0⟩ := trodAll_cons hA
  obtain ⟨v1, vs1, d1, ds1, p1, q1, rfl, rfl, rfl, h1, r1⟩ := trodAll_cons r0
  obtain ⟨rfl, rfl, rfl⟩ := trodAll_nil r1
  obtain rfl : args = #[v0, v1] := by cases args; simp_all
  obtain ⟨rfl, rfl⟩ := trodVars_none hV
  obtain ⟨z0, rfl, rfl, rfl, f0⟩ := open_i4 (hval 0 24 v0 rfl rfl) h0
  obtain ⟨a1, rfl, rfl, rfl, w1⟩ := open_int Tryd.underlying3 (hval 1 3 v1 rfl rfl) h1
  clear hA0 hval0
  refine (walk z0 a1 W f0 w1 (pow_of hL)).mono fun e W' ⟨he, bel⟩ => ?_
  subst he
  exact ⟨_, rfl, _, _, _, [], _, [], hW', trodAll_mk1 (shut_bool Tryd.underlying4 _), (trodAll_cons_mk (shut_i4 _) (trodAll_cons_mk (shut_int Tryd.underlying3 w1) trodAll_mk0)), rfl, bel.frame _, fun h => by cases h⟩

theorem over : Rows.WideMovesSaid :=
  OpenClaim.holds_of_wide 7 Tryd.f7 rfl rfl rfl rfl rfl rfl rfl ⟨rfl, rfl, rfl, rfl, rfl⟩ rfl rfl rfl rfl rfl (by kernel_rfl) Tryd.func7 (by kernel_rfl)
    (of_decide_eq_true (by kernel_rfl)) (by unfold Func.isWrapper; first | (rw [if_pos (by decide +kernel)]; kernel_rfl) | (rw [if_neg (by decide +kernel)]; exact ⟨rfl, rfl⟩))
    (fun os started H enc _ => lifted os started H enc)

/-- THE STATEMENT -/
theorem proved : Rows.WideMovesCardSaid :=
  Claim7.holds_tied_plain_at .later [] [.data, .data, .data] true (true, "967dca3fa14bcff598b7a8224b9eaf3b9bea7657f4d3a184d0d0e975bb1324a6") false
    over (fun _ h => by cases h) (by kernel_rfl) (fun _ h => by cases h) wideMoves_row_tie rfl ⟨rfl, rfl⟩ (by kernel_rfl) rfl
    (fun f fn hf hfn => by
      obtain rfl : f = 7 := Option.some.inj ((show Tryd.prog.funcNamed "croft/croftlaw03.WideMoves" = some 7 by kernel_rfl).symm.trans hf) |>.symm
      obtain rfl : fn = Tryd.f7 := (Option.some.inj (Tryd.func7.symm.trans hfn)).symm
      exact ⟨by kernel_rfl, fun j t ht => by
        rw [Tryd.params7] at ht
        have hm : t ∈ [24, 3] := by simpa using Array.mem_of_getElem? ht
        have hall : ([24, 3].all fun u => !Tryd.prog.wantsStandIn u) = true := by kernel_rfl
        exact (show Tryd.prog.wantsStandIn t = false by simpa using List.all_eq_true.1 hall t hm)⟩)
    (by kernel_rfl)
#print axioms proved
end Go.Proofs.YtdnjkminicmffaaDoor.wideMoves
