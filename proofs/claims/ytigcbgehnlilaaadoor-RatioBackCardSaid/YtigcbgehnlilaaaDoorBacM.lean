/- merged: The mathematics of the order of fractions as the law of layer 4 asks it. It speaks of no function. Equality of fractions; written by auto_orders.py. Condition: that the numbers fit. The mathematics of taking back what was added, of dividing by what was multiplied by, as the law of layer 4 asks it. It speaks of no function. -/
import Derived.Test.YtigcbgehnlilaaaDoorRatK
import Derived.Laws.StructEq
section
namespace Go.Proofs.YtigcbgehnlilaaaDoor
open Go.ChangeShapes Go.WideShapes Go.ChangeAt Go.RowKit
set_option linter.unusedVariables false

theorem cmV_neg (an ad bn bd : Int) : cmV an ad bn bd = -cmV bn bd an ad := by
  unfold cmV cmpZ
  cases decide (Rgt an ad) <;> cases decide (Rgt bn bd) <;> simp
  by_cases h1 : an * bd < bn * ad
  · have : ¬ bn * ad < an * bd := by omega
    simp [h1, this]
  · by_cases h2 : bn * ad < an * bd <;> simp [h1, h2]
theorem cmV_self (an ad : Int) : cmV an ad an ad = 0 := by
  unfold cmV cmpZ; split <;> simp
theorem cmV_le (an ad bn bd : Int) : -1 ≤ cmV an ad bn bd ∧ cmV an ad bn bd ≤ 1 := by
  unfold cmV cmpZ; split <;> (try split) <;> (try split) <;> omega
theorem cmV_right {an ad bn bd : Int} (ha : decide (Rgt an ad) = true) (hb : decide (Rgt bn bd) = true) : cmV an ad bn bd = cmpZ (an * bd) (bn * ad) := by
  unfold cmV; rw [ha, hb]; rfl
theorem cmpZ_zero (a b : Int) : cmpZ a b = 0 ↔ a = b := by unfold cmpZ; split <;> (try split) <;> omega
theorem cmpZ_sg (a b : Int) : cmpZ a b = sg (a - b) := by unfold cmpZ sg; split <;> (try split) <;> (try split) <;> omega
theorem sgnZ_sg (z : Int) : sgnZ z = sg z := by unfold sgnZ sg; split <;> (try split) <;> (try split) <;> omega
theorem ord_eq {an ad bn bd : Int} (ha : decide (Rgt an ad) = true) (hb : decide (Rgt bn bd) = true) : decide (an = bn ∧ ad = bd) = (cmV an ad bn bd == 0) := by
  rw [cmV_right ha hb]
  have h := cmpZ_zero (an * bd) (bn * ad)
  by_cases e : an = bn ∧ ad = bd
  · obtain ⟨rfl, rfl⟩ := e
    simp [h.2 rfl]
  · rw [decide_eq_false e]
    symm
    rw [beq_eq_false_iff_ne]
    intro k
    exact e (rgt_uniq (of_decide_eq_true ha) (of_decide_eq_true hb) (h.1 k))
theorem ord_trans {an ad bn bd cn cd : Int} (ha : decide (Rgt an ad) = true) (hb : decide (Rgt bn bd) = true) (hc : decide (Rgt cn cd) = true) (h1 : decide (0 < cmV an ad bn bd) = false) (h2 : decide (0 < cmV bn bd cn cd) = false) : decide (cmV an ad cn cd ≤ 0) = true := by
  rw [cmV_right ha hb] at h1
  rw [cmV_right hb hc] at h2
  rw [cmV_right ha hc]
  have k1 := of_decide_eq_false h1
  have k2 := of_decide_eq_false h2
  have a0 := (of_decide_eq_true ha).pos
  have b0 := (of_decide_eq_true hb).pos
  have c0 := (of_decide_eq_true hc).pos
  have l1 : an * bd ≤ bn * ad := by unfold cmpZ at k1; split at k1 <;> (try split at k1) <;> omega
  have l2 : bn * cd ≤ cn * bd := by unfold cmpZ at k2; split at k2 <;> (try split at k2) <;> omega
  have l3 := le_trans_frac (a := an) (b := ad) (c := bn) (d := bd) (r := cn) (s := cd) a0 b0 c0 l1 l2
  refine decide_eq_true ?_
  unfold cmpZ; split <;> (try split) <;> omega
theorem mk_eq {n d : Int} (h : mkB n d = true) : mkP n d * d = n * mkQ n d ∧ d ≠ 0 := by
  have h1 := h
  unfold mkB at h1
  simp only [Bool.and_eq_true, Bool.not_eq_true', beq_eq_false_iff_ne] at h1
  have hd := h1.1
  unfold mkP mkQ
  rw [if_pos h, if_pos h]
  unfold mkN mkD
  refine ⟨?_, hd⟩
  by_cases hs : d < 0
  · rw [if_pos hs, if_pos hs]
    have := (red_rgt (n := n) (d := d) (g := -gz n d) hd (by rw [if_pos hs])).2
    rwa [Int.tdiv_neg, Int.tdiv_neg] at this
  · rw [if_neg hs, if_neg hs]
    exact (red_rgt (n := n) (d := d) (g := gz n d) hd (by rw [if_neg hs])).2
theorem rk_ok {an ad bn bd n d : Int} {ok : Bool} (ha : decide (Rgt an ad) = true) (hb : decide (Rgt bn bd) = true) (h : (rkE an ad bn bd ok n d == 0) = true) : ok = true ∧ mkB n d = true ∧ rkP an ad bn bd ok n d = mkP n d ∧ rkQ an ad bn bd ok n d = mkQ n d := by
  have h' : rkE an ad bn bd ok n d = 0 := by simpa using h
  unfold rkE at h'
  rw [ha, hb] at h'
  cases ok
  · simp at h'
  · simp at h'
    refine ⟨rfl, mkR_zero h', ?_, ?_⟩
    · unfold rkP; rw [ha, hb]; rfl
    · unfold rkQ; rw [ha, hb]; rfl
theorem ord_sign {an ad bn bd : Int} {ok : Bool} (ha : decide (Rgt an ad) = true) (hb : decide (Rgt bn bd) = true) (h : (rkE an ad bn bd ok (an * bd - bn * ad) (ad * bd) == 0) = true) :
    Rgt (rkP an ad bn bd ok (an * bd - bn * ad) (ad * bd)) (rkQ an ad bn bd ok (an * bd - bn * ad) (ad * bd)) ∧ sgnZ (rkP an ad bn bd ok (an * bd - bn * ad) (ad * bd)) = cmV an ad bn bd := by
  obtain ⟨_, hB, e1, e2⟩ := rk_ok ha hb h
  rw [e1, e2]
  have hr := mk_rgt hB
  refine ⟨hr, ?_⟩
  rw [cmV_right ha hb, cmpZ_sg, sgnZ_sg]
  exact sub_sign (of_decide_eq_true ha).pos (of_decide_eq_true hb).pos hr.pos (mk_eq hB).1
end Go.Proofs.YtigcbgehnlilaaaDoor
end
section
namespace Go.Proofs.YtigcbgehnlilaaaDoor
open Go.ChangeShapes Go.WideShapes Go.ChangeAt Go.RowKit
set_option linter.unusedVariables false
set_option linter.unusedSimpArgs false

theorem eq_Ratio {a b c d : Int} (ha : Fit a) (hc : Fit c) (hb : Fit b) (hd : Fit d) (w : World) : (Op.equalIn 10000 26 (.agg #[.int .u64 (L0 a), .int .u64 (L1 a), .int .u64 (L2 a), .int .u64 (L3 a), .int .u64 (L0 b), .int .u64 (L1 b), .int .u64 (L2 b), .int .u64 (L3 b)]) (.agg #[.int .u64 (L0 c), .int .u64 (L1 c), .int .u64 (L2 c), .int .u64 (L3 c), .int .u64 (L0 d), .int .u64 (L1 d), .int .u64 (L2 d), .int .u64 (L3 d)])).run Tryd.prog w = .ok (decide (a = c ∧ b = d)) w := by
  have e : ∀ x y, Fit x → Fit y → ∀ w, (Op.equalIn 9999 24 (.agg #[.int .u64 (L0 x), .int .u64 (L1 x), .int .u64 (L2 x), .int .u64 (L3 x)]) (.agg #[.int .u64 (L0 y), .int .u64 (L1 y), .int .u64 (L2 y), .int .u64 (L3 y)])).run Tryd.prog w = .ok (decide (x = y)) w := fun x y hx hy w => by
    rw [← dec_fit hx hy]
    have u3 := Tryd.underlying22
    have a3 := Tryd.isAgg22
    have z3 := Tryd.sizeOf22
    rw [show (9999 : Nat) = 9998 + 1 from rfl, Op.equalIn]
    simp only [Sem.run_bind, run_underlying Tryd.underlying24, Result.andThen_ok]
    simp only [Std.Legacy.Range.forIn_eq_forIn_range', Std.Legacy.Range.size, Nat.sub_zero, Nat.add_sub_cancel, Nat.div_one, List.range'_succ, List.range'_zero, List.forIn_cons, List.forIn_nil]
    go_simp
    generalize L0 x = x0; generalize L1 x = x1; generalize L2 x = x2; generalize L3 x = x3
    generalize L0 y = y0; generalize L1 y = y1; generalize L2 y = y2; generalize L3 y = y3
    by_cases h0 : x0 = y0 <;> by_cases h1 : x1 = y1 <;> by_cases h2 : x2 = y2 <;> by_cases h3 : x3 = y3 <;> simp [h0, h1, h2, h3]
  have e1 := e a c ha hc
  have e2 := e b d hb hd
  rw [show (10000 : Nat) = 9999 + 1 from rfl, run_equalIn_struct w 9999 26 _ _ (by simp [Program.fieldsOf, Tryd.underlying26]) (by kernel_rfl)]
  simp only [Program.fieldsOf, Tryd.underlying26]
  generalize 9999 = D at *
  obtain ⟨x, hx⟩ : ∃ x, decide (a = c) = x := ⟨_, rfl⟩
  obtain ⟨y, hy⟩ : ∃ y, decide (b = d) = y := ⟨_, rfl⟩
  have ht : decide (a = c ∧ b = d) = (x && y) := by rw [← hx, ← hy]; simp
  simp only [hx] at e1
  simp only [hy] at e2
  rw [ht]
  clear hx hy ht e ha hb hc hd
  cases x <;> cases y <;> simp [Op.eqFields, go_sem, part, e1, e2]
end Go.Proofs.YtigcbgehnlilaaaDoor
end
section
namespace Go.Proofs.YtigcbgehnlilaaaDoor
open Go.ChangeShapes Go.WideShapes Go.ChangeAt Go.RowKit
set_option linter.unusedVariables false

theorem rk_rights {an ad bn bd n d : Int} {ok : Bool} (h : (rkE an ad bn bd ok n d == 0) = true) : decide (Rgt an ad) = true ∧ decide (Rgt bn bd) = true := by
  have h' : rkE an ad bn bd ok n d = 0 := by simpa using h
  unfold rkE at h'
  cases ha : decide (Rgt an ad)
  · rw [ha] at h'; simp at h'
  · cases hb : decide (Rgt bn bd)
    · rw [ha, hb] at h'; simp at h'
    · exact ⟨rfl, rfl⟩
theorem rk_right {an ad bn bd n d : Int} {ok : Bool} (h : (rkE an ad bn bd ok n d == 0) = true) : decide (Rgt (rkP an ad bn bd ok n d) (rkQ an ad bn bd ok n d)) = true := by
  obtain ⟨ha, hb⟩ := rk_rights h
  obtain ⟨_, h1, h2, h3⟩ := rk_ok ha hb h
  rw [h2, h3]
  exact decide_eq_true (mk_rgt h1)
/-- what is taken away again -/
theorem back_sub {an ad bn bd p q : Int} {ok ok2 : Bool} (h : (rkE an ad bn bd ok (an * bd + bn * ad) (ad * bd) == 0) = true) (hp : p = rkP an ad bn bd ok (an * bd + bn * ad) (ad * bd)) (hq : q = rkQ an ad bn bd ok (an * bd + bn * ad) (ad * bd))
    (k : (rkE p q bn bd ok2 (p * bd - bn * q) (q * bd) == 0) = true) : decide (rkP p q bn bd ok2 (p * bd - bn * q) (q * bd) = an ∧ rkQ p q bn bd ok2 (p * bd - bn * q) (q * bd) = ad) = true := by
  obtain ⟨ha, hb⟩ := rk_rights h
  obtain ⟨_, h1, h2, h3⟩ := rk_ok ha hb h
  rw [← hp] at h2
  rw [← hq] at h3
  obtain ⟨hr, hb'⟩ := rk_rights k
  obtain ⟨_, k1, k2, k3⟩ := rk_ok hr hb' k
  have e1 := (mk_eq h1).1
  rw [← h2, ← h3] at e1
  have e2 := (mk_eq k1).1
  rw [← k2, ← k3] at e2
  have r2 := mk_rgt k1
  rw [← k2, ← k3] at r2
  have e3 := back_add (of_decide_eq_true ha).pos (of_decide_eq_true hb).pos (of_decide_eq_true hr).pos e1 e2
  exact decide_eq_true (rgt_uniq r2 (of_decide_eq_true ha) e3)
theorem back_div {an ad bn bd p q : Int} {ok ok2 : Bool} (h : (rkE an ad bn bd ok (an * bn) (ad * bd) == 0) = true) (hp : p = rkP an ad bn bd ok (an * bn) (ad * bd)) (hq : q = rkQ an ad bn bd ok (an * bn) (ad * bd))
    (k : (rkE p q bn bd ok2 (p * bd) (q * bn) == 0) = true) : decide (rkP p q bn bd ok2 (p * bd) (q * bn) = an ∧ rkQ p q bn bd ok2 (p * bd) (q * bn) = ad) = true := by
  obtain ⟨ha, hb⟩ := rk_rights h
  obtain ⟨_, h1, h2, h3⟩ := rk_ok ha hb h
  rw [← hp] at h2
  rw [← hq] at h3
  obtain ⟨hr, hb'⟩ := rk_rights k
  obtain ⟨_, k1, k2, k3⟩ := rk_ok hr hb' k
  have e1 := (mk_eq h1).1
  rw [← h2, ← h3] at e1
  have e2 := mk_eq k1
  have hc : bn ≠ 0 := fun e => e2.2 (by rw [e, Int.mul_zero])
  have e2 := e2.1
  rw [← k2, ← k3] at e2
  have r2 := mk_rgt k1
  rw [← k2, ← k3] at r2
  have e3 := back_mul (of_decide_eq_true ha).pos (of_decide_eq_true hb).pos (of_decide_eq_true hr).pos hc e1 e2
  exact decide_eq_true (rgt_uniq r2 (of_decide_eq_true ha) e3)
/-- what else is answered -/
theorem back_no {an ad bn bd n d : Int} {ok : Bool} (ha : decide (Rgt an ad) = true) (hb : decide (Rgt bn bd) = true) (h : (rkE an ad bn bd ok n d == 0) = false) : rkE an ad bn bd ok n d = 3 ∨ (rkE an ad bn bd ok n d = 4 ∧ d = 0) := by
  have h' : ¬ rkE an ad bn bd ok n d = 0 := by simpa using h
  unfold rkE at h' ⊢
  rw [ha, hb] at h' ⊢
  cases ok
  · left; simp
  · simp only [Bool.and_self, if_true] at h' ⊢
    unfold mkR at h' ⊢
    split
    · rename_i h1; rw [if_pos h1] at h'; exact absurd rfl h'
    · split
      · right; exact ⟨rfl, by assumption⟩
      · left; rfl
theorem back_sub_no {an ad bn bd p q : Int} {ok ok2 : Bool} (h : (rkE an ad bn bd ok (an * bd + bn * ad) (ad * bd) == 0) = true) (hp : p = rkP an ad bn bd ok (an * bd + bn * ad) (ad * bd)) (hq : q = rkQ an ad bn bd ok (an * bd + bn * ad) (ad * bd))
    (k : (rkE p q bn bd ok2 (p * bd - bn * q) (q * bd) == 0) = false) : (rkE p q bn bd ok2 (p * bd - bn * q) (q * bd) == 3) = true := by
  obtain ⟨ha, hb⟩ := rk_rights h
  have hr := rk_right h
  rw [← hp, ← hq] at hr
  rcases back_no hr hb k with e | ⟨_, e⟩
  · simpa using e
  · have := Int.mul_pos (of_decide_eq_true hr).pos (of_decide_eq_true hb).pos
    omega
theorem back_div_no {an ad bn bd p q : Int} {ok ok2 : Bool} (h : (rkE an ad bn bd ok (an * bn) (ad * bd) == 0) = true) (hp : p = rkP an ad bn bd ok (an * bn) (ad * bd)) (hq : q = rkQ an ad bn bd ok (an * bn) (ad * bd))
    (k : (rkE p q bn bd ok2 (p * bd) (q * bn) == 0) = false) (k3 : (rkE p q bn bd ok2 (p * bd) (q * bn) == 3) = false) : (rkE p q bn bd ok2 (p * bd) (q * bn) == 4) = true := by
  obtain ⟨ha, hb⟩ := rk_rights h
  have hr := rk_right h
  rw [← hp, ← hq] at hr
  rcases back_no hr hb k with e | ⟨e, _⟩
  · rw [e] at k3; cases k3
  · simpa using e
end Go.Proofs.YtigcbgehnlilaaaDoor
end
