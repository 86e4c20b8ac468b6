
/- The contract of wide.Above. Conditions: numbers that a wide.Int can be. -/
import Derived.Test.YtibnackmddigaaaWideJ
import Derived.Deep.QuietTactic
namespace Go.Proofs.Ytibnackmddigaaa
open Go.ChangeShapes Go.WideShapes Go.ChangeAt Go.RowKit
set_option linter.unusedVariables false

theorem sgn_mul (a b : Int) : sgnZ a * sgnZ b = sgnZ (a * b) := by
  unfold sgnZ
  rcases Int.lt_trichotomy a 0 with ha | ha | ha <;> rcases Int.lt_trichotomy b 0 with hb | hb | hb
  · have := Int.mul_pos_of_neg_of_neg ha hb; repeat' split
    all_goals omega
  · subst hb; rw [Int.mul_zero]; simp
  · have := Int.mul_neg_of_neg_of_pos ha hb; repeat' split
    all_goals omega
  · subst ha; rw [Int.zero_mul]; simp
  · subst ha; rw [Int.zero_mul]; simp
  · subst ha; rw [Int.zero_mul]; simp
  · have := Int.mul_neg_of_pos_of_neg ha hb; repeat' split
    all_goals omega
  · subst hb; rw [Int.mul_zero]; simp
  · have := Int.mul_pos ha hb; repeat' split
    all_goals omega
theorem sgn_cmp (p q : Int) : (sgnZ p < sgnZ q → cmpZ p q = -1) ∧ (sgnZ q < sgnZ p → cmpZ p q = 1) ∧ (sgnZ p = sgnZ q → sgnZ p * cmpZ (p.natAbs : Int) (q.natAbs : Int) = cmpZ p q) := by
  unfold sgnZ cmpZ
  refine ⟨?_, ?_, ?_⟩ <;> (repeat' split) <;> omega
theorem sgn_range (z : Int) : -1 ≤ sgnZ z ∧ sgnZ z ≤ 1 := by
  unfold sgnZ
  repeat' split
  all_goals omega
theorem cmp_range (p q : Int) : -1 ≤ cmpZ p q ∧ cmpZ p q ≤ 1 := by
  unfold cmpZ
  repeat' split
  all_goals omega

theorem cmpW_congr {X Y X' Y' : Nat → Int} : ∀ n : Nat, (∀ i, i < n → X i = X' i) → (∀ i, i < n → Y i = Y' i) → cmpW X Y n = cmpW X' Y' n
  | 0, _, _ => rfl
  | n + 1, h, k => by
    rw [cmpW, cmpW, h n (by omega), k n (by omega), cmpW_congr n (fun i hi => h i (by omega)) (fun i hi => k i (by omega))]
theorem cmpW_up (X Y : Nat → Int) : ∀ k : Nat, cmpW X Y (4 + k) = if cmpW (fun i => X (4 + i)) (fun i => Y (4 + i)) k = 0 then cmpW X Y 4 else cmpW (fun i => X (4 + i)) (fun i => Y (4 + i)) k
  | 0 => by simp [cmpW]
  | k + 1 => by
    rw [← Nat.add_assoc, cmpW, cmpW, cmpW_up X Y k]
    repeat' split
    all_goals first | rfl | omega | simp_all
/-- the words of a product -/
def Lg (z : Int) (i : Nat) : Int := if i < 4 then Lf z i else Lf (z / 115792089237316195423570985008687907853269984665640564039457584007913129639936) (i - 4)
theorem L_lo (z : Int) : L0 z = L0 (z % 115792089237316195423570985008687907853269984665640564039457584007913129639936) ∧ L1 z = L1 (z % 115792089237316195423570985008687907853269984665640564039457584007913129639936) ∧ L2 z = L2 (z % 115792089237316195423570985008687907853269984665640564039457584007913129639936) ∧ L3 z = L3 (z % 115792089237316195423570985008687907853269984665640564039457584007913129639936) := by
  unfold L0 L1 L2 L3; omega
theorem Lf_lo (z : Int) (i : Nat) (h : i < 4) : Lf z i = Lf (z % 115792089237316195423570985008687907853269984665640564039457584007913129639936) i := by
  obtain ⟨h0, h1, h2, h3⟩ := L_lo z
  rcases (by omega : i = 0 ∨ i = 1 ∨ i = 2 ∨ i = 3) with rfl | rfl | rfl | rfl
  · exact h0
  · exact h1
  · exact h2
  · exact h3
theorem cmp_8 {p q : Int} (hp : 0 ≤ p) (hp' : Siz (p / 115792089237316195423570985008687907853269984665640564039457584007913129639936)) (hq : 0 ≤ q) (hq' : Siz (q / 115792089237316195423570985008687907853269984665640564039457584007913129639936)) : cmpW (Lg p) (Lg q) 8 = cmpZ p q := by
  have e := cmpW_up (Lg p) (Lg q) 4
  have e1 : cmpW (fun i => Lg p (4 + i)) (fun i => Lg q (4 + i)) 4 = cmpW (Lf (p / 115792089237316195423570985008687907853269984665640564039457584007913129639936)) (Lf (q / 115792089237316195423570985008687907853269984665640564039457584007913129639936)) 4 :=
    cmpW_congr 4 (fun i hi => by simp [Lg]; omega) (fun i hi => by simp [Lg]; omega)
  have e2 : cmpW (Lg p) (Lg q) 4 = cmpW (Lf (p % 115792089237316195423570985008687907853269984665640564039457584007913129639936)) (Lf (q % 115792089237316195423570985008687907853269984665640564039457584007913129639936)) 4 :=
    cmpW_congr 4 (fun i hi => by simp only [Lg, hi, if_true]; exact Lf_lo p i hi) (fun i hi => by simp only [Lg, hi, if_true]; exact Lf_lo q i hi)
  rw [e1, e2, cmp_siz hp' hq', cmp_siz (r := p % 115792089237316195423570985008687907853269984665640564039457584007913129639936) (s := q % 115792089237316195423570985008687907853269984665640564039457584007913129639936) ⟨by omega, by omega⟩ ⟨by omega, by omega⟩] at e
  rw [show (8 : Nat) = 4 + 4 from rfl, e]
  unfold cmpZ
  repeat' split
  all_goals omega
theorem prod_hi {a b : Int} (ha : Fit a) (hb : Fit b) : 0 ≤ (a.natAbs : Int) * b.natAbs ∧ Siz ((a.natAbs : Int) * b.natAbs / 115792089237316195423570985008687907853269984665640564039457584007913129639936) :=
  ⟨Int.mul_nonneg (by omega) (by omega), L_prod_hi a b ha hb⟩

theorem en_Sign : ∀ args w, (callFunc 32 args).run Try.prog w = .ok (.enter 32 args) w := enter_of Try.func32 rfl rfl
theorem en_product : ∀ args w, (callFunc 121 args).run Try.prog w = .ok (.enter 121 args) w := enter_of Try.func121 rfl rfl

set_option maxHeartbeats 16000000 in
set_option maxRecDepth 20000 in
theorem Above_walk (a b c d : Int) (ha : Fit a) (hb : Fit b) (hc : Fit c) (hd : Fit d) (V : Int) (hV : cmpZ (a * b) (c * d) = V)
    (w : World) : Calls Try.prog 113 #[.agg #[.int .u64 (L0 a), .int .u64 (L1 a), .int .u64 (L2 a), .int .u64 (L3 a)], .agg #[.int .u64 (L0 b), .int .u64 (L1 b), .int .u64 (L2 b), .int .u64 (L3 b)], .agg #[.int .u64 (L0 c), .int .u64 (L1 c), .int .u64 (L2 c), .int .u64 (L3 c)], .agg #[.int .u64 (L0 d), .int .u64 (L1 d), .int .u64 (L2 d), .int .u64 (L3 d)]] w fun e w' => e = .returned (.int .i64 V) ∧ Bel w.heap.size w w' := by
  have GA := Lib.hid (fun w => sign_b a ha w)
  have GB := Lib.hid (fun w => sign_b b hb w)
  have GC := Lib.hid (fun w => sign_b c hc w)
  have GD := Lib.hid (fun w => sign_b d hd w)
  have SA := Lib.hid (fun w => sizeOf_any a ha w)
  have SB := Lib.hid (fun w => sizeOf_any b hb w)
  have SC := Lib.hid (fun w => sizeOf_any c hc w)
  have SD := Lib.hid (fun w => sizeOf_any d hd w)
  obtain ⟨p, hp⟩ : ∃ x : Int, (a.natAbs : Int) * b.natAbs = x := ⟨_, rfl⟩
  obtain ⟨q, hq⟩ : ∃ x : Int, (c.natAbs : Int) * d.natAbs = x := ⟨_, rfl⟩
  have PP := Lib.hid (fun w => product_b (a.natAbs : Int) b.natAbs p (abs_siz ha) (abs_siz hb) hp.symm w)
  have PQ := Lib.hid (fun w => product_b (c.natAbs : Int) d.natAbs q (abs_siz hc) (abs_siz hd) hq.symm w)
  have CE : cmpW (Lg p) (Lg q) 8 = cmpZ p q := by
    obtain ⟨h1, h2⟩ := prod_hi ha hb
    obtain ⟨h3, h4⟩ := prod_hi hc hd
    rw [hp] at h1 h2
    rw [hq] at h3 h4
    exact cmp_8 h1 h2 h3 h4
  obtain ⟨s1, s2, s3⟩ := sgn_cmp (a * b) (c * d)
  rw [← sgn_mul, ← sgn_mul, hV] at s1 s2
  rw [← sgn_mul, ← sgn_mul, hV, Int.natAbs_mul, Int.natAbs_mul, Int.natCast_mul, Int.natCast_mul, hp, hq] at s3
  have ra := sgn_range a
  have rb := sgn_range b
  have rc := sgn_range c
  have rd := sgn_range d
  have rl : -1 ≤ sgnZ a * sgnZ b ∧ sgnZ a * sgnZ b ≤ 1 := by rw [sgn_mul]; exact sgn_range _
  have rr : -1 ≤ sgnZ c * sgnZ d ∧ sgnZ c * sgnZ d ≤ 1 := by rw [sgn_mul]; exact sgn_range _
  have rv := cmp_range p q
  obtain ⟨va, hva⟩ : ∃ x : Int, (a.natAbs : Int) = x := ⟨_, rfl⟩
  obtain ⟨vb, hvb⟩ : ∃ x : Int, (b.natAbs : Int) = x := ⟨_, rfl⟩
  obtain ⟨vc, hvc⟩ : ∃ x : Int, (c.natAbs : Int) = x := ⟨_, rfl⟩
  obtain ⟨vd, hvd⟩ : ∃ x : Int, (d.natAbs : Int) = x := ⟨_, rfl⟩
  rw [hva] at SA PP
  rw [hvb] at SB PP
  rw [hvc] at SC PQ
  rw [hvd] at SD PQ
  clear hva hvb hvc hvd hp hq
  obtain ⟨l, hl⟩ : ∃ x : Int, sgnZ a * sgnZ b = x := ⟨_, rfl⟩
  obtain ⟨r, hr⟩ : ∃ x : Int, sgnZ c * sgnZ d = x := ⟨_, rfl⟩
  rw [hl] at rl
  rw [hr] at rr
  rw [hl, hr] at s1 s2 s3
  have HM : IntKind.i64.wrap (sgnZ a * sgnZ b) = l := by rw [hl, IntKind.wrap_i64]; omega
  have HN : IntKind.i64.wrap (sgnZ c * sgnZ d) = r := by rw [hr, IntKind.wrap_i64]; omega
  have hm := Lib.hid HM
  have hn := Lib.hid HN
  clear HM HN hl hr ra rb rc rd hV ha hb hc hd
  generalize sgnZ a = ga at *
  generalize sgnZ b = gb at *
  generalize sgnZ c = gc at *
  generalize sgnZ d = gd at *
  have S1 := Lib.hid s1
  have S2 := Lib.hid s2
  have S3 := Lib.hid s3
  have CH := Lib.hid CE
  clear s1 s2 s3 CE
  go_enter Try.func113, Try.ntmps113
  go_upto_region 1 with fail
  go_name_world W0 hW0
  have OA : Own W0 w.heap.size 61 #[.int .u64 (L0 a), .int .u64 (L1 a), .int .u64 (L2 a), .int .u64 (L3 a)] := hW0 ▸ (by repeat' (first | (with_reducible assumption) | (with_reducible refine Own.drawnN ?_ _) | (with_reducible refine Own.drawn ?_) | (with_reducible refine Own.made_at ?_; first | rfl | (simp; done) | omega | (simp; omega)) | (with_reducible refine Own.more ?_ _) | (with_reducible refine Own.apart ?_ ?_ _ _; rotate_left; first | omega | (simp; done) | (simp; omega)) | (refine Own.put ?_ _ _)))
  have OB : Own W0 (w.heap.size + 1) 61 #[.int .u64 (L0 b), .int .u64 (L1 b), .int .u64 (L2 b), .int .u64 (L3 b)] := hW0 ▸ (by repeat' (first | (with_reducible assumption) | (with_reducible refine Own.drawnN ?_ _) | (with_reducible refine Own.drawn ?_) | (with_reducible refine Own.made_at ?_; first | rfl | (simp; done) | omega | (simp; omega)) | (with_reducible refine Own.more ?_ _) | (with_reducible refine Own.apart ?_ ?_ _ _; rotate_left; first | omega | (simp; done) | (simp; omega)) | (refine Own.put ?_ _ _)))
  have OC : Own W0 (w.heap.size + 1 + 1) 61 #[.int .u64 (L0 c), .int .u64 (L1 c), .int .u64 (L2 c), .int .u64 (L3 c)] := hW0 ▸ (by repeat' (first | (with_reducible assumption) | (with_reducible refine Own.drawnN ?_ _) | (with_reducible refine Own.drawn ?_) | (with_reducible refine Own.made_at ?_; first | rfl | (simp; done) | omega | (simp; omega)) | (with_reducible refine Own.more ?_ _) | (with_reducible refine Own.apart ?_ ?_ _ _; rotate_left; first | omega | (simp; done) | (simp; omega)) | (refine Own.put ?_ _ _)))
  have OD : Own W0 (w.heap.size + 1 + 1 + 1) 61 #[.int .u64 (L0 d), .int .u64 (L1 d), .int .u64 (L2 d), .int .u64 (L3 d)] := hW0 ▸ (by repeat' (first | (with_reducible assumption) | (with_reducible refine Own.drawnN ?_ _) | (with_reducible refine Own.drawn ?_) | (with_reducible refine Own.made_at ?_; first | rfl | (simp; done) | omega | (simp; omega)) | (with_reducible refine Own.more ?_ _) | (with_reducible refine Own.apart ?_ ?_ _ _; rotate_left; first | omega | (simp; done) | (simp; omega)) | (refine Own.put ?_ _ _)))
  have hW0b : Bel w.heap.size w W0 := hW0 ▸ (by repeat' (first | (with_reducible exact Bel.refl _ _) | (with_reducible assumption) | (with_reducible refine bel_drewN ?_ _) | (with_reducible refine Bel.drew ?_) | (with_reducible refine Bel.alloc ?_ ?_ _) | (with_reducible refine Bel.setCell ?_ ?_ _) | (with_reducible refine thenB ?_ (by with_reducible assumption) ?_) | (with_reducible exact Nat.le_refl _) | (with_reducible exact Nat.le_succ _) | (with_reducible exact Nat.le_succ_of_le (by with_reducible assumption)) | omega | (simp; done) | (simp; omega) | (exact Nat.le_succ _) | (exact Nat.le_succ_of_le (by with_reducible assumption))))
  clear hW0
  refine region_memo (B := W0.heap.size) (L := .val (.agg #[.int .u64 (L0 a), .int .u64 (L1 a), .int .u64 (L2 a), .int .u64 (L3 a)]) :: .val (.int .i64 ga) :: .val (.agg #[.int .u64 (L0 b), .int .u64 (L1 b), .int .u64 (L2 b), .int .u64 (L3 b)]) :: .val (.int .i64 gb) :: .val (.int .i64 l) :: .val (.agg #[.int .u64 (L0 c), .int .u64 (L1 c), .int .u64 (L2 c), .int .u64 (L3 c)]) :: .val (.int .i64 gc) :: .val (.agg #[.int .u64 (L0 d), .int .u64 (L1 d), .int .u64 (L2 d), .int .u64 (L3 d)]) :: .val (.int .i64 gd) :: .val (.int .i64 r) :: .val (.int .i64 l) :: .val (.int .i64 r) :: []) (by kernel_rfl) (by kernel_rfl) (Nat.le_refl _) ((by exact trivial))
    ⟨fun a w R => ld24 (R.slot 4 rfl) (R.keep OA.drawn (by repeat' (first | exact trivial | refine Off.v ?_ | refine Off.k ?_ | refine Off.b ?_ | refine Off.p ?_ | refine Off.s ?_ ?_ | omega))), fun a w R => cl1 en_Sign (R.val 0 rfl rfl rfl (by kernel_rfl)) (GA.out _), fun a w R => ld24 (R.slot 5 rfl) (R.keep OB.drawn (by repeat' (first | exact trivial | refine Off.v ?_ | refine Off.k ?_ | refine Off.b ?_ | refine Off.p ?_ | refine Off.s ?_ ?_ | omega))), fun a w R => cl1 en_Sign (R.val 2 rfl rfl rfl (by kernel_rfl)) (GB.out _), fun a w R => muli (R.val 1 rfl rfl rfl (by kernel_rfl)) (R.val 3 rfl rfl rfl (by kernel_rfl)) hm.out, fun a w R => ld24 (R.slot 6 rfl) (R.keep OC.drawn (by repeat' (first | exact trivial | refine Off.v ?_ | refine Off.k ?_ | refine Off.b ?_ | refine Off.p ?_ | refine Off.s ?_ ?_ | omega))), fun a w R => cl1 en_Sign (R.val 5 rfl rfl rfl (by kernel_rfl)) (GC.out _), fun a w R => ld24 (R.slot 7 rfl) (R.keep OD.drawn (by repeat' (first | exact trivial | refine Off.v ?_ | refine Off.k ?_ | refine Off.b ?_ | refine Off.p ?_ | refine Off.s ?_ ?_ | omega))), fun a w R => cl1 en_Sign (R.val 7 rfl rfl rfl (by kernel_rfl)) (GD.out _), fun a w R => muli (R.val 6 rfl rfl rfl (by kernel_rfl)) (R.val 8 rfl rfl rfl (by kernel_rfl)) hn.out, fun a w R => asg (R.val 4 rfl rfl rfl (by kernel_rfl)), fun a w R => asg (R.val 9 rfl rfl rfl (by kernel_rfl)), trivial⟩ (fun a1 W1 I => ?_)
  rw [I.act [(13, (.agg #[.int .u64 (L0 a), .int .u64 (L1 a), .int .u64 (L2 a), .int .u64 (L3 a)])), (14, (.int .i64 ga)), (15, (.agg #[.int .u64 (L0 b), .int .u64 (L1 b), .int .u64 (L2 b), .int .u64 (L3 b)])), (16, (.int .i64 gb)), (17, (.int .i64 l)), (18, (.agg #[.int .u64 (L0 c), .int .u64 (L1 c), .int .u64 (L2 c), .int .u64 (L3 c)])), (19, (.int .i64 gc)), (20, (.agg #[.int .u64 (L0 d), .int .u64 (L1 d), .int .u64 (L2 d), .int .u64 (L3 d)])), (21, (.int .i64 gd)), (22, (.int .i64 r)), (9, (.int .i64 l)), (10, (.int .i64 r))]
    ⟨I.val 0 rfl rfl rfl, I.val 1 rfl rfl rfl, I.val 2 rfl rfl rfl, I.val 3 rfl rfl rfl, I.val 4 rfl rfl rfl, I.val 5 rfl rfl rfl, I.val 6 rfl rfl rfl, I.val 7 rfl rfl rfl, I.val 8 rfl rfl rfl, I.val 9 rfl rfl rfl, I.val 10 rfl rfl rfl, I.val 11 rfl rfl rfl, trivial⟩ rfl]
  have sW1 : W0.heap.size ≤ W1.heap.size := I.below.size
  replace OA := I.keep OA.drawn (by repeat' (first | exact trivial | refine Off.v ?_ | refine Off.k ?_ | refine Off.b ?_ | refine Off.p ?_ | refine Off.s ?_ ?_ | omega))
  replace OB := I.keep OB.drawn (by repeat' (first | exact trivial | refine Off.v ?_ | refine Off.k ?_ | refine Off.b ?_ | refine Off.p ?_ | refine Off.s ?_ ?_ | omega))
  replace OC := I.keep OC.drawn (by repeat' (first | exact trivial | refine Off.v ?_ | refine Off.k ?_ | refine Off.b ?_ | refine Off.p ?_ | refine Off.s ?_ ?_ | omega))
  replace OD := I.keep OD.drawn (by repeat' (first | exact trivial | refine Off.v ?_ | refine Off.k ?_ | refine Off.b ?_ | refine Off.p ?_ | refine Off.s ?_ ?_ | omega))
  have hW1 : Bel w.heap.size w W1 := thenB hW0b.drew I.below hW0b.size
  clear I
  simp only [List.foldl_cons, List.foldl_nil, List.setIfInBounds_toArray, List.set_cons_zero, List.set_cons_succ]
  clear GA GB GC GD hm hn
  by_cases h1 : l < r
  · have hv := S1.out h1
    subst hv
    clear S1 S2 S3 CH PP PQ SA SB SC SD OA OB OC OD
    go_wp2
    try simp only [setCell_drawn]
    refine bodyPost_ret (by simp [results, Try.results113, go_sem]) rfl ⟨rfl, ?_⟩
    repeat' (first | (with_reducible exact Bel.refl _ _) | (with_reducible assumption) | (with_reducible refine bel_drewN ?_ _) | (with_reducible refine Bel.drew ?_) | (with_reducible refine Bel.alloc ?_ ?_ _) | (with_reducible refine Bel.setCell ?_ ?_ _) | (with_reducible refine thenB ?_ (by with_reducible assumption) ?_) | (with_reducible exact Nat.le_refl _) | (with_reducible exact Nat.le_succ _) | (with_reducible exact Nat.le_succ_of_le (by with_reducible assumption)) | omega | (simp; done) | (simp; omega) | (exact Nat.le_succ _) | (exact Nat.le_succ_of_le (by with_reducible assumption)))
  · by_cases h2 : r < l
    · have hv := S2.out h2
      subst hv
      clear S1 S2 S3 CH PP PQ SA SB SC SD OA OB OC OD
      go_wp2
      try simp only [setCell_drawn]
      refine bodyPost_ret (by simp [results, Try.results113, go_sem]) rfl ⟨rfl, ?_⟩
      repeat' (first | (with_reducible exact Bel.refl _ _) | (with_reducible assumption) | (with_reducible refine bel_drewN ?_ _) | (with_reducible refine Bel.drew ?_) | (with_reducible refine Bel.alloc ?_ ?_ _) | (with_reducible refine Bel.setCell ?_ ?_ _) | (with_reducible refine thenB ?_ (by with_reducible assumption) ?_) | (with_reducible exact Nat.le_refl _) | (with_reducible exact Nat.le_succ _) | (with_reducible exact Nat.le_succ_of_le (by with_reducible assumption)) | omega | (simp; done) | (simp; omega) | (exact Nat.le_succ _) | (exact Nat.le_succ_of_le (by with_reducible assumption)))
    · obtain rfl : l = r := by omega
      have S := S3.out rfl
      have T := Lib.hid S
      clear S1 S2 S3 S h1 h2
      go_upto_region 6 with fail
      refine region_memo (B := W1.heap.size) (L := .val (.agg #[.int .u64 (L0 a), .int .u64 (L1 a), .int .u64 (L2 a), .int .u64 (L3 a)]) :: .val (.agg #[.int .u64 (L0 va), .int .u64 (L1 va), .int .u64 (L2 va), .int .u64 (L3 va)]) :: .val (.agg #[.int .u64 (L0 b), .int .u64 (L1 b), .int .u64 (L2 b), .int .u64 (L3 b)]) :: .val (.agg #[.int .u64 (L0 vb), .int .u64 (L1 vb), .int .u64 (L2 vb), .int .u64 (L3 vb)]) :: .val (.agg #[.int .u64 (L0 p), .int .u64 (L1 p), .int .u64 (L2 p), .int .u64 (L3 p), .int .u64 (L0 (p / 115792089237316195423570985008687907853269984665640564039457584007913129639936)), .int .u64 (L1 (p / 115792089237316195423570985008687907853269984665640564039457584007913129639936)), .int .u64 (L2 (p / 115792089237316195423570985008687907853269984665640564039457584007913129639936)), .int .u64 (L3 (p / 115792089237316195423570985008687907853269984665640564039457584007913129639936))]) :: .val (.agg #[.int .u64 (L0 c), .int .u64 (L1 c), .int .u64 (L2 c), .int .u64 (L3 c)]) :: .val (.agg #[.int .u64 (L0 vc), .int .u64 (L1 vc), .int .u64 (L2 vc), .int .u64 (L3 vc)]) :: .val (.agg #[.int .u64 (L0 d), .int .u64 (L1 d), .int .u64 (L2 d), .int .u64 (L3 d)]) :: .val (.agg #[.int .u64 (L0 vd), .int .u64 (L1 vd), .int .u64 (L2 vd), .int .u64 (L3 vd)]) :: .val (.agg #[.int .u64 (L0 q), .int .u64 (L1 q), .int .u64 (L2 q), .int .u64 (L3 q), .int .u64 (L0 (q / 115792089237316195423570985008687907853269984665640564039457584007913129639936)), .int .u64 (L1 (q / 115792089237316195423570985008687907853269984665640564039457584007913129639936)), .int .u64 (L2 (q / 115792089237316195423570985008687907853269984665640564039457584007913129639936)), .int .u64 (L3 (q / 115792089237316195423570985008687907853269984665640564039457584007913129639936))]) :: .blk 189 8 :: .blk 189 8 :: .put 11 189 #[.int .u64 (L0 p), .int .u64 (L1 p), .int .u64 (L2 p), .int .u64 (L3 p), .int .u64 (L0 (p / 115792089237316195423570985008687907853269984665640564039457584007913129639936)), .int .u64 (L1 (p / 115792089237316195423570985008687907853269984665640564039457584007913129639936)), .int .u64 (L2 (p / 115792089237316195423570985008687907853269984665640564039457584007913129639936)), .int .u64 (L3 (p / 115792089237316195423570985008687907853269984665640564039457584007913129639936))] :: .put 12 189 #[.int .u64 (L0 q), .int .u64 (L1 q), .int .u64 (L2 q), .int .u64 (L3 q), .int .u64 (L0 (q / 115792089237316195423570985008687907853269984665640564039457584007913129639936)), .int .u64 (L1 (q / 115792089237316195423570985008687907853269984665640564039457584007913129639936)), .int .u64 (L2 (q / 115792089237316195423570985008687907853269984665640564039457584007913129639936)), .int .u64 (L3 (q / 115792089237316195423570985008687907853269984665640564039457584007913129639936))] :: []) (by kernel_rfl) (by kernel_rfl) (Nat.le_refl _) ((by exact trivial))
        ⟨fun a w R => ld24 (R.slot 4 rfl) (R.keep OA.drawn (by repeat' (first | exact trivial | refine Off.v ?_ | refine Off.k ?_ | refine Off.b ?_ | refine Off.p ?_ | refine Off.s ?_ ?_ | omega))), fun a w R => cl1 en_sizeOf (R.val 0 rfl rfl rfl (by kernel_rfl)) (SA.out _), fun a w R => ld24 (R.slot 5 rfl) (R.keep OB.drawn (by repeat' (first | exact trivial | refine Off.v ?_ | refine Off.k ?_ | refine Off.b ?_ | refine Off.p ?_ | refine Off.s ?_ ?_ | omega))), fun a w R => cl1 en_sizeOf (R.val 2 rfl rfl rfl (by kernel_rfl)) (SB.out _), fun a w R => cl2 en_product (R.val 1 rfl rfl rfl (by kernel_rfl)) (R.val 3 rfl rfl rfl (by kernel_rfl)) (PP.out _), fun a w R => ld24 (R.slot 6 rfl) (R.keep OC.drawn (by repeat' (first | exact trivial | refine Off.v ?_ | refine Off.k ?_ | refine Off.b ?_ | refine Off.p ?_ | refine Off.s ?_ ?_ | omega))), fun a w R => cl1 en_sizeOf (R.val 5 rfl rfl rfl (by kernel_rfl)) (SC.out _), fun a w R => ld24 (R.slot 7 rfl) (R.keep OD.drawn (by repeat' (first | exact trivial | refine Off.v ?_ | refine Off.k ?_ | refine Off.b ?_ | refine Off.p ?_ | refine Off.s ?_ ?_ | omega))), fun a w R => cl1 en_sizeOf (R.val 7 rfl rfl rfl (by kernel_rfl)) (SD.out _), fun a w R => cl2 en_product (R.val 6 rfl rfl rfl (by kernel_rfl)) (R.val 8 rfl rfl rfl (by kernel_rfl)) (PQ.out _), fun a w R => al65, fun a w R => al65, fun a w R => sb65 (R.dep 10 rfl (by kernel_rfl)) (R.val 4 rfl rfl rfl (by kernel_rfl)), fun a w R => sb65 (R.dep 11 rfl (by kernel_rfl)) (R.val 9 rfl rfl rfl (by kernel_rfl)), trivial⟩ (fun a1 W2 I => ?_)
      obtain ⟨b11, e11, l11, o11⟩ := I.put 12 rfl rfl
      obtain ⟨b12, e12, l12, o12⟩ := I.put 13 rfl rfl
      have n11_12 := I.far 10 11 rfl rfl (by omega) rfl rfl rfl rfl e11 e12
      rw [I.act [(31, (.agg #[.int .u64 (L0 a), .int .u64 (L1 a), .int .u64 (L2 a), .int .u64 (L3 a)])), (32, (.agg #[.int .u64 (L0 va), .int .u64 (L1 va), .int .u64 (L2 va), .int .u64 (L3 va)])), (33, (.agg #[.int .u64 (L0 b), .int .u64 (L1 b), .int .u64 (L2 b), .int .u64 (L3 b)])), (34, (.agg #[.int .u64 (L0 vb), .int .u64 (L1 vb), .int .u64 (L2 vb), .int .u64 (L3 vb)])), (35, (.agg #[.int .u64 (L0 p), .int .u64 (L1 p), .int .u64 (L2 p), .int .u64 (L3 p), .int .u64 (L0 (p / 115792089237316195423570985008687907853269984665640564039457584007913129639936)), .int .u64 (L1 (p / 115792089237316195423570985008687907853269984665640564039457584007913129639936)), .int .u64 (L2 (p / 115792089237316195423570985008687907853269984665640564039457584007913129639936)), .int .u64 (L3 (p / 115792089237316195423570985008687907853269984665640564039457584007913129639936))])), (36, (.agg #[.int .u64 (L0 c), .int .u64 (L1 c), .int .u64 (L2 c), .int .u64 (L3 c)])), (37, (.agg #[.int .u64 (L0 vc), .int .u64 (L1 vc), .int .u64 (L2 vc), .int .u64 (L3 vc)])), (38, (.agg #[.int .u64 (L0 d), .int .u64 (L1 d), .int .u64 (L2 d), .int .u64 (L3 d)])), (39, (.agg #[.int .u64 (L0 vd), .int .u64 (L1 vd), .int .u64 (L2 vd), .int .u64 (L3 vd)])), (40, (.agg #[.int .u64 (L0 q), .int .u64 (L1 q), .int .u64 (L2 q), .int .u64 (L3 q), .int .u64 (L0 (q / 115792089237316195423570985008687907853269984665640564039457584007913129639936)), .int .u64 (L1 (q / 115792089237316195423570985008687907853269984665640564039457584007913129639936)), .int .u64 (L2 (q / 115792089237316195423570985008687907853269984665640564039457584007913129639936)), .int .u64 (L3 (q / 115792089237316195423570985008687907853269984665640564039457584007913129639936))])), (11, .pointer (some ⟨b11, 0, none⟩)), (12, .pointer (some ⟨b12, 0, none⟩))]
        ⟨I.val 0 rfl rfl rfl, I.val 1 rfl rfl rfl, I.val 2 rfl rfl rfl, I.val 3 rfl rfl rfl, I.val 4 rfl rfl rfl, I.val 5 rfl rfl rfl, I.val 6 rfl rfl rfl, I.val 7 rfl rfl rfl, I.val 8 rfl rfl rfl, I.val 9 rfl rfl rfl, e11, e12, trivial⟩ rfl]
      change W1.heap.size ≤ b11 at l11
      change W1.heap.size ≤ b12 at l12
      have sW2 : W1.heap.size ≤ W2.heap.size := I.below.size
      replace OA := I.keep OA.drawn (by repeat' (first | exact trivial | refine Off.v ?_ | refine Off.k ?_ | refine Off.b ?_ | refine Off.p ?_ | refine Off.s ?_ ?_ | omega))
      replace OB := I.keep OB.drawn (by repeat' (first | exact trivial | refine Off.v ?_ | refine Off.k ?_ | refine Off.b ?_ | refine Off.p ?_ | refine Off.s ?_ ?_ | omega))
      replace OC := I.keep OC.drawn (by repeat' (first | exact trivial | refine Off.v ?_ | refine Off.k ?_ | refine Off.b ?_ | refine Off.p ?_ | refine Off.s ?_ ?_ | omega))
      replace OD := I.keep OD.drawn (by repeat' (first | exact trivial | refine Off.v ?_ | refine Off.k ?_ | refine Off.b ?_ | refine Off.p ?_ | refine Off.s ?_ ?_ | omega))
      have hW2 : Bel w.heap.size w W2 := thenB hW1.drew I.below hW1.size
      clear e11 e12
      clear I
      simp only [List.foldl_cons, List.foldl_nil, List.setIfInBounds_toArray, List.set_cons_zero, List.set_cons_succ]
      obtain ⟨X1, X2, X3⟩ := o11.at_
      obtain ⟨Y1, Y2, Y3⟩ := o12.at_
      have CX : ∀ i, i < 8 → W2.cell? ⟨b11, i, none⟩ = some (.int .u64 (Lg p i)) := fun i hi => by
        rw [X1]
        rcases (by omega : i = 0 ∨ i = 1 ∨ i = 2 ∨ i = 3 ∨ i = 4 ∨ i = 5 ∨ i = 6 ∨ i = 7) with rfl | rfl | rfl | rfl | rfl | rfl | rfl | rfl <;> rfl
      have CY : ∀ i, i < 8 → W2.cell? ⟨b12, i, none⟩ = some (.int .u64 (Lg q i)) := fun i hi => by
        rw [Y1]
        rcases (by omega : i = 0 ∨ i = 1 ∨ i = 2 ∨ i = 3 ∨ i = 4 ∨ i = 5 ∨ i = 6 ∨ i = 7) with rfl | rfl | rfl | rfl | rfl | rfl | rfl | rfl <;> rfl
      have CM : ∀ n, Calls Try.prog 89 #[.slice (some ⟨b11, 0, none⟩) 8 8, .slice (some ⟨b12, 0, none⟩) 8 8] (W2.drewN n) fun e w'' => e = .returned (.int .i64 (cmpW (Lg p) (Lg q) 8)) ∧ ∃ m, w'' = W2.drewN m := fun n =>
        Calls.quiet_of (compare_any (Lg p) (Lg q) b11 b12 8 8 8 (by decide) (W2.drewN n) CX CY)
      rw [CH.out] at CM
      have CMH := Lib.hid CM
      have TT := T.out
      obtain ⟨v, hv⟩ : ∃ x, cmpZ p q = x := ⟨_, rfl⟩
      rw [hv] at CMH rv TT
      have TH := Lib.hid TT
      have WV : IntKind.i64.wrap (l * v) = V := by
        rw [TT, IntKind.wrap_i64]
        have : -1 ≤ V ∧ V ≤ 1 := by
          rw [← TT]
          rcases (by omega : l = -1 ∨ l = 0 ∨ l = 1) with rfl | rfl | rfl <;> omega
        omega
      clear CX CY CM CH hv PP PQ SA SB SC SD OA OB OC OD X1 X2 X3 Y1 Y2 Y3 o11 o12 T TT
      go_wp2
      go_quiet ((go_at_call 89; exact CMH.out _))
      go_wp2
      try simp only [setCell_drawn]
      refine bodyPost_ret (by simp [results, Try.results113, go_sem]) rfl ⟨rfl, ?_⟩
      repeat' (first | (with_reducible exact Bel.refl _ _) | (with_reducible assumption) | (with_reducible refine bel_drewN ?_ _) | (with_reducible refine Bel.drew ?_) | (with_reducible refine Bel.alloc ?_ ?_ _) | (with_reducible refine Bel.setCell ?_ ?_ _) | (with_reducible refine thenB ?_ (by with_reducible assumption) ?_) | (with_reducible exact Nat.le_refl _) | (with_reducible exact Nat.le_succ _) | (with_reducible exact Nat.le_succ_of_le (by with_reducible assumption)) | omega | (simp; done) | (simp; omega) | (exact Nat.le_succ _) | (exact Nat.le_succ_of_le (by with_reducible assumption)))
end Go.Proofs.Ytibnackmddigaaa
