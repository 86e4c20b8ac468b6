/- merged: The contract of croftref04.Make: of any two numbers that fit it is what mkP, mkQ, mkR say. Equality of the document's fractions, and the law package's plain; written by auto_makes.py. -/
import Derived.Test.YtigcbgehnlilaaaDoorQatB
import Derived.Test.YtigcbgehnlilaaaDoorQatA
section
namespace Go.Proofs.YtigcbgehnlilaaaDoor
open Go.ChangeShapes Go.WideShapes Go.ChangeAt Go.RowKit
set_option linter.unusedVariables false
set_option linter.unusedSimpArgs false

theorem fit_20 {z : Int} (h : Fit z) : z.natAbs < 65536 ^ 20 := by
  have h1 := h.lo
  have h2 := h.hi
  have : (65536 : Nat) ^ 20 = 2135987035920910082395021706169552114602704522356652769947041607822219725780640550022962086936576 := by decide
  omega
theorem num_len {w : World} {S : Nat → Prop} {s : Bool} {a : Option Addr} {l c : Nat} {z : Int} (hv : NumP w S (.agg #[.bool s, .slice a l c]) z) (hz : z ≠ 0) : ((l : Int) == 0) = false := by
  obtain ⟨a', l', c', e, r⟩ := hv
  obtain ⟨-, rfl, rfl, rfl⟩ : s = _ ∧ a = a' ∧ l = l' ∧ c = c' := by simpa using e
  have h1 := r.hlen
  have h2 := vl_digs z.natAbs
  rw [beq_eq_false_iff_ne]
  intro h3
  have h4 : digs z.natAbs = [] := List.length_eq_zero_iff.1 (by omega)
  rw [h4] at h2
  simp [vl] at h2
  omega
theorem num_len0 {w : World} {S : Nat → Prop} {s : Bool} {a : Option Addr} {l c : Nat} (hv : NumP w S (.agg #[.bool s, .slice a l c]) 0) : ((l : Int) == 0) = true := by
  obtain ⟨a', l', c', e, r⟩ := hv
  obtain ⟨-, rfl, rfl, rfl⟩ : s = _ ∧ a = a' ∧ l = l' ∧ c = c' := by simpa using e
  have h1 := r.hlen
  have h2 : digs (0 : Int).natAbs = [] := by decide +kernel
  rw [h2] at h1
  simp at h1
  simp [← h1]
theorem made_mk (S : Nat → Prop) (v v' : Value) (n d : Int) (w : World) (hn : NumP w S v n) (hd : NumP w S v' d) (hd0 : d ≠ 0) (fn : Fit n) (fd : Fit d) :
    Calls Tryd.prog 38 #[v, v'] w fun e w' => e = .returned (.tuple #[.agg #[.int .u64 (L0 (mkP n d)), .int .u64 (L1 (mkP n d)), .int .u64 (L2 (mkP n d)), .int .u64 (L3 (mkP n d)), .int .u64 (L0 (mkQ n d)), .int .u64 (L1 (mkQ n d)), .int .u64 (L2 (mkQ n d)), .int .u64 (L3 (mkQ n d))], .int .i64 (mkR n d)]) ∧ Below w.heap.size w w' := by
  have hs : d.tdiv (gz n d) < 0 ↔ d < 0 := by
    have g0 := gz_pos (n := n) hd0
    have e := tdiv_dvd (gz_dvd_right n d)
    constructor
    · intro h
      refine Classical.byContradiction fun h2 => ?_
      have := Int.tdiv_nonneg (show 0 ≤ d by omega) (Int.le_of_lt g0)
      omega
    · intro h
      refine Classical.byContradiction fun h2 => ?_
      have := Int.mul_nonneg (show 0 ≤ d.tdiv (gz n d) by omega) (Int.le_of_lt g0)
      omega
  have h3 : (if d.tdiv (gz n d) < 0 then -(n.tdiv (gz n d)) else n.tdiv (gz n d)) = mkN n d := by
    unfold mkN
    by_cases h : d < 0
    · rw [if_pos h, if_pos (hs.2 h)]
    · rw [if_neg h, if_neg (fun k => h (hs.1 k))]
  have h4 : (if d.tdiv (gz n d) < 0 then -(d.tdiv (gz n d)) else d.tdiv (gz n d)) = mkD n d := by
    unfold mkD
    by_cases h : d < 0
    · rw [if_pos h, if_pos (hs.2 h)]
    · rw [if_neg h, if_neg (fun k => h (hs.1 k))]
  refine made_aux S v v' n d w hn hd hd0 (fit_20 fn) (fit_20 fd) (gz n d) _ _ (mkN n d) (mkD n d) rfl rfl rfl h3 h4 _ (Lib.hid ?_)
  unfold mkP mkQ mkR
  have hB : mkB n d = (fb (gz n d) && fb (mkN n d) && fb (mkD n d)) := by unfold mkB; simp [hd0]
  rw [← hB, if_neg hd0]
  cases mkB n d <;> rfl

end Go.Proofs.YtigcbgehnlilaaaDoor
end
section
namespace Go.Proofs.YtigcbgehnlilaaaDoor
open Go.ChangeShapes Go.WideShapes Go.ChangeAt Go.RowKit
set_option linter.unusedVariables false
set_option linter.unusedSimpArgs false

theorem eq_Q {a b c d : Int} (ha : Fit a) (hc : Fit c) (hb : Fit b) (hd : Fit d) (w : World) : (Op.equalIn 10000 34 (.agg #[.int .u64 (L0 a), .int .u64 (L1 a), .int .u64 (L2 a), .int .u64 (L3 a), .int .u64 (L0 b), .int .u64 (L1 b), .int .u64 (L2 b), .int .u64 (L3 b)]) (.agg #[.int .u64 (L0 c), .int .u64 (L1 c), .int .u64 (L2 c), .int .u64 (L3 c), .int .u64 (L0 d), .int .u64 (L1 d), .int .u64 (L2 d), .int .u64 (L3 d)])).run Tryd.prog w = .ok (decide (a = c ∧ b = d)) w := by
  have e : ∀ x y, Fit x → Fit y → ∀ w, (Op.equalIn 9999 23 (.agg #[.int .u64 (L0 x), .int .u64 (L1 x), .int .u64 (L2 x), .int .u64 (L3 x)]) (.agg #[.int .u64 (L0 y), .int .u64 (L1 y), .int .u64 (L2 y), .int .u64 (L3 y)])).run Tryd.prog w = .ok (decide (x = y)) w := fun x y hx hy w => by
    rw [← dec_fit hx hy]
    have u3 := Tryd.underlying22
    have a3 := Tryd.isAgg22
    have z3 := Tryd.sizeOf22
    rw [show (9999 : Nat) = 9998 + 1 from rfl, Op.equalIn]
    simp only [Sem.run_bind, run_underlying Tryd.underlying23, Result.andThen_ok]
    simp only [Std.Legacy.Range.forIn_eq_forIn_range', Std.Legacy.Range.size, Nat.sub_zero, Nat.add_sub_cancel, Nat.div_one, List.range'_succ, List.range'_zero, List.forIn_cons, List.forIn_nil]
    go_simp
    generalize L0 x = x0; generalize L1 x = x1; generalize L2 x = x2; generalize L3 x = x3
    generalize L0 y = y0; generalize L1 y = y1; generalize L2 y = y2; generalize L3 y = y3
    by_cases h0 : x0 = y0 <;> by_cases h1 : x1 = y1 <;> by_cases h2 : x2 = y2 <;> by_cases h3 : x3 = y3 <;> simp [h0, h1, h2, h3]
  have e1 := e a c ha hc
  have e2 := e b d hb hd
  rw [show (10000 : Nat) = 9999 + 1 from rfl, run_equalIn_struct w 9999 34 _ _ (by simp [Program.fieldsOf, Tryd.underlying34]) (by kernel_rfl)]
  simp only [Program.fieldsOf, Tryd.underlying34]
  generalize 9999 = D at *
  obtain ⟨x, hx⟩ : ∃ x, decide (a = c) = x := ⟨_, rfl⟩
  obtain ⟨y, hy⟩ : ∃ y, decide (b = d) = y := ⟨_, rfl⟩
  have ht : decide (a = c ∧ b = d) = (x && y) := by rw [← hx, ← hy]; simp
  simp only [hx] at e1
  simp only [hy] at e2
  rw [ht]
  clear hx hy ht e ha hb hc hd
  cases x <;> cases y <;> simp [Op.eqFields, go_sem, part, e1, e2]
set_option maxHeartbeats 16000000 in
set_option maxRecDepth 20000 in
theorem plain_any {n d : Int} (w : World) : Calls Tryd.prog 14 #[.agg #[.int .u64 (L0 n), .int .u64 (L1 n), .int .u64 (L2 n), .int .u64 (L3 n), .int .u64 (L0 d), .int .u64 (L1 d), .int .u64 (L2 d), .int .u64 (L3 d)]] w fun e w' => e = .returned (.agg #[.int .u64 (L0 n), .int .u64 (L1 n), .int .u64 (L2 n), .int .u64 (L3 n), .int .u64 (L0 d), .int .u64 (L1 d), .int .u64 (L2 d), .int .u64 (L3 d)]) ∧ Below w.heap.size w w' := by
  go_enter Tryd.func14, Tryd.ntmps14
  go_upto_region 1 with fail
  go_name_world W0 hW0e
  have ow1 : Own W0 w.heap.size 26 #[.int .u64 (L0 n), .int .u64 (L1 n), .int .u64 (L2 n), .int .u64 (L3 n), .int .u64 (L0 d), .int .u64 (L1 d), .int .u64 (L2 d), .int .u64 (L3 d)] := hW0e ▸ (by repeat' (first | (with_reducible assumption) | (with_reducible refine Own.drawnN ?_ _) | (with_reducible refine Own.drawn ?_) | (with_reducible refine Own.made_at ?_; first | rfl | (simp; done) | omega | (simp; omega)) | (with_reducible refine Own.more ?_ _) | (with_reducible refine Own.apart ?_ ?_ _ _; rotate_left; first | omega | (simp; done) | (simp; omega)) | (refine Own.put ?_ _ _)))
  have ow2 : Own W0 (w.heap.size + 1) 34 #[.int .u64 0, .int .u64 0, .int .u64 0, .int .u64 0, .int .u64 0, .int .u64 0, .int .u64 0, .int .u64 0] := hW0e ▸ (by repeat' (first | (with_reducible assumption) | (with_reducible refine Own.drawnN ?_ _) | (with_reducible refine Own.drawn ?_) | (with_reducible refine Own.made_at ?_; first | rfl | (simp; done) | omega | (simp; omega)) | (with_reducible refine Own.more ?_ _) | (with_reducible refine Own.apart ?_ ?_ _ _; rotate_left; first | omega | (simp; done) | (simp; omega)) | (refine Own.put ?_ _ _)))
  have hW0 : Below w.heap.size w W0 := hW0e ▸ (by repeat' (first | (with_reducible exact Below.refl _ _) | (with_reducible assumption) | (with_reducible refine below_drewN ?_ _) | (with_reducible refine Below.drew ?_) | (with_reducible refine Below.alloc ?_ ?_ _) | (with_reducible refine Below.setCell ?_ ?_ _) | (with_reducible refine then_ ?_ (by with_reducible assumption) ?_) | (with_reducible exact Nat.le_refl _) | (with_reducible exact Nat.le_succ _) | (with_reducible exact Nat.le_succ_of_le (by with_reducible assumption)) | omega | (simp; done) | (simp; omega) | (exact Nat.le_succ _) | (exact Nat.le_succ_of_le (by with_reducible assumption))))
  clear hW0e
  have zown := ow2.in_
  go_upto_region 1 with fail
  refine region_memo_f (B := w.heap.size) (L := .val (.pointer (some ⟨w.heap.size, 0, none⟩)) :: .val (.agg #[.int .u64 (L0 n), .int .u64 (L1 n), .int .u64 (L2 n), .int .u64 (L3 n)]) :: .val (.pointer (some ⟨w.heap.size, 4, none⟩)) :: .val (.agg #[.int .u64 (L0 d), .int .u64 (L1 d), .int .u64 (L2 d), .int .u64 (L3 d)]) :: .val (.agg #[.int .u64 (L0 n), .int .u64 (L1 n), .int .u64 (L2 n), .int .u64 (L3 n), .int .u64 (L0 d), .int .u64 (L1 d), .int .u64 (L2 d), .int .u64 (L3 d)]) :: .sto (w.heap.size + 1) 34 #[.int .u64 (L0 n), .int .u64 (L1 n), .int .u64 (L2 n), .int .u64 (L3 n), .int .u64 (L0 d), .int .u64 (L1 d), .int .u64 (L2 d), .int .u64 (L3 d)] :: []) (by kernel_rfl) (hW0.size) (Olds.v (Olds.v (Olds.v (Olds.v (Olds.v (Olds.s (by omega) ow2.in_ (by repeat' (first | exact trivial | refine Off.v ?_ | refine Off.k ?_ | refine Off.b ?_ | refine Off.n ?_ | refine Off.p ?_ | refine Off.s ?_ ?_ | omega)) (trivial)))))))
    ⟨fun a w R => fa_R_0 (R.slot 1 rfl), fun a w R => ld_W (R.val 0) (R.keep ow1 (by repeat' (first | exact trivial | refine Off.v ?_ | refine Off.k ?_ | refine Off.b ?_ | refine Off.n ?_ | refine Off.p ?_ | refine Off.s ?_ ?_ | omega))) rfl rfl rfl rfl, fun a w R => fa_R_1 (R.slot 1 rfl), fun a w R => ld_W (R.val 2) (R.keep ow1 (by repeat' (first | exact trivial | refine Off.v ?_ | refine Off.k ?_ | refine Off.b ?_ | refine Off.n ?_ | refine Off.p ?_ | refine Off.s ?_ ?_ | omega))) rfl rfl rfl rfl, fun a w R => bdQ_tt (R.val 1) (R.val 3), fun a w R => so_Q (R.slot 2 rfl) (R.own rfl ow2) rfl (R.val 4), trivial⟩ (fun act_ W1 I => ?_)
  rw [I.act [(3, .pointer (some ⟨w.heap.size, 0, none⟩)), (4, .agg #[.int .u64 (L0 n), .int .u64 (L1 n), .int .u64 (L2 n), .int .u64 (L3 n)]), (5, .pointer (some ⟨w.heap.size, 4, none⟩)), (6, .agg #[.int .u64 (L0 d), .int .u64 (L1 d), .int .u64 (L2 d), .int .u64 (L3 d)]), (7, .agg #[.int .u64 (L0 n), .int .u64 (L1 n), .int .u64 (L2 n), .int .u64 (L3 n), .int .u64 (L0 d), .int .u64 (L1 d), .int .u64 (L2 d), .int .u64 (L3 d)])]
    ⟨I.val 0, I.val 1, I.val 2, I.val 3, I.val 4, trivial⟩ rfl]
  have sW1 : W0.heap.size ≤ W1.heap.size := I.below.size
  replace ow1 := I.keep ow1 (by repeat' (first | exact trivial | refine Off.v ?_ | refine Off.k ?_ | refine Off.b ?_ | refine Off.n ?_ | refine Off.p ?_ | refine Off.s ?_ ?_ | omega))
  replace ow2 := I.sto 5 rfl rfl
  have hW1 : Below w.heap.size w W1 := hW0.trans I.below
  clear I
  simp only [List.foldl_cons, List.foldl_nil, List.setIfInBounds_toArray, List.set_cons_zero, List.set_cons_succ]
  obtain ⟨r2_, r2_1, r2_2⟩ := ow2.at_
  clear ow1 ow2
  go_wp2
  try simp only [setCell_drawn]
  refine bodyPost_ret (by first | (simp [results, Tryd.results14, go_sem, r2_]; done) | (simp [results, Tryd.results14, go_sem, r2_]; rfl)) rfl ⟨?_, hW1⟩
  rfl
end Go.Proofs.YtigcbgehnlilaaaDoor
end
