
/- The contract of weave: all halves of a plan, how they go, and from where. Conditions: at most 100,000 vertices, and edges. -/
import Derived.Test.YtibnackmddigaaaSpnB
import Derived.Test.YtibnackmddigaaaSpnO
import Derived.Test.YtibnackmddigaaaPlnH
namespace Go.Proofs.Ytibnackmddigaaa.Pl
open Go.ChangeShapes Go.WideShapes Go.ChangeAt Go.RowKit Go.Proofs.Ytibnackmddigaaa.Mp
set_option linter.unusedVariables false
set_option linter.unusedSimpArgs false

def vx (vs : List Vx) (i : Int) : Vx := (fV vs i).getD ⟨0, 0, 0⟩
def wy2 (vs : List Vx) (x : Eg) : List Wy := [((x.id, false), vx vs x.a, vx vs x.b), ((x.id, true), vx vs x.b, vx vs x.a)]
def wys (vs : List Vx) (es : List Eg) : List Wy := es.flatMap (wy2 vs)
theorem wys_snoc (vs : List Vx) (es : List Eg) (x : Eg) : wys vs (es ++ [x]) = (wys vs es ++ [((x.id, false), vx vs x.a, vx vs x.b)]) ++ [((x.id, true), vx vs x.b, vx vs x.a)] := by simp [wys, wy2]
theorem wys_len (vs : List Vx) (es : List Eg) : (wys vs es).length = 2 * es.length := by
  unfold wys
  induction es with
  | nil => rfl
  | cons x l ih => rw [List.flatMap_cons, List.length_append, ih]; simp [wy2]; omega
theorem wys_halves (vs : List Vx) (es : List Eg) : (wys vs es).map (·.1) = hfs es := by
  unfold wys hfs
  rw [List.map_flatMap]
  rfl
theorem wys_mem {vs : List Vx} {es : List Eg} {y : Wy} (h : y ∈ wys vs es) : ∃ x ∈ es, y.1.1 = x.id := by
  unfold wys at h
  obtain ⟨x, hx, k⟩ := List.mem_flatMap.1 h
  refine ⟨x, hx, ?_⟩
  simp [wy2] at k
  rcases k with rfl | rfl <;> rfl
def vxF (vs : List Vx) (i : Int) : Option Value := (fV vs i).map fun v => .agg #[.int .i64 v.id, .int .i64 v.x, .int .i64 v.y]
theorem vxF_snoc (vs : List Vx) (v : Vx) (h : hasV vs v.id = false) : (fun j => if j = v.id then some (.agg #[.int .i64 v.id, .int .i64 v.x, .int .i64 v.y]) else vxF vs j) = vxF (vs ++ [v]) := by
  funext j
  unfold vxF fV
  rw [List.find?_append]
  by_cases e : j = v.id
  · subst e
    have : vs.find? (fun u => u.id == v.id) = none := by
      rw [List.find?_eq_none]
      intro u hu
      simpa using hasV_no.1 h u hu
    rw [if_pos rfl, this]
    simp
  · have : (v.id == j) = false := by simpa using fun k => e k.symm
    rw [if_neg e]
    simp [this]
theorem vxF_get (vs : List Vx) (i : Int) : (vxF vs i).getD (.agg #[.int .i64 0, .int .i64 0, .int .i64 0]) = .agg #[.int .i64 (vx vs i).id, .int .i64 (vx vs i).x, .int .i64 (vx vs i).y] := by
  unfold vxF vx
  cases fV vs i <;> rfl
theorem zero_vx (w : World) : (zeroValue 39).run Try.prog w = .ok (.agg #[.int .i64 0, .int .i64 0, .int .i64 0]) w := by kernel_rfl
theorem web_new {w : World} {B p a b : Nat} (hB : B ≤ p ∧ B ≤ a ∧ B ≤ b) (hne : a ≠ b) (ho : Own w p 83 #[.slice none 0 0, .map (some a), .map (some b)]) (h1 : w.heap[a]? = some (.map #[] 0)) (h2 : w.heap[b]? = some (.map #[] 0)) : Web w B p [] (WZ p a b (.slice none 0 0) []) :=
  ⟨a, b, _, [], ⟨ho, hB, hne, HOwn.nil _ _, ⟨#[], 0, h1, by simp [wyP]⟩, ⟨#[], 0, h2, ⟨by simp [mL], by simp [mL], by simp, by simp⟩⟩, fun x hx => (by cases hx), fun x hx => (by cases hx), fun x hx => (by cases hx)⟩, ⟨fun x hx => (by cases hx), fun x hx => (by cases hx)⟩, fun q => Iff.rfl⟩
section
variable {v e : Value} {vs : List Vx} {es : List Eg} {w : World}
set_option maxRecDepth 10000 in
theorem weave_no (hv : VIn w v vs) (he : EIn w e es) (hn : vs.length ≤ 100000) (hm : es.length ≤ 100000) (h : ¬ Rt vs es) : Calls Try.prog 35 #[.agg #[v, e]] w fun r w' => ∃ p Z, r = .returned (.pointer (some ⟨p, 0, none⟩)) ∧ Web w' w.heap.size p [] Z ∧ Below w.heap.size w w' := by
  have RG := Lib.hid (fun (W : World) (hW : Below w.heap.size w W) => right_any (TIn.below hv hW) (TIn.below he hW) hn hm)
  rw [rtB_not h] at RG
  obtain ⟨a, c, rfl⟩ := hv.sl
  obtain ⟨a', c', rfl⟩ := he.sl
  clear hv he h
  generalize vs.length = n at *
  generalize es.length = m at *
  obtain ⟨W0, hW0⟩ : ∃ W0, W0 = (((w.alloc (.cells #[.slice a n c, .slice a' m c'] 30)).alloc (.map #[] 0)).alloc (.map #[] 0)).alloc (.cells #[.slice none 0 0, .map (some (w.heap.size + 1)), .map (some (w.heap.size + 1 + 1))] 83) := ⟨_, rfl⟩
  have HW : Hid (Web W0 w.heap.size (w.heap.size + 1 + 1 + 1) [] (WZ (w.heap.size + 1 + 1 + 1) (w.heap.size + 1) (w.heap.size + 1 + 1) (.slice none 0 0) [])) := Lib.hid (by
    rw [hW0]
    exact web_new (by omega) (by omega) (Own.made_at (by simp)) (obj_more (obj_more (obj_new _ (by simp)))) (obj_more (obj_new _ (by simp))))
  have BB : Hid (Below w.heap.size w W0) := Lib.hid (by rw [hW0]; repeat' (first | (with_reducible exact Below.refl _ _) | (with_reducible assumption) | (with_reducible refine below_drewN ?_ _) | (with_reducible refine Below.drew ?_) | (with_reducible refine Below.alloc ?_ ?_ _) | (with_reducible refine Below.setCell ?_ ?_ _) | (with_reducible refine then_ ?_ (by with_reducible assumption) ?_) | (with_reducible exact Nat.le_refl _) | (with_reducible exact Nat.le_succ _) | (with_reducible exact Nat.le_succ_of_le (by with_reducible assumption)) | omega | (simp; done) | (simp; omega) | (exact Nat.le_succ _) | (exact Nat.le_succ_of_le (by with_reducible assumption))))
  have PO : Hid (Own W0 w.heap.size 30 #[.slice a n c, .slice a' m c']) := Lib.hid (by rw [hW0]; exact (((Own.made w _ _).more _).more _).more _)
  have hmk := @run_makeMap Try.prog
  go_enter Try.func35, Try.ntmps35
  go_upto_region 2 with fail
  rw [← hW0]
  clear hW0
  obtain ⟨p1, p2⟩ := half_at PO.out
  go_wp2_with (go_at_call 12; refine (RG.out _ BB.out).mono ?_; rintro e w2 ⟨rfl, b2⟩; have B2 := Lib.hid b2; clear b2)
  go_ret
  exact ⟨_, _, rfl, HW.out.below B2.out, then_ BB.out B2.out BB.out.size⟩
set_option maxRecDepth 10000 in
set_option maxHeartbeats 2000000 in
theorem weave_yes (hv : VIn w v vs) (he : EIn w e es) (hn : vs.length ≤ 30000) (hm : es.length ≤ 30000) (h : Rt vs es) : Calls Try.prog 35 #[.agg #[v, e]] w fun r w' => ∃ p Z, r = .returned (.pointer (some ⟨p, 0, none⟩)) ∧ Web w' w.heap.size p (wys vs es) Z ∧ Below w.heap.size w w' := by
  have RG := Lib.hid (fun (W : World) (hW : Below w.heap.size w W) => right_any (TIn.below hv hW) (TIn.below he hW) (by omega) (by omega))
  rw [rtB_iff.2 h] at RG
  have RV := Lib.hid (rt_iff.1 h).1.rise
  have RE := Lib.hid (rt_iff.1 h).2.rise
  obtain ⟨a, cap, rfl, hc1, hc2, -, hcl⟩ := hv.open_
  obtain ⟨a', cap', rfl, hc1', hc2', -, hcl'⟩ := he.open_
  have HV := Lib.hid hcl
  have HE := Lib.hid hcl'
  clear hv he h hcl hcl'
  obtain ⟨n, hnn⟩ : ∃ n, n = vs.length := ⟨_, rfl⟩
  obtain ⟨m, hmm⟩ : ∃ m, m = es.length := ⟨_, rfl⟩
  rw [← hnn] at hc1 hn RG ⊢
  rw [← hmm] at hc1' hm RG ⊢
  have HN := Lib.hid hnn
  have HM := Lib.hid hmm
  clear hnn hmm
  obtain ⟨W0, hW0⟩ : ∃ W0, W0 = (((w.alloc (.cells #[.slice a n cap, .slice a' m cap'] 30)).alloc (.map #[] 0)).alloc (.map #[] 0)).alloc (.cells #[.slice none 0 0, .map (some (w.heap.size + 1)), .map (some (w.heap.size + 1 + 1))] 83) := ⟨_, rfl⟩
  have HW : Hid (Web W0 w.heap.size (w.heap.size + 1 + 1 + 1) [] (WZ (w.heap.size + 1 + 1 + 1) (w.heap.size + 1) (w.heap.size + 1 + 1) (.slice none 0 0) [])) := Lib.hid (by
    rw [hW0]
    exact web_new (by omega) (by omega) (Own.made_at (by simp)) (obj_more (obj_more (obj_new _ (by simp)))) (obj_more (obj_new _ (by simp))))
  have BB : Hid (Below w.heap.size w W0) := Lib.hid (by rw [hW0]; repeat' (first | (with_reducible exact Below.refl _ _) | (with_reducible assumption) | (with_reducible refine below_drewN ?_ _) | (with_reducible refine Below.drew ?_) | (with_reducible refine Below.alloc ?_ ?_ _) | (with_reducible refine Below.setCell ?_ ?_ _) | (with_reducible refine then_ ?_ (by with_reducible assumption) ?_) | (with_reducible exact Nat.le_refl _) | (with_reducible exact Nat.le_succ _) | (with_reducible exact Nat.le_succ_of_le (by with_reducible assumption)) | omega | (simp; done) | (simp; omega) | (exact Nat.le_succ _) | (exact Nat.le_succ_of_le (by with_reducible assumption))))
  have PO : Hid (Own W0 w.heap.size 30 #[.slice a n cap, .slice a' m cap']) := Lib.hid (by rw [hW0]; exact (((Own.made w _ _).more _).more _).more _)
  have hmk := @run_makeMap Try.prog
  go_enter Try.func35, Try.ntmps35
  go_upto_region 2 with fail
  rw [← hW0]
  clear hW0
  obtain ⟨p1, p2⟩ := half_at PO.out
  go_upto_region 4 with (go_at_call 12; refine (RG.out _ BB.out).mono ?_; rintro e w2 ⟨rfl, b2⟩; have B2 := Lib.hid b2; clear b2)
  have HB2 := Lib.hid (then_ BB.out B2.out BB.out.size)
  have HW2 := Lib.hid (HW.out.below B2.out)
  have PO2 := Lib.hid (PO.out.keep B2.out)
  clear BB HW PO B2 p1 p2 RG
  obtain ⟨p1, p2⟩ := half_at PO2.out
  have BX : Hid (Below w2.heap.size w2 (w2.alloc (.map #[] 0))) := Lib.hid ((Below.refl _ _).alloc (Nat.le_refl _) _)
  have HB3 := Lib.hid (then_ HB2.out BX.out HB2.out.size)
  have HW3 := Lib.hid (HW2.out.below BX.out)
  have PO3 := Lib.hid (PO2.out.keep BX.out)
  have MA3 : Hid (MapAt (w2.alloc (.map #[] 0)) w2.heap.size .i64 (vxF (vs.take 0))) := Lib.hid (MapAt.made w2 .i64)
  obtain ⟨Z0, hZ0⟩ : ∃ Z0, Z0 = WZ (w.heap.size + 1 + 1 + 1) (w.heap.size + 1) (w.heap.size + 1 + 1) (.slice none 0 0) [] := ⟨_, rfl⟩
  rw [← hZ0] at HW2 HW3
  have ZN : Hid (∀ q, Z0 q → q ≠ w2.heap.size) := Lib.hid fun q k e => by have := (HW2.out.foot k).2; omega
  have ZQ : Hid (∀ q, Z0 q → q ≠ w.heap.size) := Lib.hid fun q k e => by
    rw [hZ0, e] at k
    rcases k with k | k | k | k | ⟨x, hx, _⟩
    · omega
    · omega
    · omega
    · cases k
    · cases hx
  have PN : Hid (w.heap.size ≠ w2.heap.size) := Lib.hid fun e => by have := PO2.out.in_; omega
  have MN : Hid (w.heap.size ≤ w2.heap.size) := Lib.hid HB2.out.size
  clear hZ0 HW2 HB2 PO2 BX
  go_upto_region 5 with fail
  generalize hW3 : w2.alloc (.map #[] 0) = W3 at *
  clear hW3
  obtain ⟨p1, p2⟩ := half_at PO3.out
  generalize w2.heap.size = m4 at *
  go_wp2
  go_loopw [24] (fun j wr => ∃ k : Nat, k ≤ n ∧ j = .int .i64 (k : Int) ∧ Hid (MapAt wr m4 .i64 (vxF (vs.take k))) ∧ Hid (Web wr w.heap.size (w.heap.size + 1 + 1 + 1) [] Z0) ∧ Hid (Own wr w.heap.size 30 #[.slice a n cap, .slice a' m cap']) ∧ Hid (Below w.heap.size w wr)) (fun j wr => n - (intOf j).toNat)
  case atStart => exact ⟨0, by omega, rfl, MA3, HW3, PO3, HB3⟩
  case round =>
    obtain ⟨k, hk, rfl, HMA, HWB, HP, HB⟩ := hrel
    obtain ⟨p1, p2⟩ := half_at HP.out
    by_cases hlt : k < n
    · have hkl : k < vs.length := by rw [← HN.out]; exact hlt
      obtain ⟨b, o, rfl, hb, hc⟩ := HV.out k hkl
      obtain ⟨c1, c2, c3⟩ := hc wr HB.out
      have TS := Lib.hid (take_snoc vs k hkl)
      have NEW : Hid (hasV (vs.take k) (vs[k]'hkl).id = false) := Lib.hid (hasV_no.2 fun u hu e => by
        obtain ⟨i, hi, rfl⟩ := List.mem_take_iff_getElem.1 hu
        have := List.pairwise_iff_getElem.1 RV.out i k (by omega) hkl (by omega)
        omega)
      obtain ⟨x, hx⟩ : ∃ x, x = vs[k]'hkl := ⟨_, rfl⟩
      rw [← hx] at c1 c2 c3 TS NEW
      clear hx hc HV
      have FIN := Lib.hid (vxF_snoc (vs.take k) x NEW.out)
      rw [← TS.out] at FIN
      obtain ⟨x1, x2, x3⟩ := x
      simp only at c1 c2 c3 FIN
      have BX := Lib.hid (bx1 wr 39 #[.int .i64 x1, .int .i64 x2, .int .i64 x3])
      have HB1 := Lib.hid (then_ HB.out BX.out HB.out.size)
      have OX := Lib.hid (Own.made wr 39 #[.int .i64 x1, .int .i64 x2, .int .i64 x3])
      have MA1 := HMA.out.keep (BX.out.block _ HMA.out.in_)
      have WB1 := Lib.hid (HWB.out.below BX.out)
      have PO1 := Lib.hid (HP.out.keep BX.out)
      go_upto_region 8 with fail
      generalize hW1 : wr.alloc (.cells #[.int .i64 x1, .int .i64 x2, .int .i64 x3] 39) = W1 at *
      clear hW1
      obtain ⟨w5, r5, p5, c5, z5⟩ := MA1.put (t := 115) Try.underlying115 Try.underlying3 x1 (.agg #[.int .i64 x1, .int .i64 x2, .int .i64 x3])
      have MA5 : Hid (MapAt w5 m4 .i64 (vxF (vs.take (k + 1)))) := Lib.hid (FIN.out ▸ p5)
      have WB5 := Lib.hid (WB1.out.keep c5 fun q e k => ZN.out q k e)
      have PO5 := Lib.hid (c5.own PO1.out PN.out)
      have HB5 := Lib.hid (HB1.out.trans (c5.below HB1.out.size fun q e => by rw [e]; exact MN.out))
      obtain ⟨o1, o2, o3⟩ := three_at OX.out
      clear p5 c5 z5 MA1
      go_wp2
      go_roundw
      case rel => exact ⟨k + 1, by omega, by go_num, MA5, WB5, PO5, HB5⟩
      case measure => simp [intOf] <;> omega
    · obtain rfl : k = n := by omega
      have MAF : Hid (MapAt wr m4 .i64 (vxF vs)) := Lib.hid (by have := HMA.out; rwa [List.take_of_length_le (by rw [HN.out]; exact Nat.le_refl _)] at this)
      have WB0 : Hid (Web wr w.heap.size (w.heap.size + 1 + 1 + 1) (wys vs (es.take 0)) Z0) := Lib.hid HWB.out
      have MB : Hid (m4 < wr.heap.size) := Lib.hid HMA.out.in_
      have PL : Hid (w.heap.size < wr.heap.size) := Lib.hid HP.out.in_
      clear HMA HWB HV hlt MA3 HW3 PO3 HB3
      go_wp2
      go_loopw [36] (fun j wq => ∃ (k' : Nat) (Z : Nat → Prop), k' ≤ m ∧ j = .int .i64 (k' : Int) ∧ Hid (Web wq w.heap.size (w.heap.size + 1 + 1 + 1) (wys vs (es.take k')) Z) ∧ Hid (∀ q, Z q → q ≠ m4 ∧ q ≠ w.heap.size) ∧ Hid (MapAt wq m4 .i64 (vxF vs)) ∧ Hid (Own wq w.heap.size 30 #[.slice a k cap, .slice a' m cap']) ∧ Hid (Below w.heap.size w wq)) (fun j wq => m - (intOf j).toNat)
      case atStart => exact ⟨0, Z0, by omega, rfl, WB0, Lib.hid fun q k => ⟨ZN.out q k, fun e => by have := ZQ.out q k; exact this e⟩, MAF, HP, HB⟩
      case round =>
        clear WB0 MAF HP HB p1 p2
        obtain ⟨k', Z, hk', rfl, HWB, HZ, HMA, HP, HB⟩ := hrel
        obtain ⟨p1, p2⟩ := half_at HP.out
        by_cases hlt : k' < m
        · have hkl : k' < es.length := by rw [← HM.out]; exact hlt
          obtain ⟨b, o, rfl, hb, hc⟩ := HE.out k' hkl
          obtain ⟨c1, c2, c3⟩ := hc wr HB.out
          have TS := Lib.hid (take_snoc es k' hkl)
          have NEW : Hid (∀ y ∈ wys vs (es.take k'), y.1.1 ≠ (es[k']'hkl).id) := Lib.hid fun y hy e => by
            obtain ⟨u, hu, e2⟩ := wys_mem hy
            obtain ⟨i, hi, rfl⟩ := List.mem_take_iff_getElem.1 hu
            have := List.pairwise_iff_getElem.1 RE.out i k' (by omega) hkl (by omega)
            omega
          have LEN : Hid ((wys vs (es.take k')).length ≤ 60000) := Lib.hid (by rw [wys_len, List.length_take]; omega)
          obtain ⟨x, hx⟩ : ∃ x, x = es[k']'hkl := ⟨_, rfl⟩
          rw [← hx] at c1 c2 c3 TS NEW
          clear hx hc HE
          obtain ⟨x1, x2, x3⟩ := x
          simp only at c1 c2 c3
          have WS := Lib.hid (wys_snoc vs (es.take k') ⟨x1, x2, x3⟩)
          rw [← TS.out] at WS
          simp only at WS NEW
          have BX := Lib.hid (bx1 wr 71 #[.int .i64 x1, .int .i64 x2, .int .i64 x3])
          have HB1 := Lib.hid (then_ HB.out BX.out HB.out.size)
          have OE := Own.made wr 71 #[.int .i64 x1, .int .i64 x2, .int .i64 x3]
          have MA1 := Lib.hid (HMA.out.keep (BX.out.block _ HMA.out.in_))
          have WB1 := Lib.hid (HWB.out.below BX.out)
          have PO1 := Lib.hid (HP.out.keep BX.out)
          have ZL : Hid (∀ q, Z q → q < wr.heap.size) := Lib.hid fun q k => (HWB.out.foot k).2
          clear HMA HWB HP HB TS p1 p2
          go_upto_region 13 with fail
          generalize hW1 : wr.alloc (.cells #[.int .i64 x1, .int .i64 x2, .int .i64 x3] 71) = W1 at *
          clear hW1
          have LK := Lib.hid (fun (i : Int) (W : World) (hW : Below W1.heap.size W1 W) => show (Instr.lookup 115 (.map (some m4)) (.int .i64 i) false).run Try.prog W = .ok (.agg #[.int .i64 (vx vs i).id, .int .i64 (vx vs i).x, .int .i64 (vx vs i).y]) W from by
            rw [← vxF_get]
            exact (MA1.out.keep (hW.block _ MA1.out.in_)).look1 Try.underlying115 Try.underlying3 (zero_vx W) i)
          have LA := Lib.hid (LK.out x2)
          have LB := Lib.hid (LK.out x3)
          clear LK
          generalize vx vs x2 = A at *
          generalize vx vs x3 = Bv at *
          obtain ⟨ai, ax, ay⟩ := A
          obtain ⟨bi, bx, by_⟩ := Bv
          simp only at LA LB
          have hq1 := OE.in_
          generalize hqe : wr.heap.size = qe at *
          clear hqe
          refine region_memo (B := W1.heap.size) (L := .val (.map (some m4)) :: .val (.pointer (some ⟨qe, 1, none⟩)) :: .val (.int .i64 x2) :: .val (.agg #[.int .i64 ai, .int .i64 ax, .int .i64 ay]) :: .val (.map (some m4)) :: .val (.pointer (some ⟨qe, 2, none⟩)) :: .val (.int .i64 x3) :: .val (.agg #[.int .i64 bi, .int .i64 bx, .int .i64 by_]) :: .blk 39 3 :: .blk 39 3 :: .put 9 39 #[.int .i64 ai, .int .i64 ax, .int .i64 ay] :: .put 10 39 #[.int .i64 bi, .int .i64 bx, .int .i64 by_] :: []) (by kernel_rfl) (by kernel_rfl) (Nat.le_refl _) (by exact trivial)
            ⟨fun a wv R => (by have h4 : a.tmps[4]? = some (.map (some m4)) := R.slot 4 rfl; refine .inl ?_; first | (simp [go_sem, execOp, h4]; done) | (simp [go_sem, execOp, h4]; rfl)),
    fun a wv R => (by have h8 : a.tmps[8]? = some (.pointer (some ⟨qe, 0, none⟩)) := R.slot 8 rfl; refine .inl ?_; first | (simp [go_sem, execOp, h8]; done) | (simp [go_sem, execOp, h8]; rfl)),
    fun a wv R => (by have h41 : a.tmps[41]? = some (.pointer (some ⟨qe, 1, none⟩)) := R.val 1; have oc_ := (R.keep OE.drawn trivial).at_.1 1; simp at oc_; refine .inl ?_; first | (simp [go_sem, execOp, h41, oc_]; done) | (simp [go_sem, execOp, h41, oc_]; rfl)),
    fun a wv R => (by have h40 : a.tmps[40]? = some (.map (some m4)) := R.val 0; have h42 : a.tmps[42]? = some (.int .i64 x2) := R.val 2; refine .inl ?_; have hl := LA.out _ (then_ (Below.refl _ _).drew R.below.base (Nat.le_refl _)); simp [go_sem, execOp, h40, h42, hl]),
    fun a wv R => (by have h4 : a.tmps[4]? = some (.map (some m4)) := R.slot 4 rfl; refine .inl ?_; first | (simp [go_sem, execOp, h4]; done) | (simp [go_sem, execOp, h4]; rfl)),
    fun a wv R => (by have h8 : a.tmps[8]? = some (.pointer (some ⟨qe, 0, none⟩)) := R.slot 8 rfl; refine .inl ?_; first | (simp [go_sem, execOp, h8]; done) | (simp [go_sem, execOp, h8]; rfl)),
    fun a wv R => (by have h45 : a.tmps[45]? = some (.pointer (some ⟨qe, 2, none⟩)) := R.val 5; have oc_ := (R.keep OE.drawn trivial).at_.1 2; simp at oc_; refine .inl ?_; first | (simp [go_sem, execOp, h45, oc_]; done) | (simp [go_sem, execOp, h45, oc_]; rfl)),
    fun a wv R => (by have h44 : a.tmps[44]? = some (.map (some m4)) := R.val 4; have h46 : a.tmps[46]? = some (.int .i64 x3) := R.val 6; refine .inl ?_; have hl := LB.out _ (then_ (Below.refl _ _).drew R.below.base (Nat.le_refl _)); simp [go_sem, execOp, h44, h46, hl]),
    fun a wv R => al_V,
    fun a wv R => al_V,
    fun a wv R => (by have h43 : a.tmps[43]? = some (.agg #[.int .i64 ai, .int .i64 ax, .int .i64 ay]) := R.val 3; exact sb_V (R.dep 8) h43),
    fun a wv R => (by have h47 : a.tmps[47]? = some (.agg #[.int .i64 bi, .int .i64 bx, .int .i64 by_]) := R.val 7; exact sb_V (R.dep 9) h47), trivial⟩ (fun act_ W5 I => ?_)
          obtain ⟨gb9, ew9, lw9, ow9⟩ := I.put 10 rfl rfl
          obtain ⟨gb10, ew10, lw10, ow10⟩ := I.put 11 rfl rfl
          rw [I.act [(40, .map (some m4)), (41, .pointer (some ⟨qe, 1, none⟩)), (42, .int .i64 x2), (43, .agg #[.int .i64 ai, .int .i64 ax, .int .i64 ay]), (44, .map (some m4)), (45, .pointer (some ⟨qe, 2, none⟩)), (46, .int .i64 x3), (47, .agg #[.int .i64 bi, .int .i64 bx, .int .i64 by_]), (9, .pointer (some ⟨gb9, 0, none⟩)), (10, .pointer (some ⟨gb10, 0, none⟩))]
            ⟨I.val 0, I.val 1, I.val 2, I.val 3, I.val 4, I.val 5, I.val 6, I.val 7, ew9, ew10, trivial⟩ rfl]
          change W1.heap.size ≤ gb9 at lw9
          change W1.heap.size ≤ gb10 at lw10
          replace OE := I.keep OE.drawn trivial
          have hW5 : Below w.heap.size w W5 := then_ HB1.out.drew I.below.base HB1.out.size
          have kW5 : Below W1.heap.size W1 W5 := then_ (Below.refl _ _).drew I.below.base (Nat.le_refl _)
          clear ew9 ew10
          clear I
          simp only [List.foldl_cons, List.foldl_nil, List.setIfInBounds_toArray, List.set_cons_zero, List.set_cons_succ]
          have hg9 := ow9.in_
          have hg10 := ow10.in_
          have WB5 := Lib.hid (WB1.out.below kW5)
          have MA5 := Lib.hid (MA1.out.keep (kW5.block _ MA1.out.in_))
          have PO5 := Lib.hid (PO1.out.keep kW5)
          have HB5 := Lib.hid hW5
          have O9 := Lib.hid ow9
          have O10 := Lib.hid ow10
          obtain ⟨e0, e1, e2⟩ := three_at OE
          have hsz : Hid (W1.heap.size ≤ W5.heap.size) := Lib.hid kW5.size
          have ZL5 : Hid (∀ q, Z q → q < gb9 ∧ q < gb10 ∧ q < W5.heap.size) := Lib.hid fun q k => by have := ZL.out q k; have := hsz.out; omega
          clear hW5 kW5 ow9 ow10 WB1 MA1 PO1 HB1 BX LA LB
          go_upto_region 15 with fail
          have BX := Lib.hid (bx1 W5 42 #[.int .i64 x1, .bool false])
          have QH := Lib.hid (Own.made W5 42 #[.int .i64 x1, .bool false])
          have WB6 := Lib.hid (WB5.out.below BX.out)
          have MA6 := Lib.hid (MA5.out.keep (BX.out.block _ MA5.out.in_))
          have PO6 := Lib.hid (PO5.out.keep BX.out)
          have HB6 := Lib.hid (then_ HB5.out BX.out HB5.out.size)
          have P9 := Lib.hid (O9.out.keep BX.out)
          have P10 := Lib.hid (O10.out.keep BX.out)
          have MB5 : Hid (m4 < W5.heap.size) := Lib.hid MA5.out.in_
          have hq : Hid (gb9 < W5.heap.size ∧ gb10 < W5.heap.size) := Lib.hid ⟨hg9, hg10⟩
          clear WB5 MA5 PO5 HB5 O9 O10 OE hg9 hg10 hq1
          generalize hW6 : W5.alloc (.cells #[.int .i64 x1, .bool false] 42) = W6 at *
          clear hW6
          generalize hqh : W5.heap.size = qh at *
          clear hqh
          have PA := Lib.hid (put_any WB6.out ((x1, false), ⟨ai, ax, ay⟩, ⟨bi, bx, by_⟩) (fun y hy e => NEW.out y hy (by rw [e])) (by have := LEN.out; omega) HB6.out.size)
          unfold hV wV at PA
          simp only at PA
          obtain ⟨a0, a1, a2⟩ := three_at P9.out
          obtain ⟨b0, b1, b2⟩ := three_at P10.out
          obtain ⟨q0, q1⟩ := half_at QH.out
          go_upto_region 16 with (go_at_call 54; refine PA.out.mono ?_; rintro e w7 ⟨rfl, Z7, d7, d8, d9⟩; have WB7 := Lib.hid d7; have C7 := Lib.hid d8; have Z7L := Lib.hid d9; clear d7 d8 d9)
          have sz7 : Hid (W6.heap.size ≤ w7.heap.size) := Lib.hid C7.out.size
          have nz : ∀ {q : Nat}, gb9 ≤ q ∨ gb10 ≤ q ∨ qh ≤ q → ¬ Z q := fun {q} h k => by have := ZL5.out q k; omega
          have P9' := Lib.hid (C7.out.own P9.out (nz (.inl (Nat.le_refl _))))
          have P10' := Lib.hid (C7.out.own P10.out (nz (.inr (.inl (Nat.le_refl _)))))
          have QH' := Lib.hid (C7.out.own QH.out (nz (.inr (.inr (Nat.le_refl _)))))
          have MA7 := Lib.hid (MA6.out.keep (C7.out.block _ MA6.out.in_ fun k => (HZ.out _ k).1 rfl))
          have PO7 := Lib.hid (C7.out.own PO6.out fun k => (HZ.out _ k).2 rfl)
          have HB7 := Lib.hid (HB6.out.trans (C7.out.below HB6.out.size fun q k => (WB6.out.foot k).1))
          have Z7N : Hid (∀ q, Z7 q → q ≠ m4 ∧ q ≠ w.heap.size) := Lib.hid fun q k => by
            rcases Z7L.out q k with k | k
            · exact HZ.out q k
            · have := MA6.out.in_; have := PO6.out.in_; omega
          have Z7O : Hid (∀ q, Z7 q → q ≠ gb9 ∧ q ≠ gb10 ∧ q ≠ qh) := Lib.hid fun q k => by
            have := hq.out
            have := QH.out.in_
            rcases Z7L.out q k with k | k
            · have := ZL5.out q k; omega
            · omega
          clear P9 P10 QH MA6 PO6 HB6 WB6 PA a0 a1 a2 b0 b1 b2 q0 q1 nz
          have TW := Lib.hid (fun W => twin_any (x1, false) W)
          unfold hV tw at TW
          simp only [Bool.not_false] at TW
          have PB := Lib.hid (fun (W : World) (hW : Below w7.heap.size w7 W) => put_any (WB7.out.below hW) ((x1, true), ⟨bi, bx, by_⟩, ⟨ai, ax, ay⟩) (fun y hy e => by
            rcases List.mem_append.1 hy with hy | hy
            · exact NEW.out y hy (by rw [e])
            · rw [List.mem_singleton] at hy
              rw [hy] at e
              cases congrArg Prod.snd e) (by have := LEN.out; rw [List.length_append, List.length_singleton]; omega) (Nat.le_trans HB7.out.size hW.size))
          unfold hV wV at PB
          simp only at PB
          refine wp_region_seq (fun W => Own W gb9 39 #[.int .i64 ai, .int .i64 ax, .int .i64 ay] ∧ Own W gb10 39 #[.int .i64 bi, .int .i64 bx, .int .i64 by_] ∧ Own W qh 42 #[.int .i64 x1, .bool false]) (0 :: 1 :: 3 :: 4 :: 5 :: []) (1 :: 3 :: 4 :: []) (0 :: 1 :: 3 :: 4 :: 5 :: 2 :: 6 :: []) (by kernel_rfl) (by kernel_rfl) rfl (by kernel_rfl) rfl (⟨P9'.out, P10'.out, QH'.out⟩) (by simp only [picked, List.filterMap_cons, List.filterMap_nil, List.getElem?_cons_zero, List.getElem?_cons_succ, Option.map_some]; exact rfl) ?_
          iterate 5
            refine seq_want (v := ?_) rfl rfl (fun W hS => ?_) ?_
            rotate_left
            · first
                | (conv => lhs; simp [go_sem]
                   first | done | exact rfl)
                | (have hS := hS rfl
                   obtain ⟨a0, a1, a2⟩ := three_at hS.1
                   obtain ⟨b0, b1, b2⟩ := three_at hS.2.1
                   obtain ⟨q0, q1⟩ := half_at hS.2.2
                   conv => lhs; simp [go_sem, *]
                   first | done | exact rfl)
            simp only [Act.put, List.setIfInBounds_toArray, List.set_cons_zero, List.set_cons_succ]
          refine seq_on rfl rfl fun K hK => ?_
          go_wp2_with (go_at_call 55; refine (TW.out _).mono ?_; rintro e w8 ⟨rfl, b8⟩)
          have B8 := Lib.hid (then_ (Below.refl _ _).drew b8 (Nat.le_refl _))
          clear b8
          refine hK _ _ ⟨P9'.out.keep B8.out, P10'.out.keep B8.out, QH'.out.keep B8.out⟩ ?_
          clear hK K
          refine seq_on rfl rfl fun K hK => ?_
          go_wp2_with (go_at_call 54; refine (PB.out _ B8.out).mono ?_; rintro e w9 ⟨rfl, Z9, d7, d8, d9⟩; have WB9 := Lib.hid d7; have C9 := Lib.hid d8; have Z9L := Lib.hid d9; clear d7 d8 d9)
          refine hK _ _ ⟨C9.out.own (P9'.out.keep B8.out) fun k => (Z7O.out _ k).1 rfl, C9.out.own (P10'.out.keep B8.out) fun k => (Z7O.out _ k).2.1 rfl, C9.out.own (QH'.out.keep B8.out) fun k => (Z7O.out _ k).2.2 rfl⟩ ?_
          clear hK K
          refine seq_end ?_
          have MA8 := MA7.out.keep (B8.out.block _ MA7.out.in_)
          have MA9 := Lib.hid (MA8.keep (C9.out.block _ MA8.in_ fun k => (Z7N.out _ k).1 rfl))
          have PO9 := Lib.hid (C9.out.own (PO7.out.keep B8.out) fun k => (Z7N.out _ k).2 rfl)
          have HB8 := then_ HB7.out B8.out HB7.out.size
          have HB9 := Lib.hid (HB8.trans (C9.out.below HB8.size fun q k => (WB7.out.foot k).1))
          have Z9N : Hid (∀ q, Z9 q → q ≠ m4 ∧ q ≠ w.heap.size) := Lib.hid fun q k => by
            rcases Z9L.out q k with k | k
            · exact Z7N.out q k
            · have := MA8.in_; have := (PO7.out.keep B8.out).in_; omega
          clear MA8 HB8
          go_wp2
          go_roundw
          case rel => exact ⟨k' + 1, Z9, by omega, by go_num, Lib.hid (by rw [WS.out]; exact WB9.out), Z9N, MA9, PO9, HB9⟩
          case measure => simp [intOf] <;> omega
        · obtain rfl : k' = m := by omega
          have WBF : Hid (Web wr w.heap.size (w.heap.size + 1 + 1 + 1) (wys vs es) Z) := Lib.hid (by have := HWB.out; rwa [List.take_of_length_le (by rw [HM.out]; exact Nat.le_refl _)] at this)
          go_wp2
          go_ret
          exact ⟨_, Z, rfl, WBF.out, HB.out⟩
end
end Go.Proofs.Ytibnackmddigaaa.Pl