
/- The reference's Meets and Degree. Conditions: those that each theorem names. -/
import Derived.Test.YtdkmclaihojknaaPlnS
namespace Go.Proofs.Ytdkmclaihojknaa.Pl
open Go.ChangeShapes Go.WideShapes Go.ChangeAt Go.RowKit
set_option linter.unusedVariables false
set_option linter.unusedSimpArgs false

def mtE (vs : List Vx) (p1 p2 s1 s2 : Int) (u : Eg) : Bool := mtB p1 p2 s1 s2 (px vs u.a) (py vs u.a) (px vs u.b) (py vs u.b)
set_option maxRecDepth 10000 in
set_option maxHeartbeats 1000000 in
theorem rmeets_any (v e : Value) (vs : List Vx) (es : List Eg) (p1 p2 s1 s2 : Int) (w : World) (h : VIn w v vs) (he : EIn w e es) (hn : vs.length ≤ 100000) (hm : es.length ≤ 100000) (n : Nat) (hne : n ≤ es.length) (hV : FlV vs)
    (hE : ∀ (k : Nat) (u : Eg), k < n → es[k]? = some u → u.a ≠ u.b ∧ hasV vs u.a = true ∧ hasV vs u.b = true) (hp : inB p1 p2 = true) (hs : inB s1 s2 = true) (hps : decide (p1 = s1 ∧ p2 = s2) = false) :
    Calls Try.prog 48 #[.agg #[v, e], .agg #[.int .i64 p1, .int .i64 p2], .agg #[.int .i64 s1, .int .i64 s2], .int .i64 (n : Int)] w fun x w' => x = .returned (.bool (mtL vs (es.take n) p1 p2 s1 s2)) ∧ Below w.heap.size w w' := by
  have AT := Lib.hid (fun W (hW : Below w.heap.size w W) (i : Int) (hi : hasV vs i = true) => at_any v e vs i W (TIn.below h hW) (by obtain ⟨a, c, k⟩ := he.sl; exact ⟨_, _, _, k⟩) hn hi)
  obtain ⟨va, vc, rfl⟩ := h.sl
  obtain ⟨a, cap, rfl, hc1, hc2, -, hcl⟩ := TIn.open_ he
  have YES : Hid (∀ k (hk : k < es.length), k < n → mtE vs p1 p2 s1 s2 (es[k]'hk) = true → mtL vs (es.take n) p1 p2 s1 s2 = true) := Lib.hid fun k hk hkn hj => List.any_eq_true.2 ⟨es[k]'hk, by rw [List.mem_take_iff_getElem]; exact ⟨k, by omega, rfl⟩, hj⟩
  have NO : Hid ((∀ k (hk : k < es.length), k < n → mtE vs p1 p2 s1 s2 (es[k]'hk) = false) → mtL vs (es.take n) p1 p2 s1 s2 = false) := Lib.hid fun hj => by
    unfold mtL
    rw [List.any_eq_false]
    intro u hu
    rw [List.mem_take_iff_getElem] at hu
    obtain ⟨k, hk, rfl⟩ := hu
    have := hj k (by omega) (by omega)
    unfold mtE at this
    rw [this]
    simp
  have CON : Hid (∀ k (hk : k < es.length), k < n → hasV vs (es[k]'hk).a = true ∧ hasV vs (es[k]'hk).b = true ∧ ∀ W, Calls Try.prog 60 #[.agg #[.int .i64 p1, .int .i64 p2], .agg #[.int .i64 s1, .int .i64 s2], .agg #[.int .i64 (px vs (es[k]'hk).a), .int .i64 (py vs (es[k]'hk).a)], .agg #[.int .i64 (px vs (es[k]'hk).b), .int .i64 (py vs (es[k]'hk).b)]] W fun e w' => e = .returned (.bool (mtE vs p1 p2 s1 s2 (es[k]'hk))) ∧ Below W.heap.size W w') := Lib.hid fun k hk hkn => by
    obtain ⟨h1, h2, h3⟩ := hE k _ hkn (List.getElem?_eq_getElem hk)
    refine ⟨h2, h3, fun W => ?_⟩
    have r2 := inB_rng.1 (px_rng hV.rng h2)
    have r3 := inB_rng.1 (px_rng hV.rng h3)
    unfold mtE
    rw [mt_in (in4_iff.2 ⟨inB_rng.1 hp, inB_rng.1 hs, r2, r3⟩) hps (px_apart hV h2 h3 h1)]
    exact RMeet_in (inB_rng.1 hp) (inB_rng.1 hs) r2 r3 W
  obtain ⟨R, hR⟩ : ∃ R, R = mtL vs (es.take n) p1 p2 s1 s2 := ⟨_, rfl⟩
  rw [← hR] at YES NO ⊢
  clear hR h he hp hs hps hV hE
  obtain ⟨l, hl⟩ : ∃ l, l = vs.length := ⟨_, rfl⟩
  rw [← hl] at AT hn ⊢
  obtain ⟨m, hnn⟩ : ∃ n, n = es.length := ⟨_, rfl⟩
  rw [← hnn] at hc1 hm hne AT ⊢
  have HN := Lib.hid hnn
  clear hnn hl
  have OB := Lib.hid ((Own.made w 25 #[.slice va l vc, .slice a m cap]).more (.cells #[.int .i64 p1, .int .i64 p2] 27) |>.more (.cells #[.int .i64 s1, .int .i64 s2] 27))
  have BB : Hid (Below w.heap.size w (((w.alloc (.cells #[.slice va l vc, .slice a m cap] 25)).alloc (.cells #[.int .i64 p1, .int .i64 p2] 27)).alloc (.cells #[.int .i64 s1, .int .i64 s2] 27))) := Lib.hid (by repeat' (first | (with_reducible exact Below.refl _ _) | (with_reducible assumption) | (with_reducible refine below_drewN ?_ _) | (with_reducible refine Below.drew ?_) | (with_reducible refine Below.alloc ?_ ?_ _) | (with_reducible refine Below.setCell ?_ ?_ _) | (with_reducible refine then_ ?_ (by with_reducible assumption) ?_) | (with_reducible exact Nat.le_refl _) | (with_reducible exact Nat.le_succ _) | (with_reducible exact Nat.le_succ_of_le (by with_reducible assumption)) | omega | (simp; done) | (simp; omega) | (exact Nat.le_succ _) | (exact Nat.le_succ_of_le (by with_reducible assumption))))
  have OP : Hid (Own (((w.alloc (.cells #[.slice va l vc, .slice a m cap] 25)).alloc (.cells #[.int .i64 p1, .int .i64 p2] 27)).alloc (.cells #[.int .i64 s1, .int .i64 s2] 27)) (w.heap.size + 1) 27 #[.int .i64 p1, .int .i64 p2]) := Lib.hid (Own.more (Own.made_at (by simp)) _)
  have OS : Hid (Own (((w.alloc (.cells #[.slice va l vc, .slice a m cap] 25)).alloc (.cells #[.int .i64 p1, .int .i64 p2] 27)).alloc (.cells #[.int .i64 s1, .int .i64 s2] 27)) (w.heap.size + 2) 27 #[.int .i64 s1, .int .i64 s2]) := Lib.hid (Own.made_at (by simp))
  go_enter Try.func48, Try.ntmps48
  go_upto_region 2 with fail
  generalize hW0 : ((w.alloc (.cells #[.slice va l vc, .slice a m cap] 25)).alloc (.cells #[.int .i64 p1, .int .i64 p2] 27)).alloc (.cells #[.int .i64 s1, .int .i64 s2] 27) = W0 at OB BB OP OS ⊢
  clear hW0
  have KB : Hid (∀ W, Below W0.heap.size W0 W → Below w.heap.size w W ∧ Own W w.heap.size 25 #[.slice va l vc, .slice a m cap] ∧ Own W (w.heap.size + 1) 27 #[.int .i64 p1, .int .i64 p2] ∧ Own W (w.heap.size + 2) 27 #[.int .i64 s1, .int .i64 s2]) := Lib.hid fun W hW => ⟨then_ BB.out hW BB.out.size, OB.out.keep hW, OP.out.keep hW, OS.out.keep hW⟩
  clear OB BB OP OS
  go_wp2
  go_loopw [9] (fun j wr => ∃ k : Nat, k ≤ n ∧ j = .int .i64 (k : Int) ∧ Hid (∀ i (hi : i < es.length), i < k → mtE vs p1 p2 s1 s2 (es[i]'hi) = false) ∧ Hid (Below W0.heap.size W0 wr)) (fun j wr => n - (intOf j).toNat)
  case atStart => exact ⟨0, by omega, rfl, Lib.hid fun i hi h => by omega, Lib.hid (Below.refl _ _)⟩
  case round =>
    obtain ⟨k, hk, rfl, hno, HB⟩ := hrel
    obtain ⟨hbw, h1, h2, h3⟩ := KB.out _ HB.out
    obtain ⟨q1, q2, q3⟩ := h1.at_
    by_cases hlt : k < n
    · have hkl : k < es.length := by rw [← HN.out]; omega
      obtain ⟨b, o, rfl, hb, hc⟩ := hcl k hkl
      have HC := Lib.hid hc
      have YK := Lib.hid (YES.out k hkl hlt)
      have CK := Lib.hid (CON.out k hkl hlt)
      obtain ⟨x, hx⟩ : ∃ x, x = es[k]'hkl := ⟨_, rfl⟩
      rw [← hx] at HC YK CK
      have HX := Lib.hid hx
      clear hx hcl hc hbw h1 h2 h3 YES CON
      obtain ⟨x1, x2, x3⟩ := x
      simp only at HC YK CK
      have ATA := Lib.hid (fun W hW => AT.out W hW x2 CK.out.1)
      have ATB := Lib.hid (fun W hW => AT.out W hW x3 CK.out.2.1)
      replace CK := Lib.hid CK.out.2.2
      generalize px vs x2 = ax at *
      generalize py vs x2 = ay at *
      generalize px vs x3 = bx at *
      generalize py vs x3 = by_ at *
      have kl : (k : Int) < (m : Int) := by omega
      cases ht : mtE vs p1 p2 s1 s2 ⟨x1, x2, x3⟩ with
      | true =>
        rw [ht] at CK YK
        have HT := Lib.hid ht
        obtain rfl : R = true := YK.out rfl
        clear ht YK
        go_upto_region 4 with fail
        clear q1 q2 q3
        refine wp_region_seq (fun W => Below W0.heap.size W0 W) (0 :: 1 :: 2 :: 3 :: 4 :: 5 :: 6 :: 7 :: 8 :: 10 :: 11 :: 12 :: 13 :: 14 :: 15 :: 16 :: []) (0 :: 1 :: 2 :: 4 :: 8 :: 10 :: 12 :: 16 :: []) (0 :: 1 :: 2 :: 3 :: 4 :: 5 :: 6 :: 7 :: 8 :: 10 :: 11 :: 12 :: 13 :: 14 :: 15 :: 16 :: 9 :: 17 :: 18 :: []) (by kernel_rfl) (by kernel_rfl) rfl (by kernel_rfl) rfl (HB.out.drew) (by simp only [picked, List.filterMap_cons, List.filterMap_nil, List.getElem?_cons_zero, List.getElem?_cons_succ, Option.map_some]; exact rfl) ?_
        iterate 16
          refine seq_want (v := ?_) rfl rfl (fun W hS => ?_) ?_
          rotate_left
          · first
              | (conv => lhs; simp [go_sem, kl]
                 first | done | exact rfl)
              | (have hS := hS rfl
                 obtain ⟨hbw, h1, h2, h3⟩ := KB.out _ hS
                 obtain ⟨q0, q1⟩ := pl_two h1
                 obtain ⟨f0, f1⟩ := pl_two h2
                 obtain ⟨g0, g1⟩ := pl_two h3
                 obtain ⟨c1, c2, c3⟩ := HC.out _ hbw
                 conv => lhs; simp [go_sem, *, kl]
                 first | done | exact rfl)
          simp only [Act.put, List.setIfInBounds_toArray, List.set_cons_zero, List.set_cons_succ]
        refine seq_on rfl rfl fun K hK => ?_
        go_wp2_with (go_at_call 47; refine (ATA.out _ (KB.out _ HB.out.drew).1).mono ?_; rintro e w3 ⟨rfl, b3⟩)
        have B3 := Lib.hid (then_ HB.out.drew b3 HB.out.drew.size)
        refine hK _ _ B3.out ?_
        clear hK K b3
        refine seq_on rfl rfl fun K hK => ?_
        go_wp2_with (go_at_call 47; refine (ATB.out _ (KB.out _ B3.out).1).mono ?_; rintro e w4 ⟨rfl, b4⟩)
        have B4 := Lib.hid (then_ B3.out b4 B3.out.size)
        refine hK _ _ B4.out ?_
        clear hK K b4
        refine seq_on rfl rfl fun K hK => ?_
        go_wp2_with (go_at_call 60; refine (CK.out _).mono ?_; rintro e w5 ⟨rfl, b5⟩)
        have B5 := Lib.hid (then_ B4.out b5 B4.out.size)
        refine hK _ _ B5.out ?_
        clear hK K b5
        refine seq_end ?_
        go_wp2
        go_ret
        exact ⟨rfl, (KB.out _ B5.out).1⟩
      | false =>
        rw [ht] at CK
        have HT := Lib.hid ht
        clear ht YK
        go_upto_region 4 with fail
        clear q1 q2 q3
        refine wp_region_seq (fun W => Below W0.heap.size W0 W) (0 :: 1 :: 2 :: 3 :: 4 :: 5 :: 6 :: 7 :: 8 :: 10 :: 11 :: 12 :: 13 :: 14 :: 15 :: 16 :: []) (0 :: 1 :: 2 :: 4 :: 8 :: 10 :: 12 :: 16 :: []) (0 :: 1 :: 2 :: 3 :: 4 :: 5 :: 6 :: 7 :: 8 :: 10 :: 11 :: 12 :: 13 :: 14 :: 15 :: 16 :: 9 :: 17 :: 18 :: []) (by kernel_rfl) (by kernel_rfl) rfl (by kernel_rfl) rfl (HB.out.drew) (by simp only [picked, List.filterMap_cons, List.filterMap_nil, List.getElem?_cons_zero, List.getElem?_cons_succ, Option.map_some]; exact rfl) ?_
        iterate 16
          refine seq_want (v := ?_) rfl rfl (fun W hS => ?_) ?_
          rotate_left
          · first
              | (conv => lhs; simp [go_sem, kl]
                 first | done | exact rfl)
              | (have hS := hS rfl
                 obtain ⟨hbw, h1, h2, h3⟩ := KB.out _ hS
                 obtain ⟨q0, q1⟩ := pl_two h1
                 obtain ⟨f0, f1⟩ := pl_two h2
                 obtain ⟨g0, g1⟩ := pl_two h3
                 obtain ⟨c1, c2, c3⟩ := HC.out _ hbw
                 conv => lhs; simp [go_sem, *, kl]
                 first | done | exact rfl)
          simp only [Act.put, List.setIfInBounds_toArray, List.set_cons_zero, List.set_cons_succ]
        refine seq_on rfl rfl fun K hK => ?_
        go_wp2_with (go_at_call 47; refine (ATA.out _ (KB.out _ HB.out.drew).1).mono ?_; rintro e w3 ⟨rfl, b3⟩)
        have B3 := Lib.hid (then_ HB.out.drew b3 HB.out.drew.size)
        refine hK _ _ B3.out ?_
        clear hK K b3
        refine seq_on rfl rfl fun K hK => ?_
        go_wp2_with (go_at_call 47; refine (ATB.out _ (KB.out _ B3.out).1).mono ?_; rintro e w4 ⟨rfl, b4⟩)
        have B4 := Lib.hid (then_ B3.out b4 B3.out.size)
        refine hK _ _ B4.out ?_
        clear hK K b4
        refine seq_on rfl rfl fun K hK => ?_
        go_wp2_with (go_at_call 60; refine (CK.out _).mono ?_; rintro e w5 ⟨rfl, b5⟩)
        have B5 := Lib.hid (then_ B4.out b5 B4.out.size)
        refine hK _ _ B5.out ?_
        clear hK K b5
        refine seq_end ?_
        go_wp2
        go_roundw
        case rel =>
          refine ⟨k + 1, by omega, by go_num, Lib.hid fun i hi hik => ?_, B5⟩
          rcases Nat.lt_succ_iff_lt_or_eq.1 hik with hik | rfl
          · exact hno.out i hi hik
          · rw [← HX.out]; exact HT.out
        case measure => simp [intOf] <;> omega
    · obtain rfl : R = false := NO.out fun i hi hin => hno.out i hi (by omega)
      go_wp2
      go_ret
      exact ⟨rfl, hbw⟩
set_option maxRecDepth 10000 in
theorem rdegree_any (v e : Value) (es : List Eg) (i : Int) (w : World) (h : EIn w e es) (he : ∃ a l c, v = .slice a l c) (hn : es.length ≤ 100000) :
    Calls Try.prog 30 #[.agg #[v, e], .int .i64 i] w fun x w' => x = .returned (.int .i64 (deg es i : Nat)) ∧ Below w.heap.size w w' := by
  obtain ⟨a, cap, rfl, hc1, hc2, -, hcl⟩ := TIn.open_ h
  obtain ⟨ea, el, ec, rfl⟩ := he
  obtain ⟨R, hR⟩ : ∃ R, R = deg es i := ⟨_, rfl⟩
  rw [← hR]
  have HR := Lib.hid hR
  clear hR h
  obtain ⟨n, hnn⟩ : ∃ n, n = es.length := ⟨_, rfl⟩
  rw [← hnn] at hc1 hn ⊢
  have HN := Lib.hid hnn
  clear hnn
  have OB := Lib.hid (Own.made w 25 #[.slice ea el ec, .slice a n cap])
  have BB := Lib.hid (bx1 w 25 #[.slice ea el ec, .slice a n cap])
  go_enter Try.func30, Try.ntmps30
  go_wp2
  go_loopw [5, 6] (fun t j wr => ∃ k d : Nat, k ≤ n ∧ d ≤ 2 * k ∧ j = .int .i64 (k : Int) ∧ t = .int .i64 (d : Int) ∧ Hid (d = deg (es.take k) i) ∧ Hid (Below w.heap.size w wr) ∧ Hid (Own wr w.heap.size 25 #[.slice ea el ec, .slice a n cap])) (fun t j wr => n - (intOf j).toNat)
  case atStart => exact ⟨0, 0, by omega, by omega, rfl, rfl, Lib.hid rfl, BB, OB⟩
  case round =>
    obtain ⟨k, d, hk, hd, rfl, rfl, HD, HB, HO⟩ := hrel
    obtain ⟨p1, p2, p3⟩ := HO.out.at_
    by_cases hlt : k < n
    · have hkl : k < es.length := by rw [← HN.out]; exact hlt
      obtain ⟨b, o, rfl, hb, hc⟩ := hcl k hkl
      obtain ⟨c1, c2, c3⟩ := hc wr HB.out
      have HU := Lib.hid (deg_up es i k hkl)
      obtain ⟨x, hx⟩ : ∃ x, x = es[k]'hkl := ⟨_, rfl⟩
      rw [← hx] at c1 c2 c3 HU
      clear hx hcl hc
      obtain ⟨x1, x2, x3⟩ := x
      simp only at c1 c2 c3
      rcases eqq x2 i with ⟨h2, ht2⟩ | ⟨h2, ht2⟩ <;> rcases eqq x3 i with ⟨h3, ht3⟩ | ⟨h3, ht3⟩
      all_goals
        have HU2 := HU.out
        unfold dg at HU2
        simp only [h2, h3, if_true, if_false] at HU2
        replace HU2 := Lib.hid HU2
        clear HU h2 h3
        go_wp2
        go_roundw
        case rel =>
          first
            | exact ⟨k + 1, d + 2, by omega, by omega, by go_num, by go_num, Lib.hid (by rw [HU2.out, ← HD.out]), HB, HO⟩
            | exact ⟨k + 1, d + 1, by omega, by omega, by go_num, by go_num, Lib.hid (by rw [HU2.out, ← HD.out]), HB, HO⟩
            | exact ⟨k + 1, d, by omega, by omega, by go_num, by go_num, Lib.hid (by rw [HU2.out, ← HD.out]; rfl), HB, HO⟩
        case measure => simp [intOf] <;> omega
    · have e : (d : Int) = (R : Int) := by
        rw [HR.out, HD.out, List.take_of_length_le (by rw [← HN.out]; omega)]
      go_wp2
      refine bodyPost_ret (by simp [results, Try.results30, go_sem]) rfl ⟨ret_eq e, HB.out⟩
end Go.Proofs.Ytdkmclaihojknaa.Pl