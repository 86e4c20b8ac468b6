
/- The reference's Drop and Cut. Conditions: those that each theorem names. -/
import Derived.Test.YtdkmclaihojknaaPlnZ
import Derived.Test.YtdkmclaihojknaaMem2
namespace Go.Proofs.Ytdkmclaihojknaa.Pl
open Go.ChangeShapes Go.WideShapes Go.ChangeAt Go.RowKit
set_option linter.unusedVariables false
set_option linter.unusedSimpArgs false
theorem filt_up {α : Type} (P : α → Bool) (L : List α) (k : Nat) (hk : k < L.length) : (L.take (k + 1)).filter P = (L.take k).filter P ++ (if P (L[k]'hk) = true then [L[k]'hk] else []) := by
  rw [List.take_add_one, List.getElem?_eq_getElem hk, List.filter_append]
  congr 1
  simp only [Option.toList_some, List.filter_cons, List.filter_nil]
section
variable {v e : Value} {vs : List Vx} {es : List Eg} {w : World}
set_option maxRecDepth 10000 in
set_option maxHeartbeats 2000000 in
theorem rdrop_any (a1 : Int) (hv : VIn w v vs) (he : EIn w e es) (hn : vs.length ≤ 1000) (hm : es.length ≤ 1000) : Calls Try.prog 22 #[.agg #[v, e], .int .i64 a1] w fun r w' => ∃ v' e', r = .returned (.agg #[v', e']) ∧ VIn w' v' (vs.filter fun u => u.id != a1) ∧ EIn w' e' es ∧ Below w.heap.size w w' := by
  obtain ⟨i0, hi0, hz0, hz1, hz2⟩ := info_pr info_Vertex
  have CP : Hid (∀ W v8 e8 vs8 es8, VIn W v8 vs8 → EIn W e8 es8 → vs8.length ≤ 1000 → es8.length ≤ 1000 → Calls Try.prog 43 #[.agg #[v8, e8]] W fun r w' => ∃ v' e', r = .returned (.agg #[v', e']) ∧ VOwn w' W.heap.size v' vs8 ∧ EOwn w' W.heap.size e' es8 ∧ Below W.heap.size W w') := Lib.hid fun W v8 e8 vs8 es8 h1 h2 h3 h4 => copied_any h1 h2 h3 h4
  have HO : Hid (∀ W, Below w.heap.size w W → EIn W e es) := Lib.hid fun W hW => TIn.below he hW
  obtain ⟨a, cap, hvs, hc1, hc2, -, hcl⟩ := TIn.open_ hv
  obtain ⟨a', cap', hes⟩ := he.sl
  subst hvs hes
  have HC := Lib.hid hcl
  clear hcl hv he hc1 hc2
  obtain ⟨n, hnn⟩ : ∃ n, n = vs.length := ⟨_, rfl⟩
  obtain ⟨m, hmm⟩ : ∃ m, m = es.length := ⟨_, rfl⟩
  have HN := Lib.hid hnn
  have HM := Lib.hid hmm
  rw [← hnn] at hn ⊢
  rw [← hmm] at hm HO ⊢
  clear hnn hmm
  have B0 : Hid (Below w.heap.size w (((w.alloc (.cells #[.slice a n cap, .slice a' m cap'] 25)).alloc (.cells #[.slice none 0 0, .slice none 0 0] 25)).alloc (.cells #[.slice none 0 0, .slice a' m cap'] 25))) := Lib.hid (by repeat' (first | (with_reducible exact Below.refl _ _) | (with_reducible assumption) | (with_reducible refine below_drewN ?_ _) | (with_reducible refine Below.drew ?_) | (with_reducible refine Below.alloc ?_ ?_ _) | (with_reducible refine Below.setCell ?_ ?_ _) | (with_reducible refine then_ ?_ (by with_reducible assumption) ?_) | (with_reducible exact Nat.le_refl _) | (with_reducible exact Nat.le_succ _) | (with_reducible exact Nat.le_succ_of_le (by with_reducible assumption)) | omega | (simp; done) | (simp; omega) | (exact Nat.le_succ _) | (exact Nat.le_succ_of_le (by with_reducible assumption))))
  have O0 : Hid (Own (((w.alloc (.cells #[.slice a n cap, .slice a' m cap'] 25)).alloc (.cells #[.slice none 0 0, .slice none 0 0] 25)).alloc (.cells #[.slice none 0 0, .slice a' m cap'] 25)) w.heap.size 25 #[.slice a n cap, .slice a' m cap']) := Lib.hid (((Own.made _ _ _).more _).more _)
  have R0 : Hid (Own (((w.alloc (.cells #[.slice a n cap, .slice a' m cap'] 25)).alloc (.cells #[.slice none 0 0, .slice none 0 0] 25)).alloc (.cells #[.slice none 0 0, .slice a' m cap'] 25)) (w.heap.size + 1) 25 #[.slice none 0 0, .slice none 0 0]) := Lib.hid (Own.more (Own.made_at (by simp)) _)
  have Q0 : Hid (Own (((w.alloc (.cells #[.slice a n cap, .slice a' m cap'] 25)).alloc (.cells #[.slice none 0 0, .slice none 0 0] 25)).alloc (.cells #[.slice none 0 0, .slice a' m cap'] 25)) (w.heap.size + 2) 25 #[.slice none 0 0, .slice a' m cap']) := Lib.hid (Own.made_at (by simp))
  go_enter Try.func22, Try.ntmps22
  go_upto_region 2 with fail
  generalize hW0 : ((w.alloc (.cells #[.slice a n cap, .slice a' m cap'] 25)).alloc (.cells #[.slice none 0 0, .slice none 0 0] 25)).alloc (.cells #[.slice none 0 0, .slice a' m cap'] 25) = W0 at B0 O0 R0 Q0 ⊢
  clear hW0
  go_wp2
  go_loopw [6] (fun j wr => ∃ (k d : Nat) (ya : Option Addr) (yc : Nat), k ≤ n ∧ d ≤ k ∧ j = .int .i64 (k : Int) ∧ Hid (VOwn wr w.heap.size (.slice ya d yc) ((vs.take k).filter fun u => u.id != a1)) ∧ Hid (Own wr w.heap.size 25 #[.slice a n cap, .slice a' m cap']) ∧ Hid (Own wr (w.heap.size + 1) 25 #[.slice none 0 0, .slice none 0 0]) ∧ Hid (Own wr (w.heap.size + 2) 25 #[.slice ya d yc, .slice a' m cap']) ∧ Hid (Below w.heap.size w wr)) (fun j wr => n - (intOf j).toNat)
  case atStart => exact ⟨0, 0, none, 0, by omega, by omega, rfl, Lib.hid (TOwn.nil W0 w.heap.size), O0, R0, Q0, B0⟩
  case round =>
    clear O0 R0 Q0 B0
    obtain ⟨k, d, ya, yc, hk, hd, rfl, HY, HP, HR, HQ, HB⟩ := hrel
    obtain ⟨p0, p1⟩ := pl_two2 HP.out
    by_cases hlk : k < n
    · have hkl : k < vs.length := by rw [← HN.out]; exact hlk
      obtain ⟨b7, o7, rfl, hb7, hc7⟩ := HC.out k hkl
      have H7 := Lib.hid hc7
      have FU := Lib.hid (filt_up (fun u => Vx.id u != a1) vs k hkl)
      obtain ⟨y0, hy⟩ : ∃ y0, y0 = vs[k]'hkl := ⟨_, rfl⟩
      rw [← hy] at H7 FU
      clear hy hc7 hkl
      obtain ⟨y1, y2, y3⟩ := y0
      obtain ⟨f0, f1, f2⟩ := H7.out _ HB.out
      simp only at f0 f1 f2 FU
      have k9 : (k : Int) < (n : Int) := by omega
      by_cases hid : y1 = a1
      · have FU2 : Hid ((vs.take (k + 1)).filter (fun u => u.id != a1) = (vs.take k).filter fun u => u.id != a1) := Lib.hid (by rw [FU.out, if_neg (by simp [hid]), List.append_nil])
        clear FU
        subst hid
        go_wp2
        go_roundw
        case rel => exact ⟨k + 1, d, ya, yc, by omega, by omega, by go_num, Lib.hid (by rw [FU2.out]; exact HY.out), HP, HR, HQ, HB⟩
        case measure => simp [intOf] <;> omega
      · have FU2 : Hid ((vs.take (k + 1)).filter (fun u => u.id != a1) = ((vs.take k).filter fun u => u.id != a1) ++ [⟨y1, y2, y3⟩]) := Lib.hid (by rw [FU.out, if_pos (by simp [hid])])
        clear FU
        have HLN : Hid (d = ((vs.take k).filter fun u => u.id != a1).length) := Lib.hid (by obtain ⟨_, _, e⟩ := HY.out.shape; injection e)
        have BX : Hid (Below wr.heap.size wr (wr.alloc (.cells #[.int .i64 y1, .int .i64 y2, .int .i64 y3] 31)).drew) := Lib.hid ((bx1 _ _ _).drew)
        have NEW := Lib.hid (one_in Vx.id Vx.x Vx.y wr 31 (⟨y1, y2, y3⟩ : Vx))
        have KS : Hid (∀ w9, (wr.alloc (.cells #[.int .i64 y1, .int .i64 y2, .int .i64 y3] 31)).drew.grownBy w9 (Value.slice ya d yc).ownBlock → Below w.heap.size w w9 ∧ Own w9 w.heap.size 25 #[.slice (some ⟨b7, o7, none⟩) n cap, .slice a' m cap'] ∧ Own w9 (w.heap.size + 2) 25 #[.slice ya d yc, .slice a' m cap'] ∧ Own w9 (w.heap.size + 1) 25 #[.slice none 0 0, .slice none 0 0]) := Lib.hid fun w9 hg => by
          have hc : Chg (fun q => (Value.slice ya d yc).ownBlock = some q) _ w9 := (Chg.refl _ _).grown hg fun k hk => .inl hk
          have k : ∀ {q : Nat} {T : TypeId} {cs : Array Value}, Own (wr.alloc (.cells #[.int .i64 y1, .int .i64 y2, .int .i64 y3] 31)).drew q T cs → T ≠ 31 → Own w9 q T cs := fun ho hT => hc.own ho fun e => by
            obtain ⟨_, cur, ho2⟩ := (TOwn.below HY.out BX.out).own e
            exact own_ty ho ho2 hT rfl
          have b9 := then_ HB.out BX.out HB.out.size
          exact ⟨b9.trans (hc.below b9.size fun q e => ((TOwn.below HY.out BX.out).own e).1), k (HP.out.keep BX.out) (by decide), k (HQ.out.keep BX.out) (by decide), k (HR.out.keep BX.out) (by decide)⟩
        go_upto_region 6 with fail
        clear p0 p1 f0 f1 f2
        refine wp_region_seq (fun W => Below w.heap.size w W ∧ Own W w.heap.size 25 #[.slice (some ⟨b7, o7, none⟩) n cap, .slice a' m cap'] ∧ Own W (w.heap.size + 2) 25 #[.slice ya d yc, .slice a' m cap']) (0 :: 1 :: 2 :: 3 :: 4 :: 5 :: 6 :: 9 :: []) (1 :: 3 :: 6 :: []) (0 :: 1 :: 2 :: 3 :: 4 :: 5 :: 6 :: 7 :: 8 :: 9 :: 10 :: []) (by kernel_rfl) (by kernel_rfl) rfl (by kernel_rfl) rfl (⟨HB.out.drew, HP.out, HQ.out⟩) (by simp only [picked, List.filterMap_cons, List.filterMap_nil, List.getElem?_cons_zero, List.getElem?_cons_succ, Option.map_some]; exact rfl) ?_
        iterate 7
          refine seq_want (v := ?_) rfl rfl (fun W hS => ?_) ?_
          rotate_left
          · first
              | (conv => lhs; simp [go_sem, k9]
                 first | done | exact rfl)
              | (have hS := hS rfl
                 obtain ⟨hbw, h1, h2⟩ := hS
                 obtain ⟨p0, p1⟩ := pl_two2 h1
                 obtain ⟨q0, q1⟩ := pl_two2 h2
                 obtain ⟨f0, f1, f2⟩ := H7.out _ hbw
                 conv => lhs; simp [go_sem, *, k9]
                 first | done | exact rfl)
          simp only [Act.put, List.setIfInBounds_toArray, List.set_cons_zero, List.set_cons_succ]
        refine seq_on rfl rfl fun K hK => ?_
        go_wp2
        refine hK _ _ (⟨then_ HB.out BX.out HB.out.size, HP.out.keep BX.out, HQ.out.keep BX.out⟩) ?_
        clear hK K
        refine seq_on rfl rfl fun K hK => ?_
        go_wp2_with (at_builtin; refine wpList_app_rows (P := Try.prog) (w := (wr.alloc (.cells #[.int .i64 y1, .int .i64 y2, .int .i64 y3] 31)).drew) (B := w.heap.size) (T := 31) (t := 22) rfl _ _ rfl Try.underlying22 hi0 hz0 hz1 hz2 rfl rfl rfl (Nat.le_trans HB.out.size BX.out.size) (TOwn.below HY.out BX.out) NEW.out (by rw [← HLN.out, List.length_singleton]; omega) ?_; intro v9 w9 hown hgrow; have HO9 := Lib.hid hown; have HG9 := Lib.hid hgrow; obtain ⟨za, zc, e9⟩ := hown.shape; rw [List.length_append, List.length_singleton, ← HLN.out] at e9; subst e9; clear hown hgrow)
        have S9 := Lib.hid (KS.out _ HG9.out)
        obtain ⟨q0, q1⟩ := pl_two2 S9.out.2.2.1
        have ff := S9.out.2.2.1.at_.2.1
        refine hK _ _ (⟨S9.out.1, S9.out.2.1, S9.out.2.2.1⟩) ?_
        clear hK K
        iterate 1
          refine seq_want (v := ?_) rfl rfl (fun W hS => ?_) ?_
          rotate_left
          · first
              | (conv => lhs; simp [go_sem, k9]
                 first | done | exact rfl)
              | (have hS := hS rfl
                 obtain ⟨hbw, h1, h2⟩ := hS
                 obtain ⟨p0, p1⟩ := pl_two2 h1
                 obtain ⟨q0, q1⟩ := pl_two2 h2
                 obtain ⟨f0, f1, f2⟩ := H7.out _ hbw
                 conv => lhs; simp [go_sem, *, k9]
                 first | done | exact rfl)
          simp only [Act.put, List.setIfInBounds_toArray, List.set_cons_zero, List.set_cons_succ]
        refine seq_last rfl rfl (by kernel_rfl) rfl fun K hK => ?_
        go_wp2
        refine hK _ _ ?_
        clear hK K
        refine seq_end ?_
        have CC : Chg (fun q => q = w.heap.size + 2) w9 (w9.setCell ⟨w.heap.size + 2, 0, none⟩ (.slice za (d + 1) zc)) := (Chg.refl (fun q => q = w.heap.size + 2) w9).set ⟨w.heap.size + 2, 0, none⟩ (.inl rfl) _
        have Y10 : Hid (VOwn (w9.setCell ⟨w.heap.size + 2, 0, none⟩ (.slice za (d + 1) zc)) w.heap.size (.slice za (d + 1) zc) ((vs.take (k + 1)).filter fun u => u.id != a1)) := Lib.hid (by
          rw [FU2.out]
          exact HO9.out.keep CC fun g hg e => by
            obtain ⟨_, cur, ho⟩ := HO9.out.own hg
            exact own_ty ho S9.out.2.2.1 (by decide) e)
        have P10 := Lib.hid (CC.own S9.out.2.1 fun e => by omega)
        have R10 := Lib.hid (CC.own S9.out.2.2.2 fun e => by omega)
        have Q10 : Hid (Own (w9.setCell ⟨w.heap.size + 2, 0, none⟩ (.slice za (d + 1) zc)) (w.heap.size + 2) 25 #[.slice za (d + 1) zc, .slice a' m cap']) := Lib.hid ((S9.out.2.2.1.put 0 (.slice za (d + 1) zc)).as (by simp))
        have B10 := Lib.hid (S9.out.1.trans (CC.below S9.out.1.size fun q e => by omega))
        clear S9 HO9 HG9 CC KS NEW BX q0 q1 ff
        go_wp2
        go_roundw
        case rel => exact ⟨k + 1, d + 1, za, zc, by omega, by omega, by go_num, Y10, P10, R10, Q10, B10⟩
        case measure => simp [intOf] <;> omega
    · have FF : Hid ((vs.take k).filter (fun u => u.id != a1) = vs.filter fun u => u.id != a1) := Lib.hid (by rw [List.take_of_length_le (by rw [← HN.out]; omega)])
      have HV8 := Lib.hid (FF.out ▸ TOwn.in_ HY.out)
      have LF : (vs.filter fun u => u.id != a1).length ≤ 1000 := Nat.le_trans (List.length_filter_le _ _) (by rw [← HN.out]; first | exact hn | exact hm)
      have OL : es.length ≤ 1000 := by rw [← HM.out]; first | exact hn | exact hm
      have CC := Lib.hid (fun W (hW : Below wr.heap.size wr W) => CP.out W _ _ _ _ (TIn.below HV8.out hW) (HO.out W (then_ HB.out hW HB.out.size)) LF OL)
      clear CP HC HO
      obtain ⟨q0, q1⟩ := pl_two2 HQ.out
      go_wp2_with (go_at_call 43; refine (CC.out _ (Below.refl _ _)).mono ?_; rintro r w9 ⟨v9, e9, rfl, hv9, he9, b9⟩; obtain ⟨sa, sc, rfl⟩ := hv9.shape; obtain ⟨sb, sd, rfl⟩ := he9.shape; have V9 := Lib.hid hv9; have E9 := Lib.hid he9; have B9 := Lib.hid b9; have R9 := Lib.hid (HR.out.keep b9); clear hv9 he9 b9; obtain ⟨r0, r1⟩ := pl_two2 R9.out; have ff := R9.out.at_.2.1)
      have C10 : Chg (fun q => q = w.heap.size + 1) w9 ((w9.setCell ⟨w.heap.size + 1, 0, none⟩ (.slice sa (vs.filter fun u => u.id != a1).length sc)).setCell ⟨w.heap.size + 1, 1, none⟩ (.slice sb es.length sd)) := ((Chg.refl (fun q => q = w.heap.size + 1) w9).set ⟨w.heap.size + 1, 0, none⟩ (.inl rfl) _).set ⟨w.heap.size + 1, 1, none⟩ (.inl rfl) _
      have B11 := then_ HB.out B9.out HB.out.size
      refine bodyPost_ret (v := .agg #[.slice sa (vs.filter fun u => u.id != a1).length sc, .slice sb es.length sd]) (by simp [results, Try.results22, go_sem, r0, r1]) rfl ⟨_, _, rfl, ?_, ?_, ?_⟩
      · exact (V9.out.keep C10 fun g hg k => by
          obtain ⟨_, cur, ho⟩ := V9.out.own hg
          exact own_ty ho R9.out (by decide) k).in_
      · exact (E9.out.keep C10 fun g hg k => by
          obtain ⟨_, cur, ho⟩ := E9.out.own hg
          exact own_ty ho R9.out (by decide) k).in_
      · exact B11.trans (C10.below B11.size fun q k => by omega)
set_option maxRecDepth 10000 in
set_option maxHeartbeats 2000000 in
theorem rcut_any (a1 : Int) (hv : VIn w v vs) (he : EIn w e es) (hn : vs.length ≤ 1000) (hm : es.length ≤ 1000) : Calls Try.prog 23 #[.agg #[v, e], .int .i64 a1] w fun r w' => ∃ v' e', r = .returned (.agg #[v', e']) ∧ VIn w' v' vs ∧ EIn w' e' (es.filter fun u => u.id != a1) ∧ Below w.heap.size w w' := by
  obtain ⟨i0, hi0, hz0, hz1, hz2⟩ := info_pr info_Edge
  have CP : Hid (∀ W v8 e8 vs8 es8, VIn W v8 vs8 → EIn W e8 es8 → vs8.length ≤ 1000 → es8.length ≤ 1000 → Calls Try.prog 43 #[.agg #[v8, e8]] W fun r w' => ∃ v' e', r = .returned (.agg #[v', e']) ∧ VOwn w' W.heap.size v' vs8 ∧ EOwn w' W.heap.size e' es8 ∧ Below W.heap.size W w') := Lib.hid fun W v8 e8 vs8 es8 h1 h2 h3 h4 => copied_any h1 h2 h3 h4
  have HO : Hid (∀ W, Below w.heap.size w W → VIn W v vs) := Lib.hid fun W hW => TIn.below hv hW
  obtain ⟨a, cap, hvs, hc1, hc2, -, hcl⟩ := TIn.open_ he
  obtain ⟨a', cap', hes⟩ := hv.sl
  subst hvs hes
  have HC := Lib.hid hcl
  clear hcl hv he hc1 hc2
  obtain ⟨n, hnn⟩ : ∃ n, n = es.length := ⟨_, rfl⟩
  obtain ⟨m, hmm⟩ : ∃ m, m = vs.length := ⟨_, rfl⟩
  have HN := Lib.hid hnn
  have HM := Lib.hid hmm
  rw [← hnn] at hm ⊢
  rw [← hmm] at hn HO ⊢
  clear hnn hmm
  have B0 : Hid (Below w.heap.size w (((w.alloc (.cells #[.slice a' m cap', .slice a n cap] 25)).alloc (.cells #[.slice none 0 0, .slice none 0 0] 25)).alloc (.cells #[.slice a' m cap', .slice none 0 0] 25))) := Lib.hid (by repeat' (first | (with_reducible exact Below.refl _ _) | (with_reducible assumption) | (with_reducible refine below_drewN ?_ _) | (with_reducible refine Below.drew ?_) | (with_reducible refine Below.alloc ?_ ?_ _) | (with_reducible refine Below.setCell ?_ ?_ _) | (with_reducible refine then_ ?_ (by with_reducible assumption) ?_) | (with_reducible exact Nat.le_refl _) | (with_reducible exact Nat.le_succ _) | (with_reducible exact Nat.le_succ_of_le (by with_reducible assumption)) | omega | (simp; done) | (simp; omega) | (exact Nat.le_succ _) | (exact Nat.le_succ_of_le (by with_reducible assumption))))
  have O0 : Hid (Own (((w.alloc (.cells #[.slice a' m cap', .slice a n cap] 25)).alloc (.cells #[.slice none 0 0, .slice none 0 0] 25)).alloc (.cells #[.slice a' m cap', .slice none 0 0] 25)) w.heap.size 25 #[.slice a' m cap', .slice a n cap]) := Lib.hid (((Own.made _ _ _).more _).more _)
  have R0 : Hid (Own (((w.alloc (.cells #[.slice a' m cap', .slice a n cap] 25)).alloc (.cells #[.slice none 0 0, .slice none 0 0] 25)).alloc (.cells #[.slice a' m cap', .slice none 0 0] 25)) (w.heap.size + 1) 25 #[.slice none 0 0, .slice none 0 0]) := Lib.hid (Own.more (Own.made_at (by simp)) _)
  have Q0 : Hid (Own (((w.alloc (.cells #[.slice a' m cap', .slice a n cap] 25)).alloc (.cells #[.slice none 0 0, .slice none 0 0] 25)).alloc (.cells #[.slice a' m cap', .slice none 0 0] 25)) (w.heap.size + 2) 25 #[.slice a' m cap', .slice none 0 0]) := Lib.hid (Own.made_at (by simp))
  go_enter Try.func23, Try.ntmps23
  go_upto_region 2 with fail
  generalize hW0 : ((w.alloc (.cells #[.slice a' m cap', .slice a n cap] 25)).alloc (.cells #[.slice none 0 0, .slice none 0 0] 25)).alloc (.cells #[.slice a' m cap', .slice none 0 0] 25) = W0 at B0 O0 R0 Q0 ⊢
  clear hW0
  go_wp2
  go_loopw [6] (fun j wr => ∃ (k d : Nat) (ya : Option Addr) (yc : Nat), k ≤ n ∧ d ≤ k ∧ j = .int .i64 (k : Int) ∧ Hid (EOwn wr w.heap.size (.slice ya d yc) ((es.take k).filter fun u => u.id != a1)) ∧ Hid (Own wr w.heap.size 25 #[.slice a' m cap', .slice a n cap]) ∧ Hid (Own wr (w.heap.size + 1) 25 #[.slice none 0 0, .slice none 0 0]) ∧ Hid (Own wr (w.heap.size + 2) 25 #[.slice a' m cap', .slice ya d yc]) ∧ Hid (Below w.heap.size w wr)) (fun j wr => n - (intOf j).toNat)
  case atStart => exact ⟨0, 0, none, 0, by omega, by omega, rfl, Lib.hid (TOwn.nil W0 w.heap.size), O0, R0, Q0, B0⟩
  case round =>
    clear O0 R0 Q0 B0
    obtain ⟨k, d, ya, yc, hk, hd, rfl, HY, HP, HR, HQ, HB⟩ := hrel
    obtain ⟨p0, p1⟩ := pl_two2 HP.out
    by_cases hlk : k < n
    · have hkl : k < es.length := by rw [← HN.out]; exact hlk
      obtain ⟨b7, o7, rfl, hb7, hc7⟩ := HC.out k hkl
      have H7 := Lib.hid hc7
      have FU := Lib.hid (filt_up (fun u => Eg.id u != a1) es k hkl)
      obtain ⟨y0, hy⟩ : ∃ y0, y0 = es[k]'hkl := ⟨_, rfl⟩
      rw [← hy] at H7 FU
      clear hy hc7 hkl
      obtain ⟨y1, y2, y3⟩ := y0
      obtain ⟨f0, f1, f2⟩ := H7.out _ HB.out
      simp only at f0 f1 f2 FU
      have k9 : (k : Int) < (n : Int) := by omega
      by_cases hid : y1 = a1
      · have FU2 : Hid ((es.take (k + 1)).filter (fun u => u.id != a1) = (es.take k).filter fun u => u.id != a1) := Lib.hid (by rw [FU.out, if_neg (by simp [hid]), List.append_nil])
        clear FU
        subst hid
        go_wp2
        go_roundw
        case rel => exact ⟨k + 1, d, ya, yc, by omega, by omega, by go_num, Lib.hid (by rw [FU2.out]; exact HY.out), HP, HR, HQ, HB⟩
        case measure => simp [intOf] <;> omega
      · have FU2 : Hid ((es.take (k + 1)).filter (fun u => u.id != a1) = ((es.take k).filter fun u => u.id != a1) ++ [⟨y1, y2, y3⟩]) := Lib.hid (by rw [FU.out, if_pos (by simp [hid])])
        clear FU
        have HLN : Hid (d = ((es.take k).filter fun u => u.id != a1).length) := Lib.hid (by obtain ⟨_, _, e⟩ := HY.out.shape; injection e)
        have BX : Hid (Below wr.heap.size wr (wr.alloc (.cells #[.int .i64 y1, .int .i64 y2, .int .i64 y3] 33)).drew) := Lib.hid ((bx1 _ _ _).drew)
        have NEW := Lib.hid (one_in Eg.id Eg.a Eg.b wr 33 (⟨y1, y2, y3⟩ : Eg))
        have KS : Hid (∀ w9, (wr.alloc (.cells #[.int .i64 y1, .int .i64 y2, .int .i64 y3] 33)).drew.grownBy w9 (Value.slice ya d yc).ownBlock → Below w.heap.size w w9 ∧ Own w9 w.heap.size 25 #[.slice a' m cap', .slice (some ⟨b7, o7, none⟩) n cap] ∧ Own w9 (w.heap.size + 2) 25 #[.slice a' m cap', .slice ya d yc] ∧ Own w9 (w.heap.size + 1) 25 #[.slice none 0 0, .slice none 0 0]) := Lib.hid fun w9 hg => by
          have hc : Chg (fun q => (Value.slice ya d yc).ownBlock = some q) _ w9 := (Chg.refl _ _).grown hg fun k hk => .inl hk
          have k : ∀ {q : Nat} {T : TypeId} {cs : Array Value}, Own (wr.alloc (.cells #[.int .i64 y1, .int .i64 y2, .int .i64 y3] 33)).drew q T cs → T ≠ 33 → Own w9 q T cs := fun ho hT => hc.own ho fun e => by
            obtain ⟨_, cur, ho2⟩ := (TOwn.below HY.out BX.out).own e
            exact own_ty ho ho2 hT rfl
          have b9 := then_ HB.out BX.out HB.out.size
          exact ⟨b9.trans (hc.below b9.size fun q e => ((TOwn.below HY.out BX.out).own e).1), k (HP.out.keep BX.out) (by decide), k (HQ.out.keep BX.out) (by decide), k (HR.out.keep BX.out) (by decide)⟩
        go_upto_region 6 with fail
        clear p0 p1 f0 f1 f2
        refine wp_region_seq (fun W => Below w.heap.size w W ∧ Own W w.heap.size 25 #[.slice a' m cap', .slice (some ⟨b7, o7, none⟩) n cap] ∧ Own W (w.heap.size + 2) 25 #[.slice a' m cap', .slice ya d yc]) (0 :: 1 :: 2 :: 3 :: 4 :: 5 :: 6 :: 9 :: []) (1 :: 3 :: 6 :: []) (0 :: 1 :: 2 :: 3 :: 4 :: 5 :: 6 :: 7 :: 8 :: 9 :: 10 :: []) (by kernel_rfl) (by kernel_rfl) rfl (by kernel_rfl) rfl (⟨HB.out.drew, HP.out, HQ.out⟩) (by simp only [picked, List.filterMap_cons, List.filterMap_nil, List.getElem?_cons_zero, List.getElem?_cons_succ, Option.map_some]; exact rfl) ?_
        iterate 7
          refine seq_want (v := ?_) rfl rfl (fun W hS => ?_) ?_
          rotate_left
          · first
              | (conv => lhs; simp [go_sem, k9]
                 first | done | exact rfl)
              | (have hS := hS rfl
                 obtain ⟨hbw, h1, h2⟩ := hS
                 obtain ⟨p0, p1⟩ := pl_two2 h1
                 obtain ⟨q0, q1⟩ := pl_two2 h2
                 obtain ⟨f0, f1, f2⟩ := H7.out _ hbw
                 conv => lhs; simp [go_sem, *, k9]
                 first | done | exact rfl)
          simp only [Act.put, List.setIfInBounds_toArray, List.set_cons_zero, List.set_cons_succ]
        refine seq_on rfl rfl fun K hK => ?_
        go_wp2
        refine hK _ _ (⟨then_ HB.out BX.out HB.out.size, HP.out.keep BX.out, HQ.out.keep BX.out⟩) ?_
        clear hK K
        refine seq_on rfl rfl fun K hK => ?_
        go_wp2_with (at_builtin; refine wpList_app_rows (P := Try.prog) (w := (wr.alloc (.cells #[.int .i64 y1, .int .i64 y2, .int .i64 y3] 33)).drew) (B := w.heap.size) (T := 33) (t := 23) rfl _ _ rfl Try.underlying23 hi0 hz0 hz1 hz2 rfl rfl rfl (Nat.le_trans HB.out.size BX.out.size) (TOwn.below HY.out BX.out) NEW.out (by rw [← HLN.out, List.length_singleton]; omega) ?_; intro v9 w9 hown hgrow; have HO9 := Lib.hid hown; have HG9 := Lib.hid hgrow; obtain ⟨za, zc, e9⟩ := hown.shape; rw [List.length_append, List.length_singleton, ← HLN.out] at e9; subst e9; clear hown hgrow)
        have S9 := Lib.hid (KS.out _ HG9.out)
        obtain ⟨q0, q1⟩ := pl_two2 S9.out.2.2.1
        have ff := S9.out.2.2.1.at_.2.1
        refine hK _ _ (⟨S9.out.1, S9.out.2.1, S9.out.2.2.1⟩) ?_
        clear hK K
        iterate 1
          refine seq_want (v := ?_) rfl rfl (fun W hS => ?_) ?_
          rotate_left
          · first
              | (conv => lhs; simp [go_sem, k9]
                 first | done | exact rfl)
              | (have hS := hS rfl
                 obtain ⟨hbw, h1, h2⟩ := hS
                 obtain ⟨p0, p1⟩ := pl_two2 h1
                 obtain ⟨q0, q1⟩ := pl_two2 h2
                 obtain ⟨f0, f1, f2⟩ := H7.out _ hbw
                 conv => lhs; simp [go_sem, *, k9]
                 first | done | exact rfl)
          simp only [Act.put, List.setIfInBounds_toArray, List.set_cons_zero, List.set_cons_succ]
        refine seq_last rfl rfl (by kernel_rfl) rfl fun K hK => ?_
        go_wp2
        refine hK _ _ ?_
        clear hK K
        refine seq_end ?_
        have CC : Chg (fun q => q = w.heap.size + 2) w9 (w9.setCell ⟨w.heap.size + 2, 1, none⟩ (.slice za (d + 1) zc)) := (Chg.refl (fun q => q = w.heap.size + 2) w9).set ⟨w.heap.size + 2, 1, none⟩ (.inl rfl) _
        have Y10 : Hid (EOwn (w9.setCell ⟨w.heap.size + 2, 1, none⟩ (.slice za (d + 1) zc)) w.heap.size (.slice za (d + 1) zc) ((es.take (k + 1)).filter fun u => u.id != a1)) := Lib.hid (by
          rw [FU2.out]
          exact HO9.out.keep CC fun g hg e => by
            obtain ⟨_, cur, ho⟩ := HO9.out.own hg
            exact own_ty ho S9.out.2.2.1 (by decide) e)
        have P10 := Lib.hid (CC.own S9.out.2.1 fun e => by omega)
        have R10 := Lib.hid (CC.own S9.out.2.2.2 fun e => by omega)
        have Q10 : Hid (Own (w9.setCell ⟨w.heap.size + 2, 1, none⟩ (.slice za (d + 1) zc)) (w.heap.size + 2) 25 #[.slice a' m cap', .slice za (d + 1) zc]) := Lib.hid ((S9.out.2.2.1.put 1 (.slice za (d + 1) zc)).as (by simp))
        have B10 := Lib.hid (S9.out.1.trans (CC.below S9.out.1.size fun q e => by omega))
        clear S9 HO9 HG9 CC KS NEW BX q0 q1 ff
        go_wp2
        go_roundw
        case rel => exact ⟨k + 1, d + 1, za, zc, by omega, by omega, by go_num, Y10, P10, R10, Q10, B10⟩
        case measure => simp [intOf] <;> omega
    · have FF : Hid ((es.take k).filter (fun u => u.id != a1) = es.filter fun u => u.id != a1) := Lib.hid (by rw [List.take_of_length_le (by rw [← HN.out]; omega)])
      have HV8 := Lib.hid (FF.out ▸ TOwn.in_ HY.out)
      have LF : (es.filter fun u => u.id != a1).length ≤ 1000 := Nat.le_trans (List.length_filter_le _ _) (by rw [← HN.out]; first | exact hn | exact hm)
      have OL : vs.length ≤ 1000 := by rw [← HM.out]; first | exact hn | exact hm
      have CC := Lib.hid (fun W (hW : Below wr.heap.size wr W) => CP.out W _ _ _ _ (HO.out W (then_ HB.out hW HB.out.size)) (TIn.below HV8.out hW) OL LF)
      clear CP HC HO
      obtain ⟨q0, q1⟩ := pl_two2 HQ.out
      go_wp2_with (go_at_call 43; refine (CC.out _ (Below.refl _ _)).mono ?_; rintro r w9 ⟨v9, e9, rfl, hv9, he9, b9⟩; obtain ⟨sa, sc, rfl⟩ := hv9.shape; obtain ⟨sb, sd, rfl⟩ := he9.shape; have V9 := Lib.hid hv9; have E9 := Lib.hid he9; have B9 := Lib.hid b9; have R9 := Lib.hid (HR.out.keep b9); clear hv9 he9 b9; obtain ⟨r0, r1⟩ := pl_two2 R9.out; have ff := R9.out.at_.2.1)
      have C10 : Chg (fun q => q = w.heap.size + 1) w9 ((w9.setCell ⟨w.heap.size + 1, 0, none⟩ (.slice sa vs.length sc)).setCell ⟨w.heap.size + 1, 1, none⟩ (.slice sb (es.filter fun u => u.id != a1).length sd)) := ((Chg.refl (fun q => q = w.heap.size + 1) w9).set ⟨w.heap.size + 1, 0, none⟩ (.inl rfl) _).set ⟨w.heap.size + 1, 1, none⟩ (.inl rfl) _
      have B11 := then_ HB.out B9.out HB.out.size
      refine bodyPost_ret (v := .agg #[.slice sa vs.length sc, .slice sb (es.filter fun u => u.id != a1).length sd]) (by simp [results, Try.results23, go_sem, r0, r1]) rfl ⟨_, _, rfl, ?_, ?_, ?_⟩
      · exact (V9.out.keep C10 fun g hg k => by
          obtain ⟨_, cur, ho⟩ := V9.out.own hg
          exact own_ty ho R9.out (by decide) k).in_
      · exact (E9.out.keep C10 fun g hg k => by
          obtain ⟨_, cur, ho⟩ := E9.out.own hg
          exact own_ty ho R9.out (by decide) k).in_
      · exact B11.trans (C10.below B11.size fun q k => by omega)
end
end Go.Proofs.Ytdkmclaihojknaa.Pl