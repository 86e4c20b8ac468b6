
/- The contract of a pager's enter. Conditions: the blocks as they lie; a log without an error; no more pages than a transaction may have. -/
import Derived.Test.YtndhmidgnpobjaaGreatDoorPguK
namespace Go.Proofs.YtndhmidgnpobjaaGreatDoor
open Go.ChangeShapes Go.WideShapes Go.ChangeAt Go.RowKit
set_option linter.unusedVariables false
set_option linter.unusedSimpArgs false

def pgG (T : List (Nat × Pag)) (i : Nat) : ByteArray := match T[i]? with
  | some q => pgB q.2.1 q.1 q.2.2
  | none => ⟨#[]⟩
theorem pgG_all (P : PS) : (List.range P.T.length).map (pgG P.T) = P.pgs := by
  apply List.ext_getElem?
  intro i
  unfold PS.pgs
  rw [List.getElem?_map, List.getElem?_map]
  by_cases hi : i < P.T.length
  · rw [List.getElem?_range hi, List.getElem?_eq_getElem hi]
    show some (pgG P.T i) = some _
    unfold pgG
    rw [List.getElem?_eq_getElem hi]
  · rw [List.getElem?_eq_none (by simp; omega), List.getElem?_eq_none (by omega)]
    rfl
section
variable {w : World} {p lg lm d sb mb sc B : Nat} {wv x5 x6 : Value} {P : PS}
theorem chg_from {w1 w2 : World} {F : Nat → Prop} {v v' : Value} (hc : Chg F w1 w2) (hv : v'.ownBlock = v.ownBlock ∨ v'.ownBlock = none ∨ ∃ g, v'.ownBlock = some g ∧ w1.heap.size ≤ g) (hb : Below w.heap.size w w1) : Chg F w w2 ∧ (v'.ownBlock = v.ownBlock ∨ v'.ownBlock = none ∨ ∃ g, v'.ownBlock = some g ∧ w.heap.size ≤ g) := by
  refine ⟨(Chg.of hb).same hc, ?_⟩
  rcases hv with h | h | ⟨g, h, hg⟩
  · exact .inl h
  · exact .inr (.inl h)
  · exact .inr (.inr ⟨g, h, Nat.le_trans hb.size hg⟩)
theorem emp_few (h : P.Ok) (hfew : P.s.wr.length ≤ 20000) : P.empR.2.wr.length ≤ 90000 := by
  have hm := h.most
  have h1 := runW_len P.N (empOps P.ll P.M P.seq P.l.next) (0, P.s)
  have h2 := empOps_len P.ll P.M P.seq P.l.next 2 (Nat.le_refl _)
  have h3 := asc_len P.M 0 8191 h.M.1 fun q hq => ⟨Nat.zero_le _, by have := (h.M.2 q hq).1; omega⟩
  have h4 : (empOps P.ll P.M P.seq P.l.next).length ≤ P.M.length * 8 + 3 := h2
  have h5 : P.empR.2.wr.length ≤ P.s.wr.length + (empOps P.ll P.M P.seq P.l.next).length := h1
  omega
set_option maxRecDepth 10000 in
set_option maxHeartbeats 4000000 in
theorem enter_any (h : Raw w p lg lm d sb mb sc wv x5 x6 P) (hok : P.Ok) (hd : P.s.down = false) (hf : P.l.failed = false) (h1 : P.T ≠ []) (h64 : P.T.length ≤ 64) (hq : P.seq + 1 ≤ 18446744073709551615) (hfew : P.s.wr.length ≤ 20000) (v : Value) (hv : w.ownsRow B 112 3 v P.T.length (shR P.T)) :
    Calls Tryz.prog 83 #[.pointer (some ⟨p, 0, none⟩), v] w fun e w' => e = .returned (.int .i64 P.entR.1) ∧ RawTo w w' p lg lm d sb mb sc wv x5 x6 P.ent := by
  have hp := hok.pgs h1
  have hpl := ppgs_len P
  have hsd : Sd P.N P.s := Sd.of h.disk.ok
  have hN := hok.N
  have hfit := hok.fit
  have hsz := hok.size
  have GS : ∀ i, i < P.T.length → (pgG P.T i).size ≤ maxLen := fun i hi => by
    unfold pgG
    rw [List.getElem?_eq_getElem hi]
    have := (hok.T.2 _ (List.getElem_mem hi)).2.size
    simp only
    rw [pgB_size _ _ _ (by omega)]
    unfold maxLen; omega
  have HADD := Lib.hid (fun W (hb : Below w.heap.size w W) b (ho : Own W b 9 (rowS P.T.length (pgG P.T) P.T.length)) => (show Calls Tryz.prog 149 #[.pointer (some ⟨p, 0, none⟩), .slice (some ⟨b, 0, none⟩) P.T.length P.T.length] W fun e w' => e = .returned (.int .i64 (P.addR P.pgs).1) ∧ RawTo W w' p lg lm d sb mb sc wv x5 x6 (P.addP P.pgs) from by
    have := radd_any (h.below hb) hd hok.log hf hsz (by omega) b P.T.length (pgG P.T) ho GS (by omega) (by omega)
    rw [pgG_all] at this
    exact this))
  have HGS := Lib.hid GS
  have HTOLD := Lib.hid (fun W (Q : PS) (hr : RawTo w W p lg lm d sb mb sc wv x5 x6 Q) (e : Int) => (show Calls Tryz.prog 86 #[.pointer (some ⟨p, 0, none⟩), .int .i64 e] W fun en w' => en = .returned (.int .i64 e) ∧ RawTo w w' p lg lm d sb mb sc wv x5 x6 (PS.told e Q) from by
    obtain ⟨wv', k1, k2, k3⟩ := hr
    refine (rtold_any k1 e).mono ?_
    rintro en w' ⟨rfl, hr⟩
    exact ⟨rfl, RawTo.then_ k2 k3 hr⟩))
  have HB0 := Lib.hid (fun j x (hx : (rowS P.T.length (pgG P.T) j)[0]? = some (.int .u8 x)) => (show False from by
    have hpos : 0 < P.T.length := List.length_pos_iff.2 h1
    rw [rowS_get P.T.length (pgG P.T) j 0 hpos] at hx
    cases hx))
  have HBY := Lib.hid (fun i (hi : i < P.T.length) W => (bytes_any (P.T[i]'hi).1 (P.T[i]'hi).2 W (hok.T.2 _ (List.getElem_mem hi)).2 (by have := (hok.T.2 _ (List.getElem_mem hi)).1; have := hok.most; omega)))
  obtain ⟨n, hn⟩ : ∃ n, n = P.T.length := ⟨_, rfl⟩
  have HN := Lib.hid hn
  have HM := make_strs n (by omega) (pgG P.T) w
  have HO := Own.made w 9 (rowS n (pgG P.T) 0)
  have L0 : Below w.heap.size w (w.alloc (.cells (rowS n (pgG P.T) 0) 9)) := box_one _ _ _
  obtain ⟨W0, hW0⟩ : ∃ W0, W0 = w.alloc (.cells (rowS n (pgG P.T) 0) 9) := ⟨_, rfl⟩
  rw [← hW0] at HM HO L0
  rw [← hn] at hv h64 HADD HB0
  obtain ⟨b, hb⟩ : ∃ b, b = w.heap.size := ⟨_, rfl⟩
  rw [← hb] at HM HO
  have HBZ := Lib.hid hb
  obtain ⟨va, vc, rfl⟩ : ∃ va vc, v = .slice va n vc := by
    rcases hv.2 with ⟨e1, e2⟩ | ⟨g, cap, cur, e1, _⟩
    · exact ⟨none, 0, by rw [e1, e2]⟩
    · exact ⟨_, cap, e1⟩
  obtain ⟨r, hr⟩ : ∃ r, r = P.entR := ⟨_, rfl⟩
  have HENT := Lib.hid (show P.ent = PS.told r.1 r.2 by rw [hr]; rfl)
  have HR := Lib.hid hr
  rw [← hr, HENT.out]
  have HV := Lib.hid hv
  have HH := Lib.hid h
  have HOK := Lib.hid hok
  have HHO := Lib.hid HO
  have HL0 := Lib.hid L0
  have HSD := Lib.hid hsd
  have HPG := Lib.hid (And.intro hp hpl)
  have HH1 := Lib.hid (And.intro hd (And.intro hf h1))
  have zb : b < W0.heap.size := HO.in_
  clear hW0 hv h hok HO L0 hr hn hb hsd hp hpl hd hf h1 GS hsz hN hfit
  go_enter Tryz.func83, Tryz.ntmps83
  go_wp2
  clear HM
  go_loopw [14] (fun i wr => ∃ k : Nat, k ≤ n ∧ i = .int .i64 (k : Int) ∧ Own wr b 9 (rowS n (pgG P.T) k) ∧ Below w.heap.size w wr) (fun i wr => n - (intOf i).toNat)
  case atStart => exact ⟨0, by omega, rfl, HHO.out, HL0.out⟩
  case round =>
    obtain ⟨k, hk, rfl, hO, hL⟩ := hrel
    have hsz := hL.size
    have hO := Lib.hid hO
    have hL := Lib.hid hL
    by_cases hlt : k < n
    · have hlt' : k < P.T.length := by rw [← HN.out]; exact hlt
      obtain ⟨q, hq2⟩ : ∃ q, q = P.T[k]'hlt' := ⟨_, rfl⟩
      have hqk : P.T[k]? = some q := by rw [hq2]; exact List.getElem?_eq_getElem hlt'
      have BY := HBY.out k hlt'
      rw [← hq2] at BY
      have hgk : pgG P.T k = pgB q.2.1 q.1 q.2.2 := by unfold pgG; rw [hqk]
      rw [← hgk] at BY
      obtain ⟨G, hG⟩ : ∃ G, G = pgG P.T k := ⟨_, rfl⟩
      rw [← hG] at BY
      have HG := Lib.hid hG
      have hV1 : wr.ownsRow B 112 3 (.slice va n vc) n (shR P.T) := Po.ownsRow_keepB HV.out fun g e => hL.out.block g (row_cur HV.out e).2.1
      obtain ⟨g, rfl⟩ : ∃ g, va = some ⟨g, 0, none⟩ := by
        rcases hV1.2 with ⟨e1, e2⟩ | ⟨g, cap, cur, e1, _⟩
        · omega
        · injection e1 with e1 _ _; exact ⟨g, e1⟩
      obtain ⟨c0, c1, c2⟩ := shR_at P.T hqk
      have k0 : wr.cell? ⟨g, k * 3, none⟩ = some (.int .i64 (q.1 : Int)) := by rw [World.ownsRow.cellAt hV1 (k * 3) (by omega), c0]
      have k1 : wr.cell? ⟨g, k * 3 + 1, none⟩ = some (.int .i64 (q.2.1 : Int)) := by rw [World.ownsRow.cellAt hV1 (k * 3 + 1) (by omega), c1]
      have k2 : wr.cell? ⟨g, k * 3 + 2, none⟩ = some (.string q.2.2) := by rw [World.ownsRow.cellAt hV1 (k * 3 + 2) (by omega), c2]
      unfold shV at BY
      replace BY := Lib.hid BY
      clear hq2 hqk hgk hG c0 c1 c2 hV1
      go_wp2_with (go_at_call 119; refine (BY.out _).mono ?_; rintro e w3 ⟨rfl, hb3⟩; have B3 := Lib.hid (then_ (hL.out.alloc hsz (.cells #[.int .i64 (q.1 : Int), .int .i64 (q.2.1 : Int), .string q.2.2] 112)) hb3 (by simp; omega)); have O3 := Lib.hid ((hO.out.more (.cells #[.int .i64 (q.1 : Int), .int .i64 (q.2.1 : Int), .string q.2.2] 112)).keep hb3); clear hb3; obtain ⟨c1, c2, c3⟩ := O3.out.at_; have c4 := c1 k; rw [rowS_get n (pgG P.T) k k hlt] at c4; have c5 := c2 k; clear c1 c2)
      go_roundw
      case rel =>
        refine ⟨k + 1, by omega, by go_num, ?_, B3.out.setCell (by rw [HBZ.out]; exact Nat.le_refl _) _⟩
        have := O3.out.put k (.string (pgG P.T k))
        rw [rowS_set n (pgG P.T) k hlt] at this
        rw [HG.out]
        exact this
      case measure => simp [intOf]; omega
    · obtain rfl : k = n := by omega
      have HSO := Lib.hid (fun W => psof_any (some ⟨b, 0, none⟩) k k W (by omega))
      have hn := HN.out
      by_cases c1 : 1 + 9 * P.T.length ≤ P.l.left
      · have E : r = ((P.addR P.pgs).1, P.addP P.pgs) := by rw [HR.out]; unfold PS.entR; rw [if_pos c1]
        have h9 : (P.addR P.pgs).1 ≠ 9 := by
          obtain ⟨-, k2, -, -⟩ := PS.add_kin HOK.out HSD.out HH1.out.1 HH1.out.2.1 P.pgs HPG.out.1 (by rw [HPG.out.2]; omega) (by rw [HPG.out.2]; exact c1)
          rcases k2 with k2 | k2 <;> omega
        have AD := HADD.out _ hL.out b hO.out
        obtain ⟨a, ha⟩ : ∃ a, a = P.addR P.pgs := ⟨_, rfl⟩
        rw [← ha] at E h9 AD
        obtain ⟨Q, hQ⟩ : ∃ Q, Q = P.addP P.pgs := ⟨_, rfl⟩
        rw [← hQ] at E AD
        obtain ⟨e0, a0⟩ := a
        simp only at E h9 AD
        replace E := Lib.hid E
        have t9 : (e0 == 9) = false := by simpa using h9
        replace AD := Lib.hid AD
        clear ha hQ h9 c1 hn
        go_upto_region 8 with (go_at_call 149; refine AD.out.mono ?_; rintro e w4 ⟨rfl, hr4⟩; have R4 := Lib.hid (hr4.from_ hL.out); clear hr4)
        refine wp_region_seq (fun W => True) (0 :: 1 :: 2 :: 3 :: 5 :: 6 :: 7 :: 8 :: 9 :: 10 :: 11 :: []) ([]) (0 :: 1 :: 2 :: 3 :: 5 :: 6 :: 7 :: 8 :: 9 :: 4 :: 10 :: 11 :: []) (by kernel_rfl) (by kernel_rfl) rfl (by kernel_rfl) rfl (trivial) (by simp only [picked, List.filterMap_cons, List.filterMap_nil, List.getElem?_cons_zero, List.getElem?_cons_succ, Option.map_some]; exact rfl) ?_
        iterate 3
          refine seq_want (v := ?_) rfl rfl (fun W hS => ?_) ?_
          rotate_left
          · conv => lhs; simp [go_sem, t9]
            first | done | exact rfl
          simp only [Act.put, List.setIfInBounds_toArray, List.set_cons_zero, List.set_cons_succ]
        refine seq_skip rfl rfl ?_
        simp only [Act.put, List.setIfInBounds_toArray, List.set_cons_zero, List.set_cons_succ]
        refine seq_skip rfl rfl ?_
        simp only [Act.put, List.setIfInBounds_toArray, List.set_cons_zero, List.set_cons_succ]
        refine seq_skip rfl rfl ?_
        simp only [Act.put, List.setIfInBounds_toArray, List.set_cons_zero, List.set_cons_succ]
        refine seq_skip rfl rfl ?_
        simp only [Act.put, List.setIfInBounds_toArray, List.set_cons_zero, List.set_cons_succ]
        refine seq_skip rfl rfl ?_
        simp only [Act.put, List.setIfInBounds_toArray, List.set_cons_zero, List.set_cons_succ]
        refine seq_skip rfl rfl ?_
        simp only [Act.put, List.setIfInBounds_toArray, List.set_cons_zero, List.set_cons_succ]
        refine seq_on rfl rfl fun K hK => ?_
        go_wp2
        refine hK _ _ trivial ?_
        clear hK K
        refine seq_skip rfl rfl ?_
        simp only [Act.put, List.setIfInBounds_toArray, List.set_cons_zero, List.set_cons_succ]
        iterate 1
          refine seq_want (v := ?_) rfl rfl (fun W hS => ?_) ?_
          rotate_left
          · conv => lhs; simp [go_sem, t9]
            first | done | exact rfl
          simp only [Act.put, List.setIfInBounds_toArray, List.set_cons_zero, List.set_cons_succ]
        refine seq_end ?_
        have T4 := Lib.hid (HTOLD.out _ Q (R4.out.below (Below.refl _ _).drew) e0)
        go_wp2_with (go_at_call 86; refine T4.out.mono ?_; rintro e w5 ⟨rfl, hr5⟩)
        go_ret
        rw [E.out]
        exact ⟨rfl, hr5⟩
      · have c1' : ¬ 1 + 9 * P.pgs.length ≤ P.l.left := by rw [HPG.out.2]; exact c1
        obtain ⟨e9, eP⟩ := PS.add_none HH1.out.2.1 HPG.out.1 (by rw [HPG.out.2]; omega) c1'
        have AD := HADD.out _ hL.out b hO.out
        rw [e9, eP] at AD
        replace AD := Lib.hid AD
        clear e9 eP c1'
        obtain ⟨K, hK⟩ : ∃ K, K = 1 + 9 * k := ⟨_, rfl⟩
        rw [← hK] at HSO
        by_cases c2 : 1 + 9 * P.T.length ≤ P.ll
        · have t2 : decide (K ≤ P.ll) = true := by simp; omega
          have HKK := Lib.hid hK
          have HC := Lib.hid (And.intro c1 c2)
          have HNN := Lib.hid hn
          clear hK c1 c2 hn
          go_upto_region 8 with (go_at_call 149; refine AD.out.mono ?_; rintro e w4 ⟨rfl, hr4⟩; have R4 := Lib.hid hr4; clear hr4)
          obtain ⟨wv4, k4, kc4, kv4⟩ := R4.out
          have OP4 := Lib.hid k4.own
          have OB4 := Lib.hid (kc4.own hO.out ((HH.out.below hL.out).out hO.out (by decide) (by decide) (by decide) (by decide) (HB0.out k)))
          have C4w := Lib.hid (And.intro (chg_from kc4 kv4 hL.out).1.drew (chg_from kc4 kv4 hL.out).2)
          have K4 := Lib.hid k4
          clear k4 kc4 kv4
          refine wp_region_seq (fun W => Own W p 131 #[.pointer (some ⟨d, 0, none⟩), .int .i64 (P.ll : Int), .int .u64 (P.seq : Int), .pointer (some ⟨lg, 0, none⟩), .map (some lm), x5, x6, .bool P.failed]) (0 :: 1 :: 2 :: 3 :: 5 :: 6 :: 7 :: 8 :: 9 :: 10 :: 11 :: []) (9 :: []) (0 :: 1 :: 2 :: 3 :: 5 :: 6 :: 7 :: 8 :: 9 :: 4 :: 10 :: 11 :: []) (by kernel_rfl) (by kernel_rfl) rfl (by kernel_rfl) rfl (OP4.out.drawn) (by simp only [picked, List.filterMap_cons, List.filterMap_nil, List.getElem?_cons_zero, List.getElem?_cons_succ, Option.map_some]; exact rfl) ?_
          iterate 9
            refine seq_want (v := ?_) rfl rfl (fun W hS => ?_) ?_
            rotate_left
            · first
                | (conv => lhs; simp [go_sem, t2]
                   first | done | exact rfl)
                | (have hS := hS rfl
                   obtain ⟨q1, q4, q5⟩ := Own.at_ hS
                   conv => lhs; simp [go_sem, *, t2]
                   first | done | exact rfl)
            simp only [Act.put, List.setIfInBounds_toArray, List.set_cons_zero, List.set_cons_succ]
          refine seq_on rfl rfl fun K hK => ?_
          go_wp2_with (go_at_call 150; refine (HSO.out _).mono ?_; rintro e w5 ⟨rfl, rfl⟩)
          refine hK _ _ OP4.out.drawn ?_
          clear hK K
          iterate 2
            refine seq_want (v := ?_) rfl rfl (fun W hS => ?_) ?_
            rotate_left
            · first
                | (conv => lhs; simp [go_sem, t2]
                   first | done | exact rfl)
                | (have hS := hS rfl
                   obtain ⟨q1, q4, q5⟩ := Own.at_ hS
                   conv => lhs; simp [go_sem, *, t2]
                   first | done | exact rfl)
            simp only [Act.put, List.setIfInBounds_toArray, List.set_cons_zero, List.set_cons_succ]
          refine seq_end ?_
          have BD : Below w4.heap.size w4 w4.drew := (Below.refl _ _).drew
          have KD := K4.out.below BD
          have OBD := OB4.out.keep BD
          have hmost := HOK.out.most
          have EMP := Lib.hid (remp_any KD HOK.out.log HH1.out.2.1 HOK.out.M hmost.2.1 (by have := HOK.out.fit; have := HOK.out.N; omega) (by omega) hq)
          obtain ⟨kin, kk, ksd, kes⟩ := PS.emp_kin HOK.out HSD.out HH1.out.1 HH1.out.2.1
          have hef := emp_few HOK.out hfew
          rw [← kes] at hef
          have HKIN := Lib.hid (And.intro kin (And.intro kk (And.intro ksd hef)))
          have HKD := Lib.hid KD
          have HOBD := Lib.hid OBD
          clear kin kk ksd kes hef KD OBD BD hmost
          by_cases c3 : P.empR.1 = 0
          · have E : r = ((P.emp.addR P.pgs).1, P.emp.addP P.pgs) := by rw [HR.out]; unfold PS.entR; rw [if_neg HC.out.1, if_pos HC.out.2, if_pos c3]
            replace E := Lib.hid E
            rw [c3] at EMP
            have AD2 := Lib.hid (fun W wvE (hW : Raw W p lg lm d sb mb sc wvE x5 x6 P.emp) (ho : Own W b 9 (rowS k (pgG P.T) k)) => (show Calls Tryz.prog 149 #[.pointer (some ⟨p, 0, none⟩), .slice (some ⟨b, 0, none⟩) k k] W fun e w' => e = .returned (.int .i64 (P.emp.addR P.pgs).1) ∧ RawTo W w' p lg lm d sb mb sc wvE x5 x6 (P.emp.addP P.pgs) from by
              obtain ⟨kin, kk, ksd, hef⟩ := HKIN.out
              rcases kk with ⟨-, kd, kM, kl, kq, kT⟩ | kk
              · have hE := kin.ok HOK.out hq
                have := radd_any hW kd hE.log (by rw [kl]; exact HH1.out.2.1) hE.size (by have := hE.fit; omega) b k (pgG P.T) ho (fun i hi => HGS.out i (by rw [← HNN.out]; exact hi)) (by omega) hef
                rw [HNN.out, pgG_all] at this
                rw [HNN.out]
                exact this
              · omega))
            clear c3
            go_wp2_with (first
              | (go_at_call 87; refine EMP.out.mono ?_; rintro e w5 ⟨rfl, hr5⟩; have R5 := Lib.hid hr5; clear hr5; obtain ⟨wv5, k5, kc5, kv5⟩ := R5.out; have OB5 := Lib.hid (kc5.own HOBD.out (HKD.out.out HOBD.out (by decide) (by decide) (by decide) (by decide) (HB0.out k))); have AD3 := Lib.hid (AD2.out _ _ k5 OB5.out); have CC5 := Lib.hid (And.intro kc5 kv5); clear k5 kc5 kv5)
              | (go_at_call 149; refine AD3.out.mono ?_; rintro e w6 ⟨rfl, hr6⟩; have R6 := Lib.hid (RawTo.then_ C4w.out.1 C4w.out.2 (RawTo.then_ CC5.out.1 CC5.out.2 hr6)); clear hr6; have T6 := Lib.hid (HTOLD.out _ _ R6.out (P.emp.addR P.pgs).1))
              | (go_at_call 86; refine T6.out.mono ?_; rintro e w7 ⟨rfl, hr7⟩))
            go_ret
            rw [E.out]
            exact ⟨rfl, hr7⟩
          · have E : r = (P.empR.1, P.emp) := by rw [HR.out]; unfold PS.entR; rw [if_neg HC.out.1, if_pos HC.out.2, if_neg c3]
            replace E := Lib.hid E
            obtain ⟨e0, he0⟩ : ∃ e0, e0 = P.empR.1 := ⟨_, rfl⟩
            rw [← he0] at EMP E c3
            have t3 : (e0 == 0) = false := by simpa using c3
            clear c3 he0
            go_wp2_with (first
              | (go_at_call 87; refine EMP.out.mono ?_; rintro e w5 ⟨rfl, hr5⟩; have R5 := Lib.hid (RawTo.then_ C4w.out.1 C4w.out.2 hr5); clear hr5; have T6 := Lib.hid (HTOLD.out _ _ R5.out e0))
              | (go_at_call 86; refine T6.out.mono ?_; rintro e w7 ⟨rfl, hr7⟩))
            go_ret
            rw [E.out]
            exact ⟨rfl, hr7⟩
        · have E : r = (9, P) := by rw [HR.out]; unfold PS.entR; rw [if_neg c1, if_neg c2]
          replace E := Lib.hid E
          have t2 : decide (K ≤ P.ll) = false := by simp; omega
          clear hK c1 c2 hn
          go_upto_region 8 with (go_at_call 149; refine AD.out.mono ?_; rintro e w4 ⟨rfl, hr4⟩; have R4 := Lib.hid hr4; clear hr4)
          obtain ⟨wv4, k4, kc4, kv4⟩ := R4.out
          have OP4 := Lib.hid k4.own
          have R4w := Lib.hid (R4.out.from_ hL.out)
          clear k4 kc4 kv4
          refine wp_region_seq (fun W => Own W p 131 #[.pointer (some ⟨d, 0, none⟩), .int .i64 (P.ll : Int), .int .u64 (P.seq : Int), .pointer (some ⟨lg, 0, none⟩), .map (some lm), x5, x6, .bool P.failed]) (0 :: 1 :: 2 :: 3 :: 5 :: 6 :: 7 :: 8 :: 9 :: 10 :: 11 :: []) (9 :: []) (0 :: 1 :: 2 :: 3 :: 5 :: 6 :: 7 :: 8 :: 9 :: 4 :: 10 :: 11 :: []) (by kernel_rfl) (by kernel_rfl) rfl (by kernel_rfl) rfl (OP4.out.drawn) (by simp only [picked, List.filterMap_cons, List.filterMap_nil, List.getElem?_cons_zero, List.getElem?_cons_succ, Option.map_some]; exact rfl) ?_
          iterate 9
            refine seq_want (v := ?_) rfl rfl (fun W hS => ?_) ?_
            rotate_left
            · first
                | (conv => lhs; simp [go_sem, t2]
                   first | done | exact rfl)
                | (have hS := hS rfl
                   obtain ⟨q1, q4, q5⟩ := Own.at_ hS
                   conv => lhs; simp [go_sem, *, t2]
                   first | done | exact rfl)
            simp only [Act.put, List.setIfInBounds_toArray, List.set_cons_zero, List.set_cons_succ]
          refine seq_on rfl rfl fun K hK => ?_
          go_wp2_with (go_at_call 150; refine (HSO.out _).mono ?_; rintro e w5 ⟨rfl, rfl⟩)
          refine hK _ _ OP4.out.drawn ?_
          clear hK K
          iterate 2
            refine seq_want (v := ?_) rfl rfl (fun W hS => ?_) ?_
            rotate_left
            · first
                | (conv => lhs; simp [go_sem, t2]
                   first | done | exact rfl)
                | (have hS := hS rfl
                   obtain ⟨q1, q4, q5⟩ := Own.at_ hS
                   conv => lhs; simp [go_sem, *, t2]
                   first | done | exact rfl)
            simp only [Act.put, List.setIfInBounds_toArray, List.set_cons_zero, List.set_cons_succ]
          refine seq_end ?_
          have T4 := Lib.hid (HTOLD.out _ P (R4w.out.below (Below.refl _ _).drew) 9)
          go_wp2_with (go_at_call 86; refine T4.out.mono ?_; rintro e w5 ⟨rfl, hr5⟩)
          go_ret
          rw [E.out]
          exact ⟨rfl, hr5⟩
end
end Go.Proofs.YtndhmidgnpobjaaGreatDoor
