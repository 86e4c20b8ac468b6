
/- The contract of gather: the pages that transactions have, of each number the last one. Conditions: transactions that lie apart. -/
import Derived.Test.YtndhmidgnpobjaaGreatDoorPgrQ
namespace Go.Proofs.YtndhmidgnpobjaaGreatDoor
open Go.ChangeShapes Go.WideShapes Go.ChangeAt Go.RowKit
set_option linter.unusedVariables false
set_option linter.unusedSimpArgs false

/-- a page more -/
def gat1 (most : Nat) (M : Option (List (Nat × Pag))) (b : ByteArray) : Option (List (Nat × Pag)) := match M with
  | none => none
  | some M => if hE b = 0 ∧ hN b < most then some (ins (hN b) (hK b, hT b) M) else none
def gatL (most : Nat) (ps : List ByteArray) (M : Option (List (Nat × Pag))) : Option (List (Nat × Pag)) := ps.foldl (gat1 most) M
def gatT (most : Nat) (ts : List (Nat × List ByteArray)) : Option (List (Nat × Pag)) := gatL most (ts.flatMap (·.2)) (some [])
theorem gatL_none (most : Nat) : ∀ ps, gatL most ps none = none
  | [] => rfl
  | p :: ps => gatL_none most ps
theorem gatL_app (most : Nat) (a b : List ByteArray) (M : Option (List (Nat × Pag))) : gatL most (a ++ b) M = gatL most b (gatL most a M) := by simp [gatL]
theorem gatL_fine (most : Nat) : ∀ (ps : List ByteArray) (M M' : List (Nat × Pag)), Fine most M → gatL most ps (some M) = some M' → Fine most M'
  | [], M, M', h, e => by injection e with e; subst e; exact h
  | b :: ps, M, M', h, e => by
    have e : gatL most ps (gat1 most (some M) b) = some M' := e
    unfold gat1 at e
    simp only at e
    by_cases c : hE b = 0 ∧ hN b < most
    · rw [if_pos c] at e
      refine gatL_fine most ps _ _ ⟨asc_ins _ _ h.1, fun p hp => ?_⟩ e
      rcases mem_ins hp with rfl | hp
      · refine ⟨c.2, ?_, hK_le _, hT_size _ c.1⟩
        show 1 ≤ hK b
        have hE := c.1
        unfold hK
        rw [if_pos hE]
        unfold Go.Proofs.YtndhmidgnpobjaaGreatDoor.hE at hE
        by_cases c1 : b.size ≠ 512
        · rw [if_pos c1] at hE; cases hE
        · rw [if_neg c1] at hE
          split at hE
          · cases hE
          · split at hE
            · cases hE
            · rename_i c2; omega
      · exact h.2 p hp
    · rw [if_neg c, gatL_none] at e; cases e
theorem ins_perm (n : Nat) (v : Pag) : ∀ {l : List (Nat × Pag)}, asc l → (ins n v l).Perm ((n, v) :: l.filter fun p => p.1 != n)
  | [], _ => List.Perm.refl _
  | x :: l, h => by
    obtain ⟨h1, h2⟩ := asc_cons.1 h
    unfold ins
    by_cases c1 : n < x.1
    · rw [if_pos c1]
      have e : (x :: l).filter (fun p => p.1 != n) = x :: l := by
        rw [List.filter_eq_self]
        intro y hy
        rcases List.mem_cons.1 hy with rfl | hy
        · simp; omega
        · have := h1 y hy; simp; omega
      rw [e]
    · rw [if_neg c1]
      by_cases c2 : n = x.1
      · rw [if_pos c2]
        have e : (x :: l).filter (fun p => p.1 != n) = l := by
          rw [List.filter_cons, if_neg (by simp [c2]), List.filter_eq_self]
          intro y hy
          have := h1 y hy; simp; omega
        rw [e]
      · rw [if_neg c2, List.filter_cons, if_pos (by simp; omega)]
        exact ((ins_perm n v h2).cons x).trans (List.Perm.swap _ _ _)
theorem ins_ent (n : Nat) (v : Pag) {l : List (Nat × Pag)} (h : asc l) : (((n : Int), shV n v) :: (l.map entM).filter fun p => p.1 != (n : Int)).Perm ((ins n v l).map entM) := by
  refine List.Perm.trans ?_ ((ins_perm n v h).map entM).symm
  rw [List.map_cons, List.filter_map]
  refine List.Perm.cons _ ?_
  have e : (l.filter ((fun p : Int × Value => p.1 != (n : Int)) ∘ entM)) = l.filter fun p => p.1 != n := by
    congr 1
    funext p
    show ((p.1 : Int) != (n : Int)) = (p.1 != n)
    by_cases c : p.1 = n
    · rw [c]; simp
    · have h1 : (p.1 : Int) ≠ (n : Int) := by omega
      rw [bne_iff_ne.2 h1, bne_iff_ne.2 c]
  rw [e]
theorem MapOf.insM {w : World} {b : Nat} {M : List (Nat × Pag)} (h : MapOf w b .i64 (M.map entM)) (ha : asc M) (n : Nat) (v : Pag) :
    ∃ w', (Instr.mapUpdate 124 (.map (some b)) (.int .i64 (n : Int)) (shV n v)).run Tryz.prog w = .ok () w' ∧ MapOf w' b .i64 ((ins n v M).map entM) ∧ Chg (· = b) w w' ∧ w'.heap.size = w.heap.size := by
  obtain ⟨w', h1, h2, h3, h4⟩ := h.up (P := Tryz.prog) (t := 124) Tryz.underlying124 Tryz.underlying3 (n : Int) (shV n v)
  exact ⟨w', h1, h2.perm (ins_ent n v ha), h3, h4⟩
theorem map_no_cell {w : World} {b : Nat} {k : IntKind} {l : List (Int × Value)} (h : MapOf w b k l) {o : Nat} {v : Value} (hc : w.cell? ⟨b, o, none⟩ = some v) : False := by
  obtain ⟨es, ck, hb, _⟩ := h
  simp [World.cell?, hb] at hc
theorem uE_own {s : ByteArray} (h : hE s = 0) : Pg.uE s ((hN s : Nat) : Int) = 0 ∧ Pg.uK s ((hN s : Nat) : Int) = hK s ∧ Pg.uT s ((hN s : Nat) : Int) = hT s := by
  have e : Pg.uE s ((hN s : Nat) : Int) = 0 := by unfold Pg.uE; rw [if_neg (by omega), if_pos rfl]
  exact ⟨e, by unfold Pg.uK; rw [if_pos e], by unfold Pg.uT; rw [if_pos e]⟩
set_option maxRecDepth 10000 in
set_option maxHeartbeats 2000000 in
theorem pgather_any {w : World} {S : Nat → Prop} {v : Value} {ts : List (Nat × List ByteArray)} (hT : TxnsIn w S v ts) (most : Nat) (hm : most ≤ 1000000) (hn : ts.length ≤ 1000000) (hpn : ∀ t ∈ ts, t.2.length ≤ 1000000) :
    Calls Tryz.prog 70 #[v, .int .i64 (most : Int)] w fun e w' => ((∃ m M, gatT most ts = some M ∧ e = .returned (.tuple #[.map (some m), .bool true]) ∧ MapOf w' m .i64 (M.map entM) ∧ w.heap.size ≤ m) ∨ (gatT most ts = none ∧ e = .returned (.tuple #[.map none, .bool false]))) ∧ Below w.heap.size w w' := by
  obtain ⟨a, cap, rfl, h2, h3, hcl⟩ := hT.open_
  obtain ⟨n, hn2⟩ : ∃ n, n = ts.length := ⟨_, rfl⟩
  have HN := Lib.hid hn2
  have HCL := Lib.hid hcl
  have HPN := Lib.hid hpn
  rw [← hn2] at hn ⊢
  clear hcl hT h2 h3 hn2 hpn
  have hmm := @run_makeMap Tryz.prog
  go_enter Tryz.func70, Tryz.ntmps70
  go_upto_region 2 with fail
  have M0 := MapOf.made w .i64
  have B0 : Below w.heap.size w (w.alloc (.map #[] 0)) := (Below.refl _ _).alloc (Nat.le_refl _) _
  go_name_world W0 hW0
  rw [hW0] at M0 B0
  clear hW0
  obtain ⟨m, hm0⟩ : ∃ m, m = w.heap.size := ⟨_, rfl⟩
  rw [← hm0] at M0 ⊢
  have HMZ := Lib.hid hm0
  clear hm0
  go_wp2
  go_loopw [16] (fun i wr => ∃ (k : Nat) (M : List (Nat × Pag)), k ≤ n ∧ i = .int .i64 (k : Int) ∧ gatL most ((ts.take k).flatMap (·.2)) (some []) = some M ∧ Fine most M ∧ MapOf wr m .i64 (M.map entM) ∧ Below w.heap.size w wr) (fun i wr => n - (intOf i).toNat)
  case atStart => exact ⟨0, [], by omega, rfl, rfl, ⟨by simp [asc], by simp⟩, M0, B0⟩
  case round =>
    clear M0 B0
    obtain ⟨k, M, hk, rfl, hg, hf, hmo, hb⟩ := hrel
    by_cases hlt : k < n
    · have hlt' : k < ts.length := by rw [← HN.out]; exact hlt
      obtain ⟨b, o, rfl, hS, hbw, hc0, u, hc1, hu⟩ := HCL.out k hlt'
      obtain ⟨t, ht⟩ : ∃ t, t = ts[k]'hlt' := ⟨_, rfl⟩
      rw [← ht] at hc0 hu
      have hpl : t.2.length ≤ 1000000 := by rw [ht]; exact HPN.out _ (List.getElem_mem hlt')
      have ETK : Hid ((ts.take (k + 1)).flatMap (·.2) = (ts.take k).flatMap (·.2) ++ t.2) := Lib.hid (by rw [List.take_add_one, List.getElem?_eq_getElem hlt', ← ht]; simp)
      have ETA : Hid (∃ r, ts.flatMap (·.2) = (ts.take k).flatMap (·.2) ++ t.2 ++ r) := Lib.hid ⟨(ts.drop (k + 1)).flatMap (·.2), by
        rw [← ETK.out, ← List.flatMap_append, List.take_append_drop]⟩
      have hu0 := hu.below hb
      have hbs := hb.size
      have hc0' : wr.cell? ⟨b, o + k * 2, none⟩ = some (.int .u64 (t.1 : Int)) := by rw [World.cell?_of_block (a := ⟨b, o + k * 2, none⟩) (hb.block b hbw)]; exact hc0
      have hc1' : wr.cell? ⟨b, o + k * 2 + 1, none⟩ = some u := by rw [World.cell?_of_block (a := ⟨b, o + k * 2 + 1, none⟩) (hb.block b hbw)]; exact hc1
      obtain ⟨pa, pc, rfl, pl, pm, pcl⟩ := hu0.open_
      obtain ⟨pn, hpn⟩ : ∃ pn, pn = t.2.length := ⟨_, rfl⟩
      rw [← hpn] at hc1' hpl
      have HP := Lib.hid hpn
      have PCL := Lib.hid pcl
      have HG := Lib.hid hg
      have HF := Lib.hid hf
      have HMO := Lib.hid hmo
      have HB := Lib.hid hb
      clear hg hf hmo hb hu hu0 hc0 hc1 pl pm pcl hpn ht hS
      go_upto_region 5 with fail
      have B1 : Below wr.heap.size wr (wr.alloc (.cells #[.int .u64 (t.1 : Int), .slice pa pn pc] 211)) := box_one _ _ _
      have OT := Own.made wr 211 #[.int .u64 (t.1 : Int), .slice pa pn pc]
      go_name_world W1 hW1
      rw [hW1] at B1 OT
      clear hW1
      have MO1 := Lib.hid (HMO.out.keep (B1.block m HMO.out.in_))
      have HB1 := Lib.hid (then_ HB.out B1 hbs)
      have OT1 := Lib.hid OT
      have PCL1 : Hid (∀ j (hj : j < t.2.length), (t.2[j]'hj).size ≤ maxLen ∧ ∃ b o, pa = some ⟨b, o, none⟩ ∧ b ≠ m ∧ b < W1.heap.size ∧ W1.cell? ⟨b, o + j, none⟩ = some (.string (t.2[j]'hj))) := Lib.hid fun j hj => by
        obtain ⟨h1, b2, o2, h2, -, h3, h4⟩ := PCL.out j hj
        refine ⟨h1, b2, o2, h2, fun e => ?_, Nat.lt_of_lt_of_le h3 B1.size, ?_⟩
        · subst e; exact map_no_cell HMO.out h4
        · rw [World.cell?_of_block (a := ⟨b2, o2 + j, none⟩) (B1.block b2 h3)]; exact h4
      obtain ⟨q1, q2, q3⟩ := OT.at_
      have mz : w.heap.size ≤ m := by rw [HMZ.out]; exact Nat.le_refl _
      clear B1 OT PCL HMO HB hc0' hc1'
      go_wp2
      go_loopw [23] (fun i w2 => ∃ (j : Nat) (M2 : List (Nat × Pag)), j ≤ pn ∧ i = .int .i64 (j : Int) ∧ gatL most (t.2.take j) (some M) = some M2 ∧ Fine most M2 ∧ MapOf w2 m .i64 (M2.map entM) ∧ Chg (· = m) W1 w2) (fun i w2 => pn - (intOf i).toNat)
      case atStart => exact ⟨0, M, by omega, rfl, rfl, HF.out, MO1.out, Chg.refl _ _⟩
      case round =>
        clear q1 q2 q3
        obtain ⟨j, M2, hj, rfl, hg2, hf2, hm2, hc2⟩ := hrel
        have hb2 : Below w.heap.size w wr := ((Chg.of (S := fun q => w.heap.size ≤ q) HB1.out).same (hc2.mono fun q _ e => by rw [show q = m from e]; exact mz)).below (Nat.le_refl _) fun q e => e
        by_cases hjl : j < pn
        · have hj' : j < t.2.length := by rw [← HP.out]; exact hjl
          obtain ⟨hsz, b2, o2, rfl, hbm, hbz, hcj⟩ := PCL1.out j hj'
          obtain ⟨x, hx⟩ : ∃ x, x = t.2[j]'hj' := ⟨_, rfl⟩
          rw [← hx] at hsz hcj
          have hcj2 : wr.cell? ⟨b2, o2 + j, none⟩ = some (.string x) := by rw [World.cell?_of_block (a := ⟨b2, o2 + j, none⟩) (hc2.block b2 hbz hbm)]; exact hcj
          have ETJ : Hid (t.2.take (j + 1) = t.2.take j ++ [x]) := Lib.hid (by rw [List.take_add_one, List.getElem?_eq_getElem hj', ← hx]; rfl)
          have ETR : Hid (∃ r, t.2 = t.2.take j ++ [x] ++ r) := Lib.hid ⟨t.2.drop (j + 1), by rw [← ETJ.out, List.take_append_drop]⟩
          have hxm : x.size ≤ 9223372036854775807 := Nat.le_trans hsz (by unfold maxLen; omega)
          have NU := Lib.hid (fun w => Pg.number_any x w hxm)
          have hNl := hN_le x
          have hm2l : m < wr.heap.size := hm2.in_
          by_cases hok : hE x = 0 ∧ hN x < most
          · obtain ⟨ok1, ok2⟩ := hok
            obtain ⟨u1, u2, u3⟩ := uE_own ok1
            have SO := fun w => sheetOf_any (hN x) x w hxm
            rw [u1, u2, u3, if_pos rfl] at SO
            rw [ok1] at NU
            have HST : Hid (gatL most (t.2.take (j + 1)) (some M) = some (ins (hN x) (hK x, hT x) M2)) := Lib.hid (by rw [ETJ.out, gatL_app, hg2]; show gat1 most (some M2) x = _; unfold gat1; exact if_pos ⟨ok1, ok2⟩)
            have HF2 := Lib.hid (gatL_fine most _ M _ HF.out HST.out)
            have asM2 := hf2.1
            obtain ⟨v, hv⟩ : ∃ v : Pag, v = (hK x, hT x) := ⟨_, rfl⟩
            rw [← hv] at SO HST HF2
            obtain ⟨no, hno⟩ : ∃ no, no = hN x := ⟨_, rfl⟩
            rw [← hno] at NU SO HST HF2 ok2 hNl
            have tt : decide (most ≤ no) = false := by simp; omega
            have HUP : Hid (∀ W, Below wr.heap.size wr W → ∃ w', (Instr.mapUpdate 124 (.map (some m)) (.int .i64 (no : Int)) (shV no v)).run Tryz.prog W = .ok () w' ∧ MapOf w' m .i64 ((ins no v M2).map entM) ∧ Chg (· = m) W w' ∧ w'.heap.size = W.heap.size) := Lib.hid fun W hW => (hm2.keep (hW.block m hm2l)).insM asM2 no v
            unfold shV at SO HUP
            replace SO := Lib.hid SO
            have HC2 := Lib.hid hc2
            clear hv hno u1 u2 u3 ok1 hg2 hf2 hm2 hc2 hb2 hcj hx hsz hj' asM2
            go_wp2_with (first
              | (go_at_call 137; refine (NU.out _).mono ?_; rintro e w3 ⟨rfl, hb3⟩; have B3 := Lib.hid hb3; clear hb3)
              | (go_at_call 138; refine (SO.out _).mono ?_; rintro e w4 ⟨rfl, hb4⟩; have B4 := Lib.hid (then_ B3.out hb4 B3.out.size); clear hb4; obtain ⟨w5, hmu, hm5, hc5, hs5⟩ := HUP.out _ B4.out; have M5 := Lib.hid hm5; have C5 := Lib.hid ((HC2.out.call B4.out).trans hc5 fun q _ e => e); clear hm5 hc5 hs5))
            go_roundw
            case rel => exact ⟨j + 1, _, by omega, by go_num, HST.out, HF2.out, M5.out, C5.out⟩
            case measure => simp [intOf]; omega
          · have HNO : Hid (gatT most ts = none) := Lib.hid (by
              obtain ⟨r1, e1⟩ := ETA.out
              obtain ⟨r2, e2⟩ := ETR.out
              unfold gatT
              rw [e1, gatL_app, gatL_app, HG.out]
              have e3 : gatL most t.2 (some M) = none := by
                rw [e2, gatL_app, gatL_app, hg2]
                have e4 : gatL most [x] (some M2) = none := by show gat1 most (some M2) x = none; unfold gat1; exact if_neg hok
                rw [e4, gatL_none]
              rw [e3, gatL_none])
            have HB2 := Lib.hid hb2
            obtain ⟨no, hno⟩ : ∃ no, no = hN x := ⟨_, rfl⟩
            obtain ⟨er, her⟩ : ∃ er, er = hE x := ⟨_, rfl⟩
            rw [← hno, ← her] at NU hok
            rw [← hno] at hNl
            clear hno her hg2 hf2 hm2 hc2 hb2 hcj hx hsz hj'
            by_cases c1 : er = 0
            · subst c1
              have tt : decide (most ≤ no) = true := by simp; omega
              clear hok
              go_wp2_with (go_at_call 137; refine (NU.out _).mono ?_; rintro e w3 ⟨rfl, hb3⟩; have B3 := Lib.hid (then_ HB2.out hb3 HB2.out.size); clear hb3)
              go_ret2
              exact ⟨.inr ⟨HNO.out, rfl⟩, B3.out⟩
            · have tt : ((er : Int) != 0) = true := by simpa using c1
              clear hok c1
              go_wp2_with (go_at_call 137; refine (NU.out _).mono ?_; rintro e w3 ⟨rfl, hb3⟩; have B3 := Lib.hid (then_ HB2.out hb3 HB2.out.size); clear hb3)
              go_ret2
              exact ⟨.inr ⟨HNO.out, rfl⟩, B3.out⟩
        · obtain rfl : j = pn := by omega
          have e1 : t.2.take j = t.2 := by rw [HP.out, List.take_length]
          rw [e1] at hg2
          have HG2 : Hid (gatL most ((ts.take (k + 1)).flatMap (·.2)) (some []) = some M2) := Lib.hid (by rw [ETK.out, gatL_app, HG.out]; exact hg2)
          have HF2 := Lib.hid hf2
          have HM2 := Lib.hid hm2
          have HB2 := Lib.hid hb2
          clear hg2 hf2 hm2 hc2 hb2 e1
          go_wp2
          go_roundw
          case rel => exact ⟨k + 1, M2, by omega, by go_num, HG2.out, HF2.out, HM2.out, HB2.out⟩
          case measure => simp [intOf]; omega
    · obtain rfl : k = n := by omega
      have e1 : ts.take k = ts := by rw [HN.out, List.take_length]
      rw [e1] at hg
      have MO := Lib.hid hmo
      have HB := Lib.hid hb
      have HG := Lib.hid hg
      clear hmo hb hg hf e1
      go_wp2
      go_ret2
      exact ⟨.inl ⟨m, M, HG.out, rfl, MO.out, by rw [HMZ.out]; exact Nat.le_refl _⟩, HB.out⟩
end Go.Proofs.YtndhmidgnpobjaaGreatDoor
