/- merged: The contract of a log's standing. Conditions: a disk that isn't down, on which the log's stretch lies. The contract of redo.Open. Conditions: a disk that isn't down. -/
import Derived.Test.YtndhmidgnpobjaaGreatDoorRdoE
import Derived.Test.YtndhmidgnpobjaaGreatDoorTxns
section
namespace Go.Proofs.YtndhmidgnpobjaaGreatDoor
open Go.ChangeShapes Go.WideShapes Go.ChangeAt Go.RowKit
set_option linter.unusedVariables false
set_option linter.unusedSimpArgs false

/-- the sectors of a stretch, as they are read -/
def st (s : St) (fr : Nat) : Nat → ByteArray := fun p => vw s (fr + p)
section
variable {w : World} {lg d sb mb sc : Nat} {wv : Value} {N : Nat} {s : St} {l : LogS}
set_option maxRecDepth 10000 in
set_option maxHeartbeats 2000000 in
theorem standing_any (hL : LogAt w lg d l) (hk : l.Ok) (hD : DiskAt w d sb mb sc wv N s) (hd : s.down = false) (hfit : l.from_ + l.size ≤ N) :
    Calls Tryz.prog 135 #[.pointer (some ⟨lg, 0, none⟩)] w fun e w' => ∃ v, e = .returned (.tuple #[v, .int .i64 0]) ∧ StrsIn w' (fun b => w.heap.size ≤ b) v (txn (st s l.from_) l.used l.next l.left) ∧ Below w.heap.size w w' := by
  have hleft := left_any hL hk
  have h65 := hD.ok.max
  obtain ⟨f, hf⟩ : ∃ f, f = st s l.from_ := ⟨_, rfl⟩
  obtain ⟨LE, hLE⟩ : ∃ LE, LE = l.left := ⟨_, rfl⟩
  have hle : LE ≤ l.size - l.used := by rw [hLE]; unfold LogS.left; split <;> omega
  have hus := hk.used
  rw [← hf, ← hLE]
  rw [← hLE] at hleft
  have HLeft := Lib.hid hleft
  have HL := Lib.hid hL
  have HK := Lib.hid hk
  have HD := Lib.hid hD
  have HDn := Lib.hid hd
  clear hleft
  by_cases c0 : LE = 0
  · have e0 := txn_zero f l.used l.next
    rw [c0] at HLeft ⊢
    rw [e0]
    clear hL hk hD hd hf hLE e0
    go_enter Tryz.func135, Tryz.ntmps135
    go_wp2_with (go_at_call 188; refine HLeft.out.mono ?_; rintro e w' ⟨rfl, q, rfl⟩)
    go_ret2
    exact ⟨_, rfl, StrsIn.nil _ _, below_drewN (Below.refl _ _) q⟩
  have t0 : ((LE : Int) == 0) = false := by rw [beq_eq_false_iff_ne]; omega
  have c1 : 1 ≤ LE := by omega
  clear c0
  have R0 := Lib.hid (fun (W : World) (hb : Below w.heap.size w W) => show Calls Tryz.prog 189 #[.pointer (some ⟨lg, 0, none⟩), .int .i64 0, .int .i64 1] W fun e w' => ∃ b, e = .returned (.tuple #[.slice (some ⟨b, 0, none⟩) 1 1, .int .i64 0]) ∧ w'.cell? ⟨b, 0, none⟩ = some (.string (f l.used)) ∧ Below W.heap.size W w' from (by
    refine (lread_any (show LogAt W lg d l from Own.keep hL hb) (hD.below hb) hd 0 1 (by omega) (by omega)).mono ?_
    rintro e w' ⟨b, rfl, ho, -, hb'⟩
    refine ⟨b, rfl, ?_, hb'⟩
    have := ho.at_.1 0
    rw [rowS_get 1 _ 1 0 (by omega), if_pos (by omega)] at this
    rw [this, hf]
    rfl))
  have zf : ∀ p, p < l.size → (f p).size = 64 := fun p hp => by rw [hf]; exact vw_size hD.ok _ (by omega)
  obtain ⟨X, hX⟩ : ∃ X, X = f l.used := ⟨_, rfl⟩
  have zX : X.size = 64 := by rw [hX]; exact zf _ (by omega)
  obtain ⟨C, hC⟩ : ∃ C, C = cnt X l.next LE := ⟨_, rfl⟩
  have hC64 : C ≤ 64 := by rw [hC]; exact cnt_le _ _ _
  have hCf : C ≠ 0 → 1 + 9 * C ≤ LE := fun h => by rw [hC] at h ⊢; exact (cnt_fit _ _ _ h).1
  have HC := Lib.hid (fun (W : World) (hb : Below w.heap.size w W) => show Calls Tryz.prog 190 #[.pointer (some ⟨lg, 0, none⟩), .string X] W fun e w' => e = .returned (.int .i64 (C : Int)) ∧ Below W.heap.size W w' from (by
    have := count_any (show LogAt W lg d l from Own.keep hL hb) hk X (by omega)
    rw [← hLE, ← hC] at this
    exact this))
  have RK := Lib.hid (fun (k : Nat) (hk : k < C) (W : World) (hb : Below w.heap.size w W) => show Calls Tryz.prog 189 #[.pointer (some ⟨lg, 0, none⟩), .int .i64 (1 + (k : Int) * 9), .int .i64 9] W fun e w' => ∃ b, e = .returned (.tuple #[.slice (some ⟨b, 0, none⟩) 9 9, .int .i64 0]) ∧ Own w' b 9 (rowS 9 (fun i => f (l.used + 1 + 9 * k + i)) 9) ∧ Below W.heap.size W w' from (by
    have h1 := hCf (by omega)
    have := lread_any (show LogAt W lg d l from Own.keep hL hb) (hD.below hb) hd (1 + k * 9) 9 (by omega) (by omega)
    have e : ((1 + k * 9 : Nat) : Int) = 1 + (k : Int) * 9 := by omega
    rw [e] at this
    refine this.mono ?_
    rintro e w' ⟨b, rfl, ho, -, hb'⟩
    refine ⟨b, rfl, ?_, hb'⟩
    have ef : (fun i => vw s (l.from_ + l.used + (1 + k * 9) + i)) = fun i => f (l.used + 1 + 9 * k + i) := by
      funext i; rw [hf]; unfold st; congr 1; omega
    rw [ef] at ho
    exact ho))
  have GK := Lib.hid (fun (k : Nat) (hk : k < C) (W : World) (b : Nat) (ho : Own W b 9 (rowS 9 (fun i => f (l.used + 1 + 9 * k + i)) 9)) => gather_any W b _ ho (fun i hi => zf _ (by have := hCf (by omega); omega)))
  have TY := Lib.hid (txn_yes f l.used l.next LE)
  have TN := Lib.hid (txn_no f l.used l.next LE)
  rw [← hX, ← hC] at TY TN
  rw [← hX] at R0
  obtain ⟨T, hT⟩ : ∃ T, T = txn f l.used l.next LE := ⟨_, rfl⟩
  rw [← hT] at TY TN ⊢
  have ZF := Lib.hid zf
  have CF := Lib.hid hCf
  clear hL hk hD hd hf hLE hX hC hT zf hCf zX
  go_enter Tryz.func135, Tryz.ntmps135
  go_upto_region 3 with (go_at_call 188; refine HLeft.out.mono ?_; rintro e w' ⟨rfl, q, rfl⟩)
  have B0 : Below w.heap.size w (w.drewN q) := below_drewN (Below.refl _ _) q
  replace B0 := Lib.hid B0
  go_upto_region 6 with (go_at_call 189; refine (R0.out _ B0.out).mono ?_; rintro e w1 ⟨b0, rfl, hc0, hb1⟩; have B1 := Lib.hid (B0.out.trans hb1); clear hb1)
  obtain ⟨g, hg⟩ : ∃ g : Nat → ByteArray, g = fun k => gatP (nine f (l.used + 1 + 9 * k)) := ⟨_, rfl⟩
  have HG := Lib.hid hg
  clear hg
  go_wp2_with (go_at_call 190; refine (HC.out _ B1.out).mono ?_; rintro e w2 ⟨rfl, hb2⟩; have B2 := Lib.hid (B1.out.trans (hb2.mono B1.out.size)); have HM := make_strs C (by omega) g w2; clear hb2)
  have L0 : Below w.heap.size w (w2.alloc (.cells (rowS C g 0) 9)) := B2.out.alloc B2.out.size _
  have z2 := B2.out.size
  have HO := Own.made w2 9 (rowS C g 0)
  clear HM
  go_loopw [31] (fun i wr => ∃ k : Nat, k ≤ C ∧ i = .int .i64 k ∧ Own wr w2.heap.size 9 (rowS C g k) ∧ Below w.heap.size w wr ∧ ∀ j, j < k → isPg (nine f (l.used + 1 + 9 * j)) = true) (fun i wr => C - (intOf i).toNat)
  case atStart => exact ⟨0, by omega, rfl, HO, L0, fun j hj => by omega⟩
  case round =>
    clear HO L0
    obtain ⟨k, hk, rfl, hO, hL, hP⟩ := hrel
    replace hP := Lib.hid hP
    replace hO := Lib.hid hO
    have hsz := hL.size
    replace hL := Lib.hid hL
    by_cases hlt : k < C
    · go_upto_region 13 with (go_at_call 189; refine (RK.out k hlt _ hL.out).mono ?_; rintro e w3 ⟨b3, rfl, ho3, hb3⟩)
      have hG3 := GK.out k hlt w3 b3 ho3
      have L3 := Lib.hid (hL.out.trans (hb3.mono hL.out.size))
      have O3 := hO.out.keep hb3
      replace O3 := Lib.hid O3
      clear ho3 hb3
      have eg : gatP ((List.range 9).map (fun i => f (l.used + 1 + 9 * k + i))) = g k := by rw [HG.out]; rfl
      have ei : isPg ((List.range 9).map (fun i => f (l.used + 1 + 9 * k + i))) = isPg (nine f (l.used + 1 + 9 * k)) := rfl
      rw [eg, ei] at hG3
      clear eg ei
      cases hi : isPg (nine f (l.used + 1 + 9 * k)) with
      | false =>
        rw [hi] at hG3
        replace hG3 := Lib.hid hG3
        have HT := Lib.hid (TN.out k hlt hi)
        clear hi
        go_wp2_with (go_at_call 191; refine hG3.out.mono ?_; rintro e w4 ⟨rfl, hb4⟩)
        go_ret2
        rw [HT.out]
        exact ⟨_, rfl, StrsIn.nil _ _, L3.out.trans (hb4.mono L3.out.size)⟩
      | true =>
        rw [hi] at hG3
        replace hG3 := Lib.hid hG3
        have HI := Lib.hid hi
        clear hi
        go_upto_region 16 with (go_at_call 191; refine hG3.out.mono ?_; rintro e w4 ⟨rfl, hb4⟩)
        have L4 := Lib.hid (L3.out.trans (hb4.mono L3.out.size))
        have O4 := O3.out.keep hb4
        obtain ⟨c1, c2, c3⟩ := O4.at_
        have c4 := c1 k
        rw [rowS_get C g k k hlt] at c4
        have c5 := c2 k
        replace O4 := Lib.hid O4
        clear c1 c2 hb4
        go_wp2
        go_roundw
        case rel =>
          refine ⟨k + 1, by omega, by go_num, ?_, L4.out.setCell z2 _, fun j hj => ?_⟩
          · have := O4.out.put k (.string (g k))
            rw [rowS_set C g k hlt] at this
            exact this
          · by_cases e : j = k
            · subst e; exact HI.out
            · exact hP.out j (by omega)
        case measure => simp [intOf]; omega
    · obtain rfl : k = C := by omega
      go_wp2
      go_ret2
      rw [TY.out hP.out]
      refine ⟨_, rfl, ?_, hL.out⟩
      have := StrsIn.row (S := fun b => w.heap.size ≤ b) hO.out (by unfold maxLen; omega) (fun i hi => ?_) z2
      · rw [HG.out] at this
        exact this
      · rw [HG.out]
        show (gatP (nine f (l.used + 1 + 9 * i))).size ≤ maxLen
        have hcf := CF.out (by omega)
        rw [gatP_size _ (fun s hs => ?_) (by simp [nine])]
        · unfold maxLen; omega
        · obtain ⟨j, hj, rfl⟩ := List.mem_map.1 hs
          exact ZF.out _ (by have := List.mem_range.1 hj; omega)
end
end Go.Proofs.YtndhmidgnpobjaaGreatDoor
end
section
namespace Go.Proofs.YtndhmidgnpobjaaGreatDoor
open Go.ChangeShapes Go.WideShapes Go.ChangeAt Go.RowKit
set_option linter.unusedVariables false
set_option linter.unusedSimpArgs false

theorem info_txn : (Tryz.prog.info? 211).map (fun i => (i.zero, i.size, i.bytes)) = some (some (.agg #[.int .u64 0, .slice none 0 0]), 2, 32) := by kernel_rfl
theorem pair_cells (W : World) (T : TypeId) (x y : Value) (j : Nat) {u : Value} (hu : [x, y][j]? = some u) : (W.alloc (.cells #[x, y] T)).cell? ((⟨W.heap.size, 0, none⟩ : Addr).add j) = some u := by
  have e : (⟨W.heap.size, 0, none⟩ : Addr).add j = ⟨W.heap.size, j, none⟩ := by unfold Addr.add; split <;> simp_all
  rw [e]
  have := (Own.made W T #[x, y]).at_.1 j
  exact this.trans (by simpa using hu)
/-- Open's loop: the transactions found so far -/
structure OpenAt (w wr : World) (d fr sz seq : Nat) (f : Nat → ByteArray) (TS : List (Nat × List ByteArray)) (v : Value) (acc : List (Nat × List ByteArray)) : Prop where
  own : TxOwn wr 211 (fun b => w.heap.size < b) v acc
  log : LogAt wr w.heap.size d ⟨fr, sz, long acc, (seq + acc.length) % 18446744073709551616, false⟩
  fit : long acc ≤ sz
  more : acc ++ stands f (sz + 1 - acc.length) (long acc) (sz - long acc) ((seq + acc.length) % 18446744073709551616) = TS
  below : Below w.heap.size w wr
section
variable {w : World} {d sb mb sc : Nat} {wv : Value} {N : Nat} {s : St}
set_option maxRecDepth 10000 in
set_option maxHeartbeats 2000000 in
theorem open_any (hD : DiskAt w d sb mb sc wv N s) (hd : s.down = false) (fr sz seq : Nat) (hfit : fr + sz ≤ N) (h1 : 1 ≤ sz) (hseq : seq ≤ 18446744073709551615) :
    Calls Tryz.prog 69 #[.pointer (some ⟨d, 0, none⟩), .int .i64 (fr : Int), .int .i64 (sz : Int), .int .u64 (seq : Int)] w fun e w' => ∃ lg v, e = .returned (.tuple #[.pointer (some ⟨lg, 0, none⟩), v, .int .i64 0]) ∧ w.heap.size ≤ lg ∧
      LogAt w' lg d ⟨fr, sz, long (standsAt (st s fr) sz seq), (seq + (standsAt (st s fr) sz seq).length) % 18446744073709551616, false⟩ ∧ TxnsIn w' (fun b => lg < b) v (standsAt (st s fr) sz seq) ∧ Below w.heap.size w w' := by
  have hN := hD.ok.max
  have HLen := Lib.hid (len_any hD)
  obtain ⟨f, hf⟩ : ∃ f, f = st s fr := ⟨_, rfl⟩
  obtain ⟨TS, hTS⟩ : ∃ TS, TS = standsAt f sz seq := ⟨_, rfl⟩
  rw [← hf, ← hTS]
  have HST := Lib.hid (fun (W : World) (lg u nx : Nat) (hb : Below w.heap.size w W) (hL : LogAt W lg d ⟨fr, sz, u, nx, false⟩) (hu : u ≤ sz) (hnx : nx ≤ 18446744073709551615) => show Calls Tryz.prog 135 #[.pointer (some ⟨lg, 0, none⟩)] W fun e w' => ∃ v, e = .returned (.tuple #[v, .int .i64 0]) ∧ StrsIn w' (fun b => W.heap.size ≤ b) v (txn f u nx (sz - u)) ∧ Below W.heap.size W w' from (by
    have := standing_any hL ⟨by show fr + sz ≤ 65536; omega, hu, hnx⟩ (hD.below hb) hd (by show fr + sz ≤ N; omega)
    rw [hf]
    exact this))
  have t1 : decide ((fr : Int) < 0) = false := by simp
  have t2 : decide ((sz : Int) < 1) = false := by simp; omega
  have t3 : decide ((N : Int) - (sz : Int) < (fr : Int)) = false := by simp; omega
  have HT := Lib.hid hTS
  clear hD hd hf hTS
  go_enter Tryz.func69, Tryz.ntmps69
  go_upto_region 4 with (go_at_call 41; refine HLen.out.mono ?_; rintro e w' ⟨rfl, rfl⟩)
  have e0 : (seq + 0) % 18446744073709551616 = seq := by omega
  obtain ⟨W0, hW0⟩ : ∃ W0, W0 = w.alloc (.cells #[.pointer (some ⟨d, 0, none⟩), .int .i64 (fr : Int), .int .i64 (sz : Int), .int .i64 0, .int .u64 (seq : Int), .bool false] 207) := ⟨_, rfl⟩
  have A0 : OpenAt w W0 d fr sz seq f TS (.slice none 0 0) [] := ⟨TxOwn.nil _ _ _, by
    have := Own.made w 207 #[.pointer (some ⟨d, 0, none⟩), .int .i64 (fr : Int), .int .i64 (sz : Int), .int .i64 0, .int .u64 (seq : Int), .bool false]
    rw [← hW0] at this
    show LogAt W0 w.heap.size d ⟨fr, sz, 0, (seq + 0) % 18446744073709551616, false⟩
    rw [e0]
    exact this, Nat.zero_le _, by
    show [] ++ stands f (sz + 1 - 0) 0 (sz - 0) ((seq + 0) % 18446744073709551616) = TS
    rw [e0, HT.out]
    rfl, hW0 ▸ (Below.refl _ _).alloc (Nat.le_refl _) _⟩
  rw [← hW0]
  clear hW0 e0
  replace A0 := Lib.hid A0
  go_wp2
  go_loopw [12] (fun v wr => ∃ acc, OpenAt w wr d fr sz seq f TS v acc) (fun v wr => sz + 1 - lenOf v)
  case atStart => exact ⟨[], A0.out⟩
  case round =>
    clear A0
    obtain ⟨acc, hA⟩ := hrel
    have zb := hA.below.size
    obtain ⟨NX, hNX⟩ : ∃ NX, NX = (seq + acc.length) % 18446744073709551616 := ⟨_, rfl⟩
    obtain ⟨U, hU⟩ : ∃ U, U = long acc := ⟨_, rfl⟩
    have hL := hA.log
    have hfu := hA.fit
    rw [← hNX, ← hU] at hL
    rw [← hU] at hfu
    have hnx : NX ≤ 18446744073709551615 := by omega
    have hmore := hA.more
    rw [← hNX, ← hU] at hmore
    have hge := long_ge acc
    have HS := HST.out wr w.heap.size U NX hA.below hL hfu hnx
    have HSTOP := stands_stop f (sz + 1 - acc.length) U (sz - U) NX
    have HSTEP := stands_step f (sz + 1 - acc.length) U (sz - U) NX (by omega)
    have hTf := txn_fit f U NX (sz - U)
    have hT64 := txn_le f U NX (sz - U)
    obtain ⟨TX, hTX⟩ : ∃ TX, TX = txn f U NX (sz - U) := ⟨_, rfl⟩
    rw [← hTX] at HS HSTOP HSTEP hTf hT64
    replace HS := Lib.hid HS
    replace HSTOP := Lib.hid HSTOP
    replace HSTEP := Lib.hid HSTEP
    replace hmore := Lib.hid hmore
    replace hTf := Lib.hid hTf
    have HNX := Lib.hid hNX
    have HU := Lib.hid hU
    have hL := Lib.hid hL
    obtain ⟨va, vc, rfl, hv1, hv2⟩ := hA.own.shape
    obtain ⟨AL, hAL⟩ : ∃ AL, AL = acc.length := ⟨_, rfl⟩
    rw [← hAL] at hv1 hge ⊢
    have hAB : AL ≤ 65536 := by rw [← hU] at hge; omega
    have HAL := Lib.hid hAL
    replace hA := Lib.hid hA
    clear hTX hNX hU hAL
    go_upto_region 6 with (go_at_call 135; refine HS.out.mono ?_; rintro e w2 ⟨v2, rfl, hs2, hb2⟩; obtain ⟨pa, pc, rfl, hp1, hp2, hp3⟩ := hs2.open_; clear hp3)
    obtain ⟨TL, hTL⟩ : ∃ TL, TL = TX.length := ⟨_, rfl⟩
    have B2 := Lib.hid (then_ hA.out.below hb2 zb)
    replace hs2 := Lib.hid hs2
    have HTL := Lib.hid hTL
    rw [← hTL] at hp1 hT64 ⊢
    clear hTL
    by_cases c0 : TL = 0
    · have t4 : ((TL : Int) == 0) = true := by rw [beq_iff_eq]; omega
      have e := hmore.out
      rw [HSTOP.out (by rw [← HTL.out]; exact c0), List.append_nil] at e
      have E := Lib.hid e
      clear e c0
      go_wp2
      go_ret3
      have a1 := hA.out.own.below hb2
      rw [← HAL.out] at a1
      have a2 : LogAt w2 w.heap.size d _ := Own.keep hA.out.log hb2
      rw [← E.out]
      exact ⟨_, _, rfl, Nat.le_refl _, a2, a1.in_, B2.out⟩
    · have t4 : ((TL : Int) == 0) = false := by rw [beq_eq_false_iff_ne]; omega
      have c1 : 1 ≤ TL := by omega
      have E := Lib.hid (HSTEP.out (by rw [← HTL.out]; exact c0))
      have F := Lib.hid (hTf.out (by rw [← HTL.out]; exact c0))
      rw [← HTL.out] at E F
      have o4 : w2.cell? ⟨w.heap.size, 4, none⟩ = some (.int .u64 (NX : Int)) := by
        have := (Own.at_ (show Own w2 w.heap.size _ _ from Own.keep hL.out hb2)).1 4
        simpa [LogS.cells] using this
      have L2 : LogAt w2 w.heap.size d _ := Own.keep hL.out hb2
      have zlg : w.heap.size < wr.heap.size := hL.out.in_
      obtain ⟨vs, HR⟩ := hA.out.own.below hb2
      have z2 := hb2.size
      obtain ⟨i0, hi0, hz0, hz1, hz2⟩ := info_parts info_txn
      replace L2 := Lib.hid L2
      replace HR := Lib.hid HR
      clear c0 hb2
      go_upto_region 10 with fail
      have hrow := HR.out.row
      rw [← HAL.out] at hrow
      go_wp2_with (at_builtin; refine wpList_append_own_at _ rfl _ _ 121 rfl 0 211 i0 (.agg #[.int .u64 0, .slice none 0 0]) 2 32 Tryz.underlying121 hi0 hz0 hz1 hz2 rfl (by decide) (.slice va AL vc) AL (txc acc vs) rfl (hrow.alloc _) ⟨w2.heap.size, 0, none⟩ 1 1 [.int .u64 (NX : Int), .slice pa TL pc] rfl rfl ?c1 ?c2 (by unfold maxLen; omega) (by omega) (Nat.zero_le _) ?_)
      case c1 => intro j u hu; exact pair_cells _ _ _ _ _ hu
      case c2 => intro u hu; simp at hu; rcases hu with rfl | rfl <;> rfl
      intro v' w3 hown hgrow hnil hloc
      clear hnil hrow
      have hcell : StrsIn w2 (fun b => w.heap.size < b ∧ (Value.slice va AL vc).ownBlock ≠ some b) (.slice pa TL pc) TX := by
        have hs := hs2.out
        rw [← HTL.out] at hs
        refine hs.mono fun b hb hge' => ⟨by omega, fun e => ?_⟩
        obtain ⟨vs0, hr0⟩ := hA.out.own
        have := (hr0.row.lt b (by rw [← HAL.out]; exact e)).2
        omega
      rw [HAL.out] at hown hgrow hloc hcell
      have HP := TxRow.push HR.out (t := (NX, TX)) hcell ((Below.refl _ _).alloc (Nat.le_refl _) _) hown hgrow (hloc.imp_right fun h => h.trans (by simp)) (fun q hq => by omega)
      obtain ⟨hOwn, hChg⟩ := HP
      have hne : ∀ q, (Value.slice va acc.length vc).ownBlock = some q → w.heap.size < q := HR.out.at_
      have L3 : LogAt w3 w.heap.size d _ := hChg.own L2.out fun e => by have := hne _ e; omega
      have B3 : Below w.heap.size w w3 := B2.out.trans (hChg.below (by have := B2.out.size; omega) fun q hq => by have := hne q hq; omega)
      obtain ⟨xa, xc, rfl, hx1, hx2⟩ := hOwn.shape
      have hk3 : LogS.Ok ⟨fr, sz, U, NX, false⟩ := ⟨by show fr + sz ≤ 65536; omega, hfu, hnx⟩
      have HADD := Lib.hid (add_any L3 hk3 TL (by omega))
      replace hOwn := Lib.hid hOwn
      replace L3 := Lib.hid L3
      replace B3 := Lib.hid B3
      clear hown hgrow hloc hcell hChg hne hk3 hx1 hx2
      go_wp2_with (go_at_call 136; refine HADD.out.mono ?_; rintro e w4 ⟨rfl, l4, c4, z4⟩; replace z4 := Lib.hid z4)
      go_roundw
      case rel =>
        refine ⟨acc ++ [(NX, TX)], ?_, ?_, ?_, ?_, ?_⟩
        · have hq := hOwn.out.keep c4 fun b hb hS e => by omega
          rw [List.length_append] at hq
          exact hq
        · have e1 : long (acc ++ [(NX, TX)]) = U + (1 + 9 * TL) := by rw [long_snoc, ← HU.out]; show U + (1 + 9 * TX.length) = _; rw [← HTL.out]
          have e2 : (seq + (acc ++ [(NX, TX)]).length) % 18446744073709551616 = (NX + 1) % 18446744073709551616 := by rw [HNX.out]; simp; omega
          rw [e1, e2]
          exact l4
        · rw [long_snoc, ← HU.out]
          show U + (1 + 9 * TX.length) ≤ sz
          rw [← HTL.out]
          have := F.out; omega
        · have e1 : long (acc ++ [(NX, TX)]) = U + (1 + 9 * TL) := by rw [long_snoc, ← HU.out]; show U + (1 + 9 * TX.length) = _; rw [← HTL.out]
          have e2 : (seq + (acc ++ [(NX, TX)]).length) % 18446744073709551616 = (NX + 1) % 18446744073709551616 := by rw [HNX.out]; simp; omega
          have e3 : sz + 1 - (acc ++ [(NX, TX)]).length = sz + 1 - acc.length - 1 := by simp; omega
          rw [e1, e2, e3, ← hmore.out, E.out, List.append_assoc, ← Nat.sub_sub]
          rfl
        · exact B3.out.trans (c4.below (by have := B3.out.size; omega) fun q hq => by omega)
      case measure =>
        simp [lenOf]
        have := HAL.out
        have := HU.out
        omega
end
end Go.Proofs.YtndhmidgnpobjaaGreatDoor
end
