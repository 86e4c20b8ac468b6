
/- The contract of redo.Open. Conditions: a disk that isn't down. -/
import Derived.Test.YtmincpmkiheofaaRdoF
import Derived.Test.YtmincpmkiheofaaTxns
namespace Go.Proofs.Ytmincpmkiheofaa
open Go.ChangeShapes Go.WideShapes Go.ChangeAt Go.RowKit
set_option linter.unusedVariables false
set_option linter.unusedSimpArgs false

theorem info_txn : (Try.prog.info? 67).map (fun i => (i.zero, i.size, i.bytes)) = some (some (.agg #[.int .u64 0, .slice none 0 0]), 2, 32) := by kernel_rfl
theorem pair_cells (W : World) (T : TypeId) (x y : Value) (j : Nat) {u : Value} (hu : [x, y][j]? = some u) : (W.alloc (.cells #[x, y] T)).cell? ((⟨W.heap.size, 0, none⟩ : Addr).add j) = some u := by
  have e : (⟨W.heap.size, 0, none⟩ : Addr).add j = ⟨W.heap.size, j, none⟩ := by unfold Addr.add; split <;> simp_all
  rw [e]
  have := (Own.made W T #[x, y]).at_.1 j
  exact this.trans (by simpa using hu)
/-- Open's loop: the transactions found so far -/
structure OpenAt (w wr : World) (d fr sz seq : Nat) (f : Nat → ByteArray) (TS : List (Nat × List ByteArray)) (v : Value) (acc : List (Nat × List ByteArray)) : Prop where
  own : TxOwn wr 67 (fun b => w.heap.size < b) v acc
  log : LogAt wr w.heap.size d ⟨fr, sz, long acc, (seq + acc.length) % 18446744073709551616, false⟩
  fit : long acc ≤ sz
  more : acc ++ stands f (sz + 1 - acc.length) (long acc) (sz - long acc) ((seq + acc.length) % 18446744073709551616) = TS
  below : Below w.heap.size w wr
section
variable {w : World} {d sb mb sc : Nat} {wv : Value} {N : Nat} {s : St}
set_option maxRecDepth 10000 in
theorem open_nil (w : World) (fr sz seq : Int) : Calls Try.prog 10 #[.pointer none, .int .i64 fr, .int .i64 sz, .int .u64 seq] w fun e w' => e = .returned (.tuple #[.pointer none, .slice none 0 0, .int .i64 1]) ∧ w = w' := by
  go_enter Try.func10, Try.ntmps10
  go_wp2
  go_ret3
  exact ⟨rfl, rfl⟩
set_option maxRecDepth 10000 in
theorem open_no (hD : DiskAt w d sb mb sc wv N s) (fr sz seq : Int) (h1 : (Lit.int .i64 sz).wf = true) (h : fr < 0 ∨ sz < 1 ∨ (N : Int) - sz < fr) : Calls Try.prog 10 #[.pointer (some ⟨d, 0, none⟩), .int .i64 fr, .int .i64 sz, .int .u64 seq] w fun e w' => e = .returned (.tuple #[.pointer none, .slice none 0 0, .int .i64 1]) ∧ w = w' := by
  have hN := hD.ok.max
  have HL := Lib.hid (len_any hD)
  obtain ⟨z1, z2⟩ := wf_i64 h1
  clear hD h1
  by_cases c1 : fr < 0
  · have t1 : decide (fr < 0) = true := by simpa using c1
    clear h c1
    go_enter Try.func10, Try.ntmps10
    go_wp2
    go_ret3
    exact ⟨rfl, rfl⟩
  · have t1 : decide (fr < 0) = false := by simpa using c1
    by_cases c2 : sz < 1
    · have t2 : decide (sz < 1) = true := by simpa using c2
      clear h c1 c2
      go_enter Try.func10, Try.ntmps10
      go_wp2
      go_ret3
      exact ⟨rfl, rfl⟩
    · have t2 : decide (sz < 1) = false := by simpa using c2
      have t3 : decide ((N : Int) - sz < fr) = true := by simp; omega
      have z3 : 1 ≤ sz := by omega
      clear h c1 c2
      go_enter Try.func10, Try.ntmps10
      go_wp2_with (go_at_call 24; refine HL.out.mono ?_; rintro e w' ⟨rfl, rfl⟩)
      go_ret3
      exact ⟨rfl, rfl⟩
set_option maxRecDepth 10000 in
set_option maxHeartbeats 2000000 in
theorem open_any (hD : DiskAt w d sb mb sc wv N s) (hd : s.down = false) (fr sz seq : Nat) (hfit : fr + sz ≤ N) (h1 : 1 ≤ sz) (hseq : seq ≤ 18446744073709551615) :
    Calls Try.prog 10 #[.pointer (some ⟨d, 0, none⟩), .int .i64 (fr : Int), .int .i64 (sz : Int), .int .u64 (seq : Int)] w fun e w' => ∃ lg v, e = .returned (.tuple #[.pointer (some ⟨lg, 0, none⟩), v, .int .i64 0]) ∧ w.heap.size ≤ lg ∧
      LogAt w' lg d ⟨fr, sz, long (standsAt (st s fr) sz seq), (seq + (standsAt (st s fr) sz seq).length) % 18446744073709551616, false⟩ ∧ TxnsIn w' (fun b => lg < b) v (standsAt (st s fr) sz seq) ∧ Below w.heap.size w w' := by
  have hN := hD.ok.max
  have HLen := Lib.hid (len_any hD)
  obtain ⟨f, hf⟩ : ∃ f, f = st s fr := ⟨_, rfl⟩
  obtain ⟨TS, hTS⟩ : ∃ TS, TS = standsAt f sz seq := ⟨_, rfl⟩
  rw [← hf, ← hTS]
  have HST := Lib.hid (fun (W : World) (lg u nx : Nat) (hb : Below w.heap.size w W) (hL : LogAt W lg d ⟨fr, sz, u, nx, false⟩) (hu : u ≤ sz) (hnx : nx ≤ 18446744073709551615) => show Calls Try.prog 29 #[.pointer (some ⟨lg, 0, none⟩)] W fun e w' => ∃ v, e = .returned (.tuple #[v, .int .i64 0]) ∧ StrsIn w' (fun b => W.heap.size ≤ b) v (txn f u nx (sz - u)) ∧ Below W.heap.size W w' from (by
    have := standing_any hL ⟨by show fr + sz ≤ 65536; omega, hu, hnx⟩ (hD.below hb) hd (by show fr + sz ≤ N; omega)
    rw [hf]
    exact this))
  have t1 : decide ((fr : Int) < 0) = false := by simp
  have t2 : decide ((sz : Int) < 1) = false := by simp; omega
  have t3 : decide ((N : Int) - (sz : Int) < (fr : Int)) = false := by simp; omega
  have HT := Lib.hid hTS
  clear hD hd hf hTS
  go_enter Try.func10, Try.ntmps10
  go_upto_region 4 with (go_at_call 24; refine HLen.out.mono ?_; rintro e w' ⟨rfl, rfl⟩)
  have e0 : (seq + 0) % 18446744073709551616 = seq := by omega
  obtain ⟨W0, hW0⟩ : ∃ W0, W0 = w.alloc (.cells #[.pointer (some ⟨d, 0, none⟩), .int .i64 (fr : Int), .int .i64 (sz : Int), .int .i64 0, .int .u64 (seq : Int), .bool false] 64) := ⟨_, rfl⟩
  have A0 : OpenAt w W0 d fr sz seq f TS (.slice none 0 0) [] := ⟨TxOwn.nil _ _ _, by
    have := Own.made w 64 #[.pointer (some ⟨d, 0, none⟩), .int .i64 (fr : Int), .int .i64 (sz : Int), .int .i64 0, .int .u64 (seq : Int), .bool false]
    rw [← hW0] at this
    show LogAt W0 w.heap.size d ⟨fr, sz, 0, (seq + 0) % 18446744073709551616, false⟩
    rw [e0]
    exact this, Nat.zero_le _, by
    show [] ++ stands f (sz + 1 - 0) 0 (sz - 0) ((seq + 0) % 18446744073709551616) = TS
    rw [e0, HT.out]
    rfl, hW0 ▸ (Below.refl _ _).alloc (Nat.le_refl _) _⟩
  rw [← hW0]
  clear hW0 e0
  replace A0 := Lib.hid A0
  go_wp2
  go_loopw [12] (fun v wr => ∃ acc, OpenAt w wr d fr sz seq f TS v acc) (fun v wr => sz + 1 - lenOf v)
  case atStart => exact ⟨[], A0.out⟩
  case round =>
    clear A0
    obtain ⟨acc, hA⟩ := hrel
    have zb := hA.below.size
    obtain ⟨NX, hNX⟩ : ∃ NX, NX = (seq + acc.length) % 18446744073709551616 := ⟨_, rfl⟩
    obtain ⟨U, hU⟩ : ∃ U, U = long acc := ⟨_, rfl⟩
    have hL := hA.log
    have hfu := hA.fit
    rw [← hNX, ← hU] at hL
    rw [← hU] at hfu
    have hnx : NX ≤ 18446744073709551615 := by omega
    have hmore := hA.more
    rw [← hNX, ← hU] at hmore
    have hge := long_ge acc
    have HS := HST.out wr w.heap.size U NX hA.below hL hfu hnx
    have HSTOP := stands_stop f (sz + 1 - acc.length) U (sz - U) NX
    have HSTEP := stands_step f (sz + 1 - acc.length) U (sz - U) NX (by omega)
    have hTf := txn_fit f U NX (sz - U)
    have hT64 := txn_le f U NX (sz - U)
    obtain ⟨TX, hTX⟩ : ∃ TX, TX = txn f U NX (sz - U) := ⟨_, rfl⟩
    rw [← hTX] at HS HSTOP HSTEP hTf hT64
    replace HS := Lib.hid HS
    replace HSTOP := Lib.hid HSTOP
    replace HSTEP := Lib.hid HSTEP
    replace hmore := Lib.hid hmore
    replace hTf := Lib.hid hTf
    have HNX := Lib.hid hNX
    have HU := Lib.hid hU
    have hL := Lib.hid hL
    obtain ⟨va, vc, rfl, hv1, hv2⟩ := hA.own.shape
    obtain ⟨AL, hAL⟩ : ∃ AL, AL = acc.length := ⟨_, rfl⟩
    rw [← hAL] at hv1 hge ⊢
    have hAB : AL ≤ 65536 := by rw [← hU] at hge; omega
    have HAL := Lib.hid hAL
    replace hA := Lib.hid hA
    clear hTX hNX hU hAL
    go_upto_region 6 with (go_at_call 29; refine HS.out.mono ?_; rintro e w2 ⟨v2, rfl, hs2, hb2⟩; obtain ⟨pa, pc, rfl, hp1, hp2, hp3⟩ := hs2.open_; clear hp3)
    obtain ⟨TL, hTL⟩ : ∃ TL, TL = TX.length := ⟨_, rfl⟩
    have B2 := Lib.hid (then_ hA.out.below hb2 zb)
    replace hs2 := Lib.hid hs2
    have HTL := Lib.hid hTL
    rw [← hTL] at hp1 hT64 ⊢
    clear hTL
    by_cases c0 : TL = 0
    · have t4 : ((TL : Int) == 0) = true := by rw [beq_iff_eq]; omega
      have e := hmore.out
      rw [HSTOP.out (by rw [← HTL.out]; exact c0), List.append_nil] at e
      have E := Lib.hid e
      clear e c0
      go_wp2
      go_ret3
      have a1 := hA.out.own.below hb2
      rw [← HAL.out] at a1
      have a2 : LogAt w2 w.heap.size d _ := Own.keep hA.out.log hb2
      rw [← E.out]
      exact ⟨_, _, rfl, Nat.le_refl _, a2, a1.in_, B2.out⟩
    · have t4 : ((TL : Int) == 0) = false := by rw [beq_eq_false_iff_ne]; omega
      have c1 : 1 ≤ TL := by omega
      have E := Lib.hid (HSTEP.out (by rw [← HTL.out]; exact c0))
      have F := Lib.hid (hTf.out (by rw [← HTL.out]; exact c0))
      rw [← HTL.out] at E F
      have o4 : w2.cell? ⟨w.heap.size, 4, none⟩ = some (.int .u64 (NX : Int)) := by
        have := (Own.at_ (show Own w2 w.heap.size _ _ from Own.keep hL.out hb2)).1 4
        simpa [LogS.cells] using this
      have L2 : LogAt w2 w.heap.size d _ := Own.keep hL.out hb2
      have zlg : w.heap.size < wr.heap.size := hL.out.in_
      obtain ⟨vs, HR⟩ := hA.out.own.below hb2
      have z2 := hb2.size
      obtain ⟨i0, hi0, hz0, hz1, hz2⟩ := info_parts info_txn
      replace L2 := Lib.hid L2
      replace HR := Lib.hid HR
      clear c0 hb2
      go_upto_region 10 with fail
      have hrow := HR.out.row
      rw [← HAL.out] at hrow
      go_wp2_with (at_builtin; refine wpList_append_own_at _ rfl _ _ 31 rfl 0 67 i0 (.agg #[.int .u64 0, .slice none 0 0]) 2 32 Try.underlying31 hi0 hz0 hz1 hz2 rfl (by decide) (.slice va AL vc) AL (txc acc vs) rfl (hrow.alloc _) ⟨w2.heap.size, 0, none⟩ 1 1 [.int .u64 (NX : Int), .slice pa TL pc] rfl rfl ?c1 ?c2 (by unfold maxLen; omega) (by omega) (Nat.zero_le _) ?_)
      case c1 => intro j u hu; exact pair_cells _ _ _ _ _ hu
      case c2 => intro u hu; simp at hu; rcases hu with rfl | rfl <;> rfl
      intro v' w3 hown hgrow hnil hloc
      clear hnil hrow
      have hcell : StrsIn w2 (fun b => w.heap.size < b ∧ (Value.slice va AL vc).ownBlock ≠ some b) (.slice pa TL pc) TX := by
        have hs := hs2.out
        rw [← HTL.out] at hs
        refine hs.mono fun b hb hge' => ⟨by omega, fun e => ?_⟩
        obtain ⟨vs0, hr0⟩ := hA.out.own
        have := (hr0.row.lt b (by rw [← HAL.out]; exact e)).2
        omega
      rw [HAL.out] at hown hgrow hloc hcell
      have HP := TxRow.push HR.out (t := (NX, TX)) hcell ((Below.refl _ _).alloc (Nat.le_refl _) _) hown hgrow (hloc.imp_right fun h => h.trans (by simp)) (fun q hq => by omega)
      obtain ⟨hOwn, hChg⟩ := HP
      have hne : ∀ q, (Value.slice va acc.length vc).ownBlock = some q → w.heap.size < q := HR.out.at_
      have L3 : LogAt w3 w.heap.size d _ := hChg.own L2.out fun e => by have := hne _ e; omega
      have B3 : Below w.heap.size w w3 := B2.out.trans (hChg.below (by have := B2.out.size; omega) fun q hq => by have := hne q hq; omega)
      obtain ⟨xa, xc, rfl, hx1, hx2⟩ := hOwn.shape
      have hk3 : LogS.Ok ⟨fr, sz, U, NX, false⟩ := ⟨by show fr + sz ≤ 65536; omega, hfu, hnx⟩
      have HADD := Lib.hid (add_any L3 hk3 TL (by omega))
      replace hOwn := Lib.hid hOwn
      replace L3 := Lib.hid L3
      replace B3 := Lib.hid B3
      clear hown hgrow hloc hcell hChg hne hk3 hx1 hx2
      go_wp2_with (go_at_call 30; refine HADD.out.mono ?_; rintro e w4 ⟨rfl, l4, c4, z4⟩; replace z4 := Lib.hid z4)
      go_roundw
      case rel =>
        refine ⟨acc ++ [(NX, TX)], ?_, ?_, ?_, ?_, ?_⟩
        · have hq := hOwn.out.keep c4 fun b hb hS e => by omega
          rw [List.length_append] at hq
          exact hq
        · have e1 : long (acc ++ [(NX, TX)]) = U + (1 + 9 * TL) := by rw [long_snoc, ← HU.out]; show U + (1 + 9 * TX.length) = _; rw [← HTL.out]
          have e2 : (seq + (acc ++ [(NX, TX)]).length) % 18446744073709551616 = (NX + 1) % 18446744073709551616 := by rw [HNX.out]; simp; omega
          rw [e1, e2]
          exact l4
        · rw [long_snoc, ← HU.out]
          show U + (1 + 9 * TX.length) ≤ sz
          rw [← HTL.out]
          have := F.out; omega
        · have e1 : long (acc ++ [(NX, TX)]) = U + (1 + 9 * TL) := by rw [long_snoc, ← HU.out]; show U + (1 + 9 * TX.length) = _; rw [← HTL.out]
          have e2 : (seq + (acc ++ [(NX, TX)]).length) % 18446744073709551616 = (NX + 1) % 18446744073709551616 := by rw [HNX.out]; simp; omega
          have e3 : sz + 1 - (acc ++ [(NX, TX)]).length = sz + 1 - acc.length - 1 := by simp; omega
          rw [e1, e2, e3, ← hmore.out, E.out, List.append_assoc, ← Nat.sub_sub]
          rfl
        · exact B3.out.trans (c4.below (by have := B3.out.size; omega) fun q hq => by omega)
      case measure =>
        simp [lenOf]
        have := HAL.out
        have := HU.out
        omega
end
end Go.Proofs.Ytmincpmkiheofaa
