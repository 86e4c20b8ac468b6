
/- The contract of the ninth reference's Stands. Conditions: whole sectors. -/
import Derived.Test.YtmincpmkiheofaaRdrA
import Derived.Test.YtmincpmkiheofaaDisB
import Derived.Test.YtmincpmkiheofaaRdrN
import Derived.Test.YtmincpmkiheofaaStrO
import Derived.Test.YtmincpmkiheofaaTxns
namespace Go.Proofs.Ytmincpmkiheofaa
open Go.ChangeShapes Go.WideShapes Go.ChangeAt Go.RowKit
set_option linter.unusedVariables false
set_option linter.unusedSimpArgs false

theorem info_rtxn : (Try.prog.info? 45).map (fun i => (i.zero, i.size, i.bytes)) = some (some (.agg #[.int .u64 0, .slice none 0 0]), 2, 32) := by kernel_rfl
/-- the transactions found so far -/
structure StandAt (w wr : World) (all : ByteArray) (n seq : Nat) (TS : List (Nat × List ByteArray)) (v : Value) (acc : List (Nat × List ByteArray)) : Prop where
  own : TxOwn wr 45 (fun b => w.heap.size ≤ b) v acc
  fit : long acc ≤ n
  more : acc ++ stands (fA all) (n + 1 - acc.length) (long acc) (n - long acc) ((seq + acc.length) % 18446744073709551616) = TS
  below : Below w.heap.size w wr
theorem StandAt.next {w wr w' : World} {all : ByteArray} {n seq : Nat} {TS : List (Nat × List ByteArray)} {v : Value} {acc : List (Nat × List ByteArray)} (h : StandAt w wr all n seq TS v acc) (hb : Below wr.heap.size wr w') : StandAt w w' all n seq TS v acc :=
  ⟨h.own.below hb, h.fit, h.more, then_ h.below hb h.below.size⟩
/-- which of the marks up to k it is -/
def upTo (c k : Nat) : Nat := if c < k then c else 0
theorem pair_cells' (W : World) (T : TypeId) (x y : Value) (j : Nat) {u : Value} (hu : [x, y][j]? = some u) : (W.alloc (.cells #[x, y] T)).cell? ((⟨W.heap.size, 0, none⟩ : Addr).add j) = some u := by
  have e : (⟨W.heap.size, 0, none⟩ : Addr).add j = ⟨W.heap.size, j, none⟩ := by unfold Addr.add; split <;> simp_all
  rw [e]
  have := (Own.made W T #[x, y]).at_.1 j
  exact this.trans (by simpa using hu)
/-- are the first k pages pages? -/
def okTo (f : Nat → ByteArray) (p k : Nat) : Bool := decide (∀ j, j < k → isPg (nine f (p + 9 * j)) = true)
theorem okTo_succ (f : Nat → ByteArray) (p k : Nat) : okTo f p (k + 1) = (okTo f p k && isPg (nine f (p + 9 * k))) := by
  unfold okTo
  cases h : isPg (nine f (p + 9 * k)) with
  | true =>
    rw [Bool.and_true, decide_eq_decide]
    constructor
    · intro hh j hj; exact hh j (by omega)
    · intro hh j hj
      by_cases e : j = k
      · subst e; exact h
      · exact hh j (by omega)
  | false =>
    rw [Bool.and_false]
    refine decide_eq_false fun hh => ?_
    rw [hh k (by omega)] at h
    cases h
theorem txn_cnt0 (f : Nat → ByteArray) (p seq left : Nat) (h : cnt (f p) seq left = 0) : (txn f p seq left).length = 0 := by
  unfold txn
  rw [h]
  split <;> rfl
set_option maxRecDepth 10000 in
set_option maxHeartbeats 4000000 in
theorem rstands_any (all : ByteArray) (n seq : Nat) (w : World) (hn : all.size = 64 * n) (hbig : n ≤ 65536) (hseq : seq ≤ 18446744073709551615) :
    Calls Try.prog 19 #[.string all, .int .u64 (seq : Int)] w fun e w' => ∃ v, e = .returned (.tuple #[v, .int .i64 (long (standsAt (fA all) n seq) : Nat)]) ∧ TxnsIn w' (fun b => w.heap.size ≤ b) v (standsAt (fA all) n seq) ∧ Below w.heap.size w w' := by
  obtain ⟨TS, hTS⟩ : ∃ TS, TS = standsAt (fA all) n seq := ⟨_, rfl⟩
  rw [← hTS]
  have HN := Lib.hid hn
  have A0 : StandAt w w all n seq TS (.slice none 0 0) [] := ⟨TxOwn.nil _ _ _, Nat.zero_le _, by
    rw [hTS]
    unfold standsAt
    show [] ++ stands (fA all) (n + 1 - 0) 0 (n - 0) ((seq + 0) % 18446744073709551616) = stands (fA all) (n + 1) 0 n seq
    rw [show (seq + 0) % 18446744073709551616 = seq by omega, List.nil_append, Nat.sub_zero, Nat.sub_zero], Below.refl _ _⟩
  replace A0 := Lib.hid A0
  have hsz : (all.size : Int) = 64 * (n : Int) := by omega
  clear hTS hn
  go_enter Try.func19, Try.ntmps19
  go_wp2
  go_loopw [1, 6, 7] (fun sq v at_ wr => ∃ acc, sq = .int .u64 (((seq + acc.length) % 18446744073709551616 : Nat) : Int) ∧ at_ = .int .i64 ((64 * long acc : Nat) : Int) ∧ StandAt w wr all n seq TS v acc) (fun sq v at_ wr => 64 * n + 1 - (intOf at_).toNat)
  case atStart => exact ⟨[], by show _ = Value.int .u64 (((seq + 0) % 18446744073709551616 : Nat) : Int); rw [show (seq + 0) % 18446744073709551616 = seq by omega], rfl, A0.out⟩
  case round =>
    clear A0
    obtain ⟨acc, rfl, rfl, hA⟩ := hrel
    obtain ⟨NX, hNX⟩ : ∃ NX, NX = (seq + acc.length) % 18446744073709551616 := ⟨_, rfl⟩
    obtain ⟨U, hU⟩ : ∃ U, U = long acc := ⟨_, rfl⟩
    have hfu := hA.fit
    have hmore := hA.more
    rw [← hNX, ← hU] at hmore ⊢
    rw [← hU] at hfu
    have hge := long_ge acc
    rw [← hU] at hge
    have hnx : NX ≤ 18446744073709551615 := by omega
    have HSTOP := Lib.hid (stands_stop (fA all) (n + 1 - acc.length) U (n - U) NX)
    have HSTEP := Lib.hid (stands_step (fA all) (n + 1 - acc.length) U (n - U) NX (by omega))
    have zb := hA.below.size
    obtain ⟨va, vc, rfl, hv1, hv2⟩ := hA.own.shape
    obtain ⟨AL, hAL⟩ : ∃ AL, AL = acc.length := ⟨_, rfl⟩
    rw [← hAL] at hv1 hge ⊢
    have HAL := Lib.hid hAL
    have HNX := Lib.hid hNX
    have HU := Lib.hid hU
    replace hA := Lib.hid hA
    replace hmore := Lib.hid hmore
    clear hNX hU hAL
    have e64 : ((64 * U : Nat) : Int) = 64 * (U : Int) := by omega
    rw [e64]
    clear e64
    have FIN : Hid (∀ W : World, StandAt w W all n seq TS (.slice va acc.length vc) acc → acc = TS → ∃ v, Ending.returned (.tuple #[.slice va AL vc, .int .i64 (U : Int)]) = .returned (.tuple #[v, .int .i64 (long TS : Nat)]) ∧ TxnsIn W (fun b => w.heap.size ≤ b) v TS ∧ Below w.heap.size w W) := Lib.hid fun W h e => by
      refine ⟨.slice va AL vc, ?_, ?_, h.below⟩
      · rw [← e, ← HU.out]
      · rw [← e, HAL.out]; exact h.own.in_
    by_cases hlt : U < n
    · have zX : (fA all U).size = 64 := fA_size all U (by rw [HN.out]; omega)
      have hc0 := cnt0_le (fA all U) NX
      have HCI := Lib.hid (cnt0_iff (fA all U) NX)
      have HCC := Lib.hid (cnt_cnt0 (fA all U) NX (n - U))
      obtain ⟨c, hc⟩ : ∃ c, c = cnt0 (fA all U) NX := ⟨_, rfl⟩
      rw [← hc] at hc0 HCI HCC
      have HX : Hid (∀ W : World, (Instr.slice 9 (.string all) (some (.int .i64 (64 * (U : Int)))) (some (.int .i64 (64 * (U : Int) + 64))) none).run Try.prog W = .ok (.string (fA all U)) W) := Lib.hid fun W => slice_both W all (64 * U) (64 * U + 64) (by omega) (by rw [HN.out]; omega) _ _ (by omega) (by omega)
      have HC := Lib.hid hc
      obtain ⟨X, hX⟩ : ∃ X, X = fA all U := ⟨_, rfl⟩
      rw [← hX] at zX HCI HX
      have HXe := Lib.hid hX
      clear hc hX
      go_upto_region 6 with fail
      obtain ⟨wo, hwo⟩ : ∃ wo : World, wo = wr := ⟨_, rfl⟩
      subst hwo
      go_loopw [8, 9] (fun v8 v9 wr => ∃ k : Nat, 1 ≤ k ∧ k ≤ 65 ∧ v9 = .int .i64 k ∧ v8 = .int .i64 (upTo c k : Nat) ∧ StandAt w wr all n seq TS (.slice va acc.length vc) acc) (fun v8 v9 wr => 65 - (intOf v9).toNat)
      case atStart =>
        refine ⟨1, by omega, by omega, rfl, ?_, hA.out⟩
        have : upTo c 1 = 0 := by unfold upTo; split <;> omega
        rw [this]; rfl
      case round =>
        clear hA
        obtain ⟨k, hk1, hk2, rfl, rfl, hA⟩ := hrel
        replace hA := Lib.hid hA
        by_cases hlk : k ≤ 64
        · have hci := HCI.out k hk1 hlk
          have HM := Lib.hid (fun w => rmk_any NX k w hnx (by omega))
          obtain ⟨M, hM⟩ : ∃ M, M = markB NX k := ⟨_, rfl⟩
          rw [← hM] at hci HM
          have hsl := HX.out
          have hwr : IntKind.i64.wrap (64 * (U : Int) + 64) = 64 * (U : Int) + 64 := by rw [IntKind.wrap_i64]; omega
          clear hM
          go_upto_region 8 with fail
          refine wp_region_seq (fun W => True) (0 :: 1 :: 2 :: 3 :: 4 :: 5 :: 6 :: 8 :: []) ([]) (0 :: 1 :: 2 :: 3 :: 4 :: 5 :: 6 :: 7 :: 8 :: []) (by kernel_rfl) (by kernel_rfl) rfl (by kernel_rfl) rfl (trivial) (by simp only [picked, List.filterMap_cons, List.filterMap_nil, List.getElem?_cons_zero, List.getElem?_cons_succ, Option.map_some]; exact rfl) ?_
          iterate 7
            refine seq_want (v := ?_) rfl rfl (fun W hS => ?_) ?_
            rotate_left
            · conv => lhs; simp [go_sem, hwr, hsl]
              first | done | exact rfl
            simp only [Act.put, List.setIfInBounds_toArray, List.set_cons_zero, List.set_cons_succ]
          refine seq_on rfl rfl fun K hK => ?_
          go_wp2_with fail
          refine (HM.out _).mono ?_
          rintro e w3 ⟨rfl, hb3⟩
          have hA3 := hA.out.next ((Below.refl _ _).drew.trans hb3)
          replace hA3 := Lib.hid hA3
          clear hb3
          go_wp2
          refine hK _ _ trivial ?_
          clear hK K
          by_cases ce : X = M
          · have d : (X.toList == M.toList) = true := by rw [ce]; simp
            have eu : upTo c (k + 1) = k := by unfold upTo; rw [if_pos (by have := hci.1 ce; omega)]; exact hci.1 ce
            have EU := Lib.hid eu
            clear ce eu hci
            iterate 1
              refine seq_want (v := ?_) rfl rfl (fun W hS => ?_) ?_
              rotate_left
              · conv => lhs; simp [go_sem, d]
                first | done | exact rfl
              simp only [Act.put, List.setIfInBounds_toArray, List.set_cons_zero, List.set_cons_succ]
            refine seq_end ?_
            go_wp2
            go_roundw
            case rel => exact ⟨k + 1, by omega, by omega, by go_num, by rw [EU.out], hA3.out⟩
            case measure => simp [intOf]; omega
          · have d : (X.toList == M.toList) = false := str_ne ce
            have eu : upTo c (k + 1) = upTo c k := by
              have : c ≠ k := fun h => ce (hci.2 h)
              unfold upTo
              by_cases h : c < k
              · rw [if_pos h, if_pos (by omega)]
              · rw [if_neg h, if_neg (by omega)]
            have EU := Lib.hid eu
            clear ce eu hci
            iterate 1
              refine seq_want (v := ?_) rfl rfl (fun W hS => ?_) ?_
              rotate_left
              · conv => lhs; simp [go_sem, d]
                first | done | exact rfl
              simp only [Act.put, List.setIfInBounds_toArray, List.set_cons_zero, List.set_cons_succ]
            refine seq_end ?_
            go_wp2
            go_roundw
            case rel => exact ⟨k + 1, by omega, by omega, by go_num, by rw [EU.out], hA3.out⟩
            case measure => simp [intOf]; omega
        · have eu : upTo c k = c := by unfold upTo; rw [if_pos (by omega)]
          obtain ⟨k65, hk65⟩ : ∃ k65 : Nat, k65 = k := ⟨_, rfl⟩
          subst hk65
          rw [eu]
          clear eu
          by_cases cz : c = 0
          · have t1 : ((c : Int) == 0) = true := by rw [beq_iff_eq]; omega
            have e := hmore.out
            rw [HSTOP.out (txn_cnt0 _ _ _ _ (by rw [HCC.out, cz]; split <;> rfl)), List.append_nil] at e
            have E := Lib.hid e
            clear e cz
            go_wp2
            go_ret2
            exact FIN.out _ hA.out E.out
          have t1 : ((c : Int) == 0) = false := by rw [beq_eq_false_iff_ne]; omega
          by_cases cf : 1 + 9 * c ≤ n - U
          rotate_left
          · have t2 : decide (64 * (n : Int) < 64 * (U : Int) + 64 + 576 * (c : Int)) = true := by simp; omega
            have e := hmore.out
            rw [HSTOP.out (txn_cnt0 _ _ _ _ (by rw [HCC.out, if_neg cf])), List.append_nil] at e
            have E := Lib.hid e
            clear e cz
            go_wp2
            go_ret2
            exact FIN.out _ hA.out E.out
          have t2 : decide (64 * (n : Int) < 64 * (U : Int) + 64 + 576 * (c : Int)) = false := by simp; omega
          have hcc := HCC.out
          rw [if_pos cf] at hcc
          have HCN := Lib.hid hcc
          clear HCC hcc
          go_upto_region 14 with fail
          have o0 := Own.made wr 45 #[.int .u64 (NX : Int), .slice none 0 0]
          have B0 : Below wr.heap.size wr (wr.alloc (.cells #[.int .u64 (NX : Int), .slice none 0 0] 45)) := (Below.refl _ _).alloc (Nat.le_refl _) _
          obtain ⟨W0, hW0⟩ : ∃ W0, W0 = wr.alloc (.cells #[.int .u64 (NX : Int), .slice none 0 0] 45) := ⟨_, rfl⟩
          rw [← hW0] at o0 B0 ⊢
          obtain ⟨tb, htb⟩ : ∃ tb, tb = wr.heap.size := ⟨_, rfl⟩
          rw [← htb] at o0 ⊢
          have HTB := Lib.hid htb
          replace o0 := Lib.hid o0
          replace B0 := Lib.hid B0
          clear hW0 htb
          obtain ⟨f, hf⟩ : ∃ f, f = fA all := ⟨_, rfl⟩
          have HF := Lib.hid hf
          clear hf
          obtain ⟨wp, hwp⟩ : ∃ wp : World, wp = wr := ⟨_, rfl⟩
          subst hwp
          go_loopw [11, 12] (fun v11 v12 wr => ∃ (k : Nat) (vv : Value), k ≤ c ∧ v12 = .int .i64 k ∧ v11 = .bool (okTo f (U + 1) k) ∧ Own wr tb 45 #[.int .u64 (NX : Int), vv] ∧ StrOwn wr (fun b => tb < b) vv (pgs f (U + 1) k) ∧ Below wp.heap.size wp wr) (fun v11 v12 wr => c - (intOf v12).toNat)
          case atStart => exact ⟨0, .slice none 0 0, by omega, rfl, by simp [okTo], o0.out, StrOwn.nil _ _, B0.out⟩
          case round =>
            clear o0 B0
            obtain ⟨k, vv, hk, rfl, rfl, hO, hS, hB⟩ := hrel
            have hpl := pgs_len f (U + 1) k
            by_cases hlk : k < c
            · have hnn := nin_nine all (U + 1 + 9 * k) (by rw [HN.out]; omega)
              have hz5 : (all.extract (64 * (U + 1 + 9 * k)) (64 * (U + 1 + 9 * k) + 576)).size = 576 := by rw [ByteArray.size_extract, HN.out]; omega
              have HPG := Lib.hid (fun w => rpage_any (all.extract (64 * (U + 1 + 9 * k)) (64 * (U + 1 + 9 * k) + 576)) w hz5)
              rw [hnn, ← HF.out] at HPG
              have hsl := slice_both wr all (64 * (U + 1 + 9 * k)) (64 * (U + 1 + 9 * k) + 576) (by omega) (by rw [HN.out]; omega) (64 * (U : Int) + 64 + 576 * (k : Int)) (64 * (U : Int) + 64 + 576 * ((k : Int) + 1)) (by omega) (by omega)
              have hos := okTo_succ f (U + 1) k
              have hps := pgs_succ f (U + 1) k
              have hgz : (gatP (nine f (U + 1 + 9 * k))).size = 512 := gatP_size _ (fun x hx => by
                rw [HF.out, ← hnn] at hx
                exact nin_size _ hz5 x hx) (by simp [nine])
              obtain ⟨PG, hPG⟩ : ∃ PG, PG = all.extract (64 * (U + 1 + 9 * k)) (64 * (U + 1 + 9 * k) + 576) := ⟨_, rfl⟩
              obtain ⟨G, hG⟩ : ∃ G, G = gatP (nine f (U + 1 + 9 * k)) := ⟨_, rfl⟩
              obtain ⟨q, hq⟩ : ∃ q, q = isPg (nine f (U + 1 + 9 * k)) := ⟨_, rfl⟩
              obtain ⟨ok, hok⟩ : ∃ ok, ok = okTo f (U + 1) k := ⟨_, rfl⟩
              rw [← hPG, ← hG, ← hq] at HPG
              rw [← hPG] at hsl
              rw [← hG] at hps hgz
              rw [← hq, ← hok] at hos
              rw [← hok]
              have HOS := Lib.hid hos
              have HPS := Lib.hid hps
              have HGZ := Lib.hid hgz
              clear hnn hz5 hos hps hgz hPG hG hq hok
              have hwr : IntKind.i64.wrap (64 * (U : Int) + 64) = 64 * (U : Int) + 64 := by rw [IntKind.wrap_i64]; omega
              replace hO := Lib.hid hO
              obtain ⟨xa, xc, rfl, hx1, hx2⟩ := hS.shape
              replace hS := Lib.hid hS
              have hbs := hB.size
              replace hB := Lib.hid hB
              rw [hpl] at hx1
              go_upto_region 17 with (go_at_call 38; refine (HPG.out _).mono ?_; rintro e w' ⟨rfl, rfl⟩)
              obtain ⟨i0, hi0, hz0, hz1, hz2⟩ := info_parts info_st
              obtain ⟨p1, p2, p3⟩ := hO.out.at_
              have hrow := hS.out.row
              rw [hpl] at hrow
              have ztb : tb < wr.heap.size := hO.out.in_
              rw [hpl] at p1
              have hSk : StrOwn wr (fun b => tb < b) (.slice xa k xc) (pgs f (U + 1) k) := by have h := hS.out; rw [hpl] at h; exact h
              replace hSk := Lib.hid hSk
              have hOk := hO.out
              rw [hpl] at hOk
              replace hOk := Lib.hid hOk
              cases ok
              all_goals
                go_upto_region 18 with fail
                go_wp2_with (at_builtin; refine wpList_append_own_at _ rfl _ _ 35 rfl 0 9 i0 (.string ⟨#[]⟩) 1 16 Try.underlying35 hi0 hz0 hz1 hz2 rfl (by decide) (.slice xa k xc) k ((pgs f (U + 1) k).map .string) rfl (hrow.alloc _) ⟨wr.heap.size, 0, none⟩ 1 1 [.string G] rfl rfl ?c1 ?c2 (by unfold maxLen; omega) (by omega) (Nat.zero_le _) ?_)
                case c1 => intro j u hu; exact one_cell _ _ _ _ hu
                case c2 => intro u hu; simp at hu; subst hu; rfl
                intro v' w5 hown hgrow hnil hloc
                clear hnil
                have HP := StrOwn.push hSk.out (t := G) (by rw [HGZ.out]; unfold maxLen; omega) ((Below.refl _ _).alloc (Nat.le_refl _) _) (by rw [hpl]; exact hown) hgrow (hloc.imp_right fun h => h.trans (by simp)) (fun q hq => by omega)
                obtain ⟨hS5, hc5⟩ := HP
                have hO5 : Own w5 tb 45 _ := hc5.own hOk.out fun h => by have := hSk.out.at_ _ h; omega
                have hB5 : Below wp.heap.size wp w5 := hB.out.trans (hc5.below hbs fun q h => by have := hSk.out.at_ _ h; have := HTB.out; omega)
                rw [← HPS.out] at hS5
                obtain ⟨ya, yc, rfl, hy1, hy2⟩ := hS5.shape
                obtain ⟨q1, q2, q3⟩ := hO5.at_
                replace hS5 := Lib.hid hS5
                replace hO5 := Lib.hid hO5
                replace hB5 := Lib.hid hB5
                clear hown hgrow hloc hc5 hy1 hy2
                go_wp2
                go_roundw
                case rel =>
                  refine ⟨k + 1, _, by omega, by go_num, ?_, hO5.out.put 1 _, hS5.out.keep (chg_one w5 tb 1 _) fun b _ hb e => by omega, hB5.out.setCell (by rw [HTB.out]; exact Nat.le_refl _) _⟩
                  rw [HOS.out]
                  first | rfl | simp
                case measure => simp [intOf]; omega
            · obtain rfl : k = c := by omega
              have hA2 := hA.out.next hB
              have hbs := hB.size
              have hdec : okTo f (U + 1) k = decide (∀ j, j < cnt (fA all U) NX (n - U) → isPg (nine (fA all) (U + 1 + 9 * j)) = true) := by rw [HCN.out, ← HF.out]; rfl
              obtain ⟨ok, hok⟩ : ∃ ok, ok = okTo f (U + 1) k := ⟨_, rfl⟩
              rw [← hok] at hdec ⊢
              have HDEC := Lib.hid hdec
              clear hok hdec
              cases ok with
              | false =>
                have e := hmore.out
                rw [HSTOP.out (by unfold txn; rw [if_neg (of_decide_eq_false HDEC.out.symm)]; rfl), List.append_nil] at e
                have E := Lib.hid e
                replace hA2 := Lib.hid hA2
                clear e hO hS hB cz
                go_wp2
                go_ret2
                exact FIN.out _ hA2.out E.out
              | true =>
                have htx : txn (fA all) U NX (n - U) = pgs f (U + 1) k := by
                  unfold txn; rw [if_pos (of_decide_eq_true HDEC.out.symm), HCN.out, ← HF.out]
                have HTX := Lib.hid htx
                have hst := HSTEP.out (by rw [htx, hpl]; exact cz)
                rw [htx, hpl] at hst
                have HST := Lib.hid hst
                clear htx hst
                obtain ⟨xa, xc, rfl, hx1, hx2⟩ := hS.shape
                obtain ⟨p1, p2, p3⟩ := hO.at_
                obtain ⟨vs, HR⟩ := hA2.own
                have hrow := HR.row
                rw [← HAL.out] at hrow
                have hs1 : StrsIn wr (fun b => w.heap.size ≤ b ∧ (Value.slice va acc.length vc).ownBlock ≠ some b) (.slice xa (pgs f (U + 1) k).length xc) (pgs f (U + 1) k) := hS.in_.mono fun b _ hb => by
                  have h1 := HTB.out
                  have h2 := hA.out.below.size
                  refine ⟨by omega, fun e => ?_⟩
                  obtain ⟨vs0, hr0⟩ := hA.out.own
                  have := (hr0.row.lt b e).2
                  omega
                rw [hpl] at hs1 p1
                have HS1 := Lib.hid hs1
                replace HR := Lib.hid HR
                replace hA2 := Lib.hid hA2
                have hw0 : w.heap.size ≤ wr.heap.size := by have := hA2.out.below.size; omega
                obtain ⟨i0, hi0, hz0, hz1, hz2⟩ := info_parts info_rtxn
                have HHS := Lib.hid hS
                clear hs1 hO hS hx1 hx2
                go_upto_region 20 with fail
                go_wp2_with (at_builtin; refine wpList_append_own_at _ rfl _ _ 34 rfl 0 45 i0 (.agg #[.int .u64 0, .slice none 0 0]) 2 32 Try.underlying34 hi0 hz0 hz1 hz2 rfl (by decide) (.slice va AL vc) AL (txc acc vs) rfl (hrow.alloc _) ⟨wr.heap.size, 0, none⟩ 1 1 [.int .u64 (NX : Int), .slice xa k xc] rfl rfl ?c1 ?c2 (by unfold maxLen; omega) (by omega) (Nat.zero_le _) ?_)
                case c1 => intro j u hu; exact pair_cells' _ _ _ _ _ hu
                case c2 => intro u hu; simp at hu; rcases hu with rfl | rfl <;> rfl
                intro v' w5 hown hgrow hnil hloc
                clear hnil
                rw [HAL.out] at hown hgrow hloc
                have HP := TxRow.push HR.out (t := (NX, pgs f (U + 1) k)) HS1.out ((Below.refl _ _).alloc (Nat.le_refl _) _) hown hgrow (hloc.imp_right fun h => h.trans (by simp)) (fun q hq => by omega)
                obtain ⟨hOwn, hChg⟩ := HP
                have hne : ∀ q, (Value.slice va acc.length vc).ownBlock = some q → w.heap.size ≤ q := HR.out.at_
                have B5 : Below w.heap.size w w5 := hA2.out.below.trans (hChg.below hw0 fun q hq => hne q hq)
                obtain ⟨ya, yc, rfl, hy1, hy2⟩ := hOwn.shape
                rw [List.length_append] at hOwn ⊢
                replace hOwn := Lib.hid hOwn
                replace B5 := Lib.hid B5
                clear hown hgrow hloc hChg hne hy1 hy2 hrow
                go_wp2
                go_roundw
                case rel =>
                  have e1 : long (acc ++ [(NX, pgs f (U + 1) k)]) = U + (1 + 9 * k) := by rw [long_snoc, ← HU.out]; show U + (1 + 9 * (pgs f (U + 1) k).length) = _; rw [hpl]
                  have e2 : (seq + (acc ++ [(NX, pgs f (U + 1) k)]).length) % 18446744073709551616 = (NX + 1) % 18446744073709551616 := by rw [HNX.out]; simp; omega
                  refine ⟨acc ++ [(NX, pgs f (U + 1) k)], ?_, ?_, hOwn.out, ?_, ?_, B5.out⟩
                  · rw [e2]; go_num
                  · rw [e1]; go_num
                  · rw [e1]; omega
                  · have e3 : n + 1 - (acc ++ [(NX, pgs f (U + 1) k)]).length = n + 1 - acc.length - 1 := by simp; omega
                    rw [e1, e2, e3, ← hmore.out, HST.out, List.append_assoc, ← Nat.sub_sub]
                    rfl
                case measure => simp [intOf]; omega
    · obtain rfl : U = n := by omega
      have e := hmore.out
      rw [HSTOP.out (by rw [Nat.sub_self, txn_zero]; rfl), List.append_nil] at e
      have E := Lib.hid e
      clear e
      go_wp2
      go_ret2
      exact FIN.out _ hA.out E.out
end Go.Proofs.Ytmincpmkiheofaa
