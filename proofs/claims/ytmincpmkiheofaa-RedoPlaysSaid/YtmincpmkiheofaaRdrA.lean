
/- The contracts of the ninth reference's Mark, Laid, page. Conditions: the arguments' own ranges; nine sectors for page. -/
import Derived.Test.YtmincpmkiheofaaRdrM
import Derived.Test.YtmincpmkiheofaaMarB
import Derived.Test.YtmincpmkiheofaaSeq
import Derived.Test.YtmincpmkiheofaaStrR
namespace Go.Proofs.Ytmincpmkiheofaa
open Go.ChangeShapes Go.WideShapes Go.ChangeAt Go.RowKit
set_option linter.unusedVariables false
set_option linter.unusedSimpArgs false

theorem rmk_any (seq n : Nat) (w : World) (hs : seq ≤ 18446744073709551615) (hn : n ≤ 65535) :
    Calls Try.prog 37 #[.int .u64 seq, .int .i64 n] w fun e w' => e = .returned (.string (markB seq n)) ∧ Below w.heap.size w w' := by
  have HP := Lib.hid (fun w => rput_any n 2 w (by omega) (by omega))
  have HM := Lib.hid (fun w => rput7_any seq (cntB n) w hs (by rw [cntB_size]; omega))
  have HE : ((⟨(putL n 2).toArray⟩ : ByteArray) ++ ⟨#[1]⟩) = cntB n := rfl
  have HQ : mkB seq (cntB n) = markB seq n := rfl
  rw [HQ] at HM
  have z : (⟨(putL n 2).toArray⟩ : ByteArray).size ≤ 2 := by show (putL n 2).toArray.size ≤ 2; simp [putL]
  have hw : IntKind.u64.wrap (n : Int) = n := IntWalk.u64_in _ (by omega)
  clear HQ
  generalize (⟨(putL n 2).toArray⟩ : ByteArray) = P at *
  generalize markB seq n = M at *
  generalize cntB n = C at *
  go_enter Try.func37, Try.ntmps37
  go_wp2_with (first | (go_at_call 51; refine (HP.out _).mono ?_; rintro e w1 ⟨rfl, hb1⟩) | (go_at_call 50; refine (HM.out _).mono ?_; rintro e w2 ⟨rfl, hb⟩))
  go_ret
  exact ⟨rfl, hb1.trans (hb.mono hb1.size)⟩

set_option maxRecDepth 10000 in
set_option maxHeartbeats 2000000 in
theorem laid_any (p : ByteArray) (w : World) (hp : p.size = 512) :
    Calls Try.prog 52 #[.string p] w fun e w' => e = .returned (.string (LB p 576)) ∧ w = w' := by
  have HP := Lib.hid hp
  clear hp
  go_enter Try.func52, Try.ntmps52
  go_wp2
  go_loop [3, 4] (fun s i => ∃ k : Nat, k ≤ 9 ∧ i = .int .i64 k ∧ s = .string (LB p (64 * k))) (fun _ i => 9 - (intOf i).toNat)
  case atStart => exact ⟨0, by omega, rfl, rfl⟩
  case round =>
    obtain ⟨k, hk, rfl, rfl⟩ := hrel
    by_cases hlt : k < 9
    · go_upto_region 6 with fail
      go_loop [3, 5] (fun s i => ∃ j : Nat, j ≤ 64 ∧ i = .int .i64 j ∧ s = .string (LB p (64 * k + j))) (fun _ i => 64 - (intOf i).toNat)
      case atStart => exact ⟨0, by omega, rfl, rfl⟩
      case round =>
        obtain ⟨j, hj, rfl, rfl⟩ := hrel
        by_cases hlj : j < 64
        · have e1 : (64 * k + j) % 64 = j := by omega
          have e2 : (64 * k + j) / 64 = k := by omega
          have hat : atB (64 * k + j) = 63 * k + j - (if 10 < j then 1 else 0) := by unfold atB; rw [e1, e2]
          have z := LB_size p (64 * k + j)
          have HS := Lib.hid (LB_snoc p (64 * k + j))
          have HT := Lib.hid (ten_byte p (64 * k + j))
          have HY := Lib.hid (lb_yes p (64 * k + j))
          rw [e1] at HT HY
          obtain ⟨O, hO⟩ : ∃ O, O = LB p (64 * k + j) := ⟨_, rfl⟩
          rw [← hO] at z HS ⊢
          have z2 : O.size ≤ 600 := by omega
          have HO := Lib.hid hO
          clear hO z e1 e2
          have fin0 : ∀ v : ByteArray, lb p (64 * k + j) = 0 → v = O ++ ⟨#[0]⟩ → v = LB p (64 * k + (j + 1)) := fun v h1 h2 => by
            rw [h2, show 64 * k + (j + 1) = 64 * k + j + 1 by omega, HS.out, h1]
          have FIN0 := Lib.hid fin0
          clear fin0
          by_cases c1 : j = 10
          · have hz := HT.out (.inl c1)
            have HZ := Lib.hid hz
            have d1 : ((j : Int) == 10) = true := by rw [beq_iff_eq]; omega
            have d2 : decide ((10 : Int) < (j : Int)) = false := by simp; omega
            clear hat c1 hz
            go_wp2
            go_round
            case rel => exact ⟨j + 1, by omega, by go_num, by rw [← FIN0.out _ HZ.out rfl]⟩
            case measure => simp [intOf]; omega
          · have d1 : ((j : Int) == 10) = false := by rw [beq_eq_false_iff_ne]; omega
            obtain ⟨A, hA⟩ : ∃ A : Nat, A = atB (64 * k + j) := ⟨_, rfl⟩
            rw [← hA] at hat HT HY
            have fin1 : ∀ v : ByteArray, A < p.size → v = O ++ p.extract A (A + 1) → v = LB p (64 * k + (j + 1)) := fun v h1 h2 => by
              rw [h2, show 64 * k + (j + 1) = 64 * k + j + 1 by omega, HS.out, HY.out c1, one_byte p A h1]
            have FIN1 := Lib.hid fin1
            have z3 : A < p.size → (p.extract A (A + 1)).size ≤ 1 := fun h => by rw [ByteArray.size_extract]; omega
            clear fin1 hA
            by_cases c2 : 10 < j
            · rw [if_pos c2] at hat
              have d2 : decide ((10 : Int) < (j : Int)) = true := by simp; omega
              by_cases c3 : p.size ≤ A
              · obtain ⟨B, hB⟩ : ∃ B : Int, 63 * (k : Int) + (j : Int) = B := ⟨_, rfl⟩
                have hB2 : B - 1 = (A : Int) := by omega
                have d3 : decide ((p.size : Int) ≤ (A : Int)) = true := by simp; omega
                have hz := HT.out (.inr c3)
                have HZ := Lib.hid hz
                clear hat c1 hz z3
                go_wp2
                go_round
                case rel => exact ⟨j + 1, by omega, by go_num, by rw [← FIN0.out _ HZ.out rfl]⟩
                case measure => simp [intOf]; omega
              · obtain ⟨B, hB⟩ : ∃ B : Int, 63 * (k : Int) + (j : Int) = B := ⟨_, rfl⟩
                have hB2 : B - 1 = (A : Int) := by omega
                have d3 : decide ((p.size : Int) ≤ (A : Int)) = false := by simp; omega
                have hsl := slice_both w p A (A + 1) (by omega) (by omega) (A : Int) ((A : Int) + 1) rfl (by omega)
                have z4 := z3 (by omega)
                have HF := Lib.hid (FIN1.out _ (by omega) rfl)
                clear hat c1 z3
                go_wp2
                go_round
                case rel => exact ⟨j + 1, by omega, by go_num, by rw [← HF.out]⟩
                case measure => simp [intOf]; omega
            · rw [if_neg c2] at hat
              have d2 : decide ((10 : Int) < (j : Int)) = false := by simp; omega
              by_cases c3 : p.size ≤ A
              · have hB2 : 63 * (k : Int) + (j : Int) = (A : Int) := by omega
                have d3 : decide ((p.size : Int) ≤ (A : Int)) = true := by simp; omega
                have hz := HT.out (.inr c3)
                have HZ := Lib.hid hz
                clear hat c1 hz z3
                go_wp2
                go_round
                case rel => exact ⟨j + 1, by omega, by go_num, by rw [← FIN0.out _ HZ.out rfl]⟩
                case measure => simp [intOf]; omega
              · have hB2 : 63 * (k : Int) + (j : Int) = (A : Int) := by omega
                have d3 : decide ((p.size : Int) ≤ (A : Int)) = false := by simp; omega
                have hsl := slice_both w p A (A + 1) (by omega) (by omega) (A : Int) ((A : Int) + 1) rfl (by omega)
                have z4 := z3 (by omega)
                have HF := Lib.hid (FIN1.out _ (by omega) rfl)
                clear hat c1 z3
                go_wp2
                go_round
                case rel => exact ⟨j + 1, by omega, by go_num, by rw [← HF.out]⟩
                case measure => simp [intOf]; omega
        · obtain rfl : j = 64 := by omega
          go_wp2
          go_round
          case rel => exact ⟨k + 1, by omega, by go_num, by rw [show 64 * (k + 1) = 64 * k + 64 by omega]⟩
          case measure => simp [intOf]; omega
    · obtain rfl : k = 9 := by omega
      go_wp2
      go_ret
      exact ⟨rfl, rfl⟩

set_option maxRecDepth 10000 in
set_option maxHeartbeats 2000000 in
theorem rpage_any (s : ByteArray) (w : World) (hs : s.size = 576) :
    Calls Try.prog 38 #[.string s] w fun e w' => e = .returned (.tuple #[.string (gatP (nin s)), .bool (isPg (nin s))]) ∧ w = w' := by
  have hz : (gatP (nin s)).size = 512 := gatP_size _ (nin_size s hs) (by simp [nin])
  have HLD := Lib.hid (laid_any (gatP (nin s)) w hz)
  have hcmp : ((LB (gatP (nin s)) 576).toList == s.toList) = isPg (nin s) := by
    have e := lay_eq (gatP (nin s)) s hz hs
    unfold isPg
    by_cases c : LB (gatP (nin s)) 576 = s
    · rw [decide_eq_true (e.1 c), c]; simp
    · rw [decide_eq_false (fun h => c (e.2 h))]; exact str_ne c
  have HG := Lib.hid (PB_gat s hs)
  have HPS := Lib.hid (PB_snoc s hs)
  have HPZ := Lib.hid (PB_size s hs)
  obtain ⟨G, hG⟩ : ∃ G, G = gatP (nin s) := ⟨_, rfl⟩
  obtain ⟨OK, hOK⟩ : ∃ OK, OK = isPg (nin s) := ⟨_, rfl⟩
  rw [← hG] at hz HLD hcmp HG
  rw [← hOK] at hcmp
  rw [← hG, ← hOK]
  obtain ⟨LL, hLL⟩ : ∃ LL, LL = LB G 576 := ⟨_, rfl⟩
  rw [← hLL] at hcmp HLD
  have HC := Lib.hid hcmp
  clear hG hOK hz hcmp hLL
  go_enter Try.func38, Try.ntmps38
  go_wp2
  go_loop [4, 5] (fun p i => ∃ k : Nat, dn k ≤ 512 ∧ i = .int .i64 k ∧ p = .string (PB s (dn k))) (fun _ i => 576 - (intOf i).toNat)
  case atStart => exact ⟨0, by decide, rfl, rfl⟩
  case round =>
    obtain ⟨k, hk, rfl, rfl⟩ := hrel
    have hk5 : k < 576 := by unfold dn at hk; omega
    have hzk := HPZ.out (dn k) (by omega)
    by_cases hlt : dn k < 512
    · obtain ⟨P, hP⟩ : ∃ P, P = PB s (dn k) := ⟨_, rfl⟩
      rw [← hP] at hzk ⊢
      have t1 : decide ((k : Int) < (s.size : Int)) = true := by simp; omega
      have t2 : decide ((P.size : Int) < 512) = true := by simp; omega
      have z2 : P.size < 512 := by omega
      have HP := Lib.hid hP
      by_cases c : k % 64 = 10
      · have d1 : (((k : Int) % 64) != 10) = false := by rw [bne_eq_false_iff_eq]; omega
        have e := dn_ten k c
        have E := Lib.hid e
        clear hP hzk e c
        go_wp2
        go_round
        case rel => exact ⟨k + 1, by rw [E.out]; omega, by go_num, by rw [E.out, HP.out]⟩
        case measure => simp [intOf]; omega
      · have d1 : (((k : Int) % 64) != 10) = true := by rw [bne_iff_ne]; omega
        have e := dn_one k c
        have E := Lib.hid e
        have hsn := HPS.out k hk5 c
        rw [← hP] at hsn
        have HSN := Lib.hid hsn
        have hsl := slice_both w s k (k + 1) (by omega) (by omega) (k : Int) ((k : Int) + 1) rfl (by omega)
        have z4 : (s.extract k (k + 1)).size ≤ 1 := by rw [ByteArray.size_extract]; omega
        clear hP hzk e c hsn
        go_wp2
        go_round
        case rel => exact ⟨k + 1, by rw [E.out]; omega, by go_num, by rw [E.out, HSN.out]⟩
        case measure => simp [intOf]; omega
    · have e : dn k = 512 := by omega
      rw [e] at hzk ⊢
      rw [HG.out] at hzk ⊢
      have t2 : decide ((G.size : Int) < 512) = false := by simp; omega
      have t1 : decide ((k : Int) < (s.size : Int)) = true := by simp; omega
      have z2 : ¬ G.size < 512 := by omega
      clear hzk e hlt hk
      go_wp2_with (go_at_call 52; refine HLD.out.mono ?_; rintro e w' ⟨rfl, rfl⟩)
      go_ret2
      exact ⟨by rw [← HC.out]; rfl, rfl⟩
end Go.Proofs.Ytmincpmkiheofaa
