
/- The contracts of Sum and Seal of the second reference package. Condition: a text of at most a million bytes. -/
import Derived.Test.YtjaehhjehedjoaaBase
import Derived.Test.YtjaehhjehedjoaaMathC
import Derived.Test.YtjaehhjehedjoaaCrcB
namespace Go.Proofs.Ytjaehhjehedjoaa
open Go.ChangeShapes Go.WideShapes Go.ChangeAt Go.RowKit
set_option linter.unusedVariables false

/-- thirty-two bools in memory -/
def bitsA (f : Nat → Bool) : Array Value := ((List.range 32).map fun i => Value.bool (f i)).toArray
def upd (f : Nat → Bool) (j : Nat) (v : Bool) (i : Nat) : Bool := if i = j then v else f i
theorem bitsA_size (f : Nat → Bool) : (bitsA f).size = 32 := by simp [bitsA]
theorem bitsA_get (f : Nat → Bool) (i : Nat) (hi : i < 32) : (bitsA f)[i]? = some (.bool (f i)) := by simp [bitsA, hi]
theorem bitsA_set (f : Nat → Bool) (j : Nat) (v : Bool) (hj : j < 32) : (bitsA f).setIfInBounds j (.bool v) = bitsA (upd f j v) := by
  apply Array.ext_getElem?
  intro i
  by_cases hi : i < 32
  · rw [Array.getElem?_setIfInBounds, bitsA_get _ i hi, bitsA_get _ i hi, bitsA_size]
    by_cases h : j = i
    · subst h; simp [hj, upd]
    · have h' : ¬ i = j := fun e => h e.symm
      simp only [h, if_false, upd, h']
  · rw [Array.getElem?_eq_none (by simp [bitsA_size]; omega), Array.getElem?_eq_none (by simp [bitsA_size]; omega)]
theorem bitsA_congr (f g : Nat → Bool) (h : ∀ i, i < 32 → f i = g i) : bitsA f = bitsA g := by
  apply Array.ext_getElem?
  intro i
  by_cases hi : i < 32
  · rw [bitsA_get _ i hi, bitsA_get _ i hi, h i hi]
  · rw [Array.getElem?_eq_none (by simp [bitsA_size]; omega), Array.getElem?_eq_none (by simp [bitsA_size]; omega)]
theorem bitsA_zero : bitsA (fun _ => false) = #[.bool false, .bool false, .bool false, .bool false, .bool false, .bool false, .bool false, .bool false, .bool false, .bool false, .bool false, .bool false, .bool false, .bool false, .bool false, .bool false, .bool false, .bool false, .bool false, .bool false, .bool false, .bool false, .bool false, .bool false, .bool false, .bool false, .bool false, .bool false, .bool false, .bool false, .bool false, .bool false] := rfl
/-- the world with the register's block -/
def regW (w : World) (f : Nat → Bool) : World := w.alloc (.cells (bitsA f) 73)
theorem regW_cell (w : World) (f : Nat → Bool) (i : Nat) (hi : i < 32) : (regW w f).cell? ⟨w.heap.size, i, none⟩ = some (.bool (f i)) := by
  unfold regW; rw [World.cell?_alloc_mark, bitsA_get f i hi]

theorem cellA (w : World) (f : Nat → Bool) (i : Nat) (hi : i < 32) : (w.alloc (.cells (bitsA f) 73)).cell? ⟨w.heap.size, i, none⟩ = some (.bool (f i)) := by
  rw [World.cell?_alloc_mark, bitsA_get f i hi]

theorem pol_bit (P j : Nat) (h : P = 3988292384 / 2 ^ j) : (3988292384 : Nat).testBit j = decide (P % 2 = 1) := by
  rw [h]; exact Nat.testBit_eq_decide_div_mod_eq
theorem pol_flip (r j : Nat) (g : Nat → Bool) (hb : (3988292384 : Nat).testBit j = true) (hg : ∀ i, i < 32 → g i = ((r / 2).testBit i != (true && (decide (i < j) && (3988292384 : Nat).testBit i)))) (hj : j < 32) :
    ∀ i, i < 32 → upd g j (!(g j)) i = ((r / 2).testBit i != (true && (decide (i < j + 1) && (3988292384 : Nat).testBit i))) := by
  intro i hi
  unfold upd
  by_cases h : i = j
  · subst h
    rw [if_pos rfl, hg i hi, hb]
    simp
  · rw [if_neg h, hg i hi]
    have : decide (i < j) = decide (i < j + 1) := by rw [decide_eq_decide]; omega
    rw [this]
theorem pol_keep (r j : Nat) (g : Nat → Bool) (hb : (3988292384 : Nat).testBit j = false) (hg : ∀ i, i < 32 → g i = ((r / 2).testBit i != (true && (decide (i < j) && (3988292384 : Nat).testBit i)))) :
    ∀ i, i < 32 → g i = ((r / 2).testBit i != (true && (decide (i < j + 1) && (3988292384 : Nat).testBit i))) := by
  intro i hi
  rw [hg i hi]
  by_cases h : i = j
  · subst h; rw [hb]; simp
  · have : decide (i < j) = decide (i < j + 1) := by rw [decide_eq_decide]; omega
    rw [this]
theorem pol_end (r c j : Nat) (O : Bool) (f g : Nat → Bool) (hr : r < 4294967296) (hf : ∀ i, i < 32 → f i = r.testBit i) (hO : (!(f 0 == ((c : Int) % 2 == 1))) = O)
    (hg : ∀ i, i < 32 → g i = ((r / 2).testBit i != (O && (decide (i < j) && (3988292384 : Nat).testBit i)))) (hj : O = true → 32 ≤ j) :
    ∀ i, i < 32 → g i = (stp (r ^^^ (c % 2))).testBit i := by
  intro i hi
  have hc : ((c : Int) % 2 == 1) = ((c % 2) == 1) := by rw [Bool.eq_iff_iff]; simp; omega
  have hx : (r.testBit 0 != ((c % 2) == 1)) = O := by rw [← hO, hf 0 (by omega), hc]; rfl
  rw [stp_testBit r (c % 2) i (by omega), hx, hg i hi]
  cases O
  · simp
  · have := hj rfl
    have h : decide (i < j) = true := by simp; omega
    rw [h]; simp

theorem rsum_any (s : ByteArray) (w : World) (hs : s.size ≤ 1000000) :
    Calls Try.prog 23 #[.string s] w fun e w' => e = .returned (.int .u32 (sumL s.data.toList : Nat)) ∧ Below w.heap.size w w' := by
  go_enter Try.func23, Try.ntmps23
  go_wp2
  go_loopw [4] (fun i wr => ∃ k : Nat, k ≤ 32 ∧ i = .int .i64 k ∧ ∃ f, wr = w.alloc (.cells (bitsA f) 73) ∧ ∀ i, i < k → f i = true) (fun i _ => 32 - (intOf i).toNat)
  case atStart => exact ⟨0, by omega, rfl, _, by rw [← bitsA_zero], by intro i hi; omega⟩
  case round =>
    obtain ⟨k, hk, rfl, f, rfl, hf⟩ := hrel
    have HF := Lib.hid hf; clear hf
    by_cases hlt : k < 32
    · have hcell := cellA w f k hlt
      go_wp2
      go_roundw
      case rel => exact ⟨k + 1, by omega, by go_num, upd f k true, by rw [bitsA_set _ _ _ hlt], by
        intro i hi; unfold upd; split
        · rfl
        · exact HF.out i (by omega)⟩
      case measure => simp [intOf]; omega
    · have hk32 : 32 ≤ k := by omega
      clear hlt
      go_wp2
      have h0 : ∀ i, i < 32 → f i = (regL 4294967295 (s.data.toList.take 0)).testBit i := by
        intro i hi
        rw [HF.out i (by omega)]
        show _ = (4294967295 : Nat).testBit i
        rw [show (4294967295 : Nat) = 2 ^ 32 - 1 by decide, Nat.testBit_two_pow_sub_one]
        simp [hi]
      go_loopw [5] (fun i wr => ∃ k : Nat, k ≤ s.size ∧ i = .int .i64 k ∧ ∃ f, wr = w.alloc (.cells (bitsA f) 73) ∧ ∀ i, i < 32 → f i = (regL 4294967295 (s.data.toList.take k)).testBit i) (fun i _ => s.size - (intOf i).toNat)
      case atStart => exact ⟨0, by omega, rfl, f, rfl, h0⟩
      case round =>
        clear h0 HF
        obtain ⟨k, hk, rfl, f, rfl, hf⟩ := hrel
        have HF := Lib.hid hf; clear hf
        by_cases hlt : k < s.size
        · have hr := regL_lt 4294967295 (s.data.toList.take k) (by omega)
          have hb := (s[k]'hlt).toNat_lt
          have HR := Lib.hid (show stpN 8 (regL 4294967295 (s.data.toList.take k) ^^^ (s[k]'hlt).toNat) = regL 4294967295 (s.data.toList.take (k + 1)) by
            rw [← regL_snoc]
            congr 1
            rw [List.take_succ_eq_append_getElem (by simpa using hlt)]; rfl)
          go_wp2
          generalize (s[k]'hlt).toNat = B at *
          generalize regL 4294967295 (s.data.toList.take k) = R at *
          go_loopw [6, 7] (fun b i wr => ∃ q : Nat, q ≤ 8 ∧ i = .int .i64 q ∧ ∃ c r : Nat, b = .int .u8 c ∧ c < 2 ^ (8 - q) ∧ r < 4294967296 ∧ stpN (8 - q) (r ^^^ c) = stpN 8 (R ^^^ B) ∧ ∃ f, wr = w.alloc (.cells (bitsA f) 73) ∧ ∀ i, i < 32 → f i = r.testBit i) (fun _ i _ => 8 - (intOf i).toNat)
          case atStart => exact ⟨0, by omega, rfl, B, R, rfl, hb, hr, rfl, f, rfl, HF.out⟩
          case round =>
            clear HF hr
            obtain ⟨q, hq, rfl, c, r, rfl, hc, hr, hst, f, rfl, hf⟩ := hrel
            have HF := Lib.hid hf; clear hf
            have HST := Lib.hid hst; clear hst
            have hc8 : c < 256 := Nat.lt_of_lt_of_le hc (Nat.pow_le_pow_right (by omega) (show 8 - q ≤ 8 by omega))
            have HC := Lib.hid hc; clear hc
            by_cases hq8 : q < 8
            · have h00 := cellA w f 0 (by omega)
              have hq8b : decide ((q : Int) < 8) = true := by simp; omega
              go_wp2
              generalize hO : (!(f 0 == ((c : Int) % 2 == 1))) = O
              have HO := Lib.hid hO; clear hO h00
              go_loopw [9] (fun i wr => ∃ j : Nat, j ≤ 31 ∧ i = .int .i64 j ∧ ∃ g, wr = w.alloc (.cells (bitsA g) 73) ∧ ∀ i, i < 32 → g i = if i < j then r.testBit (i + 1) else r.testBit i) (fun i _ => 31 - (intOf i).toNat)
              case atStart => exact ⟨0, by omega, rfl, f, rfl, fun i hi => by rw [if_neg (by omega)]; exact HF.out i hi⟩
              case round =>
                obtain ⟨j, hj, rfl, g, rfl, hg⟩ := hrel
                have HG := Lib.hid hg; clear hg
                by_cases hj31 : j < 31
                · have hc1 := cellA w g (j + 1) (by omega)
                  have hc2 := cellA w g j (by omega)
                  go_wp2
                  go_roundw
                  case rel => exact ⟨j + 1, by omega, by go_num, upd g j (g (j + 1)), by rw [bitsA_set _ _ _ (by omega)], fun i hi => by
                    unfold upd
                    by_cases h : i = j
                    · subst h; rw [if_pos rfl, HG.out (i + 1) (by omega), if_neg (by omega), if_pos (by omega)]
                    · rw [if_neg h, HG.out i hi]
                      by_cases h2 : i < j
                      · rw [if_pos h2, if_pos (by omega)]
                      · rw [if_neg h2, if_neg (by omega)]⟩
                  case measure => simp [intOf]; omega
                · have hj31' : 31 ≤ j := by omega
                  clear hj31
                  have hc31 := cellA w g 31 (by omega)
                  go_wp2
                  have HH := Lib.hid (show ∀ i, i < 32 → upd g 31 false i = (r / 2).testBit i from fun i hi => by
                    unfold upd
                    rw [Nat.testBit_div_two]
                    by_cases h : i = 31
                    · subst h
                      rw [if_pos rfl, Nat.testBit_lt_two_pow (x := r) (by omega)]
                    · rw [if_neg h, HG.out i hi, if_pos (by omega)])
                  rw [bitsA_set _ _ _ (by omega)]
                  generalize upd g 31 false = h at *
                  clear HG hc31
                  go_loopw [10, 11] (fun p i wr => ∃ j : Nat, j ≤ 32 ∧ i = .int .i64 j ∧ ∃ P : Nat, p = .int .u32 P ∧ P = 3988292384 / 2 ^ j ∧ P ≤ 4294967295 ∧ ∃ g, wr = w.alloc (.cells (bitsA g) 73) ∧ ∀ i, i < 32 → g i = ((r / 2).testBit i != (O && (decide (i < j) && (3988292384 : Nat).testBit i)))) (fun _ i _ => 32 - (intOf i).toNat)
                  case atStart => exact ⟨0, by omega, rfl, 3988292384, rfl, by simp, by omega, h, rfl, fun i hi => by rw [HH.out i hi]; simp⟩
                  case round =>
                    clear HH
                    obtain ⟨j, hj, rfl, P, rfl, hP, hP2, g, rfl, hg⟩ := hrel
                    have HG := Lib.hid hg; clear hg
                    have HP := Lib.hid hP; clear hP
                    have HE := Lib.hid (fun hj => pol_end r c j O f g hr HF.out HO.out HG.out hj)
                    have HS2 := Lib.hid (show stpN (8 - (q + 1)) (stp (r ^^^ (c % 2)) ^^^ (c / 2)) = stpN 8 (R ^^^ B) by
                      rw [← stp_bit, ← HST.out, show 8 - q = (8 - (q + 1)) + 1 by omega]; rfl)
                    have HC2 := Lib.hid (show c / 2 < 2 ^ (8 - (q + 1)) by
                      have h1 := HC.out
                      rw [show 8 - q = (8 - (q + 1)) + 1 by omega, Nat.pow_succ] at h1
                      omega)
                    have hst := stp_lt (r ^^^ (c % 2)) (Nat.xor_lt_two_pow (n := 32) hr (by omega))
                    cases O with
                    | false =>
                      go_wp2
                      all_goals
                        go_roundw
                        case rel => exact ⟨q + 1, by omega, by go_num, c / 2, stp (r ^^^ (c % 2)), by go_num, HC2.out, hst, HS2.out, g, rfl, HE.out (by intro h; cases h)⟩
                        case measure => simp [intOf]; omega
                    | true =>
                      by_cases hj32 : j < 32
                      · have hc2 := cellA w g j (by omega)
                        have HB := Lib.hid (pol_bit P j HP.out)
                        by_cases hP1 : P % 2 = 1
                        · have HN := Lib.hid (pol_flip r j g (by rw [HB.out]; simpa using hP1) HG.out hj32)
                          go_wp2
                          go_roundw
                          case rel => exact ⟨j + 1, by omega, by go_num, P / 2, by go_num, by rw [HP.out, Nat.div_div_eq_div_mul, Nat.pow_succ], by omega, upd g j (!(g j)), by rw [bitsA_set _ _ _ (by omega)], HN.out⟩
                          case measure => simp [intOf]; omega
                        · have HN := Lib.hid (pol_keep r j g (by rw [HB.out]; simpa using hP1) HG.out)
                          go_wp2
                          go_roundw
                          case rel => exact ⟨j + 1, by omega, by go_num, P / 2, by go_num, by rw [HP.out, Nat.div_div_eq_div_mul, Nat.pow_succ], by omega, g, rfl, HN.out⟩
                          case measure => simp [intOf]; omega
                      · go_wp2
                        go_roundw
                        case rel => exact ⟨q + 1, by omega, by go_num, c / 2, stp (r ^^^ (c % 2)), by go_num, HC2.out, hst, HS2.out, g, rfl, HE.out (fun _ => by omega)⟩
                        case measure => simp [intOf]; omega
            · have HN := Lib.hid (show r = regL 4294967295 (s.data.toList.take (k + 1)) by
                rw [← HR.out, ← HST.out]
                have h1 := HC.out
                have h2 : 8 - q = 0 := by omega
                rw [h2] at h1 ⊢
                have h3 : c = 0 := by omega
                rw [h3, Nat.xor_zero]; rfl)
              go_wp2
              go_roundw
              case rel => exact ⟨k + 1, by omega, by go_num, f, rfl, by rw [← HN.out]; exact HF.out⟩
              case measure => simp [intOf]; omega
        · have hr := regL_lt 4294967295 s.data.toList (by omega)
          have HS := Lib.hid (show s.data.toList.take k = s.data.toList by rw [List.take_of_length_le]; show s.size ≤ k; omega)
          have HF2 := Lib.hid (show ∀ i, i < 32 → f i = (regL 4294967295 s.data.toList).testBit i by have := HF.out; rwa [HS.out] at this)
          have HX := Lib.hid (show 4294967295 - regL 4294967295 s.data.toList = sumL s.data.toList from rfl)
          clear HF HS
          generalize regL 4294967295 s.data.toList = R at *
          go_wp2
          go_loopw [12, 13] (fun n i wr => ∃ m : Int, -1 ≤ m ∧ m ≤ 31 ∧ i = .int .i64 m ∧ ∃ N : Nat, n = .int .u32 N ∧ N = (4294967295 - R) / 2 ^ (m + 1).toNat ∧ wr = w.alloc (.cells (bitsA f) 73)) (fun _ i _ => (intOf i + 1).toNat)
          case atStart => exact ⟨31, by omega, by omega, rfl, 0, rfl, by rw [show ((31 : Int) + 1).toNat = 32 by decide]; omega, rfl⟩
          case round =>
            obtain ⟨m, hm, hm2, rfl, N, rfl, hN, rfl⟩ := hrel
            have HN := Lib.hid hN; clear hN
            by_cases h0 : 0 ≤ m
            · obtain ⟨j, rfl⟩ := Int.eq_ofNat_of_zero_le h0
              have hcj := cellA w f j (by omega)
              have hNb : N ≤ 2147483647 := by
                have h1 := HN.out
                rw [show ((j : Int) + 1).toNat = j + 1 by omega, Nat.pow_succ] at h1
                have h2 : (4294967295 - R) / (2 ^ j * 2) ≤ 4294967295 / 2 := by
                  rw [Nat.mul_comm, ← Nat.div_div_eq_div_mul]
                  exact Nat.le_trans (Nat.div_le_self _ _) (by omega)
                omega
              have HT := Lib.hid (not_step R j hr (by omega))
              have HJ := Lib.hid (show f j = R.testBit j from HF2.out j (by omega))
              generalize hv : f j = v at *
              clear hv
              cases v with
              | false =>
                go_wp2
                go_roundw
                case rel => exact ⟨(j : Int) - 1, by omega, by omega, by go_num, 2 * N + 1, by go_num, by
                  have h1 := HT.out; rw [← HJ.out] at h1
                  have h2 := HN.out
                  rw [show ((j : Int) + 1).toNat = j + 1 by omega] at h2
                  rw [show ((j : Int) - 1 + 1).toNat = j by omega, ← h1, h2]; simp, by first | rfl | trivial⟩
                case measure => simp [intOf] <;> omega
              | true =>
                go_wp2
                go_roundw
                case rel => exact ⟨(j : Int) - 1, by omega, by omega, by go_num, 2 * N, by go_num, by
                  have h1 := HT.out; rw [← HJ.out] at h1
                  have h2 := HN.out
                  rw [show ((j : Int) + 1).toNat = j + 1 by omega] at h2
                  rw [show ((j : Int) - 1 + 1).toNat = j by omega, ← h1, h2]; simp, by first | rfl | trivial⟩
                case measure => simp [intOf] <;> omega
            · have HM := Lib.hid (show N = sumL s.data.toList by
                have h1 := HN.out
                rw [show (m + 1).toNat = 0 by omega] at h1
                rw [h1, ← HX.out]; simp)
              go_wp2
              go_ret
              exact ⟨ret_eq (by rw [HM.out]), (Below.refl _ _).alloc (Nat.le_refl _) _⟩
end Go.Proofs.Ytjaehhjehedjoaa
