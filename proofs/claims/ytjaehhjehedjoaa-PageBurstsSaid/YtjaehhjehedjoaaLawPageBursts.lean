/- For every kind, number, string, place and mask: where page.Pack makes a page and the mask isn't 0, of its bytes with the mask's bits turned from that place on, as far as they lie in the page (in its first 32 bits, where the place does), page.Unpack answers ErrSum just if a bit was turned, else OK; and the document's example of layer 8 holds: PageBursts answers true.
Conditions: none; every input that can be read is spoken of. -/
import Derived.Test.YtjaehhjehedjoaaRows
import Derived.Test.YtjaehhjehedjoaaBase
import Derived.Test.YtjaehhjehedjoaaPagC
import Derived.Test.YtjaehhjehedjoaaBytes
import Derived.Test.YtjaehhjehedjoaaArr
import Derived.WalkKit
import Derived.ProofKit
import Derived.OpenShut
import Derived.ShutString
import Derived.ChangeOld
import Derived.Below
import Derived.SliceStrings
namespace Go.Proofs.Ytjaehhjehedjoaa.pageBursts
open Go.ChangeShapes Go.WideShapes Go.ChangeAt Go.RowKit
open Go.ChangeMaps (open_string shut_string)
set_option linter.unusedVariables false

theorem xor_byte (x j : Nat) (hx : x < 256) (hj : j < 8) : bits BinOp.xor IntKind.u8 (x : Int) (2 ^ j % 256) = ((UInt8.ofNat (x ^^^ 2 ^ j)).toNat : Int) := by
  have hp : 2 ^ j ≤ 128 := by have := Nat.pow_le_pow_right (n := 2) (by omega) (show j ≤ 7 by omega); omega
  have e : ((2 : Int) ^ j % 256) = ((2 ^ j : Nat) : Int) := by
    have h1 : ((2 : Int) ^ j) = ((2 ^ j : Nat) : Int) := by push_cast; rfl
    rw [h1]
    generalize 2 ^ j = p at *
    omega
  rw [e]
  refine (u8_xor_nat x (2 ^ j) hx (by omega)).trans ?_
  have hlt : x ^^^ 2 ^ j < 256 := Nat.xor_lt_two_pow (n := 8) hx (by omega)
  rw [UInt8.toNat_ofNat', Nat.mod_eq_of_lt hlt]
theorem num_turn (L : List UInt8) (F k x mask N : Nat) (hlt : (F + k) / 8 < L.length) (hx : x = (L[(F + k) / 8]'hlt).toNat) (hn : num L = N ^^^ (2 ^ F * (mask % 2 ^ k))) (hb : mask / 2 ^ k % 2 = 1) :
    num (L.set ((F + k) / 8) (UInt8.ofNat (x ^^^ 2 ^ ((F + k) % 8)))) = N ^^^ (2 ^ F * (mask % 2 ^ (k + 1))) := by
  have hx8 : x < 256 := by rw [hx]; exact UInt8.toNat_lt _
  have hp : 2 ^ ((F + k) % 8) ≤ 128 := by have := Nat.pow_le_pow_right (n := 2) (by omega) (show (F + k) % 8 ≤ 7 by omega); omega
  have hlt2 : x ^^^ 2 ^ ((F + k) % 8) < 256 := Nat.xor_lt_two_pow (n := 8) hx8 (by omega)
  rw [num_set L (F + k) _ hlt (by
    rw [UInt8.toNat_ofNat', Nat.mod_eq_of_lt hlt2, hx, List.getD_eq_getElem?_getD, List.getElem?_eq_getElem hlt]; rfl), hn, Nat.xor_assoc]
  congr 1
  have h1 : mask % 2 ^ (k + 1) = mask % 2 ^ k + 2 ^ k * 1 := by
    rw [Nat.pow_succ, Nat.mod_mul, hb]
  rw [h1, add_xor _ _ _ (Nat.mod_lt _ (Nat.two_pow_pos k)), Nat.mul_one, Nat.pow_add]
  apply Nat.eq_of_testBit_eq
  intro i
  simp only [Nat.testBit_xor, Nat.testBit_two_pow_mul]
  by_cases hi : F ≤ i
  · simp only [hi, decide_true, Bool.true_and]
  · simp [hi]
theorem mod_keep (mask k : Nat) (hb : mask / 2 ^ k % 2 ≠ 1) : mask % 2 ^ (k + 1) = mask % 2 ^ k := by
  have h : mask / 2 ^ k % 2 = 0 := by omega
  rw [Nat.pow_succ, Nat.mod_mul, h]; simp
theorem mod_ne (mask k : Nat) (hb : mask / 2 ^ k % 2 = 1) : mask % 2 ^ (k + 1) ≠ 0 := by
  rw [Nat.pow_succ, Nat.mod_mul, hb]
  have := Nat.two_pow_pos k
  omega
theorem burst_E (L : List UInt8) (hL : L.length = 512) (h : num (L.take 4) ≠ sumL (L.drop 4)) : hE ⟨L.toArray⟩ = 12 := by
  have hz : (⟨L.toArray⟩ : ByteArray).size = 512 := by show L.toArray.size = 512; simp [hL]
  have e1 : getN ⟨L.toArray⟩ 0 4 = num (L.take 4) := by rw [getN_list _ _ _ (by omega), List.drop_zero]
  have e2 : ((⟨L.toArray⟩ : ByteArray).extract 4 (⟨L.toArray⟩ : ByteArray).size).data.toList = L.drop 4 := by
    rw [extract_list, hz]
    show (L.drop 4).take (512 - 4) = L.drop 4
    rw [List.take_of_length_le]
    rw [List.length_drop]; omega
  unfold hE
  rw [if_neg (by omega), e1, e2, if_pos h]
theorem pgB_sumL (k n : Nat) (t : ByteArray) (h : t.size ≤ 496) : num ((pgB k n t).data.toList.take 4) = sumL ((pgB k n t).data.toList.drop 4) := by
  have h1 := pgB_sum k n t h
  have hz := pgB_size k n t h
  rw [getN_list _ _ _ (by omega), List.drop_zero, extract_list, List.take_of_length_le (l := (pgB k n t).data.toList.drop 4)] at h1
  · exact h1
  · rw [List.length_drop, len_list]; omega
set_option maxHeartbeats 1000000 in
theorem bursts_far (kd no at_ mask K F : Nat) (a2 B : ByteArray) (w : World) (hKi : 1 + ((kd : Int) % 255) = (K : Int)) (hK1 : K ≤ 255) (hno : no ≤ 255) (hkd : kd ≤ 255) (hmk : mask ≤ 4294967295) (hat : at_ ≤ 65535) (h2b : ((mask : Int) == 0) = false) (hF : ((at_ : Int) % 4096) = F) (hF8 : F < 4096) (hz : B.size = 512)
    (HP : RowKit.Hid (∀ w : World, Calls Try.prog 9 #[.int .i64 K, .int .i64 no, .string a2] w fun e w' => e = .returned (.tuple #[.string B, .int .i64 0]) ∧ Below w.heap.size w w')) (HS : RowKit.Hid (num (B.data.toList.take 4) = sumL (B.data.toList.drop 4)))
    (HU : RowKit.Hid (∀ w : World, Calls Try.prog 11 #[.string B, .int .i64 no] w fun e w' => (∃ t : ByteArray, e = .returned (.tuple #[.int .i64 K, .string t, .int .i64 0])) ∧ Below w.heap.size w w')) (hf : 32 ≤ F) :
    Calls Try.prog 4 #[.int .u8 kd, .int .u8 no, .string a2, .int .u16 at_, .int .u32 mask] w fun e w' => e = .returned (.bool true) ∧ Below w.heap.size w w' := by
  have hc : decide ((F : Int) < 32) = false := by simp; omega
  have HE1 : RowKit.Hid (F < 32 → 4096 = 32) := Lib.hid (fun h => by omega)
  have hEF : F < 4096 := hF8
  have hz2 : (B.size : Int) = 512 := by omega
  go_enter Try.func4, Try.ntmps4
  go_wp2_with (go_at_call 9; refine (HP.out _).mono ?_; rintro e w1 ⟨rfl, hb1⟩; obtain ⟨c, wB, hcv, hbytes, hbel, hsz⟩ := to_bytes Try.prog w1 9 33 5 B Try.underlying9 Try.underlying33 Try.underlying5)
  have hnB : B.data.toList.length = 512 := hz
  have HNB := Lib.hid hnB
  rw [hF]
  obtain ⟨En, hEe⟩ : ∃ En : Int, En = 4096 := ⟨_, rfl⟩
  rw [← hEe]
  have HEe := Lib.hid hEe
  clear hnB hcv hF hz hz2 hKi hc hEe
  go_loopw [16, 17] (fun t i wr => ∃ k : Nat, k ≤ 32 ∧ (F : Int) + k ≤ En ∧ i = .int .i64 k ∧ ∃ (L : List UInt8) (o : Bool), t = .bool o ∧ L.length = 512 ∧ BytesAt wr w1.heap.size L ∧ num L = num B.data.toList ^^^ (2 ^ F * (mask % 2 ^ k)) ∧ (o = decide (mask % 2 ^ k ≠ 0)) ∧ Below w.heap.size w wr) (fun _ i _ => 32 - (intOf i).toNat)
  case atStart => exact ⟨0, by omega, by have := HEe.out; omega, rfl, B.data.toList, false, rfl, HNB.out, hbytes, by simp [Nat.mod_one], by simp [Nat.mod_one], hb1.trans (hbel.mono hb1.size)⟩
  case round =>
    clear hbytes hbel hsz
    obtain ⟨k, hk, hk2, rfl, L, o, rfl, hL, hby, hnum, ho, hbw⟩ := hrel
    have HL := Lib.hid hL
    have HNU := Lib.hid hnum
    have HO := Lib.hid ho
    have HBY := Lib.hid hby
    clear hL hnum ho hby
    by_cases hstay : k < 32 ∧ (F : Int) + k < En
    · obtain ⟨hk32, hkF⟩ := hstay
      have hg1 : (F : Int) + (k : Int) < En := hkF
      have hp8 : (F + k) / 8 < 512 := by have := HEe.out; omega
      have hlt : (F + k) / 8 < L.length := by rw [HL.out]; exact hp8
      have hcell := HBY.out.cell _ hlt
      have hfree := HBY.out.free _ hlt
      have hbyte := (L[(F + k) / 8]'hlt).toNat_lt
      obtain ⟨x, hx⟩ : ∃ x : Nat, x = (L[(F + k) / 8]'hlt).toNat := ⟨_, rfl⟩
      rw [← hx] at hcell hbyte
      have HX := Lib.hid hx
      clear hx
      obtain ⟨q, hq, hqn⟩ : ∃ q : Nat, (mask : Int) / 2 ^ k = q ∧ mask / 2 ^ k = q := ⟨mask / 2 ^ k, by push_cast; rfl, rfl⟩
      have HQ := Lib.hid hqn
      clear hqn
      by_cases hbit : q % 2 = 1
      · have HT := Lib.hid (num_turn L F k x mask _ hlt HX.out HNU.out (by rw [HQ.out]; exact hbit))
        have HM := Lib.hid (mod_ne mask k (by rw [HQ.out]; exact hbit))
        have HV := Lib.hid (xor_byte x ((F + k) % 8) hbyte (by omega))
        have hw1 := hb1.size
        go_wp2
        go_roundw
        case rel => exact ⟨k + 1, by omega, by push_cast; omega, by go_num, L.set ((F + k) / 8) (UInt8.ofNat (x ^^^ 2 ^ ((F + k) % 8))), true, rfl, by rw [List.length_set, HL.out], by rw [HV.out]; exact HBY.out.store _ hlt _, HT.out, by simpa using HM.out, hbw.setCell hw1 _⟩
        case measure => simp [intOf]; omega
      · have HM := Lib.hid (mod_keep mask k (by rw [HQ.out]; exact hbit))
        go_wp2
        go_roundw
        case rel => exact ⟨k + 1, by omega, by push_cast; omega, by go_num, L, o, rfl, HL.out, HBY.out, by rw [HM.out]; exact HNU.out, by rw [HM.out]; exact HO.out, hbw⟩
        case measure => simp [intOf]; omega
    · have hx32 : mask % 2 ^ k < 4294967296 := by have := Nat.mod_le mask (2 ^ k); omega
      have hLs : (⟨L.toArray⟩ : ByteArray).size = 512 := by show L.toArray.size = 512; simp [HL.out]
      have HST := Lib.hid hstay
      have hrun : ∀ cap, (convert 33 9 (.slice (some ⟨w1.heap.size, 0, none⟩) 512 cap)).run Try.prog wr = .ok (.string ⟨L.toArray⟩) wr := fun cap => by
        have := of_bytes Try.prog wr 33 9 5 w1.heap.size cap L HBY.out Try.underlying33 Try.underlying5 Try.underlying9
        rw [HL.out] at this
        exact this
      by_cases hzz : mask % 2 ^ k = 0
      · have hLB2 : L = B.data.toList := num_inj' _ _ (by rw [HL.out, HNB.out]) (by rw [HNU.out, hzz]; simp)
        have ho : o = false := by rw [HO.out, hzz]; simp
        subst ho
        have hBL : (⟨L.toArray⟩ : ByteArray) = B := by rw [hLB2]
        rw [hBL] at hrun
        clear hzz hLB2 hBL hLs hx32
        by_cases hk32 : k < 32
        all_goals
          have hkF : ¬ ((F : Int) + (k : Int) < En) ∨ ¬ ((k : Int) < 32) := by have := HST.out; omega
          have HKF := Lib.hid hkF
          clear hkF hstay
          first
            | have hg1 : En ≤ (F : Int) + (k : Int) := by have := HKF.out; omega
            | skip
          go_wp2_with (first
            | (go_at_call 10; refine (awake_any _).mono ?_; rintro e w1 ⟨rfl, hb5⟩)
            | (go_at_call 11; refine (HU.out _).mono ?_; rintro e w1 ⟨⟨tt, rfl⟩, hb4⟩))
          go_ret
          exact ⟨rfl, hbw.trans ((hb4.mono hbw.size).trans (hb5.mono (Nat.le_trans hbw.size hb4.size)))⟩
      · have ho : o = true := by rw [HO.out]; simpa using hzz
        subst ho
        have hns : num (L.take 4) ≠ sumL (L.drop 4) := page_turned B.data.toList L F (mask % 2 ^ k) HNB.out HL.out (by omega) hx32 hzz (fun hf => by
          have := HE1.out hf
          omega) HNU.out HS.out
        have hE12 := burst_E L HL.out hns
        have HOP := Lib.hid (show ∀ w : World, Calls Try.prog 11 #[.string ⟨L.toArray⟩, .int .i64 no] w fun e w' => e = .returned (.tuple #[.int .i64 0, .string ⟨#[]⟩, .int .i64 12]) ∧ Below w.heap.size w w' from fun w => by
          have := unpack_any ⟨L.toArray⟩ no w (by omega)
          have e1 : uE ⟨L.toArray⟩ no = 12 := by unfold uE; rw [if_pos (by omega), hE12]
          have e2 : uK ⟨L.toArray⟩ no = 0 := by unfold uK; rw [if_neg (by omega)]
          have e3 : uT ⟨L.toArray⟩ no = ⟨#[]⟩ := by unfold uT; rw [if_neg (by omega)]
          rw [e1, e2, e3] at this
          exact this)
        obtain ⟨T, hT⟩ : ∃ T : ByteArray, T = ⟨L.toArray⟩ := ⟨_, rfl⟩
        rw [← hT] at HOP hrun
        clear hzz hns hE12 hLs hT hx32
        by_cases hk32 : k < 32
        all_goals
          have hkF : ¬ ((F : Int) + (k : Int) < En) ∨ ¬ ((k : Int) < 32) := by have := HST.out; omega
          have HKF := Lib.hid hkF
          clear hkF hstay
          first
            | have hg1 : En ≤ (F : Int) + (k : Int) := by have := HKF.out; omega
            | skip
          go_wp2_with (first
            | (go_at_call 10; refine (awake_any _).mono ?_; rintro e w1 ⟨rfl, hb5⟩)
            | (go_at_call 11; refine (HOP.out _).mono ?_; rintro e w1 ⟨rfl, hb4⟩))
          go_ret
          exact ⟨rfl, hbw.trans ((hb4.mono hbw.size).trans (hb5.mono (Nat.le_trans hbw.size hb4.size)))⟩
set_option maxHeartbeats 1000000 in
theorem bursts_near (kd no at_ mask K F : Nat) (a2 B : ByteArray) (w : World) (hKi : 1 + ((kd : Int) % 255) = (K : Int)) (hK1 : K ≤ 255) (hno : no ≤ 255) (hkd : kd ≤ 255) (hmk : mask ≤ 4294967295) (hat : at_ ≤ 65535) (h2b : ((mask : Int) == 0) = false) (hF : ((at_ : Int) % 4096) = F) (hF8 : F < 4096) (hz : B.size = 512)
    (HP : RowKit.Hid (∀ w : World, Calls Try.prog 9 #[.int .i64 K, .int .i64 no, .string a2] w fun e w' => e = .returned (.tuple #[.string B, .int .i64 0]) ∧ Below w.heap.size w w')) (HS : RowKit.Hid (num (B.data.toList.take 4) = sumL (B.data.toList.drop 4)))
    (HU : RowKit.Hid (∀ w : World, Calls Try.prog 11 #[.string B, .int .i64 no] w fun e w' => (∃ t : ByteArray, e = .returned (.tuple #[.int .i64 K, .string t, .int .i64 0])) ∧ Below w.heap.size w w')) (hf : F < 32) :
    Calls Try.prog 4 #[.int .u8 kd, .int .u8 no, .string a2, .int .u16 at_, .int .u32 mask] w fun e w' => e = .returned (.bool true) ∧ Below w.heap.size w w' := by
  have hc : decide ((F : Int) < 32) = true := by simp; omega
  have hEF : F < 32 := hf
  have hz2 : (B.size : Int) = 512 := by omega
  go_enter Try.func4, Try.ntmps4
  go_wp2_with (go_at_call 9; refine (HP.out _).mono ?_; rintro e w1 ⟨rfl, hb1⟩; obtain ⟨c, wB, hcv, hbytes, hbel, hsz⟩ := to_bytes Try.prog w1 9 33 5 B Try.underlying9 Try.underlying33 Try.underlying5)
  have hnB : B.data.toList.length = 512 := hz
  have HNB := Lib.hid hnB
  rw [hF]
  obtain ⟨En, hEe⟩ : ∃ En : Int, En = 32 := ⟨_, rfl⟩
  rw [← hEe]
  have HEe := Lib.hid hEe
  clear hnB hcv hF hz hz2 hKi hc hEe
  go_loopw [16, 17] (fun t i wr => ∃ k : Nat, k ≤ 32 ∧ (F : Int) + k ≤ En ∧ i = .int .i64 k ∧ ∃ (L : List UInt8) (o : Bool), t = .bool o ∧ L.length = 512 ∧ BytesAt wr w1.heap.size L ∧ num L = num B.data.toList ^^^ (2 ^ F * (mask % 2 ^ k)) ∧ (o = decide (mask % 2 ^ k ≠ 0)) ∧ Below w.heap.size w wr) (fun _ i _ => 32 - (intOf i).toNat)
  case atStart => exact ⟨0, by omega, by have := HEe.out; omega, rfl, B.data.toList, false, rfl, HNB.out, hbytes, by simp [Nat.mod_one], by simp [Nat.mod_one], hb1.trans (hbel.mono hb1.size)⟩
  case round =>
    clear hbytes hbel hsz
    obtain ⟨k, hk, hk2, rfl, L, o, rfl, hL, hby, hnum, ho, hbw⟩ := hrel
    have HL := Lib.hid hL
    have HNU := Lib.hid hnum
    have HO := Lib.hid ho
    have HBY := Lib.hid hby
    clear hL hnum ho hby
    by_cases hstay : k < 32 ∧ (F : Int) + k < En
    · obtain ⟨hk32, hkF⟩ := hstay
      have hg1 : (F : Int) + (k : Int) < En := hkF
      have hkE : (k : Int) < En := by have := HEe.out; omega
      have hp8 : (F + k) / 8 < 512 := by have := HEe.out; omega
      have hlt : (F + k) / 8 < L.length := by rw [HL.out]; exact hp8
      have hcell := HBY.out.cell _ hlt
      have hfree := HBY.out.free _ hlt
      have hbyte := (L[(F + k) / 8]'hlt).toNat_lt
      obtain ⟨x, hx⟩ : ∃ x : Nat, x = (L[(F + k) / 8]'hlt).toNat := ⟨_, rfl⟩
      rw [← hx] at hcell hbyte
      have HX := Lib.hid hx
      clear hx
      obtain ⟨q, hq, hqn⟩ : ∃ q : Nat, (mask : Int) / 2 ^ k = q ∧ mask / 2 ^ k = q := ⟨mask / 2 ^ k, by push_cast; rfl, rfl⟩
      have HQ := Lib.hid hqn
      clear hqn
      by_cases hbit : q % 2 = 1
      · have HT := Lib.hid (num_turn L F k x mask _ hlt HX.out HNU.out (by rw [HQ.out]; exact hbit))
        have HM := Lib.hid (mod_ne mask k (by rw [HQ.out]; exact hbit))
        have HV := Lib.hid (xor_byte x ((F + k) % 8) hbyte (by omega))
        have hw1 := hb1.size
        go_wp2
        go_roundw
        case rel => exact ⟨k + 1, by omega, by push_cast; omega, by go_num, L.set ((F + k) / 8) (UInt8.ofNat (x ^^^ 2 ^ ((F + k) % 8))), true, rfl, by rw [List.length_set, HL.out], by rw [HV.out]; exact HBY.out.store _ hlt _, HT.out, by simpa using HM.out, hbw.setCell hw1 _⟩
        case measure => simp [intOf]; omega
      · have HM := Lib.hid (mod_keep mask k (by rw [HQ.out]; exact hbit))
        go_wp2
        go_roundw
        case rel => exact ⟨k + 1, by omega, by push_cast; omega, by go_num, L, o, rfl, HL.out, HBY.out, by rw [HM.out]; exact HNU.out, by rw [HM.out]; exact HO.out, hbw⟩
        case measure => simp [intOf]; omega
    · have hx32 : mask % 2 ^ k < 4294967296 := by have := Nat.mod_le mask (2 ^ k); omega
      have hLs : (⟨L.toArray⟩ : ByteArray).size = 512 := by show L.toArray.size = 512; simp [HL.out]
      have HST := Lib.hid hstay
      have hrun : ∀ cap, (convert 33 9 (.slice (some ⟨w1.heap.size, 0, none⟩) 512 cap)).run Try.prog wr = .ok (.string ⟨L.toArray⟩) wr := fun cap => by
        have := of_bytes Try.prog wr 33 9 5 w1.heap.size cap L HBY.out Try.underlying33 Try.underlying5 Try.underlying9
        rw [HL.out] at this
        exact this
      by_cases hzz : mask % 2 ^ k = 0
      · have hLB2 : L = B.data.toList := num_inj' _ _ (by rw [HL.out, HNB.out]) (by rw [HNU.out, hzz]; simp)
        have ho : o = false := by rw [HO.out, hzz]; simp
        subst ho
        have hBL : (⟨L.toArray⟩ : ByteArray) = B := by rw [hLB2]
        rw [hBL] at hrun
        clear hzz hLB2 hBL hLs hx32
        by_cases hk32 : k < 32
        all_goals
          have hkF : ¬ ((F : Int) + (k : Int) < En) ∨ ¬ ((k : Int) < 32) := by have := HST.out; omega
          have HKF := Lib.hid hkF
          clear hkF hstay
          first
            | have hkE : (k : Int) < En := by have := HEe.out; omega
            | have hkE : En ≤ (k : Int) := by have := HEe.out; omega
          first
            | have hg1 : En ≤ (F : Int) + (k : Int) := by have := HKF.out; omega
            | skip
          go_wp2_with (first
            | (go_at_call 10; refine (awake_any _).mono ?_; rintro e w1 ⟨rfl, hb5⟩)
            | (go_at_call 11; refine (HU.out _).mono ?_; rintro e w1 ⟨⟨tt, rfl⟩, hb4⟩))
          go_ret
          exact ⟨rfl, hbw.trans ((hb4.mono hbw.size).trans (hb5.mono (Nat.le_trans hbw.size hb4.size)))⟩
      · have ho : o = true := by rw [HO.out]; simpa using hzz
        subst ho
        have hns : num (L.take 4) ≠ sumL (L.drop 4) := page_turned B.data.toList L F (mask % 2 ^ k) HNB.out HL.out (by omega) hx32 hzz (fun hf => by
          have h1 := Nat.mod_lt mask (Nat.two_pow_pos k)
          have h2 : 2 ^ F * (mask % 2 ^ k) < 2 ^ F * 2 ^ k := Nat.mul_lt_mul_of_pos_left h1 (Nat.two_pow_pos F)
          have h3 : 2 ^ F * 2 ^ k ≤ 2 ^ 32 := by rw [← Nat.pow_add]; exact Nat.pow_le_pow_right (by omega) (by have := HEe.out; omega)
          omega) HNU.out HS.out
        have hE12 := burst_E L HL.out hns
        have HOP := Lib.hid (show ∀ w : World, Calls Try.prog 11 #[.string ⟨L.toArray⟩, .int .i64 no] w fun e w' => e = .returned (.tuple #[.int .i64 0, .string ⟨#[]⟩, .int .i64 12]) ∧ Below w.heap.size w w' from fun w => by
          have := unpack_any ⟨L.toArray⟩ no w (by omega)
          have e1 : uE ⟨L.toArray⟩ no = 12 := by unfold uE; rw [if_pos (by omega), hE12]
          have e2 : uK ⟨L.toArray⟩ no = 0 := by unfold uK; rw [if_neg (by omega)]
          have e3 : uT ⟨L.toArray⟩ no = ⟨#[]⟩ := by unfold uT; rw [if_neg (by omega)]
          rw [e1, e2, e3] at this
          exact this)
        obtain ⟨T, hT⟩ : ∃ T : ByteArray, T = ⟨L.toArray⟩ := ⟨_, rfl⟩
        rw [← hT] at HOP hrun
        clear hzz hns hE12 hLs hT hx32
        by_cases hk32 : k < 32
        all_goals
          have hkF : ¬ ((F : Int) + (k : Int) < En) ∨ ¬ ((k : Int) < 32) := by have := HST.out; omega
          have HKF := Lib.hid hkF
          clear hkF hstay
          first
            | have hkE : (k : Int) < En := by have := HEe.out; omega
            | have hkE : En ≤ (k : Int) := by have := HEe.out; omega
          first
            | have hg1 : En ≤ (F : Int) + (k : Int) := by have := HKF.out; omega
            | skip
          go_wp2_with (first
            | (go_at_call 10; refine (awake_any _).mono ?_; rintro e w1 ⟨rfl, hb5⟩)
            | (go_at_call 11; refine (HOP.out _).mono ?_; rintro e w1 ⟨rfl, hb4⟩))
          go_ret
          exact ⟨rfl, hbw.trans ((hb4.mono hbw.size).trans (hb5.mono (Nat.le_trans hbw.size hb4.size)))⟩

theorem own : ownKnob Try.prog.godebug = none := by kernel_rfl
theorem laidOut : laidOutB Try.prog = true := by kernel_rfl

theorem walk (a0 : Int) (a1 : Int) (a2 : ByteArray) (a3 : Int) (a4 : Int) (w : World) (w0 : (Lit.int .u8 a0).wf = true) (w1 : (Lit.int .u8 a1).wf = true) (w2 : a2.size ≤ maxLen) (w3 : (Lit.int .u16 a3).wf = true) (w4 : (Lit.int .u32 a4).wf = true) :
    Calls Try.prog 4 #[.int .u8 a0, .int .u8 a1, .string a2, .int .u16 a3, .int .u32 a4] w fun e w' => e = .returned (.bool true) ∧ Below w.heap.size w w' := by
  unfold maxLen at w2
  have b0 := bounds_u8 w0
  have b1 := bounds_u8 w1
  have b3 := bounds_u16 w3
  have b4 := bounds_u32 w4
  obtain ⟨kd, rfl⟩ := Int.eq_ofNat_of_zero_le b0.1
  obtain ⟨no, rfl⟩ := Int.eq_ofNat_of_zero_le b1.1
  obtain ⟨at_, rfl⟩ := Int.eq_ofNat_of_zero_le b3.1
  obtain ⟨mask, rfl⟩ := Int.eq_ofNat_of_zero_le b4.1
  obtain ⟨K, hK⟩ : ∃ K : Nat, K = 1 + kd % 255 := ⟨_, rfl⟩
  have hKi : 1 + ((kd : Int) % 255) = (K : Int) := by omega
  have hK0 : 1 ≤ K := by omega
  have hK1 : K ≤ 255 := by omega
  have hno : no ≤ 255 := by omega
  have hmk : mask ≤ 4294967295 := by omega
  have hat : at_ ≤ 65535 := by omega
  by_cases h1 : 496 < a2.size
  · have HP := Lib.hid (fun w => pack_large K no a2 w hK0 hK1 (by omega) h1)
    clear hK h1
    go_enter Try.func4, Try.ntmps4
    go_wp2_with (first
      | (go_at_call 10; refine (awake_any _).mono ?_; rintro e w1 ⟨rfl, hb1⟩)
      | (go_at_call 9; refine (HP.out _).mono ?_; rintro e w1 ⟨rfl, rfl⟩))
    go_ret
    exact ⟨rfl, hb1⟩
  · have hts : a2.size ≤ 496 := by omega
    have HP := Lib.hid (fun w => pack_yes K no a2 w hK0 hK1 (by omega) hts)
    have hz := pgB_size K no a2 hts
    by_cases h2 : mask = 0
    · subst h2
      clear hK h1
      go_enter Try.func4, Try.ntmps4
      go_wp2_with (first
        | (go_at_call 10; refine (awake_any _).mono ?_; rintro e w1 ⟨rfl, hb1⟩)
        | (go_at_call 9; refine (HP.out _).mono ?_; rintro e w1 ⟨rfl, hb2⟩))
      go_ret
      exact ⟨rfl, then_ hb2 hb1 hb2.size⟩
    · have h2b : ((mask : Int) == 0) = false := by rw [beq_eq_false_iff_ne]; omega
      have HS := Lib.hid (pgB_sumL K no a2 hts)
      have HU := Lib.hid (show ∀ w : World, Calls Try.prog 11 #[.string (pgB K no a2), .int .i64 no] w fun e w' => (∃ t : ByteArray, e = .returned (.tuple #[.int .i64 K, .string t, .int .i64 0])) ∧ Below w.heap.size w w' from fun w => by
        have := unpack_any (pgB K no a2) no w (by omega)
        have E := pgB_E K no a2 hK0 hK1 (by omega) hts
        have eK := pgB_K K no a2 hK0 hK1 (by omega) hts
        have eN := pgB_N K no a2 hK0 hK1 (by omega) hts
        have e1 : uE (pgB K no a2) no = 0 := by unfold uE; rw [if_neg (by simp [E]), eN, if_pos rfl]
        have e2 : uK (pgB K no a2) no = K := by unfold uK; rw [if_pos e1, eK]
        rw [e1, e2] at this
        exact this.mono fun _ _ h => ⟨⟨_, h.1⟩, h.2⟩)
      obtain ⟨B, hB⟩ : ∃ B, B = pgB K no a2 := ⟨_, rfl⟩
      rw [← hB] at HP HS HU hz
      obtain ⟨F, hF⟩ : ∃ F : Nat, ((at_ : Int) % 4096) = F := ⟨at_ % 4096, by omega⟩
      have hF8 : F < 4096 := by omega
      have hkd : kd ≤ 255 := by omega
      clear hB h1 h2 hK hts w0 w1 w2 w3 w4 b0 b1 b3 b4
      by_cases hf : F < 32
      · exact bursts_near kd no at_ mask K F a2 B w hKi hK1 hno hkd hmk hat h2b hF hF8 hz HP HS HU hf
      · exact bursts_far kd no at_ mask K F a2 B w hKi hK1 hno hkd hmk hat h2b hF hF8 hz HP HS HU (by omega)

set_option maxRecDepth 100000 in
theorem lifted (os : Os) (started : os.Started) (H : Type) (enc : TypeId × Value → H) :
    ReturnsInHanded {} Try.checked os 4 .any (Rows.pageBurstsSpec.pre6 enc Try.prog Try.f4 Rows.pageBurstsRow.domain false) (Rows.pageBurstsSpec.post enc Try.prog Try.f4 false true false false) := by
  refine returnsInHanded_of_change (C := Try.checked) own started (by kernel_rfl) Try.func4
    (ChangeSpec.witness6 (enc := enc) (C := Try.checked) false ⟨#[], #[.int .u8 0, .int .u8 0, .string ByteArray.empty, .int .u16 0, .int .u32 0], []⟩ 8 (by kernel_rfl) (by kernel_rfl) (by kernel_rfl) (by kernel_rfl)) ?_
  intro W base args ds gs before hval0 hW hcnd _
  have hval : ∀ (j : Nat) t v, Try.f4.params[j]? = some t → args[j]? = some v → Value.okWide Try.prog W .any base t v := hval0
  have hW' := hW
  obtain ⟨p, q, hA0, hV, rfl, hfz, hnd⟩ := hW
  have hA : DataW.TrodAll enc Try.prog W 0 (fun _ => true) true Try.f4.params.toList args.toList ds p := hA0
  rw [Try.params4] at hA hval
  obtain ⟨v0, vs0, d0, ds0, p0, q0, hargs, rfl, rfl, h0, r0⟩ := trodAll_cons hA
  obtain ⟨v1, vs1, d1, ds1, p1, q1, rfl, rfl, rfl, h1, r1⟩ := trodAll_cons r0
  obtain ⟨v2, vs2, d2, ds2, p2, q2, rfl, rfl, rfl, h2, r2⟩ := trodAll_cons r1
  obtain ⟨v3, vs3, d3, ds3, p3, q3, rfl, rfl, rfl, h3, r3⟩ := trodAll_cons r2
  obtain ⟨v4, vs4, d4, ds4, p4, q4, rfl, rfl, rfl, h4, r4⟩ := trodAll_cons r3
  obtain ⟨rfl, rfl, rfl⟩ := trodAll_nil r4
  obtain rfl : args = #[v0, v1, v2, v3, v4] := by cases args; simp_all
  obtain ⟨rfl, rfl⟩ := trodVars_none hV
  obtain ⟨a0, rfl, rfl, rfl, w0⟩ := open_int Try.underlying5 (hval 0 5 v0 rfl rfl) h0
  obtain ⟨a1, rfl, rfl, rfl, w1⟩ := open_int Try.underlying5 (hval 1 5 v1 rfl rfl) h1
  obtain ⟨a2, rfl, rfl, rfl, w2⟩ := open_string Try.underlying9 (hval 2 9 v2 rfl rfl) h2
  obtain ⟨a3, rfl, rfl, rfl, w3⟩ := open_int Try.underlying31 (hval 3 31 v3 rfl rfl) h3
  obtain ⟨a4, rfl, rfl, rfl, w4⟩ := open_int Try.underlying32 (hval 4 32 v4 rfl rfl) h4
  clear hA0 hval0
  refine (walk a0 a1 a2 a3 a4 W w0 w1 w2 w3 w4).mono fun e W' ⟨he, bel⟩ => ?_
  subst he
  exact ⟨_, rfl, _, _, _, [], _, [], hW', trodAll_mk1 (shut_bool Try.underlying4 _), (trodAll_cons_mk (shut_int Try.underlying5 w0) (trodAll_cons_mk (shut_int Try.underlying5 w1) (trodAll_cons_mk (shut_string Try.underlying9 w2) (trodAll_cons_mk (shut_int Try.underlying31 w3) (trodAll_cons_mk (shut_int Try.underlying32 w4) trodAll_mk0))))), rfl, bel.frame _, fun h => by cases h⟩

theorem over : Rows.pageBurstsRow.holds Try.pinned (OpenSpec.ofChange Rows.pageBurstsSpec) :=
  OpenClaim.holds_of_wide 4 Try.f4 rfl rfl rfl rfl rfl rfl rfl ⟨rfl, rfl, rfl, rfl, rfl⟩ rfl rfl rfl rfl rfl (by kernel_rfl) Try.func4 (by kernel_rfl)
    (of_decide_eq_true (by kernel_rfl)) (by unfold Func.isWrapper; first | (rw [if_pos (by decide +kernel)]; kernel_rfl) | (rw [if_neg (by decide +kernel)]; exact ⟨rfl, rfl⟩))
    (fun os started H enc _ => lifted os started H enc)

/-- THE STATEMENT -/
theorem proved : Rows.PageBurstsSaid := over
#print axioms proved
end Go.Proofs.Ytjaehhjehedjoaa.pageBursts
