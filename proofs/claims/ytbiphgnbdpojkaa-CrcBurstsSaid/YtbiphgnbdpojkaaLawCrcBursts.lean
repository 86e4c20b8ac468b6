/- For every string, every uint32 place and every uint32 mask: where the string has at most 20000 bytes and the mask is not 0, of crc.Seal of it, with the mask's bits turned from that place on as far as they lie in it, crc.Open answers nothing and false (and the string again where no bit was turned), and the document's examples of layer 2 hold: CrcBursts answers true.
Conditions: none; every input that can be read is spoken of. -/
import Derived.Test.YtbiphgnbdpojkaaRows
import Derived.Test.YtbiphgnbdpojkaaBase
import Derived.Test.YtbiphgnbdpojkaaCrcT
import Derived.Test.YtbiphgnbdpojkaaBytes
import Derived.WalkKit
import Derived.ProofKit
import Derived.OpenShut
import Derived.ShutString
import Derived.ChangeOld
import Derived.Below
import Derived.SliceStrings
namespace Go.Proofs.Ytbiphgnbdpojkaa.crcBursts
open Go.ChangeShapes Go.WideShapes Go.ChangeAt Go.RowKit
open Go.ChangeMaps (open_string shut_string)
set_option linter.unusedVariables false

theorem xor_byte (x j : Nat) (hx : x < 256) (hj : j < 8) : bits BinOp.xor IntKind.u8 (x : Int) (2 ^ j % 256) = ((UInt8.ofNat (x ^^^ 2 ^ j)).toNat : Int) := by
  have hp : 2 ^ j ≤ 128 := by have := Nat.pow_le_pow_right (n := 2) (by omega) (show j ≤ 7 by omega); omega
  have e : ((2 : Int) ^ j % 256) = ((2 ^ j : Nat) : Int) := by
    have h1 : ((2 : Int) ^ j) = ((2 ^ j : Nat) : Int) := by push_cast; rfl
    rw [h1]
    generalize 2 ^ j = p at *
    omega
  rw [e]
  refine (u8_xor_nat x (2 ^ j) hx (by omega)).trans ?_
  have hlt : x ^^^ 2 ^ j < 256 := Nat.xor_lt_two_pow (n := 8) hx (by omega)
  rw [UInt8.toNat_ofNat', Nat.mod_eq_of_lt hlt]
theorem num_turn (L : List UInt8) (F k x mask N : Nat) (hlt : (F + k) / 8 < L.length) (hx : x = (L[(F + k) / 8]'hlt).toNat) (hn : num L = N ^^^ (2 ^ F * (mask % 2 ^ k))) (hb : mask / 2 ^ k % 2 = 1) :
    num (L.set ((F + k) / 8) (UInt8.ofNat (x ^^^ 2 ^ ((F + k) % 8)))) = N ^^^ (2 ^ F * (mask % 2 ^ (k + 1))) := by
  have hx8 : x < 256 := by rw [hx]; exact UInt8.toNat_lt _
  have hp : 2 ^ ((F + k) % 8) ≤ 128 := by have := Nat.pow_le_pow_right (n := 2) (by omega) (show (F + k) % 8 ≤ 7 by omega); omega
  have hlt2 : x ^^^ 2 ^ ((F + k) % 8) < 256 := Nat.xor_lt_two_pow (n := 8) hx8 (by omega)
  rw [num_set L (F + k) _ hlt (by
    rw [UInt8.toNat_ofNat', Nat.mod_eq_of_lt hlt2, hx, List.getD_eq_getElem?_getD, List.getElem?_eq_getElem hlt]; rfl), hn, Nat.xor_assoc]
  congr 1
  have h1 : mask % 2 ^ (k + 1) = mask % 2 ^ k + 2 ^ k * 1 := by
    rw [Nat.pow_succ, Nat.mod_mul, hb]
  rw [h1, add_xor _ _ _ (Nat.mod_lt _ (Nat.two_pow_pos k)), Nat.mul_one, Nat.pow_add]
  apply Nat.eq_of_testBit_eq
  intro i
  simp only [Nat.testBit_xor, Nat.testBit_two_pow_mul]
  by_cases hi : F ≤ i
  · simp only [hi, decide_true, Bool.true_and]
  · simp [hi]
theorem mod_keep (mask k : Nat) (hb : mask / 2 ^ k % 2 ≠ 1) : mask % 2 ^ (k + 1) = mask % 2 ^ k := by
  have h : mask / 2 ^ k % 2 = 0 := by omega
  rw [Nat.pow_succ, Nat.mod_mul, h]; simp
theorem mod_ne (mask k : Nat) (hb : mask / 2 ^ k % 2 = 1) : mask % 2 ^ (k + 1) ≠ 0 := by
  rw [Nat.pow_succ, Nat.mod_mul, hb]
  have := Nat.two_pow_pos k
  omega

theorem own : ownKnob Try.prog.godebug = none := by kernel_rfl
theorem laidOut : laidOutB Try.prog = true := by kernel_rfl

theorem walk (a0 : ByteArray) (a1 : Int) (a2 : Int) (w : World) (w0 : a0.size ≤ maxLen) (w1 : (Lit.int .u32 a1).wf = true) (w2 : (Lit.int .u32 a2).wf = true) :
    Calls Try.prog 3 #[.string a0, .int .u32 a1, .int .u32 a2] w fun e w' => e = .returned (.bool true) ∧ Below w.heap.size w w' := by
  unfold maxLen at w0
  have b1 := bounds_u32 w1
  have b2 := bounds_u32 w2
  obtain ⟨at_, rfl⟩ := Int.eq_ofNat_of_zero_le b1.1
  obtain ⟨mask, rfl⟩ := Int.eq_ofNat_of_zero_le b2.1
  by_cases h1 : 20000 < a0.size
  · go_enter Try.func3, Try.ntmps3
    go_wp2_with (go_at_call 8; refine (awake_any _).mono ?_; rintro e w1 ⟨rfl, hb1⟩)
    go_ret
    exact ⟨rfl, hb1⟩
  · by_cases h2 : mask = 0
    · subst h2
      go_enter Try.func3, Try.ntmps3
      go_wp2_with (go_at_call 8; refine (awake_any _).mono ?_; rintro e w1 ⟨rfl, hb1⟩)
      go_ret
      exact ⟨rfl, hb1⟩
    · have h2b : ((mask : Int) == 0) = false := by rw [beq_eq_false_iff_ne]; omega
      have hz := sealB_size a0
      have h3 : a0.size ≤ 20000 := by omega
      have HS := Lib.hid (fun w => seal_any a0 w (by omega))
      obtain ⟨n, hn⟩ : ∃ n, n = a0.size + 4 := ⟨_, rfl⟩
      rw [← hn] at hz
      have hn4 : 4 ≤ n := by omega
      have hn5 : n ≤ 20004 := by omega
      have HN := Lib.hid hn
      obtain ⟨F, hF⟩ : ∃ F : Nat, ((at_ : Int) % (8 * (n : Int))) = F := ⟨at_ % (8 * n), by push_cast; rfl⟩
      have hF8 : F < 8 * n := by have := Int.emod_lt_of_pos (at_ : Int) (show (0 : Int) < 8 * (n : Int) by omega); omega
      have hd1 : decide ((20000 : Int) < (a0.size : Int)) = false := by simp; omega
      have hd2 : decide ((n : Int) < 4) = false := by simp; omega
      obtain ⟨B, hB⟩ : ∃ B, B = sealB a0 := ⟨_, rfl⟩
      rw [← hB] at HS hz
      have HB := Lib.hid hB
      clear w0 h1 h2 hn hB
      go_enter Try.func3, Try.ntmps3
      go_wp2_with (go_at_call 9; refine (HS.out _).mono ?_; rintro e w1 ⟨rfl, hb1⟩; obtain ⟨c, wB, hcv, hbytes, hbel, hsz⟩ := to_bytes Try.prog w1 9 24 5 B Try.underlying9 Try.underlying24 Try.underlying5)
      have hnB : B.data.toList.length = n := hz
      have HNB := Lib.hid hnB
      clear hnB hcv hF hz
      go_loopw [9, 10] (fun t i wr => ∃ k : Nat, k ≤ 32 ∧ k ≤ 8 * n - F ∧ i = .int .i64 k ∧ ∃ (L : List UInt8) (o : Bool), t = .bool o ∧ L.length = n ∧ BytesAt wr w1.heap.size L ∧ num L = num B.data.toList ^^^ (2 ^ F * (mask % 2 ^ k)) ∧ (o = decide (mask % 2 ^ k ≠ 0)) ∧ Below w.heap.size w wr) (fun _ i _ => 32 - (intOf i).toNat)
      case atStart => exact ⟨0, by omega, by omega, rfl, B.data.toList, false, rfl, HNB.out, hbytes, by simp [Nat.mod_one], by simp [Nat.mod_one], hb1.trans (hbel.mono hb1.size)⟩
      case round =>
        clear hbytes hbel hsz
        obtain ⟨k, hk, hk2, rfl, L, o, rfl, hL, hby, hnum, ho, hbw⟩ := hrel
        have HL := Lib.hid hL
        have HNU := Lib.hid hnum
        have HO := Lib.hid ho
        have HBY := Lib.hid hby
        clear hL hnum ho hby
        by_cases hstay : k < 32 ∧ k < 8 * n - F
        · obtain ⟨hk32, hkF⟩ := hstay
          have hg1 : (k : Int) < 8 * (n : Int) - (F : Int) := by omega
          have hp8 : (F + k) / 8 < n := by omega
          have hlt : (F + k) / 8 < L.length := by rw [HL.out]; exact hp8
          have hcell := HBY.out.cell _ hlt
          have hfree := HBY.out.free _ hlt
          have hbyte := (L[(F + k) / 8]'hlt).toNat_lt
          obtain ⟨x, hx⟩ : ∃ x : Nat, x = (L[(F + k) / 8]'hlt).toNat := ⟨_, rfl⟩
          rw [← hx] at hcell hbyte
          have HX := Lib.hid hx
          clear hx
          obtain ⟨q, hq, hqn⟩ : ∃ q : Nat, (mask : Int) / 2 ^ k = q ∧ mask / 2 ^ k = q := ⟨mask / 2 ^ k, by push_cast; rfl, rfl⟩
          have HQ := Lib.hid hqn
          clear hqn
          by_cases hbit : q % 2 = 1
          · have HT := Lib.hid (num_turn L F k x mask _ hlt HX.out HNU.out (by rw [HQ.out]; exact hbit))
            have HM := Lib.hid (mod_ne mask k (by rw [HQ.out]; exact hbit))
            have HV := Lib.hid (xor_byte x ((F + k) % 8) hbyte (by omega))
            have hw1 := hb1.size
            go_wp2
            go_roundw
            case rel => exact ⟨k + 1, by omega, by omega, by go_num, L.set ((F + k) / 8) (UInt8.ofNat (x ^^^ 2 ^ ((F + k) % 8))), true, rfl, by rw [List.length_set, HL.out], by rw [HV.out]; exact HBY.out.store _ hlt _, HT.out, by simpa using HM.out, hbw.setCell hw1 _⟩
            case measure => simp [intOf]; omega
          · have HM := Lib.hid (mod_keep mask k (by rw [HQ.out]; exact hbit))
            go_wp2
            go_roundw
            case rel => exact ⟨k + 1, by omega, by omega, by go_num, L, o, rfl, HL.out, HBY.out, by rw [HM.out]; exact HNU.out, by rw [HM.out]; exact HO.out, hbw⟩
            case measure => simp [intOf]; omega
        · have hx32 : mask % 2 ^ k < 4294967296 := by
            have h1 := Nat.mod_lt mask (Nat.two_pow_pos k)
            have h2 : 2 ^ k ≤ 2 ^ 32 := Nat.pow_le_pow_right (by omega) hk
            omega
          have hLB : L.length = B.data.toList.length := by rw [HL.out, HNB.out]
          have hn4' : n = a0.size + 4 := HN.out
          have hLs : (⟨L.toArray⟩ : ByteArray).size = n := by show L.toArray.size = n; simp [HL.out]
          have HST := Lib.hid hstay
          have hCB : regL 4294967295 B.data.toList = stpN 32 4294967295 := by
            rw [HB.out, sealB_list]
            exact (sealed_iff _ _ (by simp [putL])).1 (num_putL4 _ (sumL_lt _))
          have hrun : ∀ cap, (convert 24 9 (.slice (some ⟨w1.heap.size, 0, none⟩) n cap)).run Try.prog wr = .ok (.string ⟨L.toArray⟩) wr := fun cap => by
            have := of_bytes Try.prog wr 24 9 5 w1.heap.size cap L HBY.out Try.underlying24 Try.underlying5 Try.underlying9
            rw [HL.out] at this
            exact this
          have hfull : ∀ s : ByteArray, isSealed s a0.size → s.size = n → regL 4294967295 s.data.toList = stpN 32 4294967295 := fun s h hs => by
            have hl : s.data.toList.length = n := hs
            have h4 := (sealed_iff (s.data.toList.take a0.size) ((s.data.toList.drop a0.size).take 4) (by rw [List.length_take, List.length_drop]; omega)).1 h
            rw [List.take_of_length_le (l := s.data.toList.drop a0.size) (by rw [List.length_drop]; omega), List.take_append_drop] at h4
            exact h4
          by_cases hz : mask % 2 ^ k = 0
          · have hLB2 : L = B.data.toList := num_inj _ _ hLB (by rw [HNU.out, hz]; simp)
            have ho : o = false := by rw [HO.out, hz]; simp
            subst ho
            have hBL : (⟨L.toArray⟩ : ByteArray) = B := by rw [hLB2]
            rw [hBL] at hrun
            have HOP := Lib.hid (show ∀ w, Calls Try.prog 10 #[.string B] w fun e w' => e = .returned (.tuple #[.string a0, .bool true]) ∧ Below w.heap.size w w' from fun w => by rw [HB.out]; exact open_seal a0 w (by omega))
            clear hz hLB2 hBL hLs hLB hCB hfull hn4'
            by_cases hk32 : k < 32
            all_goals
              have hkF : ¬ ((k : Int) < 8 * (n : Int) - (F : Int)) ∨ ¬ ((k : Int) < 32) := by have := HST.out; omega
              have HKF := Lib.hid hkF
              clear hkF hstay
              first
                | have hg1 : (8 * (n : Int) - (F : Int)) ≤ (k : Int) := by have := HKF.out; omega
                | skip
              go_wp2_with (first
                | (go_at_call 8; refine (awake_any _).mono ?_; rintro e w1 ⟨rfl, hb5⟩)
                | (go_at_call 10; refine (HOP.out _).mono ?_; rintro e w1 ⟨rfl, hb4⟩))
              go_ret
              exact ⟨rfl, hbw.trans ((hb4.mono hbw.size).trans (hb5.mono (Nat.le_trans hbw.size hb4.size)))⟩
          · have ho : o = true := by rw [HO.out]; simpa using hz
            subst ho
            have hns : ¬ isSealed ⟨L.toArray⟩ a0.size := fun h => by
              have h5 := hfull _ h hLs
              have h6 := turned B.data.toList L F (mask % 2 ^ k) hLB hx32 hz (by rw [HNB.out]; omega) HNU.out
              rw [hCB] at h6
              exact h6 (by simpa using h5)
            have HOP := Lib.hid (show ∀ w, Calls Try.prog 10 #[.string ⟨L.toArray⟩] w fun e w' => e = .returned (.tuple #[.string ⟨#[]⟩, .bool false]) ∧ Below w.heap.size w w' from fun w => open_no _ a0.size w (by rw [hLs, hn4']) (by omega) hns)
            obtain ⟨T, hT⟩ : ∃ T : ByteArray, T = ⟨L.toArray⟩ := ⟨_, rfl⟩
            rw [← hT] at HOP hrun
            clear hz hns hLs hLB hCB hfull hn4' hT
            by_cases hk32 : k < 32
            all_goals
              have hkF : ¬ ((k : Int) < 8 * (n : Int) - (F : Int)) ∨ ¬ ((k : Int) < 32) := by have := HST.out; omega
              have HKF := Lib.hid hkF
              clear hkF hstay
              first
                | have hg1 : (8 * (n : Int) - (F : Int)) ≤ (k : Int) := by have := HKF.out; omega
                | skip
              go_wp2_with (first
                | (go_at_call 8; refine (awake_any _).mono ?_; rintro e w1 ⟨rfl, hb5⟩)
                | (go_at_call 10; refine (HOP.out _).mono ?_; rintro e w1 ⟨rfl, hb4⟩))
              go_ret
              exact ⟨rfl, hbw.trans ((hb4.mono hbw.size).trans (hb5.mono (Nat.le_trans hbw.size hb4.size)))⟩

set_option maxRecDepth 100000 in
theorem lifted (os : Os) (started : os.Started) (H : Type) (enc : TypeId × Value → H) :
    ReturnsInHanded {} Try.checked os 3 .any (Rows.crcBurstsSpec.pre6 enc Try.prog Try.f3 Rows.crcBurstsRow.domain false) (Rows.crcBurstsSpec.post enc Try.prog Try.f3 false true false false) := by
  refine returnsInHanded_of_change (C := Try.checked) own started (by kernel_rfl) Try.func3
    (ChangeSpec.witness6 (enc := enc) (C := Try.checked) false ⟨#[], #[.string ByteArray.empty, .int .u32 0, .int .u32 0], []⟩ 8 (by kernel_rfl) (by kernel_rfl) (by kernel_rfl) (by kernel_rfl)) ?_
  intro W base args ds gs before hval0 hW hcnd _
  have hval : ∀ (j : Nat) t v, Try.f3.params[j]? = some t → args[j]? = some v → Value.okWide Try.prog W .any base t v := hval0
  have hW' := hW
  obtain ⟨p, q, hA0, hV, rfl, hfz, hnd⟩ := hW
  have hA : DataW.TrodAll enc Try.prog W 0 (fun _ => true) true Try.f3.params.toList args.toList ds p := hA0
  rw [Try.params3] at hA hval
  obtain ⟨v0, vs0, d0, ds0, p0, q0, hargs, rfl, rfl, h0, r0⟩ := trodAll_cons hA
  obtain ⟨v1, vs1, d1, ds1, p1, q1, rfl, rfl, rfl, h1, r1⟩ := trodAll_cons r0
  obtain ⟨v2, vs2, d2, ds2, p2, q2, rfl, rfl, rfl, h2, r2⟩ := trodAll_cons r1
  obtain ⟨rfl, rfl, rfl⟩ := trodAll_nil r2
  obtain rfl : args = #[v0, v1, v2] := by cases args; simp_all
  obtain ⟨rfl, rfl⟩ := trodVars_none hV
  obtain ⟨a0, rfl, rfl, rfl, w0⟩ := open_string Try.underlying9 (hval 0 9 v0 rfl rfl) h0
  obtain ⟨a1, rfl, rfl, rfl, w1⟩ := open_int Try.underlying22 (hval 1 22 v1 rfl rfl) h1
  obtain ⟨a2, rfl, rfl, rfl, w2⟩ := open_int Try.underlying22 (hval 2 22 v2 rfl rfl) h2
  clear hA0 hval0
  refine (walk a0 a1 a2 W w0 w1 w2).mono fun e W' ⟨he, bel⟩ => ?_
  subst he
  exact ⟨_, rfl, _, _, _, [], _, [], hW', trodAll_mk1 (shut_bool Try.underlying4 _), (trodAll_cons_mk (shut_string Try.underlying9 w0) (trodAll_cons_mk (shut_int Try.underlying22 w1) (trodAll_cons_mk (shut_int Try.underlying22 w2) trodAll_mk0))), rfl, bel.frame _, fun h => by cases h⟩

theorem over : Rows.crcBurstsRow.holds Try.pinned (OpenSpec.ofChange Rows.crcBurstsSpec) :=
  OpenClaim.holds_of_wide 3 Try.f3 rfl rfl rfl rfl rfl rfl rfl ⟨rfl, rfl, rfl, rfl, rfl⟩ rfl rfl rfl rfl rfl (by kernel_rfl) Try.func3 (by kernel_rfl)
    (of_decide_eq_true (by kernel_rfl)) (by unfold Func.isWrapper; first | (rw [if_pos (by decide +kernel)]; kernel_rfl) | (rw [if_neg (by decide +kernel)]; exact ⟨rfl, rfl⟩))
    (fun os started H enc _ => lifted os started H enc)

/-- THE STATEMENT -/
theorem proved : Rows.CrcBurstsSaid := over
#print axioms proved
end Go.Proofs.Ytbiphgnbdpojkaa.crcBursts
