
/- The contract of the twelfth reference's Pack. Condition: slots that stand in memory. -/
import Derived.Test.YteepggjbgdjchaaDoorSlrA
namespace Go.Proofs.YteepggjbgdjchaaDoor
open Go.ChangeShapes Go.WideShapes Go.ChangeAt Go.RowKit
set_option linter.unusedVariables false
set_option linter.unusedSimpArgs false

/-- a room's text, of which the first k numbers are laid, and of which the first k records are laid -/
def sN (T : List Sl) (k : Nat) : ByteArray := ⟨(putL T.length 2 ++ nums (T.take k)).toArray⟩
def sR (T : List Sl) (k : Nat) : ByteArray := ⟨(putL T.length 2 ++ nums T ++ recs (T.take k)).toArray⟩
theorem ba_app (a b : List UInt8) : (⟨(a ++ b).toArray⟩ : ByteArray) = ⟨a.toArray⟩ ++ ⟨b.toArray⟩ := by
  apply ByteArray.ext
  apply Array.toList_inj.1
  rw [ByteArray.data_append]
  simp
theorem sN_up (T : List Sl) (k : Nat) (hk : k < T.length) : sN T (k + 1) = sN T k ++ ⟨(putL (told (T[k]'hk)) 2).toArray⟩ := by
  unfold sN
  rw [nums_up T k hk, ← List.append_assoc, ba_app]
theorem sR_up (T : List Sl) (k : Nat) (hk : k < T.length) : sR T (k + 1) = sR T k ++ (T[k]'hk).2 := by
  unfold sR
  rw [recs_up' T k hk, ← List.append_assoc, ba_app]
theorem sN_zero (T : List Sl) : sN T 0 = ⟨(putL T.length 2).toArray⟩ := by unfold sN; simp [nums]
theorem sN_all (T : List Sl) : sN T T.length = sR T 0 := by unfold sN sR; simp [recs]
theorem sN_size (T : List Sl) (k : Nat) (hk : k ≤ T.length) : (sN T k).size = 2 + 2 * k := by
  show (putL T.length 2 ++ nums (T.take k)).toArray.size = _
  simp [nums_len, putL_two]
  omega
theorem sR_size (T : List Sl) (k : Nat) : (sR T k).size = 2 + 2 * T.length + rl T k := by
  show (putL T.length 2 ++ nums T ++ recs (T.take k)).toArray.size = _
  simp [nums_len, putL_two, rl] <;> omega
theorem sR_end (T : List Sl) : sR T T.length ++ zB (496 - sz T) = rmB T := by
  rw [← join_text T]
  unfold sR
  rw [List.take_length, ba_app]
set_option maxRecDepth 10000 in
set_option maxHeartbeats 2000000 in
theorem rpack_any (v : Value) (L : List Sl) (w : World) (h : SlIn w v L) : Calls Tryd.prog 18 #[v] w fun e w' => e = .returned (.tuple #[.string (pk L).1, .int .i64 ((pk L).2 : Nat)]) ∧ Below w.heap.size w w' := by
  have HT := Lib.hid (fun W (hb : Below w.heap.size w W) => rtrim_any v L W (h.below hb))
  obtain ⟨a, cap, rfl, hc1, hc2, -, hcl⟩ := h.open_
  have hmax : L.length ≤ 9223372036854775807 := by unfold maxLen at hc2; omega
  obtain ⟨X, hX⟩ : ∃ X, X = pk L := ⟨_, rfl⟩
  have HX : Hid (X = if L.all okS = false then (⟨#[]⟩, 2) else if 496 < sz (tr L) then (⟨#[]⟩, 8) else (rmB (tr L), 0)) := Lib.hid hX
  rw [← hX]
  obtain ⟨n, hn⟩ : ∃ n, n = L.length := ⟨_, rfl⟩
  rw [← hn] at hc1 hmax HT ⊢
  have hn' := Lib.hid hn
  have HB0 := Lib.hid (Below.refl w.heap.size w)
  clear hX hn h
  go_enter Tryd.func18, Tryd.ntmps18
  go_wp2
  go_loopw [4] (fun i wr => ∃ k : Nat, k ≤ n ∧ i = .int .i64 (k : Int) ∧ Hid (∀ j (hj : j < L.length), j < k → okS (L[j]'hj) = true) ∧ Hid (Below w.heap.size w wr)) (fun i wr => n - (intOf i).toNat)
  case atStart => exact ⟨0, by omega, rfl, Lib.hid (fun j _ hj => by omega), HB0⟩
  case round =>
    clear HB0
    obtain ⟨k, hk, rfl, hA, hB⟩ := hrel
    by_cases hlt : k < n
    · have hkl : k < L.length := by have := hn'.out; omega
      obtain ⟨b, o, rfl, hb, c1, c2, c3⟩ := hcl k hkl
      have KOK : Hid (okS (L[k]'hkl) = true → ∀ j (hj : j < L.length), j < k + 1 → okS (L[j]'hj) = true) := Lib.hid fun h j hj hj2 => by
        by_cases e : j = k
        · subst e; exact h
        · exact hA.out j hj (by omega)
      have KNO : Hid (okS (L[k]'hkl) = false → X = (⟨#[]⟩, 2)) := Lib.hid fun h => by
        rw [HX.out, if_pos]
        rw [Bool.eq_false_iff]
        intro ha
        have := List.all_eq_true.1 ha _ (List.getElem_mem hkl)
        rw [h] at this
        cases this
      obtain ⟨x, hx⟩ : ∃ x, x = L[k]'hkl := ⟨_, rfl⟩
      rw [← hx] at c1 c2 c3 KOK KNO
      clear hx
      obtain ⟨u, r⟩ := x
      simp only at c1 c2 c3
      replace c1 := keep hB.out c1
      replace c2 := keep hB.out c2
      unfold maxLen at c3
      cases u with
      | true =>
        have K2 := Lib.hid (KOK.out rfl)
        clear KOK KNO
        go_wp2
        go_roundw
        case rel => exact ⟨k + 1, by omega, by go_num, K2, hB⟩
        case measure => simp [intOf]; omega
      | false =>
        by_cases hz : r.size = 0
        · have K2 := Lib.hid (KOK.out (by unfold okS; simp [hz]))
          obtain rfl := emp_eq hz
          clear KOK KNO hz
          go_wp2
          go_roundw
          case rel => exact ⟨k + 1, by omega, by go_num, K2, hB⟩
          case measure => simp [intOf]; omega
        · have K2 := Lib.hid (KNO.out (by unfold okS; simp [hz]))
          have q1 := emp_no hz
          have q2 := str_ne (a := r) (b := ⟨#[]⟩) (fun e => hz (by rw [e]; rfl))
          clear KOK KNO hz
          go_wp2
          go_ret2
          exact ⟨by rw [K2.out]; rfl, hB.out⟩
    · obtain rfl : k = n := by omega
      have HX2 : Hid (X = if 496 < sz (tr L) then (⟨#[]⟩, 8) else (rmB (tr L), 0)) := Lib.hid (by
        have : L.all okS = true := by
          rw [List.all_eq_true]
          intro x hx
          obtain ⟨j, hj, rfl⟩ := List.mem_iff_getElem.1 hx
          exact hA.out j hj (by have := hn'.out; omega)
        rw [HX.out, if_neg (by rw [this]; simp)])
      clear HX hA hcl hlt
      obtain ⟨T, hT⟩ : ∃ T, T = tr L := ⟨_, rfl⟩
      rw [← hT] at HX2 HT
      clear hT
      go_upto_region 7 with (go_at_call 31; refine (HT.out _ hB.out).mono ?_; rintro e w2 ⟨a2, cap2, hv2, rfl, hI2, hb2⟩; have B2 := Lib.hid (then_ hB.out hb2 hB.out.size); have I2 := Lib.hid hI2; clear hb2 hv2 hI2)
      obtain ⟨a3, cap3, hv3, hd1, hd2, -, hcl⟩ := I2.out.open_
      injection hv3 with hv3 hv4 hv5
      subst hv3 hv5
      clear hv4
      have hzz : sz T = 2 + 2 * T.length + (recs T).length := rfl
      have SNU := Lib.hid (fun k hk => sN_up T k hk)
      have SRU := Lib.hid (fun k hk => sR_up T k hk)
      have SNZ := Lib.hid (sN_zero T)
      have SNA := Lib.hid (sN_all T)
      have SNS := Lib.hid (fun k hk => sN_size T k hk)
      have SRS := Lib.hid (fun k => sR_size T k)
      have SRE := Lib.hid (sR_end T)
      have RU := Lib.hid (fun k hk => rl_up T k hk)
      have RL := Lib.hid (fun k => rl_le T k)
      have RA := Lib.hid (rl_all T)
      obtain ⟨t, ht⟩ : ∃ t, t = T.length := ⟨_, rfl⟩
      have ht' := Lib.hid ht
      rw [← ht] at hzz SNA hd1 SRS SRE RA SNZ SNS ⊢
      have htm : t ≤ 9223372036854775807 := by unfold maxLen at hd2; omega
      obtain ⟨Z, hZ⟩ : ∃ Z, Z = sz T := ⟨_, rfl⟩
      rw [← hZ] at hzz HX2 SRE
      have hzz' := Lib.hid hzz
      clear ht hZ hzz hB HT
      go_wp2
      go_loopw [5, 6] (fun s i wr => ∃ k : Nat, k ≤ t ∧ i = .int .i64 (k : Int) ∧ s = .int .i64 ((2 + 2 * k + rl T k : Nat) : Int) ∧ 2 + 2 * k + rl T k ≤ 1000 ∧ Hid (Below w2.heap.size w2 wr)) (fun s i wr => t - (intOf i).toNat)
      case atStart => exact ⟨0, by omega, rfl, by rw [rl_zero]; rfl, by rw [rl_zero]; omega, Lib.hid (Below.refl _ _)⟩
      case round =>
        obtain ⟨k2, hk2, rfl, rfl, hsm, hB2⟩ := hrel
        have rle := RL.out k2
        obtain ⟨N, hN⟩ : ∃ N, N = 2 + 2 * k2 + rl T k2 := ⟨_, rfl⟩
        rw [← hN] at hsm ⊢
        have hN' := Lib.hid hN
        by_cases hlt2 : k2 < t
        · have hkl : k2 < T.length := by have := ht'.out; omega
          obtain ⟨b, o, rfl, hb, c1, c2, c3⟩ := hcl k2 hkl
          have ru := RU.out k2 hkl
          have rle2 := RL.out (k2 + 1)
          obtain ⟨x, hx⟩ : ∃ x, x = T[k2]'hkl := ⟨_, rfl⟩
          rw [← hx] at c1 c2 c3 ru
          clear hx
          obtain ⟨u, r⟩ := x
          simp only at c1 c2 c3 ru
          replace c2 := keep hB2.out c2
          unfold maxLen at c3
          have ru' := Lib.hid ru
          by_cases h5 : 496 < N
          · have K2 : Hid (X = (⟨#[]⟩, 8)) := Lib.hid (by rw [HX2.out, if_pos (by rw [hzz'.out]; omega)])
            have q1 : (496 : Int) < (N : Int) := by omega
            clear ru rle rle2 hN h5 c1
            go_wp2
            go_ret2
            exact ⟨by rw [K2.out]; rfl, then_ B2.out hB2.out B2.out.size⟩
          · have q1 : ¬ (496 : Int) < (N : Int) := by omega
            by_cases h6 : 496 < r.size
            · have K2 : Hid (X = (⟨#[]⟩, 8)) := Lib.hid (by rw [HX2.out, if_pos (by rw [hzz'.out]; omega)])
              have q2 : (496 : Int) < (r.size : Int) := by omega
              clear ru rle rle2 hN h5 h6 c1
              go_wp2
              go_ret2
              exact ⟨by rw [K2.out]; rfl, then_ B2.out hB2.out B2.out.size⟩
            · have q2 : ¬ (496 : Int) < (r.size : Int) := by omega
              clear ru rle rle2 hN h5 c1
              go_wp2
              go_roundw
              case rel => exact ⟨k2 + 1, by omega, by go_num, by rw [show 2 + 2 * (k2 + 1) + rl T (k2 + 1) = N + 2 + r.size by have := hN'.out; have := ru'.out; omega]; go_num, by have := hN'.out; have := ru'.out; omega, hB2⟩
              case measure => simp [intOf]; omega
        · obtain rfl : k2 = t := by omega
          have hNZ : N = Z := by have := hzz'.out; have := RA.out; omega
          subst hNZ
          clear hN rle hN'
          by_cases h5 : 496 < N
          · have K2 : Hid (X = (⟨#[]⟩, 8)) := Lib.hid (by rw [HX2.out, if_pos h5])
            have q1 : (496 : Int) < (N : Int) := by omega
            clear h5
            go_wp2
            go_ret2
            exact ⟨by rw [K2.out]; rfl, then_ B2.out hB2.out B2.out.size⟩
          · have K2 : Hid (X = (rmB T, 0)) := Lib.hid (by rw [HX2.out, if_neg h5])
            have q1 : ¬ (496 : Int) < (N : Int) := by omega
            have hk247 : k2 ≤ 247 := by have := hzz'.out; omega
            have hrt : (recs T).length ≤ 496 := by have := hzz'.out; omega
            have HP := Lib.hid (fun (m : Nat) (hm : m ≤ 100000) W => rput_any m 2 W (by omega) (by omega))
            have HP0 := Lib.hid (fun W => HP.out k2 (by omega) W)
            rw [← SNZ.out] at HP0
            have w1 : IntKind.u64.wrap (k2 : Int) = k2 := by rw [IntKind.wrap_u64]; omega
            obtain ⟨SN, hSN⟩ : ∃ SN, SN = sN T := ⟨_, rfl⟩
            obtain ⟨SR, hSR⟩ : ∃ SR, SR = sR T := ⟨_, rfl⟩
            rw [← hSN] at HP0 SNU SNZ SNA SNS
            rw [← hSR] at SNA SRU SRS SRE
            clear h5 HX2 hSN hSR
            go_upto_region 18 with (go_at_call 32; refine (HP0.out _).mono ?_; rintro e w4 ⟨rfl, hb4⟩; have B4 := Lib.hid (then_ hB2.out hb4 hB2.out.size); clear hb4)
            clear HP0 w1
            go_loopw [7, 8] (fun s i wr => ∃ k : Nat, k ≤ k2 ∧ i = .int .i64 (k : Int) ∧ s = .string (SN k) ∧ Hid (Below w2.heap.size w2 wr)) (fun s i wr => k2 - (intOf i).toNat)
            case atStart => exact ⟨0, by omega, rfl, rfl, B4⟩
            case round =>
              clear B4 hB2
              obtain ⟨j, hj, rfl, rfl, hB2⟩ := hrel
              have sns := SNS.out j hj
              by_cases hlt3 : j < k2
              · have hkl : j < T.length := by have := ht'.out; omega
                obtain ⟨b, o, rfl, hb, c1, c2, c3⟩ := hcl j hkl
                have snu := SNU.out j hkl
                have ru := RU.out j hkl
                have rle2 := RL.out (j + 1)
                obtain ⟨x, hx⟩ : ∃ x, x = T[j]'hkl := ⟨_, rfl⟩
                rw [← hx] at c1 c2 c3 snu ru
                obtain ⟨u, r⟩ := x
                simp only at c1 c2 c3 ru
                replace c1 := keep hB2.out c1
                replace c2 := keep hB2.out c2
                have rz : r.size ≤ 496 := by omega
                obtain ⟨d, hd⟩ : ∃ d, d = told (u, r) := ⟨_, rfl⟩
                rw [← hd] at snu
                have hdu : d = if u then r.size + 1 else 0 := hd
                have hdl : d ≤ 497 := by rw [hdu]; split <;> omega
                have HPd := Lib.hid (fun W => HP.out d (by omega) W)
                have psz : (⟨(putL d 2).toArray⟩ : ByteArray).size = 2 := rfl
                obtain ⟨PT, hPT⟩ : ∃ PT : ByteArray, PT = ⟨(putL d 2).toArray⟩ := ⟨_, rfl⟩
                rw [← hPT] at HPd psz snu
                have snu' := Lib.hid snu
                obtain ⟨SJ, hSJ⟩ : ∃ SJ, SJ = SN j := ⟨_, rfl⟩
                rw [← hSJ] at snu' sns ⊢
                have z1 : ¬ 9223372036854775807 < SJ.size + PT.size := by omega
                have w2' : IntKind.u64.wrap (d : Int) = d := by rw [IntKind.wrap_u64]; omega
                clear hx hd hPT snu ru rle2 hSJ c3
                cases u with
                | true =>
                  rw [if_pos rfl] at hdu
                  have w3 : IntKind.u64.wrap ((r.size : Int) + 1) = d := by rw [IntKind.wrap_u64]; omega
                  clear hdu
                  go_wp2_with (go_at_call 32; refine (HPd.out _).mono ?_; rintro e w5 ⟨rfl, hb5⟩; have B5 := Lib.hid (then_ hB2.out hb5 hB2.out.size); clear hb5)
                  go_roundw
                  case rel => exact ⟨j + 1, by omega, by go_num, by rw [snu'.out], B5⟩
                  case measure => simp [intOf]; omega
                | false =>
                  obtain rfl : d = 0 := by simpa using hdu
                  clear hdu
                  go_wp2_with (go_at_call 32; refine (HPd.out _).mono ?_; rintro e w5 ⟨rfl, hb5⟩; have B5 := Lib.hid (then_ hB2.out hb5 hB2.out.size); clear hb5)
                  go_roundw
                  case rel => exact ⟨j + 1, by omega, by go_num, by rw [snu'.out], B5⟩
                  case measure => simp [intOf]; omega
              · obtain rfl : j = k2 := by omega
                clear hlt3 sns SNU SNZ SNS HP
                rw [SNA.out]
                go_wp2
                go_loopw [7, 10] (fun s i wr => ∃ k : Nat, k ≤ j ∧ i = .int .i64 (k : Int) ∧ s = .string (SR k) ∧ Hid (Below w2.heap.size w2 wr)) (fun s i wr => j - (intOf i).toNat)
                case atStart => exact ⟨0, by omega, rfl, rfl, hB2⟩
                case round =>
                  clear hB2
                  obtain ⟨q, hq, rfl, rfl, hB2⟩ := hrel
                  have srs := SRS.out q
                  have rle := RL.out q
                  have srz : (SR q).size ≤ 1000 := by omega
                  clear srs rle
                  by_cases hlt4 : q < j
                  · have hkl : q < T.length := by have := ht'.out; omega
                    obtain ⟨b, o, rfl, hb, c1, c2, c3⟩ := hcl q hkl
                    have sru := SRU.out q hkl
                    have ru := RU.out q hkl
                    have rle2 := RL.out (q + 1)
                    obtain ⟨r, hr⟩ : ∃ r, r = (T[q]'hkl).2 := ⟨_, rfl⟩
                    rw [← hr] at c2 c3 sru ru
                    replace c2 := keep hB2.out c2
                    have rz : r.size ≤ 496 := by omega
                    have sru' := Lib.hid sru
                    obtain ⟨SJ, hSJ⟩ : ∃ SJ, SJ = SR q := ⟨_, rfl⟩
                    rw [← hSJ] at sru' srz ⊢
                    have z1 : ¬ 9223372036854775807 < SJ.size + r.size := by omega
                    clear hr sru ru rle2 hSJ c1 c3
                    go_wp2
                    go_roundw
                    case rel => exact ⟨q + 1, by omega, by go_num, by rw [sru'.out], hB2⟩
                    case measure => simp [intOf]; omega
                  · obtain rfl : q = j := by omega
                    have sre := SRE.out
                    have srs := SRS.out q
                    have hsz : (SR q).size = N := by have := hzz'.out; have := RA.out; omega
                    obtain ⟨SJ, hSJ⟩ : ∃ SJ, SJ = SR q := ⟨_, rfl⟩
                    rw [← hSJ] at sre srz hsz ⊢
                    have HMK := fun W => make_bytes (496 - N) (by omega) W
                    have HZT := fun W => zeros_text (496 - N) (496 - N) W
                    have e9 : ((496 - N : Nat) : Int) = 496 - (SJ.size : Int) := by omega
                    rw [e9] at HMK
                    have zz : (zB (496 - N)).size ≤ 496 := by rw [zB_size]; omega
                    obtain ⟨ZB, hZB⟩ : ∃ ZB, ZB = zB (496 - N) := ⟨_, rfl⟩
                    obtain ⟨M, hM⟩ : ∃ M, M = 496 - N := ⟨_, rfl⟩
                    rw [← hZB] at HZT zz sre
                    rw [← hM] at HMK HZT
                    have z1 : ¬ 9223372036854775807 < SJ.size + ZB.size := by omega
                    have B6 : ∀ W : World, Below w2.heap.size w2 W → Below w.heap.size w (W.alloc (.cells (madeCells #[.int .u8 0] M) 5)) := fun W hb => by
                      have := then_ B2.out hb B2.out.size
                      exact this.alloc this.size _
                    replace B6 := Lib.hid B6
                    have sre' := Lib.hid sre
                    clear hZB hM sre e9 hSJ SRU SRS SRE hsz srs
                    go_wp2
                    go_ret2
                    exact ⟨by rw [K2.out, ← sre'.out]; rfl, B6.out _ hB2.out⟩
end Go.Proofs.YteepggjbgdjchaaDoor
