/- For every list of acts: where it has at most 300 acts with strings of at most 1000 bytes each, Add, Set, Del and Get answer at every step what the document says of the document's slots, make the room that it says, and Left is just the most bytes of a record that goes in; the document's example of layer 12 holds: SlotPlays answers true.
Conditions: none; every input that can be read is spoken of. -/
import Derived.Test.YteepggjbgdjchaaDoorRows
import Derived.Test.YteepggjbgdjchaaDoorBase
import Derived.Test.YteepggjbgdjchaaDoorSloQ
import Derived.WalkKit
import Derived.ProofKit
import Derived.OpenShut
import Derived.ShutString
import Derived.ChangeOld
import Derived.Below
import Derived.SliceStrings
import Derived.Deep.DeepHandedRow
import Derived.Lib.LaidTab
import Derived.Test.YteepggjbgdjchaaDoorCards
import Derived.Test.YteepggjbgdjchaaDoorTie
import Derived.LaidMore
import Derived.Stop.Joined
import Derived.SevenTiedAt
namespace Go.Proofs.YteepggjbgdjchaaDoor.slotPlays
open Go.ChangeShapes Go.WideShapes Go.ChangeAt Go.RowKit
open Go.ChangeMaps (open_string shut_string)
set_option linter.unusedVariables false

theorem own : ownKnob Tryd.prog.godebug = none := by kernel_rfl
theorem laidOut : laidOutB Tryd.prog = true := by kernel_rfl

set_option maxRecDepth 10000 in
set_option maxHeartbeats 8000000 in
theorem walk (a0 : Option Addr) (len0 cap0 : Nat) (z0 : List ActD) (w : World) (w0 : IsActs w a0 len0 cap0 z0) :
    Calls Tryd.prog 4 #[.slice a0 len0 cap0] w fun e w' => e = .returned (.bool true) ∧ Below w.heap.size w w' := by
  have HW := Lib.hid (fun W => aw12_any W)
  have HF0 := Lib.hid (fun W (hb : Below w.heap.size w W) => few_any a0 len0 cap0 z0 W (w0.keep hb))
  have FI0 := Lib.hid (fun h => fewB_iff (l := z0) h)
  obtain ⟨F0, hF0⟩ : ∃ F, F = fewB z0 := ⟨_, rfl⟩
  rw [← hF0] at HF0 FI0
  have AT0 := Lib.hid (fun i hi => w0.at_ i hi)
  have hl0 := Lib.hid w0.2.2.1
  clear hF0 w0
  cases F0 with
  | false =>
    go_enter Tryd.func4, Tryd.ntmps4
    go_upto_region 2 with (first
      | (go_at_call 9; refine (HW.out _).mono ?_; rintro e v1 ⟨rfl, hb1⟩; have B1 := Lib.hid hb1; clear hb1)
      | (go_at_call 10; with_reducible refine (HF0.out _ B1.out).mono ?_; rintro e v2 ⟨rfl, hb2⟩; have B2 := Lib.hid (then_ B1.out hb2 B1.out.size); clear hb2))
    go_wp2_with (go_at_call 9; refine (HW.out _).mono ?_; rintro e v3 ⟨rfl, hb3⟩; have B3 := Lib.hid (then_ B2.out hb3 B2.out.size); clear hb3)
    go_ret
    exact ⟨rfl, B3.out⟩
  | true =>
  have fi0 := FI0.out rfl
  have hn0 : len0 ≤ 300 := by have := fi0.1; have := hl0.out; omega
  replace fi0 := Lib.hid fi0.2
  have HE := Lib.hid (fun W => empty_slot W)
  have RM0 : Hid (∀ W, ∃ L, rmB [] = rmB L ∧ Fit L ∧ RT_ W 0 (.slice none 0 0) L) := Lib.hid fun W => ⟨[], rfl, room0, TRow.nil _ _ _⟩
  obtain ⟨R0, hR0⟩ : ∃ R, R = rmB [] := ⟨_, rfl⟩
  rw [← hR0] at HE RM0
  clear hR0 FI0
  go_enter Tryd.func4, Tryd.ntmps4
  go_upto_region 6 with (first
    | (go_at_call 9; refine (HW.out _).mono ?_; rintro e v1 ⟨rfl, hb1⟩; have B1 := Lib.hid hb1; clear hb1)
    | (go_at_call 10; with_reducible refine (HF0.out _ B1.out).mono ?_; rintro e v2 ⟨rfl, hb2⟩; have B2 := Lib.hid (then_ B1.out hb2 B1.out.size); clear hb2)
    | (go_at_call 11; refine (HE.out _).mono ?_; rintro e v4 ⟨rfl, hb4⟩; have B4 := Lib.hid (then_ B2.out hb4 B2.out.size); clear hb4))
  clear B1 B2 HW HF0 HE
  go_loopw [3, 4, 5] (fun r m i wr => ∃ (k : Nat) (R : ByteArray), k ≤ len0 ∧ i = .int .i64 (k : Int) ∧ r = .string R ∧ Hid (∃ L, R = rmB L ∧ Fit L ∧ RT_ wr 0 m L) ∧ Hid (Below w.heap.size w wr)) (fun r m i wr => len0 - (intOf i).toNat)
  case atStart => exact ⟨0, R0, by omega, rfl, rfl, Lib.hid (RM0.out _), B4⟩
  case round =>
    clear B4 RM0
    obtain ⟨k, R, hk, rfl, rfl, hR, hB⟩ := hrel
    by_cases hlt : k < len0
    · have hkl : k < z0.length := by have := hl0.out; omega
      obtain ⟨b, o, rfl, hbb, c1, c2, c3, ok⟩ := AT0.out k hkl
      replace c1 := keep hB.out c1
      replace c2 := keep hB.out c2
      replace c3 := keep hB.out c3
      have xs := fi0.out _ (List.getElem_mem hkl)
      obtain ⟨x, hx⟩ : ∃ x, x = z0[k]'hkl := ⟨_, rfl⟩
      rw [← hx] at c1 c2 c3 ok xs
      have hact := wf_u8 ok.act
      have hno := wf_i64 ok.no
      obtain ⟨act, no, s⟩ := x
      simp only at c1 c2 c3 xs hact hno
      clear hx ok
      obtain ⟨L, hRL, hL, hM⟩ := hR.out
      obtain ⟨hLn, hLz⟩ := fit_len hL
      obtain ⟨ma, mc, rfl, -, -⟩ := hM.shape
      have zR : R.size = 496 := by rw [hRL]; exact rmB_size L hL.sz
      clear hR
      go_upto_region 9 with fail
      go_name_world W1 hW1
      have XO : Own W1 wr.heap.size 28 #[.int .u8 act, .int .i64 no, .string s] := hW1 ▸ Own.made _ _ _
      have B1 : Below w.heap.size w W1 := hW1 ▸ hB.out.alloc hB.out.size _
      have M1 : RT_ W1 0 (.slice ma L.length mc) L := hM.below (hW1 ▸ (Below.refl _ _).alloc (Nat.le_refl _) _)
      have z1 : W1.heap.size = wr.heap.size + 1 := by rw [← hW1]; simp
      obtain ⟨bx, hbx⟩ : ∃ bx, bx = wr.heap.size := ⟨_, rfl⟩
      rw [← hbx] at XO z1 ⊢
      have XA : Hid (∀ W, Below W1.heap.size W1 W → W.cell? ⟨bx, 0, none⟩ = some (.int .u8 act) ∧ W.cell? ⟨bx, 1, none⟩ = some (.int .i64 no) ∧ W.cell? ⟨bx, 2, none⟩ = some (.string s)) := Lib.hid fun W h => by
        have h1 := (XO.keep h).at_.1
        exact ⟨h1 0, h1 1, h1 2⟩
      have MM : Hid (∀ W, Below W1.heap.size W1 W → RT_ W 0 (.slice ma L.length mc) L) := Lib.hid fun W h => M1.below h
      replace B1 := Lib.hid B1
      replace hRL := Lib.hid hRL
      clear hW1 hbx XO M1 hM hB c1 c2 c3 z1
      have ME := Lib.hid (MM.out _ ((Below.refl W1.heap.size W1).alloc (Nat.le_refl _) (.cells #[] 38)))
      go_upto_region 10 with (at_builtin; go_loud (refine wpList_app_slots rfl _ _ rfl W1.heap.size _ _ [] L rfl rfl (by simp) (RT_.void W1 (Nat.le_refl _)) ME.out (by simp; omega) ?_); intro n9 w9 h9 hg9)
      rw [List.nil_append] at h9
      have C9 := Lib.hid (((Below.refl W1.heap.size W1).alloc (Nat.le_refl _) (.cells #[] 38)).grown hg9 (by simp) (fun g hg => by have hg2 : some W1.heap.size = some g := hg; injection hg2 with e; omega))
      clear hg9 ME
      obtain ⟨na, nc, rfl, -, -⟩ := h9.shape
      have N9 := Lib.hid h9
      clear h9
      obtain ⟨x1, x2, x3⟩ := XA.out w9 C9.out
      obtain ⟨HT, hHT⟩ : ∃ HT, HT = hd L no := ⟨_, rfl⟩
      have HTE := Lib.hid hHT
      obtain ⟨n, hn⟩ : ∃ n, n = L.length := ⟨_, rfl⟩
      rw [← hn] at MM N9 hLn ⊢
      have hn' := Lib.hid hn
      clear hHT hn
      go_cut [8] (fun v wx => v = .bool HT ∧ wx = w9)
      case first =>
        by_cases hneg : no < 0
        · have e0 : HT = false := by rw [HTE.out]; exact hd_no (fun j hj e => by omega)
          subst e0
          have q1 : ¬ (0 ≤ no) := by omega
          go_wp2_with fail
          go_meet
          exact ⟨rfl, rfl⟩
        · by_cases hbig : (n : Int) ≤ no
          · have e0 : HT = false := by rw [HTE.out]; exact hd_no (fun j hj e => by have := hn'.out; omega)
            subst e0
            have q1 : 0 ≤ no := by omega
            have q2 : ¬ (no < (n : Int)) := by omega
            go_wp2_with fail
            go_meet
            exact ⟨rfl, rfl⟩
          · obtain ⟨j, rfl⟩ : ∃ j : Nat, no = (j : Int) := ⟨no.toNat, by omega⟩
            have hjn : j < n := by omega
            have hjL : j < L.length := by have := hn'.out; omega
            have hjn' : (j : Int) < (n : Int) := by omega
            have MC := MM.out w9 C9.out
            obtain ⟨gm, rfl⟩ : ∃ g, ma = some ⟨g, 0, none⟩ := by rcases MC.2 with ⟨e, e2⟩ | ⟨g, cap, cur, e, _⟩; (exfalso; omega); (injection e with e1 _ _; exact ⟨g, e1⟩)
            obtain ⟨d1, -, d3, -, -⟩ := MC.cell hn'.out j hjL
            have okj := hL.ok _ (List.getElem_mem hjL)
            have HTV : HT = (L[j]'hjL).1 := by
              rw [HTE.out]
              cases hu : (L[j]'hjL).1 with
              | true => exact hd_yes hjL (isE_used' hu)
              | false => exact hd_no (fun i hi e => by obtain rfl : j = i := by omega
                                                       exact isE_not okj hu)
            rw [← HTV] at d1
            have hHV := Lib.hid HTV
            clear HTV MC okj
            cases HT with
            | true =>
              go_wp2_with fail
              go_meet
              exact ⟨rfl, rfl⟩
            | false =>
              go_wp2_with fail
              go_meet
              exact ⟨rfl, rfl⟩
      case rest =>
        obtain ⟨rfl, hw⟩ := hcut
        replace hw := hw.symm
        subst hw
        have HPK := Lib.hid (fun (V : List Sl) (hV : ∀ x ∈ V, x.2.size ≤ 1000) W B v h => play_pack (c := 0) hV W B v h)
        have L1000 : ∀ x ∈ L, x.2.size ≤ 1000 := fun x hx => by have := hLz x hx; omega
        have HLL := Lib.hid (fun W v h => play_left hL W v h)
        rw [← hRL.out] at HLL
        have KEEP : Hid (∀ W, Below W1.heap.size W1 W → ∃ L', R = rmB L' ∧ Fit L' ∧ RT_ W 0 (.slice ma n mc) L') := Lib.hid fun W h => ⟨L, hRL.out, hL, MM.out W h⟩
        rcases (show act % 4 = 0 ∨ act % 4 = 1 ∨ act % 4 = 2 ∨ act % 4 = 3 by omega) with hm | hm | hm | hm
        · as_aux_lemma =>
          have ok0 := hL.ok
          have vkc := vk_cases L
          have VKO := Lib.hid (fun (q : Nat) hk h1 h2 => vk_of (L := L) (k := q) hk h1 h2)
          have HOK := Lib.hid hL.ok
          have HPR0 := Lib.hid (fun W => add_slot R s W (by omega) (by omega))
          have HAD := Lib.hid (ad_two_ways hL s)
          rw [← hRL.out] at HAD
          have AD1000 : ∀ x ∈ adL L s, x.2.size ≤ 1000 := set_size (fun y hy => by have := vl_size L 496 hLz y hy; omega) xs
          have HADL : Hid (∀ W B v, RT_ W B v (adL L s) → Calls Tryd.prog 18 #[v] W fun e w' => e = .returned (.tuple #[.string (pk (adL L s)).1, .int .i64 ((pk (adL L s)).2 : Nat)]) ∧ Below W.heap.size W w') := Lib.hid fun W B v h => HPK.out _ AD1000 W B v h
          have VKC := Lib.hid vkc
          clear ok0 vkc L1000 HPK
          go_upto_region 16 with fail
          have CI := Lib.hid (Below.refl w9.heap.size w9)
          go_loopw [13] (fun q wr => ∃ j : Nat, j ≤ n ∧ q = .int .i64 (j : Int) ∧ Hid (∀ i (hi : i < L.length), i < j → isE (L[i]'hi) = false) ∧ Hid (Below w9.heap.size w9 wr)) (fun q wr => n - (intOf q).toNat)
          case atStart => exact ⟨0, by omega, rfl, Lib.hid (fun i _ hi => by omega), CI⟩
          case round =>
            clear CI
            obtain ⟨j, hj, rfl, hA, hBI⟩ := hrel
            have CI := Lib.hid (then_ C9.out hBI.out C9.out.size)
            have NI := Lib.hid (TRow.below N9.out hBI.out)
            obtain ⟨x1, x2, x3⟩ := XA.out _ CI.out
            by_cases hltj : j < n
            · have hjL : j < L.length := by have := hn'.out; omega
              have okx := HOK.out _ (List.getElem_mem hjL)
              obtain ⟨gn, rfl⟩ : ∃ g, na = some ⟨g, 0, none⟩ := by rcases NI.out.2 with ⟨e, e2⟩ | ⟨g, cap, cur, e, _⟩; (exfalso; omega); (injection e with e1 _ _; exact ⟨g, e1⟩)
              obtain ⟨d1, d2, d3, d4, d5⟩ := RT_.cell NI.out hn'.out j hjL
              cases hu : (L[j]'hjL).1 with
              | true =>
                rw [hu] at d1
                have hu' := Lib.hid hu
                clear okx d2 hu
                go_wp2_with fail
                go_roundw
                case rel => exact ⟨j + 1, by omega, by go_num, Lib.hid (fun i hi hi2 => by
                  by_cases e : i = j
                  · subst e; exact isE_used' hu'.out
                  · exact hA.out i hi (by omega)), hBI⟩
                case measure => simp [intOf]; omega
              | false =>
                rw [hu] at d1
                have hie := isE_not okx hu
                have hvk : Hid (vk L = j) := Lib.hid (VKO.out j (by have := hn'.out; omega) hA.out (fun h => hie))
                have VE : Hid (L.set j (true, s) = adL L s) := Lib.hid (by
                  unfold adL
                  rcases VKC.out with ⟨e1, _, _⟩ | ⟨_, e2, _⟩
                  · have := hvk.out; omega
                  · rw [e2, hvk.out])
                have qk : ¬ ((j : Int) = (n : Int)) := by omega
                clear okx hu hie
                as_aux_lemma =>
                  go_upto_region 21 with fail
                  go_name_world W20 hW20
                  have hT := RT_.put NI.out hn'.out j (by first | exact hjL | exact hjV) true s
                  have hC := (CI.out.setCell (p := ⟨gn, j * 2, none⟩) d4 (.bool true)).setCell (p := ⟨gn, j * 2 + 1, none⟩) d4 (.string s)
                  rw [hW20] at hT hC
                  rw [VE.out] at hT
                  have T20 := Lib.hid hT
                  have C20 := Lib.hid hC
                  clear hW20 hT hC d1 d2 d3 d5
                  obtain ⟨x1, x2, x3⟩ := XA.out _ C20.out
                  rcases HAD.out with ⟨hFU, hp, ha⟩ | ⟨hp, ha⟩
                  · have HPR := HPR0
                    rw [ha, hvk.out] at HPR
                    have HPV := HADL
                    rw [hp] at HPV
                    simp only at HPR HPV
                    clear hp ha HADL HPR0 HAD
                    have HRD := Lib.hid (fun W => play_read hFU W)
                    have HLG := Lib.hid (fun W v h => play_left hFU W v h)
                    have HFIN : Hid (∀ W v, RT_ W 0 v (adL L s) → ∃ L', rmB (adL L s) = rmB L' ∧ Fit L' ∧ RT_ W 0 v L') := Lib.hid fun W v h => ⟨_, rfl, hFU, h⟩
                    obtain ⟨P, hP⟩ : ∃ P, P = rmB (adL L s) := ⟨_, rfl⟩
                    rw [← hP] at HPV HRD HLG HFIN HPR
                    clear hP
                    go_upto_region 34 with (go_at_call 13; refine (HPR.out _).mono ?_; rintro e w12 ⟨rfl, hb12⟩; have C12 := Lib.hid (then_ C20.out hb12 C20.out.size); have T12 := Lib.hid (TRow.below T20.out hb12); clear hb12)
                    go_wp2_with (first
                      | (go_at_call 18; refine (HPV.out _ _ _ T12.out).mono ?_; rintro e w13 ⟨rfl, hb13⟩; have C13 := Lib.hid (then_ C12.out hb13 C12.out.size); have RR := XA.out w13 C13.out; obtain ⟨x1, x2, x3⟩ := RR; clear hb13)
                      | (go_at_call 19; refine (HRD.out _).mono ?_; rintro e w14 ⟨mv, rfl, hM14, hb14⟩; have C14 := Lib.hid (then_ C13.out hb14 C13.out.size); have M14 := Lib.hid hM14; clear hb14 hM14)
                      | (go_at_call 20; refine (HLG.out _ _ M14.out).mono ?_; rintro e w15 ⟨rfl, hb15⟩; have C15 := Lib.hid (then_ C14.out hb15 C14.out.size); have M15 := Lib.hid (TRow.below M14.out hb15); clear hb15))
                    go_roundw
                    case rel => exact ⟨k + 1, _, by omega, by go_num, rfl, Lib.hid (HFIN.out _ _ M15.out), Lib.hid (then_ B1.out C15.out B1.out.size)⟩
                    case measure => simp [intOf]; omega
                  · have HPR := HPR0
                    rw [ha] at HPR
                    have HPV := HADL
                    rw [hp] at HPV
                    simp only at HPR HPV
                    clear hp ha HADL HPR0 HAD
                    go_upto_region 34 with (go_at_call 13; refine (HPR.out _).mono ?_; rintro e w12 ⟨rfl, hb12⟩; have C12 := Lib.hid (then_ C20.out hb12 C20.out.size); have T12 := Lib.hid (TRow.below T20.out hb12); clear hb12)
                    go_wp2_with (first
                      | (go_at_call 18; refine (HPV.out _ _ _ T12.out).mono ?_; rintro e w13 ⟨rfl, hb13⟩; have C13 := Lib.hid (then_ C12.out hb13 C12.out.size); have RR := XA.out w13 C13.out; obtain ⟨x1, x2, x3⟩ := RR; clear hb13)
                      | (go_at_call 20; refine (HLL.out _ _ (MM.out _ C13.out)).mono ?_; rintro e w15 ⟨rfl, hb15⟩; have C15 := Lib.hid (then_ C13.out hb15 C13.out.size); clear hb15))
                    go_roundw
                    case rel => exact ⟨k + 1, R, by omega, by go_num, rfl, Lib.hid (KEEP.out _ C15.out), Lib.hid (then_ B1.out C15.out B1.out.size)⟩
                    case measure => simp [intOf]; omega
            · obtain rfl : j = n := by omega
              have hvk : Hid (vk L = j) := Lib.hid (VKO.out j (by have := hn'.out; omega) hA.out (fun h => by have := hn'.out; omega))
              have VE : Hid ((L ++ [emS]).set j (true, s) = adL L s) := Lib.hid (by
                unfold adL
                rcases VKC.out with ⟨e1, e2, _⟩ | ⟨h, _, _⟩
                · rw [e2, hvk.out]
                · have := hvk.out; have := hn'.out; omega)
              have zI := CI.out.size
              go_upto_region 20 with (at_builtin; go_loud (refine wpList_app_slots rfl _ _ rfl W1.heap.size _ _ L [emS] rfl rfl (by simp; omega) (TRow.below NI.out ((Below.refl wr.heap.size wr).alloc (Nat.le_refl _) (.cells #[.bool false, .string ⟨#[]⟩] 38))) (RT_.one wr emS) (by have := hn'.out; simp; omega) ?_); intro n19 w19 h19 hg19)
              have C19 := Lib.hid ((CI.out.alloc zI (.cells #[.bool false, .string ⟨#[]⟩] 38)).grown hg19 (by simp; omega) (fun g hg => (World.ownsRow.lt NI.out g hg).1))
              obtain ⟨na9, nc9, rfl, -, -⟩ := h19.shape
              have hln9 : (L ++ [emS]).length = j + 1 := by have := hn'.out; simp; omega
              rw [hln9] at h19 ⊢
              obtain ⟨gn9, rfl⟩ : ∃ g, na9 = some ⟨g, 0, none⟩ := by rcases h19.2 with ⟨e, e2⟩ | ⟨g, cap, cur, e, _⟩; (exfalso; omega); (injection e with e1 _ _; exact ⟨g, e1⟩)
              have N19 := Lib.hid h19
              obtain ⟨x1, x2, x3⟩ := XA.out _ C19.out
              have hjV : j < (L ++ [emS]).length := by omega
              obtain ⟨d1, d2, d3, d4, d5⟩ := RT_.cell N19.out hln9.symm j hjV
              clear h19 hg19 hln9
              have hjk : (j : Int) < ((j + 1 : Nat) : Int) := by omega
              as_aux_lemma =>
                go_upto_region 21 with fail
                go_name_world W20 hW20
                have hT := RT_.put N19.out (by have := hn'.out; simp; omega) j (by first | exact hjL | exact hjV) true s
                have hC := (C19.out.setCell (p := ⟨gn9, j * 2, none⟩) d4 (.bool true)).setCell (p := ⟨gn9, j * 2 + 1, none⟩) d4 (.string s)
                rw [hW20] at hT hC
                rw [VE.out] at hT
                have T20 := Lib.hid hT
                have C20 := Lib.hid hC
                clear hW20 hT hC d1 d2 d3 d5
                obtain ⟨x1, x2, x3⟩ := XA.out _ C20.out
                rcases HAD.out with ⟨hFU, hp, ha⟩ | ⟨hp, ha⟩
                · have HPR := HPR0
                  rw [ha, hvk.out] at HPR
                  have HPV := HADL
                  rw [hp] at HPV
                  simp only at HPR HPV
                  clear hp ha HADL HPR0 HAD
                  have HRD := Lib.hid (fun W => play_read hFU W)
                  have HLG := Lib.hid (fun W v h => play_left hFU W v h)
                  have HFIN : Hid (∀ W v, RT_ W 0 v (adL L s) → ∃ L', rmB (adL L s) = rmB L' ∧ Fit L' ∧ RT_ W 0 v L') := Lib.hid fun W v h => ⟨_, rfl, hFU, h⟩
                  obtain ⟨P, hP⟩ : ∃ P, P = rmB (adL L s) := ⟨_, rfl⟩
                  rw [← hP] at HPV HRD HLG HFIN HPR
                  clear hP
                  go_upto_region 34 with (go_at_call 13; refine (HPR.out _).mono ?_; rintro e w12 ⟨rfl, hb12⟩; have C12 := Lib.hid (then_ C20.out hb12 C20.out.size); have T12 := Lib.hid (TRow.below T20.out hb12); clear hb12)
                  go_wp2_with (first
                    | (go_at_call 18; refine (HPV.out _ _ _ T12.out).mono ?_; rintro e w13 ⟨rfl, hb13⟩; have C13 := Lib.hid (then_ C12.out hb13 C12.out.size); have RR := XA.out w13 C13.out; obtain ⟨x1, x2, x3⟩ := RR; clear hb13)
                    | (go_at_call 19; refine (HRD.out _).mono ?_; rintro e w14 ⟨mv, rfl, hM14, hb14⟩; have C14 := Lib.hid (then_ C13.out hb14 C13.out.size); have M14 := Lib.hid hM14; clear hb14 hM14)
                    | (go_at_call 20; refine (HLG.out _ _ M14.out).mono ?_; rintro e w15 ⟨rfl, hb15⟩; have C15 := Lib.hid (then_ C14.out hb15 C14.out.size); have M15 := Lib.hid (TRow.below M14.out hb15); clear hb15))
                  go_roundw
                  case rel => exact ⟨k + 1, _, by omega, by go_num, rfl, Lib.hid (HFIN.out _ _ M15.out), Lib.hid (then_ B1.out C15.out B1.out.size)⟩
                  case measure => simp [intOf]; omega
                · have HPR := HPR0
                  rw [ha] at HPR
                  have HPV := HADL
                  rw [hp] at HPV
                  simp only at HPR HPV
                  clear hp ha HADL HPR0 HAD
                  go_upto_region 34 with (go_at_call 13; refine (HPR.out _).mono ?_; rintro e w12 ⟨rfl, hb12⟩; have C12 := Lib.hid (then_ C20.out hb12 C20.out.size); have T12 := Lib.hid (TRow.below T20.out hb12); clear hb12)
                  go_wp2_with (first
                    | (go_at_call 18; refine (HPV.out _ _ _ T12.out).mono ?_; rintro e w13 ⟨rfl, hb13⟩; have C13 := Lib.hid (then_ C12.out hb13 C12.out.size); have RR := XA.out w13 C13.out; obtain ⟨x1, x2, x3⟩ := RR; clear hb13)
                    | (go_at_call 20; refine (HLL.out _ _ (MM.out _ C13.out)).mono ?_; rintro e w15 ⟨rfl, hb15⟩; have C15 := Lib.hid (then_ C13.out hb15 C13.out.size); clear hb15))
                  go_roundw
                  case rel => exact ⟨k + 1, R, by omega, by go_num, rfl, Lib.hid (KEEP.out _ C15.out), Lib.hid (then_ B1.out C15.out B1.out.size)⟩
                  case measure => simp [intOf]; omega
        · as_aux_lemma =>
          have HPR0 := Lib.hid (fun W => set_slot R no s W (by omega) hno.1 hno.2 (by omega))
          cases HT with
          | false =>
            have HPR := HPR0
            rw [hRL.out, ch_none hL HTE.out.symm, ← hRL.out] at HPR
            have HPV : Hid (∀ W B v, RT_ W B v L → Calls Tryd.prog 18 #[v] W fun e w' => e = .returned (.tuple #[.string (pk L).1, .int .i64 ((pk L).2 : Nat)]) ∧ Below W.heap.size W w') := Lib.hid fun W B v h => HPK.out _ L1000 W B v h
            rw [pk_room hL] at HPV
            simp only at HPR HPV
            clear HPR0 HPK L1000
            go_upto_region 34 with (go_at_call 16; refine (HPR.out _).mono ?_; rintro e w12 ⟨rfl, hb12⟩; have C12 := Lib.hid (then_ C9.out hb12 C9.out.size); have T12 := Lib.hid (TRow.below N9.out hb12); clear hb12)
            go_wp2_with (first
              | (go_at_call 18; refine (HPV.out _ _ _ T12.out).mono ?_; rintro e w13 ⟨rfl, hb13⟩; have C13 := Lib.hid (then_ C12.out hb13 C12.out.size); have RR := XA.out w13 C13.out; obtain ⟨x1, x2, x3⟩ := RR; clear hb13)
              | (go_at_call 20; refine (HLL.out _ _ (MM.out _ C13.out)).mono ?_; rintro e w15 ⟨rfl, hb15⟩; have C15 := Lib.hid (then_ C13.out hb15 C13.out.size); clear hb15))
            go_roundw
            case rel => exact ⟨k + 1, R, by omega, by go_num, rfl, Lib.hid (KEEP.out _ C15.out), Lib.hid (then_ B1.out C15.out B1.out.size)⟩
            case measure => simp [intOf]; omega
          | true =>
            obtain ⟨j, hjL, rfl, hje⟩ := hd_true HTE.out.symm
            have hju := used_of (hL.ok _ (List.getElem_mem hjL)) hje
            have hjn : (j : Int) < (n : Int) := by have := hn'.out; omega
            obtain ⟨gn, rfl⟩ : ∃ g, na = some ⟨g, 0, none⟩ := by rcases N9.out.2 with ⟨e, e2⟩ | ⟨g, cap, cur, e, _⟩; (exfalso; have := hn'.out; omega); (injection e with e1 _ _; exact ⟨g, e1⟩)
            obtain ⟨d1, d2, d3, d4, d5⟩ := RT_.cell N9.out hn'.out j hjL
            have HV2 := pk_two (ok_set hL.ok j (true, s) rfl)
            have hc := ch_yes hL hjL hje (true, s)
            rw [← hRL.out] at hc
            have V1000 : ∀ x ∈ L.set j (true, s), x.2.size ≤ 1000 := set_size L1000 (by first | exact xs | exact Nat.zero_le _)
            have HPV0 : Hid (∀ W B v, RT_ W B v (L.set j (true, s)) → Calls Tryd.prog 18 #[v] W fun e w' => e = .returned (.tuple #[.string (pk (L.set j (true, s))).1, .int .i64 ((pk (L.set j (true, s))).2 : Nat)]) ∧ Below W.heap.size W w') := Lib.hid fun W B v h => HPK.out _ V1000 W B v h
            rw [hc] at HPR0
            have VE : Hid (L.set j ((L[j]'hjL).1, s) = L.set j (true, s)) := Lib.hid (by rw [hju])
            have HV2' := Lib.hid HV2
            clear HV2 hc V1000 HPK L1000 hje hju d1 d2
            have D3 := RT_.cell N9.out hn'.out j hjL
            obtain ⟨d1, d2, -, -, -⟩ := D3
            go_upto_region 25 with fail
            go_name_world W20 hW20
            have hT := RT_.putR N9.out hn'.out j hjL s
            have hC := C9.out.setCell (p := ⟨gn, j * 2 + 1, none⟩) d4 (.string s)
            rw [hW20] at hT hC
            rw [VE.out] at hT
            have T20 := Lib.hid hT
            have C20 := Lib.hid hC
            clear hW20 hT hC d1 d2 d3 d5
            obtain ⟨x1, x2, x3⟩ := XA.out _ C20.out
            rcases HV2'.out with ⟨hFU, hp⟩ | hp
            · have HPR := HPR0
              rw [hp] at HPR
              have HPV := HPV0
              rw [hp] at HPV
              simp only at HPR HPV
              clear hp HPV0 HPR0 HV2'
              have HRD := Lib.hid (fun W => play_read hFU W)
              have HLG := Lib.hid (fun W v h => play_left hFU W v h)
              have HFIN : Hid (∀ W v, RT_ W 0 v (tr (L.set j (true, s))) → ∃ L', rmB (tr (L.set j (true, s))) = rmB L' ∧ Fit L' ∧ RT_ W 0 v L') := Lib.hid fun W v h => ⟨_, rfl, hFU, h⟩
              obtain ⟨P, hP⟩ : ∃ P, P = rmB (tr (L.set j (true, s))) := ⟨_, rfl⟩
              rw [← hP] at HPV HRD HLG HFIN HPR
              clear hP
              go_upto_region 34 with (go_at_call 16; refine (HPR.out _).mono ?_; rintro e w12 ⟨rfl, hb12⟩; have C12 := Lib.hid (then_ C20.out hb12 C20.out.size); have T12 := Lib.hid (TRow.below T20.out hb12); clear hb12)
              go_wp2_with (first
                | (go_at_call 18; refine (HPV.out _ _ _ T12.out).mono ?_; rintro e w13 ⟨rfl, hb13⟩; have C13 := Lib.hid (then_ C12.out hb13 C12.out.size); have RR := XA.out w13 C13.out; obtain ⟨x1, x2, x3⟩ := RR; clear hb13)
                | (go_at_call 19; refine (HRD.out _).mono ?_; rintro e w14 ⟨mv, rfl, hM14, hb14⟩; have C14 := Lib.hid (then_ C13.out hb14 C13.out.size); have M14 := Lib.hid hM14; clear hb14 hM14)
                | (go_at_call 20; refine (HLG.out _ _ M14.out).mono ?_; rintro e w15 ⟨rfl, hb15⟩; have C15 := Lib.hid (then_ C14.out hb15 C14.out.size); have M15 := Lib.hid (TRow.below M14.out hb15); clear hb15))
              go_roundw
              case rel => exact ⟨k + 1, _, by omega, by go_num, rfl, Lib.hid (HFIN.out _ _ M15.out), Lib.hid (then_ B1.out C15.out B1.out.size)⟩
              case measure => simp [intOf]; omega
            · have HPR := HPR0
              rw [hp] at HPR
              have HPV := HPV0
              rw [hp] at HPV
              simp only at HPR HPV
              clear hp HPV0 HPR0 HV2'
              go_upto_region 34 with (go_at_call 16; refine (HPR.out _).mono ?_; rintro e w12 ⟨rfl, hb12⟩; have C12 := Lib.hid (then_ C20.out hb12 C20.out.size); have T12 := Lib.hid (TRow.below T20.out hb12); clear hb12)
              go_wp2_with (first
                | (go_at_call 18; refine (HPV.out _ _ _ T12.out).mono ?_; rintro e w13 ⟨rfl, hb13⟩; have C13 := Lib.hid (then_ C12.out hb13 C12.out.size); have RR := XA.out w13 C13.out; obtain ⟨x1, x2, x3⟩ := RR; clear hb13)
                | (go_at_call 20; refine (HLL.out _ _ (MM.out _ C13.out)).mono ?_; rintro e w15 ⟨rfl, hb15⟩; have C15 := Lib.hid (then_ C13.out hb15 C13.out.size); clear hb15))
              go_roundw
              case rel => exact ⟨k + 1, R, by omega, by go_num, rfl, Lib.hid (KEEP.out _ C15.out), Lib.hid (then_ B1.out C15.out B1.out.size)⟩
              case measure => simp [intOf]; omega
        · as_aux_lemma =>
          have HPR0 := Lib.hid (fun W => del_slot R no W (by omega) hno.1 hno.2)
          cases HT with
          | false =>
            have HPR := HPR0
            rw [hRL.out, ch_none hL HTE.out.symm, ← hRL.out] at HPR
            have HPV : Hid (∀ W B v, RT_ W B v L → Calls Tryd.prog 18 #[v] W fun e w' => e = .returned (.tuple #[.string (pk L).1, .int .i64 ((pk L).2 : Nat)]) ∧ Below W.heap.size W w') := Lib.hid fun W B v h => HPK.out _ L1000 W B v h
            rw [pk_room hL] at HPV
            simp only at HPR HPV
            clear HPR0 HPK L1000
            go_upto_region 34 with (go_at_call 17; refine (HPR.out _).mono ?_; rintro e w12 ⟨rfl, hb12⟩; have C12 := Lib.hid (then_ C9.out hb12 C9.out.size); have T12 := Lib.hid (TRow.below N9.out hb12); clear hb12)
            go_wp2_with (first
              | (go_at_call 18; refine (HPV.out _ _ _ T12.out).mono ?_; rintro e w13 ⟨rfl, hb13⟩; have C13 := Lib.hid (then_ C12.out hb13 C12.out.size); have RR := XA.out w13 C13.out; obtain ⟨x1, x2, x3⟩ := RR; clear hb13)
              | (go_at_call 20; refine (HLL.out _ _ (MM.out _ C13.out)).mono ?_; rintro e w15 ⟨rfl, hb15⟩; have C15 := Lib.hid (then_ C13.out hb15 C13.out.size); clear hb15))
            go_roundw
            case rel => exact ⟨k + 1, R, by omega, by go_num, rfl, Lib.hid (KEEP.out _ C15.out), Lib.hid (then_ B1.out C15.out B1.out.size)⟩
            case measure => simp [intOf]; omega
          | true =>
            obtain ⟨j, hjL, rfl, hje⟩ := hd_true HTE.out.symm
            have hju := used_of (hL.ok _ (List.getElem_mem hjL)) hje
            have hjn : (j : Int) < (n : Int) := by have := hn'.out; omega
            obtain ⟨gn, rfl⟩ : ∃ g, na = some ⟨g, 0, none⟩ := by rcases N9.out.2 with ⟨e, e2⟩ | ⟨g, cap, cur, e, _⟩; (exfalso; have := hn'.out; omega); (injection e with e1 _ _; exact ⟨g, e1⟩)
            obtain ⟨d1, d2, d3, d4, d5⟩ := RT_.cell N9.out hn'.out j hjL
            have HV2 := pk_two (ok_set hL.ok j emS rfl)
            have hc := ch_yes hL hjL hje emS
            rw [← hRL.out] at hc
            have V1000 : ∀ x ∈ L.set j emS, x.2.size ≤ 1000 := set_size L1000 (by first | exact xs | exact Nat.zero_le _)
            have HPV0 : Hid (∀ W B v, RT_ W B v (L.set j emS) → Calls Tryd.prog 18 #[v] W fun e w' => e = .returned (.tuple #[.string (pk (L.set j emS)).1, .int .i64 ((pk (L.set j emS)).2 : Nat)]) ∧ Below W.heap.size W w') := Lib.hid fun W B v h => HPK.out _ V1000 W B v h
            rw [hc] at HPR0
            have VE : Hid (L.set j (false, ⟨#[]⟩) = L.set j emS) := Lib.hid rfl
            have HV2' := Lib.hid HV2
            clear HV2 hc V1000 HPK L1000 hje hju d1 d2
            have D3 := RT_.cell N9.out hn'.out j hjL
            obtain ⟨d1, d2, -, -, -⟩ := D3
            go_upto_region 29 with fail
            go_name_world W20 hW20
            have hT := RT_.put N9.out hn'.out j hjL false ⟨#[]⟩
            have hC := (C9.out.setCell (p := ⟨gn, j * 2, none⟩) d4 (.bool false)).setCell (p := ⟨gn, j * 2 + 1, none⟩) d4 (.string ⟨#[]⟩)
            rw [hW20] at hT hC
            rw [VE.out] at hT
            have T20 := Lib.hid hT
            have C20 := Lib.hid hC
            clear hW20 hT hC d1 d2 d3 d5
            obtain ⟨x1, x2, x3⟩ := XA.out _ C20.out
            rcases HV2'.out with ⟨hFU, hp⟩ | hp
            · have HPR := HPR0
              rw [hp] at HPR
              have HPV := HPV0
              rw [hp] at HPV
              simp only at HPR HPV
              clear hp HPV0 HPR0 HV2'
              have HRD := Lib.hid (fun W => play_read hFU W)
              have HLG := Lib.hid (fun W v h => play_left hFU W v h)
              have HFIN : Hid (∀ W v, RT_ W 0 v (tr (L.set j emS)) → ∃ L', rmB (tr (L.set j emS)) = rmB L' ∧ Fit L' ∧ RT_ W 0 v L') := Lib.hid fun W v h => ⟨_, rfl, hFU, h⟩
              obtain ⟨P, hP⟩ : ∃ P, P = rmB (tr (L.set j emS)) := ⟨_, rfl⟩
              rw [← hP] at HPV HRD HLG HFIN HPR
              clear hP
              go_upto_region 34 with (go_at_call 17; refine (HPR.out _).mono ?_; rintro e w12 ⟨rfl, hb12⟩; have C12 := Lib.hid (then_ C20.out hb12 C20.out.size); have T12 := Lib.hid (TRow.below T20.out hb12); clear hb12)
              go_wp2_with (first
                | (go_at_call 18; refine (HPV.out _ _ _ T12.out).mono ?_; rintro e w13 ⟨rfl, hb13⟩; have C13 := Lib.hid (then_ C12.out hb13 C12.out.size); have RR := XA.out w13 C13.out; obtain ⟨x1, x2, x3⟩ := RR; clear hb13)
                | (go_at_call 19; refine (HRD.out _).mono ?_; rintro e w14 ⟨mv, rfl, hM14, hb14⟩; have C14 := Lib.hid (then_ C13.out hb14 C13.out.size); have M14 := Lib.hid hM14; clear hb14 hM14)
                | (go_at_call 20; refine (HLG.out _ _ M14.out).mono ?_; rintro e w15 ⟨rfl, hb15⟩; have C15 := Lib.hid (then_ C14.out hb15 C14.out.size); have M15 := Lib.hid (TRow.below M14.out hb15); clear hb15))
              go_roundw
              case rel => exact ⟨k + 1, _, by omega, by go_num, rfl, Lib.hid (HFIN.out _ _ M15.out), Lib.hid (then_ B1.out C15.out B1.out.size)⟩
              case measure => simp [intOf]; omega
            · have HPR := HPR0
              rw [hp] at HPR
              have HPV := HPV0
              rw [hp] at HPV
              simp only at HPR HPV
              clear hp HPV0 HPR0 HV2'
              go_upto_region 34 with (go_at_call 17; refine (HPR.out _).mono ?_; rintro e w12 ⟨rfl, hb12⟩; have C12 := Lib.hid (then_ C20.out hb12 C20.out.size); have T12 := Lib.hid (TRow.below T20.out hb12); clear hb12)
              go_wp2_with (first
                | (go_at_call 18; refine (HPV.out _ _ _ T12.out).mono ?_; rintro e w13 ⟨rfl, hb13⟩; have C13 := Lib.hid (then_ C12.out hb13 C12.out.size); have RR := XA.out w13 C13.out; obtain ⟨x1, x2, x3⟩ := RR; clear hb13)
                | (go_at_call 20; refine (HLL.out _ _ (MM.out _ C13.out)).mono ?_; rintro e w15 ⟨rfl, hb15⟩; have C15 := Lib.hid (then_ C13.out hb15 C13.out.size); clear hb15))
              go_roundw
              case rel => exact ⟨k + 1, R, by omega, by go_num, rfl, Lib.hid (KEEP.out _ C15.out), Lib.hid (then_ B1.out C15.out B1.out.size)⟩
              case measure => simp [intOf]; omega
        · as_aux_lemma =>
          have HG := Lib.hid (fun W => get_slot R no W (by omega) hno.1 hno.2)
          clear HPK L1000 HLL
          cases HT with
          | false =>
            obtain ⟨g1, g2⟩ := get_none hL HTE.out.symm
            rw [← hRL.out] at g1 g2
            rw [g1, g2] at HG
            clear g1 g2
            go_wp2_with (go_at_call 15; refine (HG.out _).mono ?_; rintro e w12 ⟨rfl, hb12⟩; have C12 := Lib.hid (then_ C9.out hb12 C9.out.size); clear hb12)
            go_roundw
            case rel => exact ⟨k + 1, R, by omega, by go_num, rfl, Lib.hid (KEEP.out _ C12.out), Lib.hid (then_ B1.out C12.out B1.out.size)⟩
            case measure => simp [intOf]; omega
          | true =>
            obtain ⟨j, hjL, rfl, hje⟩ := hd_true HTE.out.symm
            have g1 : hs R (j : Int) = 0 := by rw [hRL.out, hs_some (rd_rm L hL), hd_yes hjL hje]; rfl
            have g2 : gt R (j : Int) = (L[j]'hjL).2 := by rw [hRL.out] at g1 ⊢; exact gt_yes hjL (rd_rm L hL) g1
            rw [g1, g2] at HG
            have hjn : (j : Int) < (n : Int) := by have := hn'.out; omega
            have MC := MM.out w9 C9.out
            obtain ⟨gm, rfl⟩ : ∃ g, ma = some ⟨g, 0, none⟩ := by rcases MC.2 with ⟨e, e2⟩ | ⟨g, cap, cur, e, _⟩; (exfalso; have := hn'.out; omega); (injection e with e1 _ _; exact ⟨g, e1⟩)
            have MCC : Hid (∀ W, Below W1.heap.size W1 W → W.cell? ⟨gm, j * 2 + 1, none⟩ = some (.string (L[j]'hjL).2) ∧ gm < W.heap.size) := Lib.hid fun W h => by
              obtain ⟨_, m2, m3, _, _⟩ := RT_.cell (MM.out W h) hn'.out j hjL
              exact ⟨m2, m3⟩
            obtain ⟨Y, hY⟩ : ∃ Y, Y = (L[j]'hjL).2 := ⟨_, rfl⟩
            rw [← hY] at HG MCC
            clear g1 g2 hY MC hje
            go_wp2_with (go_at_call 15; refine (HG.out _).mono ?_; rintro e w12 ⟨rfl, hb12⟩; have C12 := Lib.hid (then_ C9.out hb12 C9.out.size); obtain ⟨m2, m3⟩ := MCC.out _ C12.out; obtain ⟨x1, x2, x3⟩ := XA.out _ C12.out; clear hb12)
            go_roundw
            case rel => exact ⟨k + 1, R, by omega, by go_num, rfl, Lib.hid (KEEP.out _ C12.out), Lib.hid (then_ B1.out C12.out B1.out.size)⟩
            case measure => simp [intOf]; omega
    · obtain rfl : k = len0 := by omega
      go_wp2
      go_ret
      exact ⟨rfl, hB.out⟩

def litV : DataW Unit → Value
  | .lit (.int k n) => .int k n
  | _ => .int .u8 0
def rowV : DataW Unit → Array Value
  | .agg l => (l.map litV).toArray
  | _ => #[]
/-- A WORLD FOR THE WITNESS: the door's, and the pinned table as it is pinned. -/
noncomputable def laidWorld (os : Os) : World :=
  { World.doorLaid Tryd.prog 400 os with heap := (World.doorLaid Tryd.prog 400 os).heap.modify 1 fun
      | .cells _ t frozen => .cells (rowV Go.Pinned.utf8First) t frozen
      | o => o }
theorem laid_met (os : Os) : laidMet Tryd.prog Rows.slotPlaysRow.laid ((laidWorld os).forCall (fun _ _ => 0) ⟨#[], #[.slice none 0 0], []⟩).memory :=
  laidMet_of_run' 8 (by kernel_rfl) (by kernel_rfl)
theorem reads (os : Os) {H : Type} (enc : TypeId × Value → H) : ∃ places, DataW.whole enc Tryd.prog ((laidWorld os).forCall (fun _ _ => 0) ⟨#[], #[.slice none 0 0], []⟩).memory Tryd.f4.params.toList Rows.slotPlaysSpec.vars false (#[.slice none 0 0] : Array Value).toList 8 = some ([.nil], [], places) :=
  ⟨[], by kernel_rfl⟩
set_option maxRecDepth 100000 in
theorem lifted (os : Os) (started : os.Started) (H : Type) (enc : TypeId × Value → H) (F : Stop.Interp) :
    ReturnsInHanded {} Tryd.checked os 4 .any ((OpenSpec.ofChange Rows.slotPlaysSpec).preRow enc Tryd.prog Tryd.f4 Rows.slotPlaysRow.domain false Rows.slotPlaysRow.laid) (((OpenSpec.ofChange Rows.slotPlaysSpec).at F).post enc Tryd.prog Tryd.f4 false true false false) := by
  obtain ⟨places, hx⟩ := reads os enc
  refine returnsInHanded_of_row (C := Tryd.checked) (s := OpenSpec.ofChange Rows.slotPlaysSpec) own started (by kernel_rfl) Tryd.func4
    (witness_row_at (enc := enc) (C := Tryd.checked) false (laidWorld os) #[.slice none 0 0] rfl (by kernel_rfl) (by kernel_rfl) (by kernel_rfl)
      (OpenSpec.preRow_of_cond 8 hx (by kernel_rfl) (fun k hk => by cases hk) (by kernel_rfl) (laid_met os))) ?_
  intro W base args ds gs before hval0 hW _ _ hwt hL _ _
  have hval : ∀ (j : Nat) t v, Tryd.f4.params[j]? = some t → args[j]? = some v → Value.okWide Tryd.prog W .any base t v := hval0
  have hW' := hW
  obtain ⟨p, q, hA0, hV, rfl, hfz, hnd⟩ := hW
  have hA : DataW.TrodAll enc Tryd.prog W 0 (fun _ => true) true Tryd.f4.params.toList args.toList ds p := hA0
  rw [Tryd.params4] at hA hval
  obtain ⟨v0, vs0, d0, ds0, p0, q0, hargs, rfl, rfl, h0, r0⟩ := trodAll_cons hA
  obtain ⟨rfl, rfl, rfl⟩ := trodAll_nil r0
  obtain rfl : args = #[v0] := by cases args; simp_all
  obtain ⟨rfl, rfl⟩ := trodVars_none hV
  have k0 := h0
  have lt0 : ∀ x ∈ p0, x.block < W.heap.size := by obtain ⟨m, hm⟩ := k0; exact DataW.trod_lt m _ _ _ hm
  obtain ⟨a0, len0, cap0, rfl⟩ := okWide_slice Tryd.underlying22 (hval 0 22 v0 rfl rfl)
  obtain ⟨z0, w0⟩ : ∃ z, IsActs W a0 len0 cap0 z := by
    obtain ⟨fuel, hf⟩ := h0
    obtain ⟨a, l, c, z, e, hz⟩ := open_acts hf
    simp [Value.cells] at e
    obtain ⟨rfl, rfl, rfl⟩ := e
    exact ⟨z, hz⟩
  clear hA0 hval0
  refine (walk a0 len0 cap0 z0 W w0).mono fun e W' ⟨he, bel⟩ => ?_
  subst he
  exact ⟨_, rfl, _, _, _, [], _, [], hW', trodAll_mk1 (shut_bool Tryd.underlying4 _), (trodAll_cons_mk (Below.trod laidOut (by kernel_rfl) (of_decide_eq_true (by kernel_rfl)) k0 bel lt0) trodAll_mk0), rfl, bel.frame _, fun h => by cases h⟩

theorem over : Rows.SlotPlaysSaid :=
  OpenClaim.holds_of_cond 4 Tryd.f4 rfl rfl rfl rfl rfl rfl rfl ⟨rfl, rfl, rfl, rfl, rfl⟩ rfl rfl rfl rfl rfl (by kernel_rfl) Tryd.func4 (by kernel_rfl)
    (of_decide_eq_true (by kernel_rfl)) (by unfold Func.isWrapper; first | (rw [if_pos (by decide +kernel)]; kernel_rfl) | (rw [if_neg (by decide +kernel)]; exact ⟨rfl, rfl⟩))
    (fun os started H enc _ F => by rw [OpenClaim.pre_eq_preRow]; exact lifted os started H enc F)

/-- THE STATEMENT -/
theorem proved : Rows.SlotPlaysCardSaid :=
  Claim7.holds_tied_plain_at .later [] [.data, .pinned] true (true, "9eaec38af16a29111749254a14b513b99c2338bab31c6b9716e2014fd8d54f3d") false
    over (fun _ h => by cases h) (by kernel_rfl) (fun _ h => by cases h) slotPlays_row_tie rfl ⟨rfl, rfl⟩ (by kernel_rfl) rfl
    (fun f fn hf hfn => by
      obtain rfl : f = 4 := Option.some.inj ((show Tryd.prog.funcNamed "croft/croftlaw12.SlotPlays" = some 4 by kernel_rfl).symm.trans hf) |>.symm
      obtain rfl : fn = Tryd.f4 := (Option.some.inj (Tryd.func4.symm.trans hfn)).symm
      exact ⟨by kernel_rfl, fun j t ht => by
        rw [Tryd.params4] at ht
        have hm : t ∈ [22] := by simpa using Array.mem_of_getElem? ht
        have hall : ([22].all fun u => !Tryd.prog.wantsStandIn u) = true := by kernel_rfl
        exact (show Tryd.prog.wantsStandIn t = false by simpa using List.all_eq_true.1 hall t hm)⟩)
    (by kernel_rfl)
#print axioms proved
end Go.Proofs.YteepggjbgdjchaaDoor.slotPlays
