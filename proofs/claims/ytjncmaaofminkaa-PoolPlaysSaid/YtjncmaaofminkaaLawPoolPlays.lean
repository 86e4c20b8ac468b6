/- For every int and every list of acts: where the acts are few enough, a pool for so many frames answers every call, in every order, as the document says, has as many frames and the same dirty ones; a room that isn't 1 to 65536 is refused with ErrArg: PoolPlays answers true.
Conditions: none; every input that can be read is spoken of. -/
import Derived.Test.YtjncmaaofminkaaRows
import Derived.Test.YtjncmaaofminkaaBase
import Derived.Test.YtjncmaaofminkaaPooL
import Derived.Test.YtjncmaaofminkaaActP
import Derived.WalkKit
import Derived.ProofKit
import Derived.OpenShut
import Derived.ShutString
import Derived.ChangeOld
import Derived.Below
import Derived.SliceStrings
import Derived.SizedLaws
namespace Go.Proofs.Ytjncmaaofminkaa.poolPlays
open Go.ChangeShapes Go.WideShapes Go.ChangeAt Go.RowKit
open Go.ChangeMaps (open_string shut_string)
set_option linter.unusedVariables false

theorem own : ownKnob Try.prog.godebug = none := by kernel_rfl
theorem laidOut : laidOutB Try.prog = true := by kernel_rfl

set_option maxHeartbeats 16000000 in
set_option maxRecDepth 100000 in
theorem walk (a0 : Int) (a1 : Option Addr) (len1 cap1 : Nat) (z1 : List ActD) (w : World) (w0 : (Lit.int .i64 a0).wf = true) (w1 : IsActs w a1 len1 cap1 z1) :
    Calls Try.prog 4 #[.int .i64 a0, .slice a1 len1 cap1] w fun e w' => e = .returned (.bool true) ∧ Below w.heap.size w w' := by
  clear w0
  have hw1 := w1
  obtain ⟨hl1, hl2, hl3, hl4, hl5⟩ := w1
  unfold maxLen at hl2
  have hlen : len1 ≤ 9223372036854775807 := by omega
  replace hw1 := Lib.hid hw1
  replace hl3 := Lib.hid hl3
  replace hl4 := Lib.hid hl4
  replace hl5 := Lib.hid hl5
  go_enter Try.func4, Try.ntmps4
  go_wp2_with fail
  refine (awake_any _).mono ?_
  rintro e w1 ⟨rfl, b1⟩
  have zz := b1.size
  by_cases h400 : 400 < len1
  · go_wp2_with (go_at_call 6; refine (awake_any _).mono ?_; rintro e w2 ⟨rfl, b2⟩)
    go_ret
    exact ⟨rfl, then_ b1 b2 zz⟩
  have B1 := Lib.hid b1
  clear b1
  by_cases hlo : a0 < 1
  · have HN := Lib.hid (new_bad a0 (.inl hlo) w1)
    go_wp2_with (go_at_call 7; refine HN.out.mono ?_; rintro e w' ⟨rfl, rfl⟩)
    go_ret
    exact ⟨rfl, B1.out⟩
  by_cases hhi : 65536 < a0
  · have HN := Lib.hid (new_bad a0 (.inr hhi) w1)
    go_wp2_with (go_at_call 7; refine HN.out.mono ?_; rintro e w' ⟨rfl, rfl⟩)
    go_ret
    exact ⟨rfl, B1.out⟩
  obtain ⟨n, rfl⟩ : ∃ n : Nat, a0 = (n : Int) := ⟨a0.toNat, by omega⟩
  have hn1 : 1 ≤ n := by omega
  have hn2 : n ≤ 65536 := by omega
  have HN := Lib.hid (new_at n hn1 hn2 w1)
  clear hlo hhi
  go_upto_region 7 with (go_at_call 7; refine HN.out.mono ?_; rintro e w2 ⟨p, rfl, hp2, b2⟩; have P2 := Lib.hid hp2; have B2 := Lib.hid b2; clear hp2 b2)
  go_name_world W3 hW3
  have O3 : Own W3 w2.heap.size 39 #[.int .i64 (n : Int), .slice none 0 0] := hW3 ▸ Own.made _ _ _
  have b3 : Below w2.heap.size w2 W3 := hW3 ▸ (Below.refl _ _).alloc (Nat.le_refl _) _
  have D3 : Duo w W3 w1.heap.size p w2.heap.size n 0 (.slice none 0 0) [] [] := ⟨P2.out.below b3, ⟨O3, World.ownsRow_nil _ _ _ _, B2.out.size⟩, then_ (then_ B1.out B2.out zz) b3 (Nat.le_trans zz B2.out.size), zz⟩
  replace D3 := Lib.hid D3
  obtain ⟨rp, hrp⟩ : ∃ rp, rp = w2.heap.size := ⟨_, rfl⟩
  rw [← hrp] at D3 ⊢
  clear hW3 O3 b3 P2 B2 B1 HN hrp
  go_wp2
  go_loopw [8] (fun v8 wr => ∃ (kk : Nat) (fv : Value) (R : List RF), kk ≤ len1 ∧ v8 = .int .i64 kk ∧ Duo w wr w1.heap.size p rp n kk fv R R) (fun v8 wr => len1 - (intOf v8).toNat)
  case atStart => exact ⟨0, _, [], by omega, rfl, D3.out⟩
  case round =>
    clear D3
    obtain ⟨kk, fv, R, hkk, rfl, HI⟩ := hrel
    have BI := HI.below
    by_cases hlt : kk < len1
    rotate_left
    · obtain rfl : kk = len1 := by omega
      go_wp2
      go_ret
      exact ⟨rfl, BI⟩
    rcases hl5.out with h | ⟨b0, o0, rfl, hbz, hc⟩
    · omega
    have hkl : kk < z1.length := by rw [hl3.out]; exact hlt
    obtain ⟨hcell, hx⟩ := hc kk hkl
    have hys := hl4.out _ (List.getElem_mem hkl)
    obtain ⟨y, hy⟩ : ∃ y, y = z1[kk]'hkl := ⟨_, rfl⟩
    rw [← hy] at hcell hx hys
    clear hy hc
    replace hcell := fun j hj => (BI.cell (p := ⟨b0, o0 + kk * 3 + j, none⟩) hbz).trans (hcell j hj)
    have c0 := hcell 0 (by omega)
    have c1 := hcell 1 (by omega)
    have c2 := hcell 2 (by omega)
    obtain ⟨x0, x1, x2⟩ := y
    simp only [ActD.cells, List.getElem?_toArray, List.getElem?_cons_succ, List.getElem?_cons_zero, Nat.add_zero] at c0 c1 c2
    obtain ⟨v1, v2, v3⟩ := hx
    simp only at v1 v2 v3 hys
    obtain ⟨r01, r02⟩ := wf_u8 v1
    have HYS := Lib.hid hys
    replace HI := Lib.hid HI
    clear v1 v2 v3 hcell hkl hys BI
    go_upto_region 12 with fail
    go_name_world W0 hW0e
    have O0 : Own W0 wr.heap.size 31 #[.int .u8 x0, .int .i64 x1, .string x2] := hW0e ▸ Own.made _ _ _
    have b0' : Below wr.heap.size wr W0 := hW0e ▸ (Below.refl _ _).alloc (Nat.le_refl _) _
    have HD := HI.out.next b0'
    obtain ⟨ab, hab⟩ : ∃ ab, ab = wr.heap.size := ⟨_, rfl⟩
    rw [← hab] at O0 ⊢
    clear hW0e b0' c0 c1 c2 HI hab
    obtain ⟨q1, q2, q3⟩ := O0.at_
    have OA := Lib.hid O0
    have HD0 := Lib.hid HD
    clear O0 HD
    obtain ⟨R7, hR7⟩ : ∃ R7, x0 % 7 = R7 := ⟨_, rfl⟩
    have hR70 : 0 ≤ R7 ∧ R7 < 7 := by omega
    have hc9 : kk < 1000000 := by omega
    go_upto_region 13 with fail
    by_cases e0 : R7 = 0
    · subst e0
      have HF := HD0.out.get_ x1 hc9
      obtain ⟨g7, hg7⟩ : ∃ g7, g7 = (getR R x1).1 := ⟨_, rfl⟩
      rw [← hg7] at HF
      have HG7 := Lib.hid hg7
      replace HF := Lib.hid HF
      clear hg7
      go_upto_region 15 with (go_at_call 11; refine HF.out.mono ?_; rintro e w7 ⟨rfl, d7, s7⟩)
      have oa7 := s7 _ _ OA.out
      have HG := d7.rget (HD0.out.ok.more (kk + 1) (by omega)) x1
      rw [← HG7.out] at HG
      replace HG := Lib.hid HG
      obtain ⟨t1, t2, t3⟩ := oa7.at_
      obtain ⟨gs, gb⟩ := g7
      clear d7 s7 q1 q2 q3
      go_upto_region 16 with (go_at_call 16; refine HG.out.mono ?_; rintro e w8 ⟨rfl, s8, fv8, d8⟩; have D8 := Lib.hid d8; clear d8 s8)
      obtain ⟨R8, hR8⟩ : ∃ R8, R8 = (getR R x1).2 := ⟨_, rfl⟩
      rw [← hR8] at D8
      clear hR8
      cases gb
      all_goals
        obtain ⟨fa, fcp, rfl, hf1, hf2, -⟩ := D8.out.ref.slice
        have HLN := len_any (D8.out.next (w' := w8.drew) (Below.refl _ _).drew).pool
        have HDP := dirty_any (D8.out.next (w' := w8.drew) (Below.refl _ _).drew).pool
        have P8 := (D8.out.next (w' := w8.drew) (Below.refl _ _).drew).ref.own
        obtain ⟨L8, hL8⟩ : ∃ L8, L8 = R8.length := ⟨_, rfl⟩
        rw [← hL8] at HLN P8 hf1
        have hL8b : L8 ≤ 65536 := by rw [hL8]; exact D8.out.len_le rfl
        have HL8 := Lib.hid hL8
        replace HLN := Lib.hid HLN
        replace HDP := Lib.hid HDP
        replace P8 := Lib.hid P8
        clear hL8
        unfold maxLen at hf2
        go_upto_region 31 with fail
        refine wp_region_seq (fun W => Own W rp 39 #[.int .i64 (n : Int), .slice fa L8 fcp]) (0 :: 1 :: 2 :: 3 :: 5 :: 6 :: 7 :: 8 :: 9 :: 10 :: 11 :: 12 :: 13 :: 15 :: 18 :: 19 :: []) (8 :: []) (0 :: 1 :: 2 :: 3 :: 5 :: 6 :: 7 :: 8 :: 9 :: 4 :: 10 :: 11 :: 12 :: 13 :: 15 :: 14 :: 16 :: 17 :: 18 :: 19 :: []) (by kernel_rfl) (by kernel_rfl) rfl (by kernel_rfl) rfl (P8.out) (by simp only [picked, List.filterMap_cons, List.filterMap_nil, List.getElem?_cons_zero, List.getElem?_cons_succ, Option.map_some]; exact rfl) ?_
        iterate 9
          refine seq_want (v := ?_) rfl rfl (fun W hS => ?_) ?_
          rotate_left
          · first
              | (conv => lhs; simp [go_sem]
                 first | done | exact rfl)
              | (have hS := hS rfl
                 obtain ⟨u1, u2, u3⟩ := Own.at_ hS
                 conv => lhs; simp [go_sem, *]
                 first | done | exact rfl)
          simp only [Act.put, List.setIfInBounds_toArray, List.set_cons_zero, List.set_cons_succ]
        refine seq_on rfl rfl fun K hK => ?_
        go_wp2_with (go_at_call 15; refine HLN.out.mono ?_; rintro e w' ⟨rfl, rfl⟩)
        refine hK _ _ P8.out ?_
        clear hK K
        iterate 5
          refine seq_want (v := ?_) rfl rfl (fun W hS => ?_) ?_
          rotate_left
          · conv => lhs; simp [go_sem]
            first | done | exact rfl
          simp only [Act.put, List.setIfInBounds_toArray, List.set_cons_zero, List.set_cons_succ]
        refine seq_on rfl rfl fun K hK => ?_
        go_wp2_with (go_at_call 23; refine HDP.out.mono ?_; rintro e w9 ⟨va, rfl, hra, hb9⟩)
        have D9 := (D8.out.next (w' := w8.drew) (Below.refl _ _).drew).next hb9
        have P9 := P8.out.keep hb9
        have HRD := rdirty_any D9.ref (by have := D8.out.len_le rfl; omega)
        replace HRD := Lib.hid HRD
        replace D9 := Lib.hid D9
        have RA9 := Lib.hid hra
        clear hra hb9
        refine hK _ _ P9 ?_
        clear hK K
        refine seq_on rfl rfl fun K hK => ?_
        go_wp2_with (go_at_call 24; refine HRD.out.mono ?_; rintro e w10 ⟨vb, rfl, hrb, hb10⟩)
        have D10 := D9.out.next hb10
        have ra10 := ownsRow_keepB RA9.out fun g hg => hb10.block g (RA9.out.lt g hg).2
        have hdl : (dirtyR R8).length ≤ 1000000 := by
          have e1 : (dirtyR R8).length ≤ R8.length := by
            unfold dirtyR sortI
            rw [(List.mergeSort_perm _ _).length_eq, List.length_map]
            exact List.length_filter_le _ _
          have := D8.out.len_le rfl
          omega
        have HSM := Lib.hid (rsame_any ra10 hrb hdl)
        have P10 := P9.keep hb10
        replace D10 := Lib.hid D10
        clear hrb hb10 ra10 hdl P9
        refine hK _ _ P10 ?_
        clear hK K
        refine seq_on rfl rfl fun K hK => ?_
        go_wp2_with (go_at_call 22; refine HSM.out.mono ?_; rintro e w11 ⟨rfl, hb11⟩)
        have D11 := Lib.hid (D10.out.next hb11)
        have P11 := P10.keep hb11
        clear hb11
        refine hK _ _ P11 ?_
        clear hK K P11 P10
        iterate 2
          refine seq_want (v := ?_) rfl rfl (fun W hS => ?_) ?_
          rotate_left
          · conv => lhs; simp [go_sem]
            first | done | exact rfl
          simp only [Act.put, List.setIfInBounds_toArray, List.set_cons_zero, List.set_cons_succ]
        refine seq_end ?_
        go_wp2
        go_roundw
        case rel => exact ⟨kk + 1, _, R8, by omega, by go_num, D11.out⟩
        case measure => simp [intOf] <;> omega
    by_cases e1 : R7 = 1
    · subst e1
      go_upto_region 18 with fail
      have HF := (HD0.out.next (w' := W0.drew) (Below.refl _ _).drew).put_ x1 x2 HYS.out hc9
      obtain ⟨r7, hr7⟩ : ∃ r7, r7 = (putR R n x1 x2).1 := ⟨_, rfl⟩
      rw [← hr7] at HF
      have HR7 := Lib.hid hr7
      replace HF := Lib.hid HF
      clear hr7
      refine wp_region_seq (fun W => Own W ab 31 #[.int .u8 x0, .int .i64 x1, .string x2]) (0 :: 1 :: 2 :: 3 :: 4 :: 6 :: 7 :: 8 :: 9 :: 10 :: 12 :: 13 :: []) (2 :: 4 :: 8 :: 10 :: []) (0 :: 1 :: 2 :: 3 :: 4 :: 6 :: 7 :: 8 :: 9 :: 10 :: 5 :: 11 :: 12 :: 13 :: []) (by kernel_rfl) (by kernel_rfl) rfl (by kernel_rfl) rfl (OA.out.drawn) (by simp only [picked, List.filterMap_cons, List.filterMap_nil, List.getElem?_cons_zero, List.getElem?_cons_succ, Option.map_some]; exact rfl) ?_
      iterate 10
        refine seq_want (v := ?_) rfl rfl (fun W hS => ?_) ?_
        rotate_left
        · first
            | (conv => lhs; simp [go_sem]
               first | done | exact rfl)
            | (have hS := hS rfl
               obtain ⟨u1, u2, u3⟩ := Own.at_ hS
               conv => lhs; simp [go_sem, *]
               first | done | exact rfl)
        simp only [Act.put, List.setIfInBounds_toArray, List.set_cons_zero, List.set_cons_succ]
      refine seq_on rfl rfl fun K hK => ?_
      go_wp2_with (go_at_call 12; refine HF.out.mono ?_; rintro e w7 ⟨rfl, d7, s7⟩)
      have OA7 := Lib.hid (s7 _ _ OA.out.drawn)
      have HG := d7.rput (HD0.out.ok.more (kk + 1) (by omega)) x1 x2
      rw [← HR7.out] at HG
      replace HG := Lib.hid HG
      have D7 := Lib.hid d7
      clear d7 s7
      refine hK _ _ OA7.out ?_
      clear hK K
      refine seq_on rfl rfl fun K hK => ?_
      go_wp2_with (go_at_call 17; refine HG.out.mono ?_; rintro e w8 ⟨rfl, s8, fv8, d8⟩)
      have OA8 := s8 _ _ OA7.out
      have D8 := Lib.hid d8
      clear d8 s8
      refine hK _ _ OA8 ?_
      clear hK K OA8
      iterate 2
        refine seq_want (v := ?_) rfl rfl (fun W hS => ?_) ?_
        rotate_left
        · conv => lhs; simp [go_sem]
          first | done | exact rfl
        simp only [Act.put, List.setIfInBounds_toArray, List.set_cons_zero, List.set_cons_succ]
      refine seq_end ?_
      obtain ⟨R8, hR8⟩ : ∃ R8, R8 = (putR R n x1 x2).2 := ⟨_, rfl⟩
      rw [← hR8] at D8
      clear hR8
      obtain ⟨fa, fcp, rfl, hf1, hf2, -⟩ := D8.out.ref.slice
      have HLN := len_any (D8.out.next (w' := w8.drew) (Below.refl _ _).drew).pool
      have HDP := dirty_any (D8.out.next (w' := w8.drew) (Below.refl _ _).drew).pool
      have P8 := (D8.out.next (w' := w8.drew) (Below.refl _ _).drew).ref.own
      obtain ⟨L8, hL8⟩ : ∃ L8, L8 = R8.length := ⟨_, rfl⟩
      rw [← hL8] at HLN P8 hf1
      have hL8b : L8 ≤ 65536 := by rw [hL8]; exact D8.out.len_le rfl
      have HL8 := Lib.hid hL8
      replace HLN := Lib.hid HLN
      replace HDP := Lib.hid HDP
      replace P8 := Lib.hid P8
      clear hL8
      unfold maxLen at hf2
      go_upto_region 31 with fail
      refine wp_region_seq (fun W => Own W rp 39 #[.int .i64 (n : Int), .slice fa L8 fcp]) (0 :: 1 :: 2 :: 3 :: 5 :: 6 :: 7 :: 8 :: 9 :: 10 :: 11 :: 12 :: 13 :: 15 :: 18 :: 19 :: []) (8 :: []) (0 :: 1 :: 2 :: 3 :: 5 :: 6 :: 7 :: 8 :: 9 :: 4 :: 10 :: 11 :: 12 :: 13 :: 15 :: 14 :: 16 :: 17 :: 18 :: 19 :: []) (by kernel_rfl) (by kernel_rfl) rfl (by kernel_rfl) rfl (P8.out) (by simp only [picked, List.filterMap_cons, List.filterMap_nil, List.getElem?_cons_zero, List.getElem?_cons_succ, Option.map_some]; exact rfl) ?_
      iterate 9
        refine seq_want (v := ?_) rfl rfl (fun W hS => ?_) ?_
        rotate_left
        · first
            | (conv => lhs; simp [go_sem]
               first | done | exact rfl)
            | (have hS := hS rfl
               obtain ⟨u1, u2, u3⟩ := Own.at_ hS
               conv => lhs; simp [go_sem, *]
               first | done | exact rfl)
        simp only [Act.put, List.setIfInBounds_toArray, List.set_cons_zero, List.set_cons_succ]
      refine seq_on rfl rfl fun K hK => ?_
      go_wp2_with (go_at_call 15; refine HLN.out.mono ?_; rintro e w' ⟨rfl, rfl⟩)
      refine hK _ _ P8.out ?_
      clear hK K
      iterate 5
        refine seq_want (v := ?_) rfl rfl (fun W hS => ?_) ?_
        rotate_left
        · conv => lhs; simp [go_sem]
          first | done | exact rfl
        simp only [Act.put, List.setIfInBounds_toArray, List.set_cons_zero, List.set_cons_succ]
      refine seq_on rfl rfl fun K hK => ?_
      go_wp2_with (go_at_call 23; refine HDP.out.mono ?_; rintro e w9 ⟨va, rfl, hra, hb9⟩)
      have D9 := (D8.out.next (w' := w8.drew) (Below.refl _ _).drew).next hb9
      have P9 := P8.out.keep hb9
      have HRD := rdirty_any D9.ref (by have := D8.out.len_le rfl; omega)
      replace HRD := Lib.hid HRD
      replace D9 := Lib.hid D9
      have RA9 := Lib.hid hra
      clear hra hb9
      refine hK _ _ P9 ?_
      clear hK K
      refine seq_on rfl rfl fun K hK => ?_
      go_wp2_with (go_at_call 24; refine HRD.out.mono ?_; rintro e w10 ⟨vb, rfl, hrb, hb10⟩)
      have D10 := D9.out.next hb10
      have ra10 := ownsRow_keepB RA9.out fun g hg => hb10.block g (RA9.out.lt g hg).2
      have hdl : (dirtyR R8).length ≤ 1000000 := by
        have e1 : (dirtyR R8).length ≤ R8.length := by
          unfold dirtyR sortI
          rw [(List.mergeSort_perm _ _).length_eq, List.length_map]
          exact List.length_filter_le _ _
        have := D8.out.len_le rfl
        omega
      have HSM := Lib.hid (rsame_any ra10 hrb hdl)
      have P10 := P9.keep hb10
      replace D10 := Lib.hid D10
      clear hrb hb10 ra10 hdl P9
      refine hK _ _ P10 ?_
      clear hK K
      refine seq_on rfl rfl fun K hK => ?_
      go_wp2_with (go_at_call 22; refine HSM.out.mono ?_; rintro e w11 ⟨rfl, hb11⟩)
      have D11 := Lib.hid (D10.out.next hb11)
      have P11 := P10.keep hb11
      clear hb11
      refine hK _ _ P11 ?_
      clear hK K P11 P10
      iterate 2
        refine seq_want (v := ?_) rfl rfl (fun W hS => ?_) ?_
        rotate_left
        · conv => lhs; simp [go_sem]
          first | done | exact rfl
        simp only [Act.put, List.setIfInBounds_toArray, List.set_cons_zero, List.set_cons_succ]
      refine seq_end ?_
      go_wp2
      go_roundw
      case rel => exact ⟨kk + 1, _, R8, by omega, by go_num, D11.out⟩
      case measure => simp [intOf] <;> omega
    by_cases e2 : R7 = 2
    · subst e2
      go_upto_region 20 with fail
      have HF := (HD0.out.next (w' := W0.drew) (Below.refl _ _).drew).set_ x1 x2 HYS.out hc9
      obtain ⟨r7, hr7⟩ : ∃ r7, r7 = (setR R n x1 x2).1 := ⟨_, rfl⟩
      rw [← hr7] at HF
      have HR7 := Lib.hid hr7
      replace HF := Lib.hid HF
      clear hr7
      refine wp_region_seq (fun W => Own W ab 31 #[.int .u8 x0, .int .i64 x1, .string x2]) (0 :: 1 :: 2 :: 3 :: 4 :: 6 :: 7 :: 8 :: 9 :: 10 :: 12 :: 13 :: []) (2 :: 4 :: 8 :: 10 :: []) (0 :: 1 :: 2 :: 3 :: 4 :: 6 :: 7 :: 8 :: 9 :: 10 :: 5 :: 11 :: 12 :: 13 :: []) (by kernel_rfl) (by kernel_rfl) rfl (by kernel_rfl) rfl (OA.out.drawn) (by simp only [picked, List.filterMap_cons, List.filterMap_nil, List.getElem?_cons_zero, List.getElem?_cons_succ, Option.map_some]; exact rfl) ?_
      iterate 10
        refine seq_want (v := ?_) rfl rfl (fun W hS => ?_) ?_
        rotate_left
        · first
            | (conv => lhs; simp [go_sem]
               first | done | exact rfl)
            | (have hS := hS rfl
               obtain ⟨u1, u2, u3⟩ := Own.at_ hS
               conv => lhs; simp [go_sem, *]
               first | done | exact rfl)
        simp only [Act.put, List.setIfInBounds_toArray, List.set_cons_zero, List.set_cons_succ]
      refine seq_on rfl rfl fun K hK => ?_
      go_wp2_with (go_at_call 8; refine HF.out.mono ?_; rintro e w7 ⟨rfl, d7, s7⟩)
      have OA7 := Lib.hid (s7 _ _ OA.out.drawn)
      have HG := d7.rset (HD0.out.ok.more (kk + 1) (by omega)) x1 x2 HYS.out
      rw [← HR7.out] at HG
      replace HG := Lib.hid HG
      have D7 := Lib.hid d7
      clear d7 s7
      refine hK _ _ OA7.out ?_
      clear hK K
      refine seq_on rfl rfl fun K hK => ?_
      go_wp2_with (go_at_call 18; refine HG.out.mono ?_; rintro e w8 ⟨rfl, s8, fv8, d8⟩)
      have OA8 := s8 _ _ OA7.out
      have D8 := Lib.hid d8
      clear d8 s8
      refine hK _ _ OA8 ?_
      clear hK K OA8
      iterate 2
        refine seq_want (v := ?_) rfl rfl (fun W hS => ?_) ?_
        rotate_left
        · conv => lhs; simp [go_sem]
          first | done | exact rfl
        simp only [Act.put, List.setIfInBounds_toArray, List.set_cons_zero, List.set_cons_succ]
      refine seq_end ?_
      obtain ⟨R8, hR8⟩ : ∃ R8, R8 = (setR R n x1 x2).2 := ⟨_, rfl⟩
      rw [← hR8] at D8
      clear hR8
      obtain ⟨fa, fcp, rfl, hf1, hf2, -⟩ := D8.out.ref.slice
      have HLN := len_any (D8.out.next (w' := w8.drew) (Below.refl _ _).drew).pool
      have HDP := dirty_any (D8.out.next (w' := w8.drew) (Below.refl _ _).drew).pool
      have P8 := (D8.out.next (w' := w8.drew) (Below.refl _ _).drew).ref.own
      obtain ⟨L8, hL8⟩ : ∃ L8, L8 = R8.length := ⟨_, rfl⟩
      rw [← hL8] at HLN P8 hf1
      have hL8b : L8 ≤ 65536 := by rw [hL8]; exact D8.out.len_le rfl
      have HL8 := Lib.hid hL8
      replace HLN := Lib.hid HLN
      replace HDP := Lib.hid HDP
      replace P8 := Lib.hid P8
      clear hL8
      unfold maxLen at hf2
      go_upto_region 31 with fail
      refine wp_region_seq (fun W => Own W rp 39 #[.int .i64 (n : Int), .slice fa L8 fcp]) (0 :: 1 :: 2 :: 3 :: 5 :: 6 :: 7 :: 8 :: 9 :: 10 :: 11 :: 12 :: 13 :: 15 :: 18 :: 19 :: []) (8 :: []) (0 :: 1 :: 2 :: 3 :: 5 :: 6 :: 7 :: 8 :: 9 :: 4 :: 10 :: 11 :: 12 :: 13 :: 15 :: 14 :: 16 :: 17 :: 18 :: 19 :: []) (by kernel_rfl) (by kernel_rfl) rfl (by kernel_rfl) rfl (P8.out) (by simp only [picked, List.filterMap_cons, List.filterMap_nil, List.getElem?_cons_zero, List.getElem?_cons_succ, Option.map_some]; exact rfl) ?_
      iterate 9
        refine seq_want (v := ?_) rfl rfl (fun W hS => ?_) ?_
        rotate_left
        · first
            | (conv => lhs; simp [go_sem]
               first | done | exact rfl)
            | (have hS := hS rfl
               obtain ⟨u1, u2, u3⟩ := Own.at_ hS
               conv => lhs; simp [go_sem, *]
               first | done | exact rfl)
        simp only [Act.put, List.setIfInBounds_toArray, List.set_cons_zero, List.set_cons_succ]
      refine seq_on rfl rfl fun K hK => ?_
      go_wp2_with (go_at_call 15; refine HLN.out.mono ?_; rintro e w' ⟨rfl, rfl⟩)
      refine hK _ _ P8.out ?_
      clear hK K
      iterate 5
        refine seq_want (v := ?_) rfl rfl (fun W hS => ?_) ?_
        rotate_left
        · conv => lhs; simp [go_sem]
          first | done | exact rfl
        simp only [Act.put, List.setIfInBounds_toArray, List.set_cons_zero, List.set_cons_succ]
      refine seq_on rfl rfl fun K hK => ?_
      go_wp2_with (go_at_call 23; refine HDP.out.mono ?_; rintro e w9 ⟨va, rfl, hra, hb9⟩)
      have D9 := (D8.out.next (w' := w8.drew) (Below.refl _ _).drew).next hb9
      have P9 := P8.out.keep hb9
      have HRD := rdirty_any D9.ref (by have := D8.out.len_le rfl; omega)
      replace HRD := Lib.hid HRD
      replace D9 := Lib.hid D9
      have RA9 := Lib.hid hra
      clear hra hb9
      refine hK _ _ P9 ?_
      clear hK K
      refine seq_on rfl rfl fun K hK => ?_
      go_wp2_with (go_at_call 24; refine HRD.out.mono ?_; rintro e w10 ⟨vb, rfl, hrb, hb10⟩)
      have D10 := D9.out.next hb10
      have ra10 := ownsRow_keepB RA9.out fun g hg => hb10.block g (RA9.out.lt g hg).2
      have hdl : (dirtyR R8).length ≤ 1000000 := by
        have e1 : (dirtyR R8).length ≤ R8.length := by
          unfold dirtyR sortI
          rw [(List.mergeSort_perm _ _).length_eq, List.length_map]
          exact List.length_filter_le _ _
        have := D8.out.len_le rfl
        omega
      have HSM := Lib.hid (rsame_any ra10 hrb hdl)
      have P10 := P9.keep hb10
      replace D10 := Lib.hid D10
      clear hrb hb10 ra10 hdl P9
      refine hK _ _ P10 ?_
      clear hK K
      refine seq_on rfl rfl fun K hK => ?_
      go_wp2_with (go_at_call 22; refine HSM.out.mono ?_; rintro e w11 ⟨rfl, hb11⟩)
      have D11 := Lib.hid (D10.out.next hb11)
      have P11 := P10.keep hb11
      clear hb11
      refine hK _ _ P11 ?_
      clear hK K P11 P10
      iterate 2
        refine seq_want (v := ?_) rfl rfl (fun W hS => ?_) ?_
        rotate_left
        · conv => lhs; simp [go_sem]
          first | done | exact rfl
        simp only [Act.put, List.setIfInBounds_toArray, List.set_cons_zero, List.set_cons_succ]
      refine seq_end ?_
      go_wp2
      go_roundw
      case rel => exact ⟨kk + 1, _, R8, by omega, by go_num, D11.out⟩
      case measure => simp [intOf] <;> omega
    by_cases e3 : R7 = 3
    · subst e3
      go_upto_region 22 with fail
      have HF := (HD0.out.next (w' := W0.drew) (Below.refl _ _).drew).pin_ x1 hc9
      obtain ⟨r7, hr7⟩ : ∃ r7, r7 = (pinR R x1).1 := ⟨_, rfl⟩
      rw [← hr7] at HF
      have HR7 := Lib.hid hr7
      replace HF := Lib.hid HF
      clear hr7
      refine wp_region_seq (fun W => Own W ab 31 #[.int .u8 x0, .int .i64 x1, .string x2]) (0 :: 1 :: 2 :: 4 :: 5 :: 6 :: 8 :: 9 :: []) (2 :: 6 :: []) (0 :: 1 :: 2 :: 4 :: 5 :: 6 :: 3 :: 7 :: 8 :: 9 :: []) (by kernel_rfl) (by kernel_rfl) rfl (by kernel_rfl) rfl (OA.out.drawn) (by simp only [picked, List.filterMap_cons, List.filterMap_nil, List.getElem?_cons_zero, List.getElem?_cons_succ, Option.map_some]; exact rfl) ?_
      iterate 6
        refine seq_want (v := ?_) rfl rfl (fun W hS => ?_) ?_
        rotate_left
        · first
            | (conv => lhs; simp [go_sem]
               first | done | exact rfl)
            | (have hS := hS rfl
               obtain ⟨u1, u2, u3⟩ := Own.at_ hS
               conv => lhs; simp [go_sem, *]
               first | done | exact rfl)
        simp only [Act.put, List.setIfInBounds_toArray, List.set_cons_zero, List.set_cons_succ]
      refine seq_on rfl rfl fun K hK => ?_
      go_wp2_with (go_at_call 9; refine HF.out.mono ?_; rintro e w7 ⟨rfl, d7, s7⟩)
      have OA7 := Lib.hid (s7 _ _ OA.out.drawn)
      have HG := d7.rpin (HD0.out.ok.more (kk + 1) (by omega)) (by omega) x1
      rw [← HR7.out] at HG
      replace HG := Lib.hid HG
      have D7 := Lib.hid d7
      clear d7 s7
      refine hK _ _ OA7.out ?_
      clear hK K
      refine seq_on rfl rfl fun K hK => ?_
      go_wp2_with (go_at_call 19; refine HG.out.mono ?_; rintro e w8 ⟨rfl, s8, fv8, d8⟩)
      have OA8 := s8 _ _ OA7.out
      have D8 := Lib.hid d8
      clear d8 s8
      refine hK _ _ OA8 ?_
      clear hK K OA8
      iterate 2
        refine seq_want (v := ?_) rfl rfl (fun W hS => ?_) ?_
        rotate_left
        · conv => lhs; simp [go_sem]
          first | done | exact rfl
        simp only [Act.put, List.setIfInBounds_toArray, List.set_cons_zero, List.set_cons_succ]
      refine seq_end ?_
      obtain ⟨R8, hR8⟩ : ∃ R8, R8 = (pinR R x1).2 := ⟨_, rfl⟩
      rw [← hR8] at D8
      clear hR8
      obtain ⟨fa, fcp, rfl, hf1, hf2, -⟩ := D8.out.ref.slice
      have HLN := len_any (D8.out.next (w' := w8.drew) (Below.refl _ _).drew).pool
      have HDP := dirty_any (D8.out.next (w' := w8.drew) (Below.refl _ _).drew).pool
      have P8 := (D8.out.next (w' := w8.drew) (Below.refl _ _).drew).ref.own
      obtain ⟨L8, hL8⟩ : ∃ L8, L8 = R8.length := ⟨_, rfl⟩
      rw [← hL8] at HLN P8 hf1
      have hL8b : L8 ≤ 65536 := by rw [hL8]; exact D8.out.len_le rfl
      have HL8 := Lib.hid hL8
      replace HLN := Lib.hid HLN
      replace HDP := Lib.hid HDP
      replace P8 := Lib.hid P8
      clear hL8
      unfold maxLen at hf2
      go_upto_region 31 with fail
      refine wp_region_seq (fun W => Own W rp 39 #[.int .i64 (n : Int), .slice fa L8 fcp]) (0 :: 1 :: 2 :: 3 :: 5 :: 6 :: 7 :: 8 :: 9 :: 10 :: 11 :: 12 :: 13 :: 15 :: 18 :: 19 :: []) (8 :: []) (0 :: 1 :: 2 :: 3 :: 5 :: 6 :: 7 :: 8 :: 9 :: 4 :: 10 :: 11 :: 12 :: 13 :: 15 :: 14 :: 16 :: 17 :: 18 :: 19 :: []) (by kernel_rfl) (by kernel_rfl) rfl (by kernel_rfl) rfl (P8.out) (by simp only [picked, List.filterMap_cons, List.filterMap_nil, List.getElem?_cons_zero, List.getElem?_cons_succ, Option.map_some]; exact rfl) ?_
      iterate 9
        refine seq_want (v := ?_) rfl rfl (fun W hS => ?_) ?_
        rotate_left
        · first
            | (conv => lhs; simp [go_sem]
               first | done | exact rfl)
            | (have hS := hS rfl
               obtain ⟨u1, u2, u3⟩ := Own.at_ hS
               conv => lhs; simp [go_sem, *]
               first | done | exact rfl)
        simp only [Act.put, List.setIfInBounds_toArray, List.set_cons_zero, List.set_cons_succ]
      refine seq_on rfl rfl fun K hK => ?_
      go_wp2_with (go_at_call 15; refine HLN.out.mono ?_; rintro e w' ⟨rfl, rfl⟩)
      refine hK _ _ P8.out ?_
      clear hK K
      iterate 5
        refine seq_want (v := ?_) rfl rfl (fun W hS => ?_) ?_
        rotate_left
        · conv => lhs; simp [go_sem]
          first | done | exact rfl
        simp only [Act.put, List.setIfInBounds_toArray, List.set_cons_zero, List.set_cons_succ]
      refine seq_on rfl rfl fun K hK => ?_
      go_wp2_with (go_at_call 23; refine HDP.out.mono ?_; rintro e w9 ⟨va, rfl, hra, hb9⟩)
      have D9 := (D8.out.next (w' := w8.drew) (Below.refl _ _).drew).next hb9
      have P9 := P8.out.keep hb9
      have HRD := rdirty_any D9.ref (by have := D8.out.len_le rfl; omega)
      replace HRD := Lib.hid HRD
      replace D9 := Lib.hid D9
      have RA9 := Lib.hid hra
      clear hra hb9
      refine hK _ _ P9 ?_
      clear hK K
      refine seq_on rfl rfl fun K hK => ?_
      go_wp2_with (go_at_call 24; refine HRD.out.mono ?_; rintro e w10 ⟨vb, rfl, hrb, hb10⟩)
      have D10 := D9.out.next hb10
      have ra10 := ownsRow_keepB RA9.out fun g hg => hb10.block g (RA9.out.lt g hg).2
      have hdl : (dirtyR R8).length ≤ 1000000 := by
        have e1 : (dirtyR R8).length ≤ R8.length := by
          unfold dirtyR sortI
          rw [(List.mergeSort_perm _ _).length_eq, List.length_map]
          exact List.length_filter_le _ _
        have := D8.out.len_le rfl
        omega
      have HSM := Lib.hid (rsame_any ra10 hrb hdl)
      have P10 := P9.keep hb10
      replace D10 := Lib.hid D10
      clear hrb hb10 ra10 hdl P9
      refine hK _ _ P10 ?_
      clear hK K
      refine seq_on rfl rfl fun K hK => ?_
      go_wp2_with (go_at_call 22; refine HSM.out.mono ?_; rintro e w11 ⟨rfl, hb11⟩)
      have D11 := Lib.hid (D10.out.next hb11)
      have P11 := P10.keep hb11
      clear hb11
      refine hK _ _ P11 ?_
      clear hK K P11 P10
      iterate 2
        refine seq_want (v := ?_) rfl rfl (fun W hS => ?_) ?_
        rotate_left
        · conv => lhs; simp [go_sem]
          first | done | exact rfl
        simp only [Act.put, List.setIfInBounds_toArray, List.set_cons_zero, List.set_cons_succ]
      refine seq_end ?_
      go_wp2
      go_roundw
      case rel => exact ⟨kk + 1, _, R8, by omega, by go_num, D11.out⟩
      case measure => simp [intOf] <;> omega
    by_cases e4 : R7 = 4
    · subst e4
      go_upto_region 24 with fail
      have HF := (HD0.out.next (w' := W0.drew) (Below.refl _ _).drew).unpin_ x1 hc9
      obtain ⟨r7, hr7⟩ : ∃ r7, r7 = (unpinR R x1).1 := ⟨_, rfl⟩
      rw [← hr7] at HF
      have HR7 := Lib.hid hr7
      replace HF := Lib.hid HF
      clear hr7
      refine wp_region_seq (fun W => Own W ab 31 #[.int .u8 x0, .int .i64 x1, .string x2]) (0 :: 1 :: 2 :: 4 :: 5 :: 6 :: 8 :: 9 :: []) (2 :: 6 :: []) (0 :: 1 :: 2 :: 4 :: 5 :: 6 :: 3 :: 7 :: 8 :: 9 :: []) (by kernel_rfl) (by kernel_rfl) rfl (by kernel_rfl) rfl (OA.out.drawn) (by simp only [picked, List.filterMap_cons, List.filterMap_nil, List.getElem?_cons_zero, List.getElem?_cons_succ, Option.map_some]; exact rfl) ?_
      iterate 6
        refine seq_want (v := ?_) rfl rfl (fun W hS => ?_) ?_
        rotate_left
        · first
            | (conv => lhs; simp [go_sem]
               first | done | exact rfl)
            | (have hS := hS rfl
               obtain ⟨u1, u2, u3⟩ := Own.at_ hS
               conv => lhs; simp [go_sem, *]
               first | done | exact rfl)
        simp only [Act.put, List.setIfInBounds_toArray, List.set_cons_zero, List.set_cons_succ]
      refine seq_on rfl rfl fun K hK => ?_
      go_wp2_with (go_at_call 13; refine HF.out.mono ?_; rintro e w7 ⟨rfl, d7, s7⟩)
      have OA7 := Lib.hid (s7 _ _ OA.out.drawn)
      have HG := d7.runpin (HD0.out.ok.more (kk + 1) (by omega)) (by omega) x1
      rw [← HR7.out] at HG
      replace HG := Lib.hid HG
      have D7 := Lib.hid d7
      clear d7 s7
      refine hK _ _ OA7.out ?_
      clear hK K
      refine seq_on rfl rfl fun K hK => ?_
      go_wp2_with (go_at_call 19; refine HG.out.mono ?_; rintro e w8 ⟨rfl, s8, fv8, d8⟩)
      have OA8 := s8 _ _ OA7.out
      have D8 := Lib.hid d8
      clear d8 s8
      refine hK _ _ OA8 ?_
      clear hK K OA8
      iterate 2
        refine seq_want (v := ?_) rfl rfl (fun W hS => ?_) ?_
        rotate_left
        · conv => lhs; simp [go_sem]
          first | done | exact rfl
        simp only [Act.put, List.setIfInBounds_toArray, List.set_cons_zero, List.set_cons_succ]
      refine seq_end ?_
      obtain ⟨R8, hR8⟩ : ∃ R8, R8 = (unpinR R x1).2 := ⟨_, rfl⟩
      rw [← hR8] at D8
      clear hR8
      obtain ⟨fa, fcp, rfl, hf1, hf2, -⟩ := D8.out.ref.slice
      have HLN := len_any (D8.out.next (w' := w8.drew) (Below.refl _ _).drew).pool
      have HDP := dirty_any (D8.out.next (w' := w8.drew) (Below.refl _ _).drew).pool
      have P8 := (D8.out.next (w' := w8.drew) (Below.refl _ _).drew).ref.own
      obtain ⟨L8, hL8⟩ : ∃ L8, L8 = R8.length := ⟨_, rfl⟩
      rw [← hL8] at HLN P8 hf1
      have hL8b : L8 ≤ 65536 := by rw [hL8]; exact D8.out.len_le rfl
      have HL8 := Lib.hid hL8
      replace HLN := Lib.hid HLN
      replace HDP := Lib.hid HDP
      replace P8 := Lib.hid P8
      clear hL8
      unfold maxLen at hf2
      go_upto_region 31 with fail
      refine wp_region_seq (fun W => Own W rp 39 #[.int .i64 (n : Int), .slice fa L8 fcp]) (0 :: 1 :: 2 :: 3 :: 5 :: 6 :: 7 :: 8 :: 9 :: 10 :: 11 :: 12 :: 13 :: 15 :: 18 :: 19 :: []) (8 :: []) (0 :: 1 :: 2 :: 3 :: 5 :: 6 :: 7 :: 8 :: 9 :: 4 :: 10 :: 11 :: 12 :: 13 :: 15 :: 14 :: 16 :: 17 :: 18 :: 19 :: []) (by kernel_rfl) (by kernel_rfl) rfl (by kernel_rfl) rfl (P8.out) (by simp only [picked, List.filterMap_cons, List.filterMap_nil, List.getElem?_cons_zero, List.getElem?_cons_succ, Option.map_some]; exact rfl) ?_
      iterate 9
        refine seq_want (v := ?_) rfl rfl (fun W hS => ?_) ?_
        rotate_left
        · first
            | (conv => lhs; simp [go_sem]
               first | done | exact rfl)
            | (have hS := hS rfl
               obtain ⟨u1, u2, u3⟩ := Own.at_ hS
               conv => lhs; simp [go_sem, *]
               first | done | exact rfl)
        simp only [Act.put, List.setIfInBounds_toArray, List.set_cons_zero, List.set_cons_succ]
      refine seq_on rfl rfl fun K hK => ?_
      go_wp2_with (go_at_call 15; refine HLN.out.mono ?_; rintro e w' ⟨rfl, rfl⟩)
      refine hK _ _ P8.out ?_
      clear hK K
      iterate 5
        refine seq_want (v := ?_) rfl rfl (fun W hS => ?_) ?_
        rotate_left
        · conv => lhs; simp [go_sem]
          first | done | exact rfl
        simp only [Act.put, List.setIfInBounds_toArray, List.set_cons_zero, List.set_cons_succ]
      refine seq_on rfl rfl fun K hK => ?_
      go_wp2_with (go_at_call 23; refine HDP.out.mono ?_; rintro e w9 ⟨va, rfl, hra, hb9⟩)
      have D9 := (D8.out.next (w' := w8.drew) (Below.refl _ _).drew).next hb9
      have P9 := P8.out.keep hb9
      have HRD := rdirty_any D9.ref (by have := D8.out.len_le rfl; omega)
      replace HRD := Lib.hid HRD
      replace D9 := Lib.hid D9
      have RA9 := Lib.hid hra
      clear hra hb9
      refine hK _ _ P9 ?_
      clear hK K
      refine seq_on rfl rfl fun K hK => ?_
      go_wp2_with (go_at_call 24; refine HRD.out.mono ?_; rintro e w10 ⟨vb, rfl, hrb, hb10⟩)
      have D10 := D9.out.next hb10
      have ra10 := ownsRow_keepB RA9.out fun g hg => hb10.block g (RA9.out.lt g hg).2
      have hdl : (dirtyR R8).length ≤ 1000000 := by
        have e1 : (dirtyR R8).length ≤ R8.length := by
          unfold dirtyR sortI
          rw [(List.mergeSort_perm _ _).length_eq, List.length_map]
          exact List.length_filter_le _ _
        have := D8.out.len_le rfl
        omega
      have HSM := Lib.hid (rsame_any ra10 hrb hdl)
      have P10 := P9.keep hb10
      replace D10 := Lib.hid D10
      clear hrb hb10 ra10 hdl P9
      refine hK _ _ P10 ?_
      clear hK K
      refine seq_on rfl rfl fun K hK => ?_
      go_wp2_with (go_at_call 22; refine HSM.out.mono ?_; rintro e w11 ⟨rfl, hb11⟩)
      have D11 := Lib.hid (D10.out.next hb11)
      have P11 := P10.keep hb11
      clear hb11
      refine hK _ _ P11 ?_
      clear hK K P11 P10
      iterate 2
        refine seq_want (v := ?_) rfl rfl (fun W hS => ?_) ?_
        rotate_left
        · conv => lhs; simp [go_sem]
          first | done | exact rfl
        simp only [Act.put, List.setIfInBounds_toArray, List.set_cons_zero, List.set_cons_succ]
      refine seq_end ?_
      go_wp2
      go_roundw
      case rel => exact ⟨kk + 1, _, R8, by omega, by go_num, D11.out⟩
      case measure => simp [intOf] <;> omega
    by_cases e5 : R7 = 5
    · subst e5
      have HF := Lib.hid HD0.out.clean_
      go_upto_region 27 with (go_at_call 10; refine HF.out.mono ?_; rintro e w7 ⟨rfl, d7, s7⟩)
      have HG := Lib.hid (d7.rclean (HD0.out.ok.more (kk + 1) (by omega)))
      clear d7 s7
      go_upto_region 31 with (go_at_call 20; refine HG.out.mono ?_; rintro e w8 ⟨rfl, s8, fv8, d8⟩; have D8 := Lib.hid d8; clear d8 s8)
      obtain ⟨R8, hR8⟩ : ∃ R8, R8 = cleanR R := ⟨_, rfl⟩
      rw [← hR8] at D8
      clear hR8
      obtain ⟨fa, fcp, rfl, hf1, hf2, -⟩ := D8.out.ref.slice
      have HLN := len_any (D8.out.next (w' := w8.drew) (Below.refl _ _).drew).pool
      have HDP := dirty_any (D8.out.next (w' := w8.drew) (Below.refl _ _).drew).pool
      have P8 := (D8.out.next (w' := w8.drew) (Below.refl _ _).drew).ref.own
      obtain ⟨L8, hL8⟩ : ∃ L8, L8 = R8.length := ⟨_, rfl⟩
      rw [← hL8] at HLN P8 hf1
      have hL8b : L8 ≤ 65536 := by rw [hL8]; exact D8.out.len_le rfl
      have HL8 := Lib.hid hL8
      replace HLN := Lib.hid HLN
      replace HDP := Lib.hid HDP
      replace P8 := Lib.hid P8
      clear hL8
      unfold maxLen at hf2
      refine wp_region_seq (fun W => Own W rp 39 #[.int .i64 (n : Int), .slice fa L8 fcp]) (0 :: 1 :: 2 :: 3 :: 5 :: 6 :: 7 :: 8 :: 9 :: 10 :: 11 :: 12 :: 13 :: 15 :: 18 :: 19 :: []) (8 :: []) (0 :: 1 :: 2 :: 3 :: 5 :: 6 :: 7 :: 8 :: 9 :: 4 :: 10 :: 11 :: 12 :: 13 :: 15 :: 14 :: 16 :: 17 :: 18 :: 19 :: []) (by kernel_rfl) (by kernel_rfl) rfl (by kernel_rfl) rfl (P8.out) (by simp only [picked, List.filterMap_cons, List.filterMap_nil, List.getElem?_cons_zero, List.getElem?_cons_succ, Option.map_some]; exact rfl) ?_
      iterate 9
        refine seq_want (v := ?_) rfl rfl (fun W hS => ?_) ?_
        rotate_left
        · first
            | (conv => lhs; simp [go_sem]
               first | done | exact rfl)
            | (have hS := hS rfl
               obtain ⟨u1, u2, u3⟩ := Own.at_ hS
               conv => lhs; simp [go_sem, *]
               first | done | exact rfl)
        simp only [Act.put, List.setIfInBounds_toArray, List.set_cons_zero, List.set_cons_succ]
      refine seq_on rfl rfl fun K hK => ?_
      go_wp2_with (go_at_call 15; refine HLN.out.mono ?_; rintro e w' ⟨rfl, rfl⟩)
      refine hK _ _ P8.out ?_
      clear hK K
      iterate 5
        refine seq_want (v := ?_) rfl rfl (fun W hS => ?_) ?_
        rotate_left
        · conv => lhs; simp [go_sem]
          first | done | exact rfl
        simp only [Act.put, List.setIfInBounds_toArray, List.set_cons_zero, List.set_cons_succ]
      refine seq_on rfl rfl fun K hK => ?_
      go_wp2_with (go_at_call 23; refine HDP.out.mono ?_; rintro e w9 ⟨va, rfl, hra, hb9⟩)
      have D9 := (D8.out.next (w' := w8.drew) (Below.refl _ _).drew).next hb9
      have P9 := P8.out.keep hb9
      have HRD := rdirty_any D9.ref (by have := D8.out.len_le rfl; omega)
      replace HRD := Lib.hid HRD
      replace D9 := Lib.hid D9
      have RA9 := Lib.hid hra
      clear hra hb9
      refine hK _ _ P9 ?_
      clear hK K
      refine seq_on rfl rfl fun K hK => ?_
      go_wp2_with (go_at_call 24; refine HRD.out.mono ?_; rintro e w10 ⟨vb, rfl, hrb, hb10⟩)
      have D10 := D9.out.next hb10
      have ra10 := ownsRow_keepB RA9.out fun g hg => hb10.block g (RA9.out.lt g hg).2
      have hdl : (dirtyR R8).length ≤ 1000000 := by
        have e1 : (dirtyR R8).length ≤ R8.length := by
          unfold dirtyR sortI
          rw [(List.mergeSort_perm _ _).length_eq, List.length_map]
          exact List.length_filter_le _ _
        have := D8.out.len_le rfl
        omega
      have HSM := Lib.hid (rsame_any ra10 hrb hdl)
      have P10 := P9.keep hb10
      replace D10 := Lib.hid D10
      clear hrb hb10 ra10 hdl P9
      refine hK _ _ P10 ?_
      clear hK K
      refine seq_on rfl rfl fun K hK => ?_
      go_wp2_with (go_at_call 22; refine HSM.out.mono ?_; rintro e w11 ⟨rfl, hb11⟩)
      have D11 := Lib.hid (D10.out.next hb11)
      have P11 := P10.keep hb11
      clear hb11
      refine hK _ _ P11 ?_
      clear hK K P11 P10
      iterate 2
        refine seq_want (v := ?_) rfl rfl (fun W hS => ?_) ?_
        rotate_left
        · conv => lhs; simp [go_sem]
          first | done | exact rfl
        simp only [Act.put, List.setIfInBounds_toArray, List.set_cons_zero, List.set_cons_succ]
      refine seq_end ?_
      go_wp2
      go_roundw
      case rel => exact ⟨kk + 1, _, R8, by omega, by go_num, D11.out⟩
      case measure => simp [intOf] <;> omega
    by_cases e6 : R7 = 6
    · subst e6
      have HF := Lib.hid HD0.out.drop_
      go_upto_region 30 with (go_at_call 14; refine HF.out.mono ?_; rintro e w7 ⟨rfl, d7, s7⟩)
      have HG := Lib.hid (d7.rdrop (HD0.out.ok.more (kk + 1) (by omega)))
      clear d7 s7
      go_upto_region 31 with (go_at_call 21; refine HG.out.mono ?_; rintro e w8 ⟨rfl, s8, fv8, d8⟩; have D8 := Lib.hid d8; clear d8 s8)
      obtain ⟨R8, hR8⟩ : ∃ R8, R8 = dropR R := ⟨_, rfl⟩
      rw [← hR8] at D8
      clear hR8
      obtain ⟨fa, fcp, rfl, hf1, hf2, -⟩ := D8.out.ref.slice
      have HLN := len_any (D8.out.next (w' := w8.drew) (Below.refl _ _).drew).pool
      have HDP := dirty_any (D8.out.next (w' := w8.drew) (Below.refl _ _).drew).pool
      have P8 := (D8.out.next (w' := w8.drew) (Below.refl _ _).drew).ref.own
      obtain ⟨L8, hL8⟩ : ∃ L8, L8 = R8.length := ⟨_, rfl⟩
      rw [← hL8] at HLN P8 hf1
      have hL8b : L8 ≤ 65536 := by rw [hL8]; exact D8.out.len_le rfl
      have HL8 := Lib.hid hL8
      replace HLN := Lib.hid HLN
      replace HDP := Lib.hid HDP
      replace P8 := Lib.hid P8
      clear hL8
      unfold maxLen at hf2
      refine wp_region_seq (fun W => Own W rp 39 #[.int .i64 (n : Int), .slice fa L8 fcp]) (0 :: 1 :: 2 :: 3 :: 5 :: 6 :: 7 :: 8 :: 9 :: 10 :: 11 :: 12 :: 13 :: 15 :: 18 :: 19 :: []) (8 :: []) (0 :: 1 :: 2 :: 3 :: 5 :: 6 :: 7 :: 8 :: 9 :: 4 :: 10 :: 11 :: 12 :: 13 :: 15 :: 14 :: 16 :: 17 :: 18 :: 19 :: []) (by kernel_rfl) (by kernel_rfl) rfl (by kernel_rfl) rfl (P8.out) (by simp only [picked, List.filterMap_cons, List.filterMap_nil, List.getElem?_cons_zero, List.getElem?_cons_succ, Option.map_some]; exact rfl) ?_
      iterate 9
        refine seq_want (v := ?_) rfl rfl (fun W hS => ?_) ?_
        rotate_left
        · first
            | (conv => lhs; simp [go_sem]
               first | done | exact rfl)
            | (have hS := hS rfl
               obtain ⟨u1, u2, u3⟩ := Own.at_ hS
               conv => lhs; simp [go_sem, *]
               first | done | exact rfl)
        simp only [Act.put, List.setIfInBounds_toArray, List.set_cons_zero, List.set_cons_succ]
      refine seq_on rfl rfl fun K hK => ?_
      go_wp2_with (go_at_call 15; refine HLN.out.mono ?_; rintro e w' ⟨rfl, rfl⟩)
      refine hK _ _ P8.out ?_
      clear hK K
      iterate 5
        refine seq_want (v := ?_) rfl rfl (fun W hS => ?_) ?_
        rotate_left
        · conv => lhs; simp [go_sem]
          first | done | exact rfl
        simp only [Act.put, List.setIfInBounds_toArray, List.set_cons_zero, List.set_cons_succ]
      refine seq_on rfl rfl fun K hK => ?_
      go_wp2_with (go_at_call 23; refine HDP.out.mono ?_; rintro e w9 ⟨va, rfl, hra, hb9⟩)
      have D9 := (D8.out.next (w' := w8.drew) (Below.refl _ _).drew).next hb9
      have P9 := P8.out.keep hb9
      have HRD := rdirty_any D9.ref (by have := D8.out.len_le rfl; omega)
      replace HRD := Lib.hid HRD
      replace D9 := Lib.hid D9
      have RA9 := Lib.hid hra
      clear hra hb9
      refine hK _ _ P9 ?_
      clear hK K
      refine seq_on rfl rfl fun K hK => ?_
      go_wp2_with (go_at_call 24; refine HRD.out.mono ?_; rintro e w10 ⟨vb, rfl, hrb, hb10⟩)
      have D10 := D9.out.next hb10
      have ra10 := ownsRow_keepB RA9.out fun g hg => hb10.block g (RA9.out.lt g hg).2
      have hdl : (dirtyR R8).length ≤ 1000000 := by
        have e1 : (dirtyR R8).length ≤ R8.length := by
          unfold dirtyR sortI
          rw [(List.mergeSort_perm _ _).length_eq, List.length_map]
          exact List.length_filter_le _ _
        have := D8.out.len_le rfl
        omega
      have HSM := Lib.hid (rsame_any ra10 hrb hdl)
      have P10 := P9.keep hb10
      replace D10 := Lib.hid D10
      clear hrb hb10 ra10 hdl P9
      refine hK _ _ P10 ?_
      clear hK K
      refine seq_on rfl rfl fun K hK => ?_
      go_wp2_with (go_at_call 22; refine HSM.out.mono ?_; rintro e w11 ⟨rfl, hb11⟩)
      have D11 := Lib.hid (D10.out.next hb11)
      have P11 := P10.keep hb11
      clear hb11
      refine hK _ _ P11 ?_
      clear hK K P11 P10
      iterate 2
        refine seq_want (v := ?_) rfl rfl (fun W hS => ?_) ?_
        rotate_left
        · conv => lhs; simp [go_sem]
          first | done | exact rfl
        simp only [Act.put, List.setIfInBounds_toArray, List.set_cons_zero, List.set_cons_succ]
      refine seq_end ?_
      go_wp2
      go_roundw
      case rel => exact ⟨kk + 1, _, R8, by omega, by go_num, D11.out⟩
      case measure => simp [intOf] <;> omega
    omega

set_option maxRecDepth 100000 in
theorem lifted (os : Os) (started : os.Started) (H : Type) (enc : TypeId × Value → H) :
    ReturnsInHanded {} Try.checked os 4 .any (Rows.poolPlaysSpec.pre6 enc Try.prog Try.f4 Rows.poolPlaysRow.domain false) (Rows.poolPlaysSpec.post enc Try.prog Try.f4 false true false false) := by
  refine returnsInHanded_of_change_sized (C := Try.checked) own started (by kernel_rfl) Try.func4
    (ChangeSpec.witness6 (enc := enc) (C := Try.checked) false ⟨#[], #[.int .i64 0, .slice none 0 0], []⟩ 8 (by kernel_rfl) (by kernel_rfl) (by kernel_rfl) (by kernel_rfl)) ?_
  intro W base args ds gs before hval0 hW hcnd hwt _
  have hval : ∀ (j : Nat) t v, Try.f4.params[j]? = some t → args[j]? = some v → Value.okWide Try.prog W .any base t v := hval0
  have hW' := hW
  obtain ⟨p, q, hA0, hV, rfl, hfz, hnd⟩ := hW
  have hA : DataW.TrodAll enc Try.prog W 0 (fun _ => true) true Try.f4.params.toList args.toList ds p := hA0
  rw [Try.params4] at hA hval
  obtain ⟨v0, vs0, d0, ds0, p0, q0, hargs, rfl, rfl, h0, r0⟩ := trodAll_cons hA
  obtain ⟨v1, vs1, d1, ds1, p1, q1, rfl, rfl, rfl, h1, r1⟩ := trodAll_cons r0
  obtain ⟨rfl, rfl, rfl⟩ := trodAll_nil r1
  obtain rfl : args = #[v0, v1] := by cases args; simp_all
  obtain ⟨rfl, rfl⟩ := trodVars_none hV
  obtain ⟨a0, rfl, rfl, rfl, w0⟩ := open_int Try.underlying3 (hval 0 3 v0 rfl rfl) h0
  have k1 := h1
  have lt1 : ∀ x ∈ p1, x.block < W.heap.size := by obtain ⟨m, hm⟩ := k1; exact DataW.trod_lt m _ _ _ hm
  have wt1 : ∀ q ∈ d1.weights Try.prog 22, q ≤ reachBytes := fun q hq => by have := List.all_eq_true.1 hwt q (DataW.weights_mem_each (j := 1) rfl rfl q hq); simpa using this
  obtain ⟨a1, len1, cap1, rfl⟩ := okWide_slice Try.underlying22 (hval 1 22 v1 rfl rfl)
  obtain ⟨z1, w1⟩ : ∃ z, IsActs W a1 len1 cap1 z := by
    obtain ⟨fuel, hf⟩ := h1
    obtain ⟨a, l, c, z, e, hz⟩ := open_acts hf wt1
    simp [Value.cells] at e
    obtain ⟨rfl, rfl, rfl⟩ := e
    exact ⟨z, hz⟩
  clear hA0 hval0
  refine (walk a0 a1 len1 cap1 z1 W w0 w1).mono fun e W' ⟨he, bel⟩ => ?_
  subst he
  exact ⟨_, rfl, _, _, _, [], _, [], hW', trodAll_mk1 (shut_bool Try.underlying4 _), (trodAll_cons_mk (shut_int Try.underlying3 w0) (trodAll_cons_mk (Below.trod laidOut (by kernel_rfl) (of_decide_eq_true (by kernel_rfl)) k1 bel lt1) trodAll_mk0)), rfl, bel.frame _, fun h => by cases h⟩

theorem over : Rows.poolPlaysRow.holds Try.pinned (OpenSpec.ofChange Rows.poolPlaysSpec) :=
  OpenClaim.holds_of_wide 4 Try.f4 rfl rfl rfl rfl rfl rfl rfl ⟨rfl, rfl, rfl, rfl, rfl⟩ rfl rfl rfl rfl rfl (by kernel_rfl) Try.func4 (by kernel_rfl)
    (of_decide_eq_true (by kernel_rfl)) (by unfold Func.isWrapper; first | (rw [if_pos (by decide +kernel)]; kernel_rfl) | (rw [if_neg (by decide +kernel)]; exact ⟨rfl, rfl⟩))
    (fun os started H enc _ => lifted os started H enc)

/-- THE STATEMENT -/
theorem proved : Rows.PoolPlaysSaid := over
#print axioms proved
end Go.Proofs.Ytjncmaaofminkaa.poolPlays
