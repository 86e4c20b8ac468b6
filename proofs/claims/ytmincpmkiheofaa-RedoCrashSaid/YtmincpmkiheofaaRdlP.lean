
/- The contract of the ninth law package's plain, where its answer is grown later. Conditions: slices that stand in memory. -/
import Derived.Test.YtmincpmkiheofaaRdlA
namespace Go.Proofs.Ytmincpmkiheofaa
open Go.ChangeShapes Go.WideShapes Go.ChangeAt Go.RowKit
set_option linter.unusedVariables false
set_option linter.unusedSimpArgs false

set_option maxRecDepth 10000 in
set_option maxHeartbeats 2000000 in
theorem plain_own (w : World) (S : Nat → Prop) (v : Value) (ts : List (Nat × List ByteArray)) (h : TxnsIn w S v ts) (hlen : ts.length ≤ 1000000) :
    Calls Try.prog 13 #[v] w fun e w' => ∃ v', e = .returned v' ∧ TxOwn w' 45 (fun b => S b ∨ w.heap.size ≤ b) v' ts ∧ (∀ g, v'.ownBlock = some g → w.heap.size ≤ g) ∧ Below w.heap.size w w' := by
  obtain ⟨a, cap, rfl, h1, h2, h3⟩ := h.open_
  clear h
  unfold maxLen at h2
  replace h3 := Lib.hid h3
  obtain ⟨n, hn⟩ : ∃ n, n = ts.length := ⟨_, rfl⟩
  rw [← hn] at h1 hlen ⊢
  have N := Lib.hid hn
  clear hn
  go_enter Try.func13, Try.ntmps13
  go_wp2
  go_loopw [3, 4] (fun v i wr => ∃ k : Nat, k ≤ n ∧ i = .int .i64 k ∧ TxOwn wr 45 (fun b => S b ∨ w.heap.size ≤ b) v (ts.take k) ∧ (∀ g, v.ownBlock = some g → w.heap.size ≤ g) ∧ Below w.heap.size w wr) (fun _ i wr => n - (intOf i).toNat)
  case atStart => exact ⟨0, by omega, rfl, TxOwn.nil _ _ _, (by intro g hg; cases hg), Below.refl _ _⟩
  case round =>
    obtain ⟨k, hk, rfl, hO, hV, hL⟩ := hrel
    have hz := hL.size
    by_cases hlt : k < n
    · have hkl : k < ts.length := by rw [← N.out]; exact hlt
      obtain ⟨b, o, rfl, hSb, hbl, hc1, u, hc2, hsu⟩ := h3.out k hkl
      have hk1 : wr.cell? ⟨b, o + k * 2, none⟩ = some (.int .u64 ((ts[k]'hkl).1 : Int)) := keep hL hc1
      have hk2 : wr.cell? ⟨b, o + k * 2 + 1, none⟩ = some u := keep hL hc2
      have htk : ts.take (k + 1) = ts.take k ++ [ts[k]'hkl] := List.take_succ_eq_append_getElem hkl
      have hlk : (ts.take k).length = k := by rw [List.length_take]; omega
      obtain ⟨t, ht⟩ : ∃ t, t = ts[k]'hkl := ⟨_, rfl⟩
      rw [← ht] at hk1 htk hsu
      have hsr := hsu.below hL
      obtain ⟨ua, uc, rfl, hu1, hu2, -⟩ := hsu.open_
      obtain ⟨va, vc, rfl, hv1, hv2⟩ := hO.shape
      rw [hlk] at hv1
      have TK := Lib.hid htk
      have hOk := hO
      obtain ⟨vs, hR⟩ := hOk
      have hrow := hR.row
      rw [hlk] at hrow
      have hstr : StrsIn wr (fun b => (S b ∨ w.heap.size ≤ b) ∧ (Value.slice va (ts.take k).length vc).ownBlock ≠ some b) (.slice ua t.2.length uc) t.2 := by
        have h5 : StrsIn w (fun b => S b ∧ b < w.heap.size) (.slice ua t.2.length uc) t.2 := hsu.mono fun b hb hs => ⟨hs, hb⟩
        refine (h5.below hL).mono fun b hb hs => ⟨.inl hs.1, fun e => ?_⟩
        have := hV b e
        omega
      obtain ⟨i0, hi0, hz0, hz1, hz2⟩ := info_parts info_rtx
      have HR := Lib.hid hR
      have HS := Lib.hid hstr
      have HV := Lib.hid hV
      replace hL := Lib.hid hL
      have HLK := Lib.hid hlk
      have hkn : (k : Int) < n := by omega
      clear hsu hc1 hc2 ht htk hsr hR hstr hV hO hlk
      rw [HLK.out]
      go_upto_region 5 with fail
      refine wp_region_seq (fun W => W.cell? ⟨b, o + k * 2, none⟩ = some (.int .u64 (t.1 : Int)) ∧ W.cell? ⟨b, o + k * 2 + 1, none⟩ = some (.slice ua t.2.length uc)) (0 :: 1 :: 2 :: 3 :: 4 :: 5 :: 6 :: 7 :: 8 :: 9 :: 10 :: 11 :: 14 :: []) (5 :: 10 :: []) (0 :: 1 :: 2 :: 3 :: 4 :: 5 :: 6 :: 7 :: 8 :: 9 :: 10 :: 11 :: 12 :: 13 :: 14 :: []) (by kernel_rfl) (by kernel_rfl) rfl (by kernel_rfl) rfl (⟨hk1, hk2⟩) (by simp only [picked, List.filterMap_cons, List.filterMap_nil, List.getElem?_cons_zero, List.getElem?_cons_succ, Option.map_some]; exact rfl) ?_
      iterate 12
        refine seq_want (v := ?_) rfl rfl (fun W hS => ?_) ?_
        rotate_left
        · first
            | (conv => lhs; simp [go_sem, hkn]
               first | done | exact rfl)
            | (have hS := hS rfl
               obtain ⟨q1, q2⟩ := hS
               conv => lhs; simp [go_sem, *, hkn]
               first | done | exact rfl)
        simp only [Act.put, List.setIfInBounds_toArray, List.set_cons_zero, List.set_cons_succ]
      have zb : b < wr.heap.size := by omega
      refine seq_on rfl rfl fun K hK => ?_
      go_wp2
      obtain ⟨W0, hW0⟩ : ∃ W0, W0 = (wr.alloc (.cells #[.int .u64 (t.1 : Int), .slice ua t.2.length uc] 45)).drew := ⟨_, rfl⟩
      have B0 : Below wr.heap.size wr W0 := hW0 ▸ ((Below.refl _ _).alloc (Nat.le_refl _) _).drew
      have C0 : ∀ j u, [Value.int .u64 (t.1 : Int), .slice ua t.2.length uc][j]? = some u → W0.cell? ((⟨wr.heap.size, 0, none⟩ : Addr).add j) = some u := fun j u hu => hW0 ▸ pair_drawn wr _ _ _ j hu
      have Z0 : W0.heap.size = wr.heap.size + 1 := by rw [hW0]; simp
      have R0 : W0.ownsRow 0 45 2 (.slice va k vc) k (txc (ts.take k) vs) := hW0 ▸ hrow.alloc _
      first
        | rw [← hW0]
        | (rw [show wr.drew.alloc (.cells #[.int .u64 (t.1 : Int), .slice ua t.2.length uc] 45) = W0 from hW0 ▸ rfl])
      clear hW0
      refine hK _ _ ⟨keep B0 hk1, keep B0 hk2⟩ ?_
      clear hK K
      refine seq_on rfl rfl fun K hK => ?_
      go_wp2_with (at_builtin; refine wpList_append_own_at _ rfl _ _ 34 rfl 0 45 i0 (.agg #[.int .u64 0, .slice none 0 0]) 2 32 Try.underlying34 hi0 hz0 hz1 hz2 rfl (by decide) (.slice va k vc) k (txc (ts.take k) vs) rfl R0 ⟨wr.heap.size, 0, none⟩ 1 1 [.int .u64 (t.1 : Int), .slice ua t.2.length uc] rfl rfl C0 ?c2 (by unfold maxLen; omega) (by omega) (Nat.zero_le _) ?_)
      case c2 => intro u hu; simp at hu; rcases hu with rfl | rfl <;> rfl
      intro v' w5 hown hgrow hnil hloc
      clear hnil
      have HRk := HR.out
      have HSk := HS.out
      have HVk := HV.out
      rw [HLK.out] at HRk HSk HVk
      have HP := TxRow.push HRk (t := t) HSk B0 (by rw [HLK.out]; exact hown) hgrow (hloc.imp_right fun h => h.trans (by rw [Z0])) (fun q hq => .inr (by omega))
      obtain ⟨hOwn, hChg⟩ := HP
      have hV5 : ∀ g, v'.ownBlock = some g → w.heap.size ≤ g := fun g hg => by
        rcases hloc with h | h
        · exact HVk g (h ▸ hg)
        · rw [h] at hg; injection hg with hg; omega
      have B5 : Below w.heap.size w w5 := hL.out.trans (hChg.below hz fun q hq => HVk q hq)
      have K5 : ∀ o' v, wr.cell? ⟨b, o', none⟩ = some v → w5.cell? ⟨b, o', none⟩ = some v := fun o' v h => hChg.cell h fun e => by have := HVk _ e; omega
      rw [← TK.out] at hOwn
      obtain ⟨ya, yc, rfl, hy1, hy2⟩ := hOwn.shape
      have hl1 : (ts.take (k + 1)).length = k + 1 := by rw [List.length_take, ← N.out]; omega
      rw [hl1] at hOwn hV5 ⊢
      replace hOwn := Lib.hid hOwn
      replace hV5 := Lib.hid hV5
      replace B5 := Lib.hid B5
      have k5 := Lib.hid (And.intro (K5 _ _ hk1) (K5 _ _ hk2))
      clear hown hgrow hloc hChg HRk HSk HVk K5 hl1 hy1 hy2
      go_wp2
      refine hK _ _ k5.out ?_
      clear hK K
      iterate 1
        refine seq_want (v := ?_) rfl rfl (fun W hS => ?_) ?_
        rotate_left
        · conv => lhs; simp [go_sem]
          first | done | exact rfl
        simp only [Act.put, List.setIfInBounds_toArray, List.set_cons_zero, List.set_cons_succ]
      refine seq_end ?_
      go_wp2
      go_roundw
      case rel => exact ⟨k + 1, by omega, by go_num, hOwn.out, hV5.out, B5.out⟩
      case measure => simp [intOf]; omega
    · obtain rfl : k = n := by omega
      rw [N.out, List.take_length] at hO
      have HO := Lib.hid hO
      have HV := Lib.hid hV
      clear hO hV
      go_wp2
      go_ret
      exact ⟨_, rfl, HO.out, HV.out, hL⟩
end Go.Proofs.Ytmincpmkiheofaa
