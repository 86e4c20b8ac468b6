
/- The contracts of the document's disk's New, Read and Write. Conditions: those that each theorem names. -/
import Derived.Test.YtgddogjieemgeaaRfdA
namespace Go.Proofs.Ytgddogjieemgeaa
open Go.ChangeShapes Go.WideShapes Go.ChangeAt Go.RowKit
set_option linter.unusedVariables false
set_option linter.unusedSimpArgs false

theorem sec_extract (L : List UInt8) (i : Nat) : (strOf L).extract (i * 64) (i * 64 + 64) = secOf L i := by
  apply bytes_inj
  rw [ByteArray.data_extract, Array.toList_extract, List.extract_eq_take_drop]
  show _ = (((L.drop ((i : Int).toNat * 64)).take 64).toArray).toList
  simp [strOf]
theorem rnew_any (w : World) (n : Nat) (h1 : 1 ≤ n) (h2 : n ≤ 65536) :
    Calls Try.prog 18 #[.int .i64 n] w fun e w' => ∃ r, e = .returned (.pointer (some ⟨r, 0, none⟩)) ∧ RefAt w' r (.slice none 0 0) n ⟨List.replicate (n * 64) 0, [], -1, false⟩ ∧ Below w.heap.size w w' ∧ w.heap.size ≤ r := by
  have HM := run_make_row' (P := Try.prog) 57 5 (.int .u8 0) 1 Try.underlying57 info_u8 rfl .i64 .i64 (n * 64) (by omega) (by omega) w
  have ec : ((n * 64 : Nat) : Int) = (n : Int) * 64 := by omega
  rw [ec] at HM
  have B0 := noughts w 5 (n * 64)
  obtain ⟨W0, hW0⟩ : ∃ W0, W0 = w.alloc (.cells (madeCells #[.int .u8 0] (n * 64)) 5) := ⟨_, rfl⟩
  have L0 : Below w.heap.size w W0 := hW0 ▸ (Below.refl _ _).alloc (Nat.le_refl _) _
  have z0 : W0.heap.size = w.heap.size + 1 := by rw [hW0]; simp
  rw [← hW0] at HM B0
  have HC := of_bytes Try.prog W0 57 9 5 w.heap.size (n * 64) (List.replicate (n * 64) 0) B0 Try.underlying57 Try.underlying5 Try.underlying9
  rw [List.length_replicate] at HC
  change _ = Result.ok (Value.string (strOf (List.replicate (n * 64) 0))) _ at HC
  obtain ⟨T, hT⟩ : ∃ T, T = strOf (List.replicate (n * 64) 0) := ⟨_, rfl⟩
  rw [← hT] at HC
  replace hT := Lib.hid hT
  replace B0 := Lib.hid B0
  replace L0 := Lib.hid L0
  replace z0 := Lib.hid z0
  clear hW0 ec
  go_enter Try.func18, Try.ntmps18
  go_wp2
  go_ret
  refine ⟨W0.heap.size, rfl, ⟨?_, World.ownsRow_nil _ _ _ _, fun g hg => (by cases hg), ⟨h1, h2, by simp, by simp, by simp, show (Lit.int .i64 (-1)).wf = true from wf_mk (by decide) (by decide)⟩⟩, L0.out.alloc (by have := z0.out; omega) _, by have := z0.out; omega⟩
  rw [← hT.out]
  exact Own.made _ _ _
section
variable {w : World} {r : Nat} {wv : Value} {n : Nat} {s : St}
set_option maxHeartbeats 1000000 in
theorem rread_any (h : RefAt w r wv n s) (i : Int) (hi : (Lit.int .i64 i).wf = true) :
    Calls Try.prog 23 #[.pointer (some ⟨r, 0, none⟩), .int .i64 i] w fun e w' => e = .returned (.tuple #[.string (rres n s i).1, .int .i64 (rres n s i).2]) ∧ w = w' := by
  obtain ⟨hi1, hi2⟩ := wf_i64 hi
  have HL := Lib.hid (rlen_any h)
  have H := Lib.hid h
  obtain ⟨o1, o2, o3⟩ := h.own.at_
  have hl := h.ok.len
  have hmx := h.ok.max
  have hfew := h.ok.few
  obtain ⟨va, vc, hv, hv1, hv2⟩ := h.slice
  subst hv
  clear h hi
  obtain ⟨T, hT⟩ : ∃ T, T = strOf s.sure := ⟨_, rfl⟩
  have hz : T.size = n * 64 := by rw [hT, strOf_size, hl]
  obtain ⟨m, hm⟩ : ∃ m, m = s.wr.length := ⟨_, rfl⟩
  rw [← hT, ← hm] at o1
  rw [← hm] at hv1 hfew
  replace hT := Lib.hid hT
  replace hm := Lib.hid hm
  replace hl := Lib.hid hl
  unfold maxLen at hv2
  by_cases c1 : s.down = true
  · have E := Lib.hid (show rres n s i = (⟨#[]⟩, 11) by simp [rres, c1])
    rw [c1] at o1
    clear c1
    go_enter Try.func23, Try.ntmps23
    go_wp2
    go_ret2
    rw [E.out]
    exact ⟨rfl, rfl⟩
  have c1 : s.down = false := by simpa using c1
  rw [c1] at o1
  by_cases c2 : 0 ≤ i
  rotate_left
  · have E := Lib.hid (show rres n s i = (⟨#[]⟩, 1) by unfold rres; rw [c1, if_neg (by simp), if_pos (by omega)])
    clear c1
    go_enter Try.func23, Try.ntmps23
    go_wp2_with (go_at_call 26; refine HL.out.mono ?_; rintro e w' ⟨rfl, rfl⟩)
    go_ret2
    rw [E.out]
    exact ⟨rfl, rfl⟩
  by_cases c3 : i < n
  rotate_left
  · have E := Lib.hid (show rres n s i = (⟨#[]⟩, 1) by unfold rres; rw [c1, if_neg (by simp), if_pos (by omega)])
    clear c1
    go_enter Try.func23, Try.ntmps23
    go_wp2_with (go_at_call 26; refine HL.out.mono ?_; rintro e w' ⟨rfl, rfl⟩)
    go_ret2
    rw [E.out]
    exact ⟨rfl, rfl⟩
  obtain ⟨k0, rfl⟩ : ∃ k : Nat, i = (k : Int) := ⟨i.toNat, by omega⟩
  have hk : k0 < n := by omega
  have E := Lib.hid (show rres n s k0 = (match lastOf s.wr k0 with | some x => x.2 | none => secOf s.sure k0, 0) by unfold rres; rw [c1, if_neg (by simp), if_neg (by omega)]; rfl)
  have hS : T.extract (k0 * 64) (k0 * 64 + 64) = secOf s.sure k0 := by rw [hT.out]; exact sec_extract _ _
  obtain ⟨X, hX⟩ : ∃ X, X = secOf s.sure k0 := ⟨_, rfl⟩
  rw [← hX] at hS E
  have g1 : (k0 : Int) * 64 + 64 ≤ T.size := by omega
  have g2 : k0 * 64 + 64 ≤ T.size := by omega
  have HSL : (Instr.slice 9 (.string T) (some (.int .i64 ((k0 : Int) * 64))) (some (.int .i64 ((k0 : Int) * 64 + 64))) none).run Try.prog w = .ok (.string X) w := by
    have h := run_slice_string (P := Try.prog) w 9 T .i64 .i64 ((k0 : Int) * 64) ((k0 : Int) * 64 + 64) Try.underlying9 (by omega) (by omega) (by omega)
    rw [h, ← hS]
    have e1 : ((k0 : Int) * 64).toNat = k0 * 64 := by omega
    have e2 : ((k0 : Int) * 64 + 64).toNat = k0 * 64 + 64 := by omega
    rw [e1, e2]
  clear c1 hX hS
  go_enter Try.func23, Try.ntmps23
  go_wp2_with (go_at_call 26; refine HL.out.mono ?_; rintro e w' ⟨rfl, rfl⟩)
  replace HSL := Lib.hid HSL
  go_loop [6, 7] (fun v i => ∃ k : Nat, k ≤ m ∧ i = .int .i64 k ∧ v = .string (match lastOf (s.wr.take k) k0 with | some x => x.2 | none => X)) (fun v i => m - (intOf i).toNat)
  case atStart => exact ⟨0, by omega, rfl, by simp [lastOf]⟩
  case round =>
    obtain ⟨k, hk, rfl, rfl⟩ := hrel
    obtain ⟨Y, hY⟩ : ∃ Y, Y = (match lastOf (s.wr.take k) k0 with | some x => x.2 | none => X) := ⟨_, rfl⟩
    rw [← hY]
    replace hY := Lib.hid hY
    by_cases hlt : k < m
    · obtain ⟨g, c, hg, w1, w2⟩ := H.out.wcell k (by rw [← hm.out]; exact hlt)
      obtain rfl : va = some ⟨g, 0, none⟩ := by simpa using (Value.slice.inj hg).1
      obtain ⟨x, hx⟩ : ∃ x, x = s.wr[k]'(by rw [← hm.out]; exact hlt) := ⟨_, rfl⟩
      rw [← hx] at w1 w2
      have EL : s.wr.take (k + 1) = s.wr.take k ++ [x] := by rw [hx, List.take_succ_eq_append_getElem]
      replace EL := Lib.hid EL
      obtain ⟨x1, x2⟩ := x
      clear hx hg
      simp only at w1 w2
      by_cases e : x1 = k0
      · have t1 : ((x1 : Int) == (k0 : Int)) = true := by rw [beq_iff_eq]; omega
        have e' := Lib.hid e
        clear e
        go_wp2
        go_round
        case rel => exact ⟨k + 1, by omega, by go_num, by rw [EL.out, lastOf_snoc, if_pos (by have := e'.out; omega)]⟩
        case measure => simp [intOf]; omega
      · have t1 : ((x1 : Int) == (k0 : Int)) = false := by rw [beq_eq_false_iff_ne]; omega
        have e' := Lib.hid e
        clear e
        go_wp2
        go_round
        case rel => exact ⟨k + 1, by omega, by go_num, by rw [EL.out, lastOf_snoc, if_neg (by have := e'.out; omega), hY.out]⟩
        case measure => simp [intOf]; omega
    · obtain rfl : k = m := by omega
      have e : s.wr.take k = s.wr := by rw [hm.out, List.take_length]
      rw [e] at hY
      replace e := Lib.hid e
      go_wp2
      go_ret2
      rw [E.out, hY.out]
      exact ⟨rfl, rfl⟩
end
end Go.Proofs.Ytgddogjieemgeaa
