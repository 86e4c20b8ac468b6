
/- The contracts of redo.sectorsOf, markOf, spread, arePages. Conditions: the arguments' own ranges; pages of at most 567 bytes for spread. -/
import Derived.Test.YtmincpmkiheofaaRdoM
import Derived.Test.YtmincpmkiheofaaStrs
import Derived.Test.YtmincpmkiheofaaStrR
import Derived.Test.YtmincpmkiheofaaMarA
import Derived.Test.YtmincpmkiheofaaSeq
namespace Go.Proofs.Ytmincpmkiheofaa
open Go.ChangeShapes Go.WideShapes Go.ChangeAt Go.RowKit
set_option linter.unusedVariables false
set_option linter.unusedSimpArgs false

theorem rep_any (k : Nat) (w : World) (hk : k ≤ 1000) :
    Calls Try.prog 62 #[.string ⟨#[0]⟩, .int .i64 k] w fun e w' => e = .returned (.string (zB k)) ∧ Below w.heap.size w w' := by
  have h := Try.strings_Repeat ⟨#[0]⟩ k w (by omega) (by show 1 * k ≤ _; omega)
  rw [show Lib.repeatL (⟨#[0]⟩ : ByteArray).data.toList k = List.replicate k 0 from zB_eq k] at h
  exact h
theorem sof_any (n : Nat) (w : World) (hn : n ≤ 1000000000000) :
    Calls Try.prog 35 #[.int .i64 n] w fun e w' => e = .returned (.int .i64 (1 + 9 * n : Nat)) ∧ w = w' := by
  go_enter Try.func35, Try.ntmps35
  go_wp2
  go_ret
  exact ⟨ret_eq (by omega), rfl⟩
theorem mof_any (seq n : Nat) (w : World) (hs : seq ≤ 18446744073709551615) (hn : n ≤ 65535) :
    Calls Try.prog 49 #[.int .u64 seq, .int .i64 n] w fun e w' => e = .returned (.string (markB seq n)) ∧ Below w.heap.size w w' := by
  have HP := Lib.hid (fun w => put_yes n 2 w (by omega) (by omega))
  have HM := Lib.hid (fun w => mput_yes seq (cntB n) w hs (by rw [cntB_size]; omega))
  have HE : ((⟨(putL n 2).toArray⟩ : ByteArray) ++ ⟨#[1]⟩) = cntB n := rfl
  have HQ : mkB seq (cntB n) = markB seq n := rfl
  rw [HQ] at HM
  have z : (⟨(putL n 2).toArray⟩ : ByteArray).size ≤ 2 := by show (putL n 2).toArray.size ≤ 2; simp [putL]
  have hw : IntKind.u64.wrap (n : Int) = n := IntWalk.u64_in _ (by omega)
  clear HQ
  generalize (⟨(putL n 2).toArray⟩ : ByteArray) = P at *
  generalize markB seq n = M at *
  generalize cntB n = C at *
  go_enter Try.func49, Try.ntmps49
  go_wp2_with (first | (go_at_call 65; refine (HP.out _).mono ?_; rintro e w1 ⟨rfl, rfl⟩) | (go_at_call 64; refine (HM.out _).mono ?_; rintro e w2 ⟨rfl, hb⟩))
  go_ret
  exact ⟨rfl, ((Below.refl _ _).alloc (Nat.le_refl _) _).trans (hb.mono (by simp))⟩

set_option maxRecDepth 10000 in
theorem spread_any (p : ByteArray) (w : World) (hp : p.size ≤ 567) :
    Calls Try.prog 47 #[.string p] w fun e w' => ∃ b, e = .returned (.slice (some ⟨b, 0, none⟩) 9 9) ∧ Own w' b 9 (rowS 9 (secB p) 9) ∧ w.heap.size ≤ b ∧ Below w.heap.size w w' := by
  have HR := Lib.hid (fun w => rep_any (567 - p.size) w (by omega))
  have e1 : ((567 - p.size : Nat) : Int) = 567 - (p.size : Int) := by omega
  rw [e1] at HR
  clear e1
  have HE := Lib.hid (show p ++ zB (567 - p.size) = restB p from rfl)
  have hz := restB_size p hp
  have hZ : (zB (567 - p.size)).size ≤ 567 := by rw [zB_size]; omega
  have HS := Lib.hid (fun k => show secB p k = layB ((restB p).extract (k * 63) ((k + 1) * 63)) from rfl)
  generalize zB (567 - p.size) = Z at *
  generalize restB p = R at *
  have hz := Lib.hid hz
  go_enter Try.func47, Try.ntmps47
  go_upto_region 2 with (go_at_call 62; with_reducible refine (HR.out _).mono ?_; rintro e w1 ⟨rfl, hb1⟩)
  have HM : (Instr.makeSlice 35 (.int .i64 9) (.int .i64 9)).run Try.prog w1 = .ok (.slice (some ⟨w1.heap.size, 0, none⟩) 9 9) (w1.alloc (.cells (rowS 9 (secB p) 0) 9)) := make_strs 9 (by omega) (secB p) w1
  have HO := Own.made w1 9 (rowS 9 (secB p) 0)
  obtain ⟨W0, hW0⟩ : ∃ W0, W0 = w1.alloc (.cells (rowS 9 (secB p) 0) 9) := ⟨_, rfl⟩
  have L0 : Below w.heap.size w W0 := hW0 ▸ hb1.alloc hb1.size _
  have z1 := hb1.size
  rw [← hW0] at HM HO
  replace HO := Lib.hid HO
  replace L0 := Lib.hid L0
  clear hW0
  rw [HE.out]
  go_wp2
  clear HM
  go_loopw [16] (fun i wr => ∃ k : Nat, k ≤ 9 ∧ i = .int .i64 k ∧ Own wr w1.heap.size 9 (rowS 9 (secB p) k) ∧ Below w.heap.size w wr) (fun i wr => 9 - (intOf i).toNat)
  case atStart => exact ⟨0, by omega, rfl, HO.out, L0.out⟩
  case round =>
    obtain ⟨k, hk, rfl, hO, hL⟩ := hrel
    by_cases hlt : k < 9
    · have hs := hz.out
      obtain ⟨A, hA⟩ : ∃ A : Int, (k : Int) * 63 = A := ⟨_, rfl⟩
      obtain ⟨B, hB⟩ : ∃ B : Int, ((k : Int) + 1) * 63 = B := ⟨_, rfl⟩
      have hsl := run_slice_string (P := Try.prog) wr 9 R .i64 .i64 A B Try.underlying9 (by omega) (by omega) (by omega)
      have e1 : R.extract A.toNat B.toNat = R.extract (k * 63) ((k + 1) * 63) := by rw [show A.toNat = k * 63 by omega, show B.toNat = (k + 1) * 63 by omega]
      rw [e1] at hsl
      have zX : (R.extract (k * 63) ((k + 1) * 63)).size = 63 := by rw [ByteArray.size_extract]; omega
      have hX := HS.out k
      obtain ⟨X, hXe⟩ : ∃ X, X = R.extract (k * 63) ((k + 1) * 63) := ⟨_, rfl⟩
      rw [← hXe] at hsl zX hX
      have zXh := Lib.hid zX
      have HX := Lib.hid hX
      have hsz := hL.size
      obtain ⟨c1, c2, c3⟩ := hO.at_
      have hck : wr.cell? ⟨w1.heap.size, k, none⟩ = some (.string ⟨#[]⟩) := by
        rw [c1 k, rowS_get 9 _ k k hlt, if_neg (by omega)]
      have hfk := c2 k
      replace hO := Lib.hid hO
      replace hL := Lib.hid hL
      clear hs e1 hXe hX c1 c2
      have x1 : (10 : Int) ≤ X.size := by omega
      have x2 : ¬ (9223372036854775807 < min 10 X.size + 1) := by omega
      have x3 : ¬ (9223372036854775807 < min 10 X.size + 1 + (X.size - 10)) := by omega
      have x4 : (k : Int) < 9 := by omega
      clear zX
      go_upto_region 7 with fail
      refine wp_region_seq (fun W => True) (0 :: 1 :: 2 :: 3 :: 4 :: 5 :: 6 :: 7 :: 8 :: []) ([]) (0 :: 1 :: 2 :: 3 :: 4 :: 5 :: 6 :: 7 :: 8 :: 9 :: []) (by kernel_rfl) (by kernel_rfl) rfl (by kernel_rfl) rfl (trivial) (by simp only [picked, List.filterMap_cons, List.filterMap_nil, List.getElem?_cons_zero, List.getElem?_cons_succ, Option.map_some]; exact rfl) ?_
      iterate 9
        refine seq_want (v := ?_) rfl rfl (fun W hS => ?_) ?_
        rotate_left
        · conv => lhs; simp [go_sem, x1, x2, x3, x4]
          first | done | exact rfl
        simp only [Act.put, List.setIfInBounds_toArray, List.set_cons_zero, List.set_cons_succ]
      refine seq_last rfl rfl (by kernel_rfl) rfl fun K hK => ?_
      go_wp2
      refine hK _ _ ?_
      clear hK K
      refine seq_end ?_
      go_wp2
      go_roundw
      case rel =>
        have e : (X.extract 0 10 ++ (⟨#[0]⟩ : ByteArray) ++ X.extract 10 X.size) = secB p k := HX.out.symm
        refine ⟨k + 1, by omega, by go_num, ?_, hL.out.drew.setCell z1 _⟩
        have := hO.out.drawn.put k (.string (secB p k))
        rw [rowS_set 9 (secB p) k hlt, ← e] at this
        exact this
      case measure => simp [intOf]; omega
    · obtain rfl : k = 9 := by omega
      go_wp2
      go_ret
      exact ⟨_, rfl, hO, z1, hL⟩
end Go.Proofs.Ytmincpmkiheofaa
