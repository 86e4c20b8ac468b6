/- For every list of strings: as far as it is looked at (up to 101 parts, each of at most 20000 bytes), the document's examples of layer 2 hold, crc.Sum of the parts is the reference's sum of the text that they are together, and crc.Seal of that text is the reference's: CrcSums answers true.
Conditions: none; every input that can be read is spoken of. -/
import Derived.Test.YtbiphgnbdpojkaaRows
import Derived.Test.YtbiphgnbdpojkaaBase
import Derived.Test.YtbiphgnbdpojkaaCrcT
import Derived.WalkKit
import Derived.ProofKit
import Derived.OpenShut
import Derived.ShutString
import Derived.ChangeOld
import Derived.Below
import Derived.SliceStrings
namespace Go.Proofs.Ytbiphgnbdpojkaa.crcSums
open Go.ChangeShapes Go.WideShapes Go.ChangeAt Go.RowKit
open Go.ChangeMaps (open_string shut_string)
set_option linter.unusedVariables false

theorem strs_of {w : World} {a : Option Addr} {len cap : Nat} {z : List ByteArray} (h : IsStrs w a len cap z) : Strs w a (z.take len) ∧ (z.take len).length = len ∧ (∀ s ∈ z.take len, s.size ≤ maxLen) ∧ len ≤ maxLen := by
  rcases h with ⟨rfl, rfl, rfl, rfl⟩ | ⟨x, rfl, h1, h2, h3, h4, h5⟩
  · exact ⟨Or.inl rfl, rfl, fun s hs => by simp at hs, by unfold maxLen; omega⟩
  · refine ⟨?_, by rw [List.length_take]; omega, fun s hs => h5 s (List.mem_of_mem_take hs), by omega⟩
    by_cases h0 : len = 0
    · subst h0; exact Or.inl rfl
    · obtain ⟨b, off, spot⟩ := x
      have hspot : spot = none := by simpa [Addr.add] using World.cell?_spot (h4 0 (by omega))
      subst hspot
      refine Or.inr ⟨b, off, rfl, fun i hi => ?_⟩
      rw [← Go.WideShapes.add_plain, h4 i (by rw [List.length_take] at hi; omega)]
      rw [List.length_take] at hi
      rw [List.getElem_take, List.getD_eq_getElem?_getD, List.getElem?_eq_getElem (by omega)]
      rfl
theorem strs_below {w w1 : World} {a : Option Addr} {l : List ByteArray} (h : Strs w a l) (hb : Below w.heap.size w w1) : Strs w1 a l := by
  rcases h with h | ⟨b, off, rfl, h⟩
  · exact Or.inl h
  · refine Or.inr ⟨b, off, rfl, fun i hi => ?_⟩
    have := h i hi
    rw [← this]
    exact hb.cell (p := ⟨b, off + i, none⟩) (cell_lt this)
theorem cat_snoc (l : List ByteArray) (k : Nat) (h : k < l.length) : cat (l.take (k + 1)) = cat (l.take k) ++ (l[k]'h).data.toList := by
  unfold cat
  rw [List.take_succ_eq_append_getElem h, List.flatMap_append]
  simp only [List.flatMap_cons, List.flatMap_nil, List.append_nil]

theorem own : ownKnob Try.prog.godebug = none := by kernel_rfl
theorem laidOut : laidOutB Try.prog = true := by kernel_rfl

theorem walk (a0 : Option Addr) (len0 cap0 : Nat) (z0 : List ByteArray) (w : World) (w0 : IsStrs w a0 len0 cap0 z0) :
    Calls Try.prog 5 #[.slice a0 len0 cap0] w fun e w' => e = .returned (.bool true) ∧ Below w.heap.size w w' := by
  obtain ⟨hst, hlen, hsz, hmax⟩ := strs_of w0
  generalize z0.take len0 = L at *
  clear w0
  unfold maxLen at hsz hmax
  subst hlen
  have HST := Lib.hid hst
  clear hst
  go_enter Try.func5, Try.ntmps5
  go_wp2
  go_loop [3, 4] (fun s i => ∃ (k : Nat) (S : ByteArray), k ≤ L.length ∧ i = .int .i64 k ∧ s = .string S ∧ S.size ≤ 40000 ∧ S.data.toList = cat (L.take k)) (fun _ i => L.length - (intOf i).toNat)
  case atStart => exact ⟨0, ⟨#[]⟩, by omega, rfl, rfl, by decide, rfl⟩
  case round =>
    obtain ⟨k, S, hk, rfl, rfl, hS, hc⟩ := hrel
    have HC := Lib.hid hc; clear hc
    by_cases hlt : k < L.length
    · obtain ⟨P, hP⟩ : ∃ P, P = L[k] := ⟨_, rfl⟩
      have hPz : P.size ≤ 9223372036854775807 := by rw [hP]; exact hsz _ (List.getElem_mem hlt)
      rcases HST.out with h0 | ⟨b, off, rfl, hcells⟩
      · subst h0; simp at hlt
      have hcell : w.cell? ⟨b, off + k, none⟩ = some (.string P) := by rw [hP]; exact hcells k hlt
      have HP := Lib.hid hP
      clear hcells hP hsz
      by_cases h1 : 100 < k
      · go_wp2_with (go_at_call 8; refine (awake_any _).mono ?_; rintro e w1 ⟨rfl, hb1⟩)
        go_ret
        exact ⟨rfl, hb1⟩
      · by_cases h2 : 20000 < P.size
        · go_wp2_with (go_at_call 8; refine (awake_any _).mono ?_; rintro e w1 ⟨rfl, hb1⟩)
          go_ret
          exact ⟨rfl, hb1⟩
        · by_cases h3 : 20000 < S.size
          · go_wp2_with (go_at_call 8; refine (awake_any _).mono ?_; rintro e w1 ⟨rfl, hb1⟩)
            go_ret
            exact ⟨rfl, hb1⟩
          · have hsz2 : (S ++ P).size ≤ 40000 := by rw [ByteArray.size_append]; omega
            have hS2 : S.size ≤ 20000 := by omega
            have hP2 : P.size ≤ 20000 := by omega
            have HN := Lib.hid (show (S ++ P).data.toList = cat (L.take (k + 1)) by rw [cat_snoc L k hlt, ByteArray.data_append, Array.toList_append, HC.out, HP.out])
            go_wp2
            go_round
            case rel => exact ⟨k + 1, S ++ P, by omega, by go_num, rfl, hsz2, HN.out⟩
            case measure => simp [intOf]; omega
    · have HL := Lib.hid (show S.data.toList = cat L by rw [HC.out]; congr 1; rw [List.take_of_length_le (by omega)])
      clear HC
      have HSUM := Lib.hid (show ∀ w1, Below w.heap.size w w1 → Calls Try.prog 11 #[.slice a0 L.length cap0] w1 fun e w' => e = .returned (.int .u32 (sumL S.data.toList : Nat)) ∧ w1 = w' from fun w1 hb => by
        rw [HL.out]
        exact sum_any a0 L.length cap0 L w1 rfl hmax hsz (strs_below HST.out hb))
      clear hsz HL HST
      generalize L.length = n at *
      go_wp2_with (first
        | (go_at_call 8; refine (awake_any _).mono ?_; rintro e w1 ⟨rfl, hb1⟩)
        | (go_at_call 11; refine (HSUM.out _ hb1).mono ?_; rintro e w2 ⟨rfl, rfl⟩)
        | (go_at_call 12; refine (rsum_any _ _ (by omega)).mono ?_; rintro e w3 ⟨rfl, hb3⟩)
        | (go_at_call 9; refine (seal_any _ _ (by omega)).mono ?_; rintro e w4 ⟨rfl, hb4⟩)
        | (go_at_call 13; refine (rseal_any _ _ (by omega)).mono ?_; rintro e w5 ⟨rfl, hb5⟩))
      go_ret
      exact ⟨rfl, hb1.trans ((hb3.mono hb1.size).trans ((hb4.mono (Nat.le_trans hb1.size hb3.size)).trans (hb5.mono (Nat.le_trans hb1.size (Nat.le_trans hb3.size hb4.size)))))⟩

set_option maxRecDepth 100000 in
theorem lifted (os : Os) (started : os.Started) (H : Type) (enc : TypeId × Value → H) :
    ReturnsInHanded {} Try.checked os 5 .any (Rows.crcSumsSpec.pre6 enc Try.prog Try.f5 Rows.crcSumsRow.domain false) (Rows.crcSumsSpec.post enc Try.prog Try.f5 false true false false) := by
  refine returnsInHanded_of_change (C := Try.checked) own started (by kernel_rfl) Try.func5
    (ChangeSpec.witness6 (enc := enc) (C := Try.checked) false ⟨#[], #[.slice none 0 0], []⟩ 8 (by kernel_rfl) (by kernel_rfl) (by kernel_rfl) (by kernel_rfl)) ?_
  intro W base args ds gs before hval0 hW hcnd _
  have hval : ∀ (j : Nat) t v, Try.f5.params[j]? = some t → args[j]? = some v → Value.okWide Try.prog W .any base t v := hval0
  have hW' := hW
  obtain ⟨p, q, hA0, hV, rfl, hfz, hnd⟩ := hW
  have hA : DataW.TrodAll enc Try.prog W 0 (fun _ => true) true Try.f5.params.toList args.toList ds p := hA0
  rw [Try.params5] at hA hval
  obtain ⟨v0, vs0, d0, ds0, p0, q0, hargs, rfl, rfl, h0, r0⟩ := trodAll_cons hA
  obtain ⟨rfl, rfl, rfl⟩ := trodAll_nil r0
  obtain rfl : args = #[v0] := by cases args; simp_all
  obtain ⟨rfl, rfl⟩ := trodVars_none hV
  obtain ⟨a0, len0, cap0, rfl⟩ := okWide_slice Try.underlying31 (hval 0 31 v0 rfl rfl)
  have k0 := h0
  have lt0 : ∀ x ∈ p0, x.block < W.heap.size := by obtain ⟨m, hm⟩ := k0; exact DataW.trod_lt m _ _ _ hm
  obtain ⟨z0, w0⟩ : ∃ zs, IsStrs W a0 len0 cap0 zs := by
    obtain ⟨fuel, hf⟩ := h0
    rcases open_strings Try.underlying31 Try.underlying9 (by kernel_rfl) hf with ⟨hcs, _⟩ | ⟨x, l, c, zs, hcs, _, hl, hm, hz, _, hcell, hwz⟩
    · simp [Value.cells] at hcs
      obtain ⟨rfl, rfl, rfl⟩ := hcs
      exact ⟨[], .inl ⟨rfl, rfl, rfl, rfl⟩⟩
    · simp [Value.cells] at hcs
      obtain ⟨rfl, rfl, rfl⟩ := hcs
      exact ⟨zs, .inr ⟨_, rfl, hl, hm, by simpa using hz, hcell, hwz⟩⟩
  clear hA0 hval0
  refine (walk a0 len0 cap0 z0 W w0).mono fun e W' ⟨he, bel⟩ => ?_
  subst he
  exact ⟨_, rfl, _, _, _, [], _, [], hW', trodAll_mk1 (shut_bool Try.underlying4 _), (trodAll_cons_mk (Below.trod laidOut (by kernel_rfl) (of_decide_eq_true (by kernel_rfl)) k0 bel lt0) trodAll_mk0), rfl, bel.frame _, fun h => by cases h⟩

theorem over : Rows.crcSumsRow.holds Try.pinned (OpenSpec.ofChange Rows.crcSumsSpec) :=
  OpenClaim.holds_of_wide 5 Try.f5 rfl rfl rfl rfl rfl rfl rfl ⟨rfl, rfl, rfl, rfl, rfl⟩ rfl rfl rfl rfl rfl (by kernel_rfl) Try.func5 (by kernel_rfl)
    (of_decide_eq_true (by kernel_rfl)) (by unfold Func.isWrapper; first | (rw [if_pos (by decide +kernel)]; kernel_rfl) | (rw [if_neg (by decide +kernel)]; exact ⟨rfl, rfl⟩))
    (fun os started H enc _ => lifted os started H enc)

/-- THE STATEMENT -/
theorem proved : Rows.CrcSumsSaid := over
#print axioms proved
end Go.Proofs.Ytbiphgnbdpojkaa.crcSums
