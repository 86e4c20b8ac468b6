/- merged: The contracts of (*strings.Builder).copyCheck and WriteString, in a program whose copyCheck has no text for a builder that was copied. Conditions: a builder of the call's own, the length within Go's own limit. The contracts of redo.arePages, gather. Conditions: a slice of strings that stands in memory; nine strings of 64 bytes for gather. -/
import Derived.Test.YtgfccjijbhoefaaGreatDoorPagD
import Derived.Test.YtgfccjijbhoefaaGreatDoorShelf
import Derived.Lib.Builder
import Derived.KernelRfl
import Derived.Laws.Entries
import Derived.WalkLawsBesides
import Derived.Test.YtgfccjijbhoefaaGreatDoorRdoA
section
namespace Go.Proofs.YtgfccjijbhoefaaGreatDoor
open Go.ChangeShapes Go.WideShapes Go.ChangeAt Go.RowKit
set_option linter.unusedVariables false
set_option linter.unusedSimpArgs false

/-- a builder's type, a byte's -/
abbrev tB : TypeId := 136
abbrev t8 : TypeId := 5
theorem info_bld : (Tryz.prog.info? tB).map (·.size) = some 2 := by kernel_rfl
theorem lies_bld : liesAt Tryz.prog Tryz.prog.depth tB (2 / Tryz.prog.cellsOf tB) 0 tB 1 = true := by kernel_rfl
theorem info_byte : (Tryz.prog.info? t8).map (fun i => (i.zero, i.size, i.bytes)) = some (some (.int .u8 0), 1, 1) := by kernel_rfl
theorem bld_ne : tB ≠ t8 := by decide

set_option maxHeartbeats 1000000 in
set_option maxRecDepth 100000 in
theorem ck_any (B b : Nat) (bs : List Value) (w : World) (h : Lib.IsBuilder tB t8 B b bs w) :
    Calls Tryz.prog 132 #[.pointer (some ⟨b, 0, none⟩)] w fun e w' => e = .returned (.tuple #[]) ∧ Lib.BuilderAt tB t8 B b (.pointer (some ⟨b, 0, none⟩)) bs w' ∧ Below B w w' := by
  obtain ⟨j, hj, hjs⟩ := Option.map_eq_some_iff.1 info_bld
  rcases h with h | h
  · have h0 := h.cell0
    have hsh := h.shape
    have hfz := h.frozen0
    have H := Lib.hid h
    clear h
    go_enter Tryz.func132, Tryz.ntmps132
    go_wp2
    rw [Lib.run_to_unsafe w ⟨b, 0, none⟩ Tryz.underlying134 Tryz.underlying210 hj (by rw [hjs]; decide) hsh (Nat.zero_lt_succ 1)]
    simp only [Result.andThen]
    rw [Oper.upon_value]
    go_wp2
    rw [run_callFunc_extern Tryz.func160 (by kernel_rfl) (by kernel_rfl) (by kernel_rfl) (e := Extern.AbiNoEscape.same) (by kernel_rfl)]
    rw [Lib.run_noEscape]
    simp only [Result.andThen]
    rw [Oper.upon_value]
    go_wp2
    rw [Lib.run_from_unsafe w ⟨b, 0, none⟩ Tryz.underlying210 Tryz.underlying134 hj hsh lies_bld]
    simp only [Result.andThen]
    rw [Oper.upon_value]
    go_wp2
    go_end0
    exact ⟨rfl, H.out.used _, (Below.refl B w).setCell (p := ⟨b, 0, none⟩) H.out.1 _⟩
  · have h0 := h.cell0
    have H := Lib.hid h
    clear h
    go_enter Tryz.func132, Tryz.ntmps132
    go_wp2
    rw [Lib.run_neq_ptr_same w _ Tryz.underlying134 hj]
    go_wp2
    go_end0
    exact ⟨rfl, H.out, Below.refl B _⟩

set_option maxHeartbeats 2000000 in
set_option maxRecDepth 100000 in
theorem wstr_any (B b : Nat) (bs : List Value) (s : ByteArray) (w : World) (h : Lib.IsBuilder tB t8 B b bs w) (hlen : bs.length + s.size ≤ 1000000000) (hBw : B ≤ w.heap.size) :
    Calls Tryz.prog 86 #[.pointer (some ⟨b, 0, none⟩), .string s] w fun e w' => e = .returned (.tuple #[.int .i64 s.size, .nilIface]) ∧ Lib.BuilderAt tB t8 B b (.pointer (some ⟨b, 0, none⟩)) (bs ++ Lib.strCells s) w' ∧ Below B w w' := by
  obtain ⟨i0, hi, hz0, hz1, hz2⟩ := info_parts info_byte
  have HC := Lib.hid (ck_any B b bs w h)
  clear h
  go_enter Tryz.func86, Tryz.ntmps86
  go_wp2_with (go_at_call 132; refine HC.out.mono ?_)
  rintro e w1 ⟨rfl, ⟨hB, v, hbk, hown, hne⟩, hb1⟩
  have c0 : w1.cell? ⟨b, 0, none⟩ = some (.pointer (some ⟨b, 0, none⟩)) := by rw [Lib.cell_of_heap hbk]; rfl
  have c1 : w1.cell? ⟨b, 1, none⟩ = some v := by rw [Lib.cell_of_heap hbk]; rfl
  go_wp2_with (at_builtin; refine Lib.wpList_append_own_string _ rfl _ _ 78 9 rfl B t8 i0 Tryz.underlying78 Tryz.underlying9 hi hz0 hz1 hz2 _ _ _ rfl hown s rfl ?c3 ?c4 ?c5 ?_)
  case c3 => unfold maxLen; omega
  case c4 => omega
  case c5 => have := hb1.size; omega
  intro v' w2 hown' hgrow _
  have hlt : b < w1.heap.size := Lib.BuilderAt.lt ⟨hB, v, hbk, hown, hne⟩
  have hb2 : w2.heap[b]? = some (.cells #[.pointer (some ⟨b, 0, none⟩), v] tB (0, 0)) := (hgrow.block b hlt fun e => hne e.symm).trans hbk
  have d0 : w2.cell? ⟨b, 0, none⟩ = some (.pointer (some ⟨b, 0, none⟩)) := by rw [Lib.cell_of_heap hb2]; rfl
  have d1 : w2.cell? ⟨b, 1, none⟩ = some v := by rw [Lib.cell_of_heap hb2]; rfl
  have f1 : w2.frozen? ⟨b, 1, none⟩ = false := Lib.frozen_of_heap hb2 1
  obtain ⟨ao, n', cap, rfl⟩ : ∃ ao n' cap, v' = .slice ao n' cap := by
    rcases hown'.2 with ⟨hv, _⟩ | ⟨g, cap, cur, hv, _⟩ <;> exact ⟨_, _, _, hv⟩
  go_wp2
  go_ret2
  exact ⟨rfl, Lib.BuilderAt.put (T := tB) (e := t8) hB hb2 (bs' := bs ++ Lib.strCells s) (by simpa [Lib.strCells_length] using hown') bld_ne,
    (hb1.grown hgrow (by have := hb1.size; omega) (fun k hk => (hown.lt k hk).1)).setCell (p := ⟨b, 1, none⟩) hB _⟩
end Go.Proofs.YtgfccjijbhoefaaGreatDoor
end
section
namespace Go.Proofs.YtgfccjijbhoefaaGreatDoor
open Go.ChangeShapes Go.WideShapes Go.ChangeAt Go.RowKit
set_option linter.unusedVariables false
set_option linter.unusedSimpArgs false

/-- pages, one at least -/
def arePg (l : List ByteArray) : Bool := decide (l ≠ [] ∧ ∀ s ∈ l, s.size = 512)
set_option maxRecDepth 10000 in
theorem are_any (w : World) (S : Nat → Prop) (v : Value) (l : List ByteArray) (h : StrsIn w S v l) :
    Calls Tryz.prog 187 #[v] w fun e w' => e = .returned (.bool (arePg l)) ∧ w = w' := by
  obtain ⟨a, cap, rfl, h1, h2, h3⟩ := h.open_
  clear h
  unfold maxLen at h2
  replace h3 := Lib.hid h3
  obtain ⟨n, hn⟩ : ∃ n, l.length = n := ⟨_, rfl⟩
  rw [hn] at h1 ⊢
  have N := Lib.hid hn
  clear hn
  go_enter Tryz.func187, Tryz.ntmps187
  go_wp2
  go_loop [7] (fun i => ∃ k : Nat, k ≤ n ∧ i = .int .i64 k ∧ ∀ j (hj : j < l.length), j < k → (l[j]'hj).size = 512) (fun i => n - (intOf i).toNat)
  case atStart => exact ⟨0, by omega, rfl, fun j _ h => by omega⟩
  case round =>
    obtain ⟨k, hk, rfl, hA⟩ := hrel
    replace hA := Lib.hid hA
    by_cases hlt : k < n
    · have hkl : k < l.length := by rw [N.out]; exact hlt
      obtain ⟨hz, b, o, rfl, -, -, hc⟩ := h3.out k hkl
      unfold maxLen at hz
      have HE := Lib.hid (rfl : l[k]'hkl = l[k]'hkl)
      obtain ⟨s, hs⟩ : ∃ s, s = l[k]'hkl := ⟨_, rfl⟩
      rw [← hs] at hc hz
      have HS := Lib.hid hs
      clear hs
      by_cases c : s.size = 512
      · have c2 : ((s.size : Int) != 512) = false := by simp; omega
        have C := Lib.hid c
        clear c
        go_wp2
        go_round
        case rel =>
          refine ⟨k + 1, by omega, by go_num, fun j hj hjk => ?_⟩
          by_cases e : j = k
          · subst e; rw [← HS.out]; exact C.out
          · exact hA.out j hj (by omega)
        case measure => simp [intOf]; omega
      · have c2 : ((s.size : Int) != 512) = true := by rw [bne_iff_ne]; omega
        have C := Lib.hid c
        clear c
        go_wp2
        go_ret
        refine ⟨retb_eq ?_, rfl⟩
        unfold arePg
        exact (decide_eq_false fun hh => C.out (HS.out ▸ hh.2 _ (List.getElem_mem hkl))).symm
    · obtain rfl : k = n := by omega
      go_wp2
      go_ret
      refine ⟨retb_eq ?_, rfl⟩
      unfold arePg
      have e : (l ≠ [] ∧ ∀ s ∈ l, s.size = 512) ↔ 0 < k := by
        constructor
        · intro hh
          have := List.length_pos_iff.2 hh.1
          rw [N.out] at this
          exact this
        · intro hh
          refine ⟨fun e => ?_, fun s hs => ?_⟩
          · have := N.out; rw [e] at this; simp at this; omega
          · obtain ⟨j, hj, rfl⟩ := List.mem_iff_getElem.1 hs
            exact hA.out j hj (by have := N.out; omega)
      simp only [e]

theorem cat_snoc (f : Nat → ByteArray) (k : Nat) : catL ((List.range (k + 1)).map f) = catL ((List.range k).map f) ++ (stripB (f k)).data.toList := by
  simp [catL, List.range_succ]
theorem cat_len (f : Nat → ByteArray) (hf : ∀ i, i < 9 → (f i).size = 64) (k : Nat) (hk : k ≤ 9) : (catL ((List.range k).map f)).length = k * 63 := by
  rw [catL_len _ fun s hs => ?_]
  · simp
  · obtain ⟨i, hi, rfl⟩ := List.mem_map.1 hs
    exact hf i (by have := List.mem_range.1 hi; omega)
set_option maxRecDepth 10000 in
set_option maxHeartbeats 1000000 in
theorem gather_any (w : World) (b : Nat) (f : Nat → ByteArray) (ho : Own w b 9 (rowS 9 f 9)) (hf : ∀ i, i < 9 → (f i).size = 64) :
    Calls Tryz.prog 146 #[.slice (some ⟨b, 0, none⟩) 9 9] w fun e w' => e = .returned (.tuple #[.string (gatP ((List.range 9).map f)), .bool (isPg ((List.range 9).map f))]) ∧ Below w.heap.size w w' := by
  have HO := Lib.hid ho
  have HF := Lib.hid hf
  have HB := Lib.hid (Lib.fresh_isBuilder tB t8 w)
  have B0 := (Below.refl w.heap.size w).alloc (Nat.le_refl _) (.cells #[.pointer none, .slice none 0 0] tB)
  have hb := ho.in_
  clear ho hf
  go_enter Tryz.func146, Tryz.ntmps146
  go_wp2
  go_loopw [10] (fun i wr => ∃ k : Nat, k ≤ 9 ∧ i = .int .i64 k ∧ Lib.IsBuilder tB t8 w.heap.size w.heap.size (Lib.byteCells (catL ((List.range k).map f))) wr ∧ Below w.heap.size w wr) (fun i wr => 9 - (intOf i).toNat)
  case atStart => exact ⟨0, by omega, rfl, HB.out, B0⟩
  case round =>
    obtain ⟨k, hk, rfl, hI, hL⟩ := hrel
    have zL := hL.size
    have O1 := HO.out.keep hL
    obtain ⟨c1, c2, c3⟩ := O1.at_
    replace O1 := Lib.hid O1
    replace hI := Lib.hid hI
    replace hL := Lib.hid hL
    by_cases hlt : k < 9
    · have hck : wr.cell? ⟨b, k, none⟩ = some (.string (f k)) := by
        rw [c1 k, rowS_get 9 _ 9 k hlt, if_pos hlt]
      have zX := HF.out k hlt
      obtain ⟨X, hX⟩ : ∃ X, X = f k := ⟨_, rfl⟩
      rw [← hX] at hck zX
      have HX := Lib.hid hX
      have x1 : (10 : Int) ≤ X.size := by omega
      have x2 : (11 : Int) ≤ X.size := by omega
      have x3 : ¬ (9223372036854775807 < min 10 X.size + (X.size - 11)) := by omega
      have zS := stripB_size X zX
      have SX := Lib.hid (show X.extract 0 10 ++ X.extract 11 X.size = stripB X from rfl)
      have ZX := Lib.hid zX
      have ZS := Lib.hid zS
      clear c1 c2 c3 hX zX zS
      go_upto_region 5 with fail
      refine wp_region_seq (fun W => True) (0 :: 1 :: 2 :: 3 :: 4 :: []) ([]) (0 :: 1 :: 2 :: 3 :: 4 :: 5 :: []) (by kernel_rfl) (by kernel_rfl) rfl (by kernel_rfl) rfl (trivial) (by simp only [picked, List.filterMap_cons, List.filterMap_nil, List.getElem?_cons_zero, List.getElem?_cons_succ, Option.map_some]; exact rfl) ?_
      iterate 5
        refine seq_want (v := ?_) rfl rfl (fun W hS => ?_) ?_
        rotate_left
        · conv => lhs; simp [go_sem, x1, x2, x3]
          first | done | exact rfl
        simp only [Act.put, List.setIfInBounds_toArray, List.set_cons_zero, List.set_cons_succ]
      refine seq_last rfl rfl (by kernel_rfl) rfl fun K hK => ?_
      rw [SX.out]
      go_wp2_with fail
      have hlen := cat_len f HF.out k hk
      have HI2 : Lib.IsBuilder tB t8 w.heap.size w.heap.size (Lib.byteCells (catL ((List.range k).map f))) wr.drew := hI.out
      refine (wstr_any _ _ _ (stripB X) wr.drew HI2 (by rw [Lib.byteCells_length, hlen, ZS.out]; omega) zL).mono ?_
      rintro e w2 ⟨rfl, hBa, hb2⟩
      have hI3 : Lib.IsBuilder tB t8 w.heap.size w.heap.size (Lib.byteCells (catL ((List.range (k + 1)).map f))) w2 := by
        rw [cat_snoc, ← HX.out]
        have : Lib.byteCells (catL ((List.range k).map f) ++ (stripB X).data.toList) = Lib.byteCells (catL ((List.range k).map f)) ++ Lib.strCells (stripB X) := by simp [Lib.byteCells, Lib.strCells]
        rw [this]
        exact .inr hBa
      replace hI3 := Lib.hid hI3
      have hL2 := Lib.hid (hL.out.drew.trans hb2)
      clear hBa hb2 HI2 hlen
      go_wp2
      refine hK _ _ ?_
      clear hK K
      refine seq_end ?_
      go_wp2
      go_roundw
      case rel => exact ⟨k + 1, by omega, by go_num, hI3.out, hL2.out⟩
      case measure => simp [intOf]; omega
    · obtain rfl : k = 9 := by omega
      clear c1 c2 c3
      have hlen := cat_len f HF.out 9 (by omega)
      have hS := Tryz.Builder_String_any w.heap.size w.heap.size _ wr hI.out zL
      obtain ⟨T, hT⟩ : ∃ T : ByteArray, T = ⟨(catL ((List.range 9).map f)).toArray⟩ := ⟨_, rfl⟩
      have hTz : T.size = 567 := by rw [hT, mk_size, hlen]
      have hG : T.extract 0 512 = gatP ((List.range 9).map f) := by rw [hT]; rfl
      rw [← hT] at hS
      obtain ⟨ss, hss⟩ : ∃ ss, ss = (List.range 9).map f := ⟨_, rfl⟩
      rw [← hss] at hG
      have hGs : (gatP ss).size = 512 := by rw [← hG, ByteArray.size_extract]; omega
      obtain ⟨P, hP⟩ : ∃ P, P = gatP ss := ⟨_, rfl⟩
      rw [← hP] at hG hGs
      have x1 : (512 : Int) ≤ T.size := by omega
      have HG := Lib.hid hG
      have HSS := Lib.hid hss
      have HP := Lib.hid hP
      have HSP := Lib.hid (fun w => spread_any P w (by omega))
      clear hT hTz hG hP hGs hlen hss
      have HS := Lib.hid hS
      clear hS
      go_upto_region 8 with (go_at_call 88; refine HS.out.mono ?_; rintro e w2 ⟨rfl, hb2⟩)
      rw [HG.out]
      have hL2 := Lib.hid (hL.out.trans hb2)
      clear hb2
      go_wp2_with fail
      refine (HSP.out w2).mono ?_
      rintro e w3 ⟨b3, rfl, o3, z3, hb3⟩
      have hL3 := Lib.hid (then_ hL2.out hb3 hL2.out.size)
      have O3 := (HO.out.keep hL3.out).at_.1
      have O4 := o3.at_.1
      clear hb3 o3 z3
      have cx : ∀ j, j < (secs P).length → w3.cell? ⟨b3, 0 + j, none⟩ = some (.string ((secs P).getD j ByteArray.empty)) := fun j hj => by
        have hj9 : j < 9 := by simpa [secs] using hj
        rw [Nat.zero_add, O4 j, rowS_get 9 _ 9 j hj9, if_pos hj9]
        simp [secs, hj9]
      have cy : ∀ j, j < ss.length → w3.cell? ⟨b, 0 + j, none⟩ = some (.string (ss.getD j ByteArray.empty)) := fun j hj => by
        rw [HSS.out] at hj ⊢
        have hj9 : j < 9 := by simpa using hj
        rw [Nat.zero_add, O3 j, rowS_get 9 _ 9 j hj9, if_pos hj9]
        simp [hj9]
      have l1 : (secs P).length = 9 := by simp [secs]
      have l2 : ss.length = 9 := by rw [HSS.out]; simp
      have HQ := Tryz.slices_Equal_string b3 0 9 9 b 0 9 9 (secs P) ss w3 (by omega) (by omega) (by omega) (by omega) cx cy
      have e1 : decide ((secs P).take 9 = ss.take 9) = isPg ss := by
        rw [List.take_of_length_le (by omega), List.take_of_length_le (by omega)]
        unfold isPg
        rw [← HP.out]
      rw [e1] at HQ
      replace HQ := Lib.hid HQ
      clear cx cy O3 O4 e1 l1 l2
      go_wp2_with fail
      refine HQ.out.mono ?_
      rintro e w4 ⟨rfl, q, rfl⟩
      go_wp2
      go_ret2
      exact ⟨by rw [← HSS.out, ← HP.out]; rfl, below_drewN hL3.out q⟩
end Go.Proofs.YtgfccjijbhoefaaGreatDoor
end
