/- merged: The contracts of redo.arePages, gather. Conditions: a slice of strings that stands in memory; nine strings of 64 bytes for gather. A log as it lies in memory; the contracts of Left, Next, Restart, add, count. Conditions: those that each theorem names. -/
import Derived.Test.YtndhmidgnpobjaaGreatDoorTxns
import Derived.Test.YtndhmidgnpobjaaGreatDoorPagD
import Derived.Test.YtndhmidgnpobjaaGreatDoorPgrA
section
namespace Go.Proofs.YtndhmidgnpobjaaGreatDoor
open Go.ChangeShapes Go.WideShapes Go.ChangeAt Go.RowKit
set_option linter.unusedVariables false
set_option linter.unusedSimpArgs false

/-- pages, one at least -/
def arePg (l : List ByteArray) : Bool := decide (l ≠ [] ∧ ∀ s ∈ l, s.size = 512)
set_option maxRecDepth 10000 in
theorem are_any (w : World) (S : Nat → Prop) (v : Value) (l : List ByteArray) (h : StrsIn w S v l) :
    Calls Tryz.prog 243 #[v] w fun e w' => e = .returned (.bool (arePg l)) ∧ w = w' := by
  obtain ⟨a, cap, rfl, h1, h2, h3⟩ := h.open_
  clear h
  unfold maxLen at h2
  replace h3 := Lib.hid h3
  obtain ⟨n, hn⟩ : ∃ n, l.length = n := ⟨_, rfl⟩
  rw [hn] at h1 ⊢
  have N := Lib.hid hn
  clear hn
  go_enter Tryz.func243, Tryz.ntmps243
  go_wp2
  go_loop [7] (fun i => ∃ k : Nat, k ≤ n ∧ i = .int .i64 k ∧ ∀ j (hj : j < l.length), j < k → (l[j]'hj).size = 512) (fun i => n - (intOf i).toNat)
  case atStart => exact ⟨0, by omega, rfl, fun j _ h => by omega⟩
  case round =>
    obtain ⟨k, hk, rfl, hA⟩ := hrel
    replace hA := Lib.hid hA
    by_cases hlt : k < n
    · have hkl : k < l.length := by rw [N.out]; exact hlt
      obtain ⟨hz, b, o, rfl, -, -, hc⟩ := h3.out k hkl
      unfold maxLen at hz
      have HE := Lib.hid (rfl : l[k]'hkl = l[k]'hkl)
      obtain ⟨s, hs⟩ : ∃ s, s = l[k]'hkl := ⟨_, rfl⟩
      rw [← hs] at hc hz
      have HS := Lib.hid hs
      clear hs
      by_cases c : s.size = 512
      · have c2 : ((s.size : Int) != 512) = false := by simp; omega
        have C := Lib.hid c
        clear c
        go_wp2
        go_round
        case rel =>
          refine ⟨k + 1, by omega, by go_num, fun j hj hjk => ?_⟩
          by_cases e : j = k
          · subst e; rw [← HS.out]; exact C.out
          · exact hA.out j hj (by omega)
        case measure => simp [intOf]; omega
      · have c2 : ((s.size : Int) != 512) = true := by rw [bne_iff_ne]; omega
        have C := Lib.hid c
        clear c
        go_wp2
        go_ret
        refine ⟨retb_eq ?_, rfl⟩
        unfold arePg
        exact (decide_eq_false fun hh => C.out (HS.out ▸ hh.2 _ (List.getElem_mem hkl))).symm
    · obtain rfl : k = n := by omega
      go_wp2
      go_ret
      refine ⟨retb_eq ?_, rfl⟩
      unfold arePg
      have e : (l ≠ [] ∧ ∀ s ∈ l, s.size = 512) ↔ 0 < k := by
        constructor
        · intro hh
          have := List.length_pos_iff.2 hh.1
          rw [N.out] at this
          exact this
        · intro hh
          refine ⟨fun e => ?_, fun s hs => ?_⟩
          · have := N.out; rw [e] at this; simp at this; omega
          · obtain ⟨j, hj, rfl⟩ := List.mem_iff_getElem.1 hs
            exact hA.out j hj (by have := N.out; omega)
      simp only [e]

theorem cat_snoc (f : Nat → ByteArray) (k : Nat) : catL ((List.range (k + 1)).map f) = catL ((List.range k).map f) ++ (stripB (f k)).data.toList := by
  simp [catL, List.range_succ]
theorem cat_len (f : Nat → ByteArray) (hf : ∀ i, i < 9 → (f i).size = 64) (k : Nat) (hk : k ≤ 9) : (catL ((List.range k).map f)).length = k * 63 := by
  rw [catL_len _ fun s hs => ?_]
  · simp
  · obtain ⟨i, hi, rfl⟩ := List.mem_map.1 hs
    exact hf i (by have := List.mem_range.1 hi; omega)
set_option maxRecDepth 10000 in
set_option maxHeartbeats 1000000 in
theorem gather_any (w : World) (b : Nat) (f : Nat → ByteArray) (ho : Own w b 9 (rowS 9 f 9)) (hf : ∀ i, i < 9 → (f i).size = 64) :
    Calls Tryz.prog 191 #[.slice (some ⟨b, 0, none⟩) 9 9] w fun e w' => e = .returned (.tuple #[.string (gatP ((List.range 9).map f)), .bool (isPg ((List.range 9).map f))]) ∧ Below w.heap.size w w' := by
  have HO := Lib.hid ho
  have HF := Lib.hid hf
  have HB := Lib.hid (Lib.fresh_isBuilder tB t8 w)
  have B0 := (Below.refl w.heap.size w).alloc (Nat.le_refl _) (.cells #[.pointer none, .slice none 0 0] tB)
  have hb := ho.in_
  clear ho hf
  go_enter Tryz.func191, Tryz.ntmps191
  go_wp2
  go_loopw [10] (fun i wr => ∃ k : Nat, k ≤ 9 ∧ i = .int .i64 k ∧ Lib.IsBuilder tB t8 w.heap.size w.heap.size (Lib.byteCells (catL ((List.range k).map f))) wr ∧ Below w.heap.size w wr) (fun i wr => 9 - (intOf i).toNat)
  case atStart => exact ⟨0, by omega, rfl, HB.out, B0⟩
  case round =>
    obtain ⟨k, hk, rfl, hI, hL⟩ := hrel
    have zL := hL.size
    have O1 := HO.out.keep hL
    obtain ⟨c1, c2, c3⟩ := O1.at_
    replace O1 := Lib.hid O1
    replace hI := Lib.hid hI
    replace hL := Lib.hid hL
    by_cases hlt : k < 9
    · have hck : wr.cell? ⟨b, k, none⟩ = some (.string (f k)) := by
        rw [c1 k, rowS_get 9 _ 9 k hlt, if_pos hlt]
      have zX := HF.out k hlt
      obtain ⟨X, hX⟩ : ∃ X, X = f k := ⟨_, rfl⟩
      rw [← hX] at hck zX
      have HX := Lib.hid hX
      have x1 : (10 : Int) ≤ X.size := by omega
      have x2 : (11 : Int) ≤ X.size := by omega
      have x3 : ¬ (9223372036854775807 < min 10 X.size + (X.size - 11)) := by omega
      have zS := stripB_size X zX
      have SX := Lib.hid (show X.extract 0 10 ++ X.extract 11 X.size = stripB X from rfl)
      have ZX := Lib.hid zX
      have ZS := Lib.hid zS
      clear c1 c2 c3 hX zX zS
      go_upto_region 5 with fail
      refine wp_region_seq (fun W => True) (0 :: 1 :: 2 :: 3 :: 4 :: []) ([]) (0 :: 1 :: 2 :: 3 :: 4 :: 5 :: []) (by kernel_rfl) (by kernel_rfl) rfl (by kernel_rfl) rfl (trivial) (by simp only [picked, List.filterMap_cons, List.filterMap_nil, List.getElem?_cons_zero, List.getElem?_cons_succ, Option.map_some]; exact rfl) ?_
      iterate 5
        refine seq_want (v := ?_) rfl rfl (fun W hS => ?_) ?_
        rotate_left
        · conv => lhs; simp [go_sem, x1, x2, x3]
          first | done | exact rfl
        simp only [Act.put, List.setIfInBounds_toArray, List.set_cons_zero, List.set_cons_succ]
      refine seq_last rfl rfl (by kernel_rfl) rfl fun K hK => ?_
      rw [SX.out]
      go_wp2_with fail
      have hlen := cat_len f HF.out k hk
      have HI2 : Lib.IsBuilder tB t8 w.heap.size w.heap.size (Lib.byteCells (catL ((List.range k).map f))) wr.drew := hI.out
      refine (wstr_any _ _ _ (stripB X) wr.drew HI2 (by rw [Lib.byteCells_length, hlen, ZS.out]; omega) zL).mono ?_
      rintro e w2 ⟨rfl, hBa, hb2⟩
      have hI3 : Lib.IsBuilder tB t8 w.heap.size w.heap.size (Lib.byteCells (catL ((List.range (k + 1)).map f))) w2 := by
        rw [cat_snoc, ← HX.out]
        have : Lib.byteCells (catL ((List.range k).map f) ++ (stripB X).data.toList) = Lib.byteCells (catL ((List.range k).map f)) ++ Lib.strCells (stripB X) := by simp [Lib.byteCells, Lib.strCells]
        rw [this]
        exact .inr hBa
      replace hI3 := Lib.hid hI3
      have hL2 := Lib.hid (hL.out.drew.trans hb2)
      clear hBa hb2 HI2 hlen
      go_wp2
      refine hK _ _ ?_
      clear hK K
      refine seq_end ?_
      go_wp2
      go_roundw
      case rel => exact ⟨k + 1, by omega, by go_num, hI3.out, hL2.out⟩
      case measure => simp [intOf]; omega
    · obtain rfl : k = 9 := by omega
      clear c1 c2 c3
      have hlen := cat_len f HF.out 9 (by omega)
      have hS := Tryz.Builder_String_any w.heap.size w.heap.size _ wr hI.out zL
      obtain ⟨T, hT⟩ : ∃ T : ByteArray, T = ⟨(catL ((List.range 9).map f)).toArray⟩ := ⟨_, rfl⟩
      have hTz : T.size = 567 := by rw [hT, mk_size, hlen]
      have hG : T.extract 0 512 = gatP ((List.range 9).map f) := by rw [hT]; rfl
      rw [← hT] at hS
      obtain ⟨ss, hss⟩ : ∃ ss, ss = (List.range 9).map f := ⟨_, rfl⟩
      rw [← hss] at hG
      have hGs : (gatP ss).size = 512 := by rw [← hG, ByteArray.size_extract]; omega
      obtain ⟨P, hP⟩ : ∃ P, P = gatP ss := ⟨_, rfl⟩
      rw [← hP] at hG hGs
      have x1 : (512 : Int) ≤ T.size := by omega
      have HG := Lib.hid hG
      have HSS := Lib.hid hss
      have HP := Lib.hid hP
      have HSP := Lib.hid (fun w => spread_any P w (by omega))
      clear hT hTz hG hP hGs hlen hss
      have HS := Lib.hid hS
      clear hS
      go_upto_region 8 with (go_at_call 115; refine HS.out.mono ?_; rintro e w2 ⟨rfl, hb2⟩)
      rw [HG.out]
      have hL2 := Lib.hid (hL.out.trans hb2)
      clear hb2
      go_wp2_with fail
      refine (HSP.out w2).mono ?_
      rintro e w3 ⟨b3, rfl, o3, z3, hb3⟩
      have hL3 := Lib.hid (then_ hL2.out hb3 hL2.out.size)
      have O3 := (HO.out.keep hL3.out).at_.1
      have O4 := o3.at_.1
      clear hb3 o3 z3
      have cx : ∀ j, j < (secs P).length → w3.cell? ⟨b3, 0 + j, none⟩ = some (.string ((secs P).getD j ByteArray.empty)) := fun j hj => by
        have hj9 : j < 9 := by simpa [secs] using hj
        rw [Nat.zero_add, O4 j, rowS_get 9 _ 9 j hj9, if_pos hj9]
        simp [secs, hj9]
      have cy : ∀ j, j < ss.length → w3.cell? ⟨b, 0 + j, none⟩ = some (.string (ss.getD j ByteArray.empty)) := fun j hj => by
        rw [HSS.out] at hj ⊢
        have hj9 : j < 9 := by simpa using hj
        rw [Nat.zero_add, O3 j, rowS_get 9 _ 9 j hj9, if_pos hj9]
        simp [hj9]
      have l1 : (secs P).length = 9 := by simp [secs]
      have l2 : ss.length = 9 := by rw [HSS.out]; simp
      have HQ := Tryz.slices_Equal_string b3 0 9 9 b 0 9 9 (secs P) ss w3 (by omega) (by omega) (by omega) (by omega) cx cy
      have e1 : decide ((secs P).take 9 = ss.take 9) = isPg ss := by
        rw [List.take_of_length_le (by omega), List.take_of_length_le (by omega)]
        unfold isPg
        rw [← HP.out]
      rw [e1] at HQ
      replace HQ := Lib.hid HQ
      clear cx cy O3 O4 e1 l1 l2
      go_wp2_with fail
      refine HQ.out.mono ?_
      rintro e w4 ⟨rfl, q, rfl⟩
      go_wp2
      go_ret2
      exact ⟨by rw [← HSS.out, ← HP.out]; rfl, below_drewN hL3.out q⟩
end Go.Proofs.YtndhmidgnpobjaaGreatDoor
end
section
namespace Go.Proofs.YtndhmidgnpobjaaGreatDoor
open Go.ChangeShapes Go.WideShapes Go.ChangeAt Go.RowKit
set_option linter.unusedVariables false
set_option linter.unusedSimpArgs false

/-- what a log is, beside its disk -/
structure LogS where
  from_ : Nat
  size : Nat
  used : Nat
  next : Nat
  failed : Bool
structure LogS.Ok (l : LogS) : Prop where
  fit : l.from_ + l.size ≤ 65536
  used : l.used ≤ l.size
  next : l.next ≤ 18446744073709551615
def LogS.left (l : LogS) : Nat := if l.failed then 0 else l.size - l.used
/-- n pages more -/
def LogS.plus (l : LogS) (n : Nat) : LogS := { l with used := l.used + (1 + 9 * n), next := (l.next + 1) % 18446744073709551616 }
def LogS.cells (l : LogS) (d : Nat) : Array Value := #[.pointer (some ⟨d, 0, none⟩), .int .i64 (l.from_ : Int), .int .i64 (l.size : Int), .int .i64 (l.used : Int), .int .u64 (l.next : Int), .bool l.failed]
def LogAt (w : World) (lg d : Nat) (l : LogS) : Prop := Own w lg 207 (l.cells d)
theorem LogS.left_le (l : LogS) : l.left ≤ l.size := by unfold LogS.left; split <;> omega
theorem LogS.plus_ok {l : LogS} (h : l.Ok) {n : Nat} (hf : l.failed = false) (hn : 1 + 9 * n ≤ l.left) : (l.plus n).Ok := by
  have := h.used
  unfold LogS.left at hn
  rw [hf] at hn
  simp only [Bool.false_eq_true, if_false] at hn
  exact ⟨h.fit, by show l.used + (1 + 9 * n) ≤ l.size; omega, by show (l.next + 1) % 18446744073709551616 ≤ _; omega⟩

section
variable {w : World} {lg d : Nat} {l : LogS}
set_option maxRecDepth 10000 in
theorem left_any (h : LogAt w lg d l) (hk : l.Ok) : Calls Tryz.prog 188 #[.pointer (some ⟨lg, 0, none⟩)] w fun e w' => e = .returned (.int .i64 (l.left : Nat)) ∧ ∃ q, w' = w.drewN q := by
  have h1 := hk.used
  have h2 := hk.fit
  obtain ⟨o1, o2, o3⟩ := Own.at_ (show Own w lg _ (l.cells d) from h)
  unfold LogS.left
  obtain ⟨fr, sz, us, nx, fl⟩ := l
  simp only at h1 h2
  unfold LogS.cells at o1
  replace h := Lib.hid (show Own w lg _ (LogS.cells ⟨fr, sz, us, nx, fl⟩ d) from h)
  clear hk
  simp only at o1
  cases fl with
  | true =>
    go_enter Tryz.func188, Tryz.ntmps188
    go_wp2
    go_ret
    exact ⟨rfl, 0, rfl⟩
  | false =>
    go_enter Tryz.func188, Tryz.ntmps188
    go_upto_region 3 with fail
    have hw : IntKind.i64.wrap ((sz : Int) - (us : Int)) = (sz : Int) - (us : Int) := by rw [IntKind.wrap_i64]; omega
    have O := Lib.hid (show Own w lg 207 #[.pointer (some ⟨d, 0, none⟩), .int .i64 (fr : Int), .int .i64 (sz : Int), .int .i64 (us : Int), .int .u64 (nx : Int), .bool false] from h.out)
    refine wp_region_seq (fun W => Own W lg 207 #[.pointer (some ⟨d, 0, none⟩), .int .i64 (fr : Int), .int .i64 (sz : Int), .int .i64 (us : Int), .int .u64 (nx : Int), .bool false]) (0 :: 1 :: 2 :: 3 :: 4 :: 5 :: 6 :: 7 :: 8 :: 9 :: []) (3 :: 7 :: []) (0 :: 1 :: 2 :: 3 :: 4 :: 5 :: 6 :: 7 :: 8 :: 9 :: []) (by kernel_rfl) (by kernel_rfl) rfl (by kernel_rfl) rfl (O.out.drawn) (by simp only [picked, List.filterMap_cons, List.filterMap_nil, List.getElem?_cons_zero, List.getElem?_cons_succ, Option.map_some]; exact rfl) ?_
    iterate 10
      refine seq_want (v := ?_) rfl rfl (fun W hS => ?_) ?_
      rotate_left
      · first
          | (conv => lhs; simp [go_sem, hw]
             first | done | exact rfl)
          | (have hS := hS rfl
             obtain ⟨q1, q2, q3⟩ := Own.at_ hS
             conv => lhs; simp [go_sem, *, hw]
             first | done | exact rfl)
      simp only [Act.put, List.setIfInBounds_toArray, List.set_cons_zero, List.set_cons_succ]
    refine seq_end ?_
    go_wp2
    go_ret
    exact ⟨ret_eq (by first | omega | (simp only [Bool.false_eq_true, if_false]; omega)), 1, rfl⟩
theorem next_any (h : LogAt w lg d l) : Calls Tryz.prog 153 #[.pointer (some ⟨lg, 0, none⟩)] w fun e w' => e = .returned (.int .u64 (l.next : Nat)) ∧ w = w' := by
  obtain ⟨o1, o2, o3⟩ := Own.at_ (show Own w lg _ (l.cells d) from h)
  unfold LogS.cells at o1
  clear h
  go_enter Tryz.func153, Tryz.ntmps153
  go_wp2
  go_ret
  exact ⟨rfl, rfl⟩
theorem restart_yes (h : LogAt w lg d l) (hf : l.failed = false) : Calls Tryz.prog 154 #[.pointer (some ⟨lg, 0, none⟩)] w fun e w' => e = .returned (.int .i64 0) ∧ LogAt w' lg d { l with used := 0 } ∧ Chg (· = lg) w w' ∧ w'.heap.size = w.heap.size := by
  have H := Lib.hid h
  obtain ⟨o1, o2, o3⟩ := Own.at_ (show Own w lg _ (l.cells d) from h)
  unfold LogS.cells at o1
  rw [hf] at o1
  clear h hf
  go_enter Tryz.func154, Tryz.ntmps154
  go_wp2
  go_ret
  exact ⟨rfl, Own.put H.out 3 _, chg_one _ _ _ _, by simp [World.setCell]⟩
set_option maxRecDepth 10000 in
theorem add_any (h : LogAt w lg d l) (hk : l.Ok) (n : Nat) (hn : n ≤ 1000) : Calls Tryz.prog 136 #[.pointer (some ⟨lg, 0, none⟩), .int .i64 (n : Int)] w fun e w' => e = .returned (.tuple #[]) ∧ LogAt w' lg d (l.plus n) ∧ Chg (· = lg) w w' ∧ w'.heap.size = w.heap.size := by
  have h1 := hk.used
  have h2 := hk.fit
  have h3 := hk.next
  have H := Lib.hid h
  have HS := Lib.hid (fun w => sof_any n w (by omega))
  unfold LogAt LogS.plus at *
  obtain ⟨fr, sz, us, nx, fl⟩ := l
  unfold LogS.cells at *
  simp only at *
  clear h hk
  go_enter Tryz.func136, Tryz.ntmps136
  go_upto_region 0 with fail
  refine wp_region_seq (fun W => Own W lg 207 #[.pointer (some ⟨d, 0, none⟩), .int .i64 (fr : Int), .int .i64 (sz : Int), .int .i64 (us : Int), .int .u64 (nx : Int), .bool fl]) (0 :: 1 :: 2 :: 3 :: 4 :: 6 :: 7 :: 8 :: []) (3 :: []) (0 :: 1 :: 2 :: 3 :: 4 :: 5 :: 6 :: 7 :: 8 :: 9 :: []) (by kernel_rfl) (by kernel_rfl) rfl (by kernel_rfl) rfl (H.out.drawn) (by simp only [picked, List.filterMap_cons, List.filterMap_nil, List.getElem?_cons_zero, List.getElem?_cons_succ, Option.map_some]; exact rfl) ?_
  iterate 5
    refine seq_want (v := ?_) rfl rfl (fun W hS => ?_) ?_
    rotate_left
    · first
        | (conv => lhs; simp [go_sem]
           first | done | exact rfl)
        | (have hS := hS rfl
           obtain ⟨q1, q2, q3⟩ := Own.at_ hS
           conv => lhs; simp [go_sem, *]
           first | done | exact rfl)
    simp only [Act.put, List.setIfInBounds_toArray, List.set_cons_zero, List.set_cons_succ]
  refine seq_on rfl rfl fun K hK => ?_
  go_wp2_with (go_at_call 192; refine (HS.out _).mono ?_; rintro e w' ⟨rfl, rfl⟩)
  refine hK _ _ H.out.drawn ?_
  clear hK K
  obtain ⟨A, hA⟩ : ∃ A : Nat, A = us + (1 + 9 * n) := ⟨_, rfl⟩
  have hw : (us : Int) + (1 + 9 * (n : Int)) = (A : Int) := by omega
  have hw2 : IntKind.i64.wrap ((A : Int)) = (A : Int) := by rw [IntKind.wrap_i64]; omega
  have HA := Lib.hid hA
  clear hA
  iterate 3
    refine seq_want (v := ?_) rfl rfl (fun W hS => ?_) ?_
    rotate_left
    · conv => lhs; simp [go_sem, hw, hw2]
      first | done | exact rfl
    simp only [Act.put, List.setIfInBounds_toArray, List.set_cons_zero, List.set_cons_succ]
  refine seq_last rfl rfl (by kernel_rfl) rfl fun K hK => ?_
  obtain ⟨o1, o2, o3⟩ := Own.at_ H.out.drawn
  go_wp2
  clear o1 o2
  refine hK _ _ ?_
  clear hK K
  refine seq_end ?_
  obtain ⟨W1, hW1⟩ : ∃ W1, W1 = (w.setCell ⟨lg, 3, none⟩ (.int .i64 (A : Int))).drew := ⟨_, rfl⟩
  rw [← hW1]
  have O2 : Own W1 lg 207 #[.pointer (some ⟨d, 0, none⟩), .int .i64 (fr : Int), .int .i64 (sz : Int), .int .i64 (A : Int), .int .u64 (nx : Int), .bool fl] := hW1 ▸ (Own.put H.out 3 (.int .i64 (A : Int))).drawn
  have G2 : Chg (· = lg) w W1 := hW1 ▸ (chg_one w lg 3 _).drew
  have z2 : W1.heap.size = w.heap.size := by rw [hW1]; simp [World.setCell]
  have Z2 := Lib.hid z2
  clear hW1 z2
  replace O2 := Lib.hid O2
  replace G2 := Lib.hid G2
  obtain ⟨o1, o2, o3⟩ := Own.at_ O2.out
  go_wp2
  go_end0
  refine ⟨rfl, ?_, G2.out.same (chg_one _ lg 4 _), by simp [World.setCell]; exact Z2.out⟩
  have e : (((nx + 1) % 18446744073709551616 : Nat) : Int) = ((nx : Int) + 1) % 18446744073709551616 := by omega
  have := Own.put O2.out 4 (.int .u64 (((nx : Int) + 1) % 18446744073709551616))
  rw [HA.out] at this
  rw [e]
  first
    | exact this
    | (simp [IntKind.wrap_u64] at this ⊢; exact this)
end
end Go.Proofs.YtndhmidgnpobjaaGreatDoor
end
