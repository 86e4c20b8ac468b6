
/- The cells of slots in a row; the contract of slot's cut. Conditions: those that each theorem names. -/
import Derived.Test.YteepggjbgdjchaaDoorSloB
import Derived.Test.YteepggjbgdjchaaDoorStrR
import Derived.Test.YteepggjbgdjchaaDoorShelf
import Derived.Laws.MakeOwn
namespace Go.Proofs.YteepggjbgdjchaaDoor
open Go.ChangeShapes Go.WideShapes Go.ChangeAt Go.RowKit
set_option linter.unusedVariables false
set_option linter.unusedSimpArgs false

def cl (L : List Sl) : List Value := L.flatMap fun s => [.bool s.1, .string s.2]
theorem cl_len (L : List Sl) : (cl L).length = L.length * 2 := by
  induction L with
  | nil => rfl
  | cons s L ih => show (cl L).length + 1 + 1 = (L.length + 1) * 2; omega
theorem cl_app (a b : List Sl) : cl (a ++ b) = cl a ++ cl b := by simp [cl]
theorem cl_at : ∀ (L : List Sl) (i : Nat) (hi : i < L.length), (cl L)[i * 2]? = some (.bool (L[i]'hi).1) ∧ (cl L)[i * 2 + 1]? = some (.string (L[i]'hi).2)
  | s :: L, 0, _ => ⟨rfl, rfl⟩
  | s :: L, i + 1, hi => by
    have := cl_at L i (by simpa using hi)
    rw [show (i + 1) * 2 = i * 2 + 1 + 1 by omega]
    exact this
theorem cl_set : ∀ (L : List Sl) (i : Nat) (hi : i < L.length) (x : Sl), ((cl L).set (i * 2) (.bool x.1)).set (i * 2 + 1) (.string x.2) = cl (L.set i x)
  | s :: L, 0, _, x => rfl
  | s :: L, i + 1, hi, x => by
    have := cl_set L i (by simpa using hi) x
    rw [show (i + 1) * 2 = i * 2 + 1 + 1 by omega]
    show _ :: _ :: ((cl L).set (i * 2) _).set (i * 2 + 1) _ = _ :: _ :: cl (L.set i x)
    rw [this]
theorem cl_em (n : Nat) : madeCells #[.bool false, .string ⟨#[]⟩] (n * 2) = (cl (List.replicate n emS)).toArray := by
  apply Array.ext_getElem?
  intro i
  by_cases h : i < n * 2
  · have hq : i / 2 < (List.replicate n emS).length := by rw [List.length_replicate]; omega
    have := cl_at (List.replicate n emS) (i / 2) hq
    rw [List.getElem_replicate] at this
    rw [show (cl (List.replicate n emS)).toArray[i]? = (cl (List.replicate n emS))[i]? from List.getElem?_toArray]
    unfold madeCells
    rw [Array.getElem?_map, Array.getElem?_range, if_pos h]
    rcases Nat.mod_two_eq_zero_or_one i with e | e
    · rw [show i / 2 * 2 = i by omega] at this
      rw [this.1]
      simp [e]
      rfl
    · rw [show i / 2 * 2 + 1 = i by omega] at this
      rw [this.2]
      simp [e]
      rfl
  · rw [Array.getElem?_eq_none (by rw [size_madeCells]; omega), Array.getElem?_eq_none (by simp [cl_len]; omega)]
/-- a row of slots of one's own -/
def SlRow (w : World) (b : Nat) (L : List Sl) : Prop := Own w b 51 (cl L).toArray
theorem SlRow.at_ {w : World} {b : Nat} {L : List Sl} (h : SlRow w b L) (i : Nat) (hi : i < L.length) : w.cell? ⟨b, i * 2, none⟩ = some (.bool (L[i]'hi).1) ∧ w.cell? ⟨b, i * 2 + 1, none⟩ = some (.string (L[i]'hi).2) := by
  have := (Own.at_ (cs := (cl L).toArray) h).1
  have c := cl_at L i hi
  exact ⟨by rw [this, List.getElem?_toArray]; exact c.1, by rw [this, List.getElem?_toArray]; exact c.2⟩
theorem SlRow.set {w : World} {b : Nat} {L : List Sl} (h : SlRow w b L) (i : Nat) (hi : i < L.length) (u : Bool) (r : ByteArray) : SlRow ((w.setCell ⟨b, i * 2, none⟩ (.bool u)).setCell ⟨b, i * 2 + 1, none⟩ (.string r)) b (L.set i (u, r)) := by
  have := (Own.put (Own.put h (i * 2) (.bool u)) (i * 2 + 1) (.string r))
  refine this.as ?_
  rw [← cl_set L i hi (u, r)]
  simp
theorem SlRow.in_ {w : World} {b : Nat} {L : List Sl} (h : SlRow w b L) (hn : L.length ≤ maxLen) (hz : ∀ x ∈ L, x.2.size ≤ maxLen) : SlIn w (.slice (some ⟨b, 0, none⟩) L.length L.length) L :=
  ⟨_, _, rfl, Nat.le_refl _, hn, .inr ⟨b, 0, rfl, Own.in_ h, fun i hi => by
    have := h.at_ i hi
    rw [Nat.zero_add]
    exact ⟨this.1, this.2, hz _ (List.getElem_mem hi)⟩⟩⟩
theorem SlRow.keep {w w' : World} {b : Nat} {L : List Sl} (h : SlRow w b L) (hb : Below w.heap.size w w') : SlRow w' b L := Own.keep h hb
theorem SlRow.below {w w' : World} {b B : Nat} (hb : B ≤ b) (h : Below B w w') (i : Nat) (u : Bool) (r : ByteArray) : Below B w ((w'.setCell ⟨b, i * 2, none⟩ (.bool u)).setCell ⟨b, i * 2 + 1, none⟩ (.string r)) :=
  (h.setCell hb _).setCell hb _
theorem info_slot : (Tryd.prog.info? 51).map (fun i => (i.zero, i.size, i.bytes)) = some (some (.agg #[.bool false, .string ⟨#[]⟩]), 2, 24) := by kernel_rfl
set_option maxRecDepth 10000 in
theorem make_slots (n : Nat) (hn : n ≤ 1000000) (w : World) : (Instr.makeSlice 45 (.int .i64 (n : Int)) (.int .i64 (n : Int))).run Tryd.prog w = .ok (.slice (some ⟨w.heap.size, 0, none⟩) n n) (w.alloc (.cells (cl (List.replicate n emS)).toArray 51)) := by
  obtain ⟨i, hi, hs⟩ := Option.map_eq_some_iff.1 info_slot
  injection hs with h1 h2
  injection h2 with h2 h3
  have := run_makeSlice (P := Tryd.prog) w 45 51 i _ Tryd.underlying45 hi h1 .i64 .i64 (n : Int) (n : Int) (by omega) (by omega) (by rw [h2]; omega) (by rw [h3]; omega) (by omega)
  rw [h2] at this
  simp only [Int.toNat_natCast] at this
  refine this.trans ?_
  rw [← cl_em]
  rfl
theorem dw_nil (p : UInt8 → Bool) : ∀ (l : List UInt8), l.dropWhile p = [] ↔ ∀ b ∈ l, p b = true
  | [] => by simp
  | b :: l => by
    rw [List.dropWhile_cons]
    cases h : p b with
    | true => simp [h, dw_nil p l]
    | false => simp [h]
theorem tw_mem (p : UInt8 → Bool) (x : UInt8) : ∀ (l : List UInt8), x ∈ l.takeWhile p → p x = true
  | [], h => by simp at h
  | b :: l, h => by
    rw [List.takeWhile_cons] at h
    cases hb : p b with
    | true =>
      rw [hb, if_pos rfl] at h
      rcases List.mem_cons.1 h with rfl | h
      · exact hb
      · exact tw_mem p x l h
    | false => rw [hb] at h; simp at h
/-- only noughts -/
theorem trim_zero (l : List UInt8) : Lib.trimB l 0 = [] ↔ ∀ b ∈ l, b = 0 := by
  unfold Lib.trimB Lib.trimLeftB Lib.trimRightB
  constructor
  · intro h b hb
    rw [dw_nil] at h
    by_cases hz : b = 0
    · exact hz
    · have hm : b ∈ (l.reverse.dropWhile (· == 0)).reverse := by
        rw [List.mem_reverse]
        have : l.reverse.takeWhile (· == 0) ++ l.reverse.dropWhile (· == 0) = l.reverse := List.takeWhile_append_dropWhile
        have hb' : b ∈ l.reverse := List.mem_reverse.2 hb
        rw [← this] at hb'
        rcases List.mem_append.1 hb' with h1 | h1
        · have := tw_mem _ _ _ h1
          simp at this
          exact absurd this hz
        · exact h1
      simpa using h b hm
  · intro h
    have : l.reverse.dropWhile (· == 0) = [] := by
      rw [dw_nil]
      intro b hb
      simpa using h b (List.mem_reverse.1 hb)
    rw [this]
    rfl
theorem rec_le (l : List Sl) (x : Sl) (hx : x ∈ l) : x.2.size ≤ (recs l).length := by
  obtain ⟨a, b, rfl⟩ := List.append_of_mem hx
  rw [recs_app, show x :: b = [x] ++ b from rfl, recs_app, recs_one, List.length_append, List.length_append, len_data]
  omega
theorem slice_from (w : World) (s : ByteArray) (lo : Nat) (h1 : lo ≤ s.size) : (Instr.slice 9 (.string s) (some (.int .i64 (lo : Int))) none none).run Tryd.prog w = .ok (.string (s.extract lo s.size)) w := by
  have := run_slice_string_from_if (P := Tryd.prog) w 9 s .i64 (lo : Int) Tryd.underlying9
  rw [if_pos (by omega)] at this
  simpa using this
/-- what cut answers -/
def CutAns (s : ByteArray) (B : Nat) (e : Ending) (w' : World) : Prop :=
  (rd s = none ∧ e = .returned (.tuple #[.slice none 0 0, .bool false])) ∨
  ∃ L b, rd s = some L ∧ e = .returned (.tuple #[.slice (some ⟨b, 0, none⟩) L.length L.length, .bool true]) ∧ B ≤ b ∧ SlRow w' b L
theorem rd_bad {s : ByteArray} (h1 : s.size = 496) (h2 : 2 + 2 * nm s 0 ≤ 496) {k : Nat} (hk : k ≤ nm s 0) (h : stp s k = none) : rd s = none := by
  unfold rd
  rw [if_pos ⟨h1, h2⟩, stp_none s k h _ hk]
theorem drop_ext (s : ByteArray) (a : Nat) (h : a ≤ s.size) : (s.extract a s.size).data.toList = s.data.toList.drop a := by
  rw [ext_list, List.take_of_length_le (by rw [len_data]; omega)]
theorem trim0_yes (t : ByteArray) (w : World) (ht : t.size ≤ 496) (h : ∀ b ∈ t.data.toList, b = 0) : Calls Tryd.prog 49 #[.string t, .string ⟨#[0]⟩] w fun e w' => e = .returned (.string ⟨#[]⟩) ∧ Below w.heap.size w w' := by
  refine (Tryd.strings_Trim_one t 0 (by decide) w (by omega)).mono ?_
  rintro e w' ⟨rfl, hw⟩
  rw [(trim_zero t.data.toList).2 h]
  refine ⟨rfl, by rcases hw with rfl | rfl; exact Below.refl _ _; exact (Below.refl _ _).drew⟩
theorem trim0_no (t : ByteArray) (w : World) (ht : t.size ≤ 496) (h : ¬ ∀ b ∈ t.data.toList, b = 0) : Calls Tryd.prog 49 #[.string t, .string ⟨#[0]⟩] w fun e w' => ∃ r : ByteArray, e = .returned (.string r) ∧ r.toList.isEmpty = false ∧ Below w.heap.size w w' := by
  refine (Tryd.strings_Trim_one t 0 (by decide) w (by omega)).mono ?_
  rintro e w' ⟨rfl, hw⟩
  refine ⟨_, rfl, ?_, by rcases hw with rfl | rfl; exact Below.refl _ _; exact (Below.refl _ _).drew⟩
  have hz := trim_zero t.data.toList
  rw [ByteArray.toList_eq]
  cases hh : Lib.trimB t.data.toList 0 with
  | nil => exact absurd (hz.1 hh) h
  | cons x l => rfl
set_option maxRecDepth 10000 in
set_option maxHeartbeats 1000000 in
theorem cut_any (s : ByteArray) (w : World) (hs : s.size ≤ 140737488355328) : Calls Tryd.prog 34 #[.string s] w fun e w' => CutAns s w.heap.size e w' ∧ Below w.heap.size w w' := by
  have HN := Lib.hid (fun (i : Nat) (hi : i ≤ 1000000) w => num_any s i w (by omega) hi)
  have HN0 := Lib.hid (HN.out 0 (by omega))
  have hn0 := nm_lt s 0
  have HNO : Hid (¬ (s.size = 496 ∧ 2 + 2 * nm s 0 ≤ 496) → ∀ W, CutAns s w.heap.size (.returned (.tuple #[.slice none 0 0, .bool false])) W) := Lib.hid fun h W => .inl ⟨rd_no s h, rfl⟩
  have HBAD := Lib.hid (fun h1 h2 k hk h => rd_bad (s := s) h1 h2 (k := k) hk h)
  have HIS := Lib.hid (fun hn k l a hk h => stp_is s hn k l a hk h)
  have HRD : Hid (s.size = 496 → 2 + 2 * nm s 0 ≤ 496 → ∀ l a, stp s (nm s 0) = some (l, a) → rd s = if (tr l).length = l.length ∧ s.data.toList.drop a = List.replicate (496 - a) 0 then some l else none) := Lib.hid fun h1 h2 l a h => by
    unfold rd
    rw [if_pos ⟨h1, h2⟩, h]
  have S0 : Hid (stp s 0 = some ([], 2 + 2 * nm s 0)) := Lib.hid rfl
  have S1 : Hid (∀ k l a, stp s k = some (l, a) → stp s (k + 1) = if nm s (k + 1) = 0 then some (l ++ [emS], a) else if s.size < a + nm s (k + 1) - 1 then none else some (l ++ [(true, s.extract a (a + nm s (k + 1) - 1))], a + nm s (k + 1) - 1)) := Lib.hid fun k l a h => by
    rw [stp, h]
  obtain ⟨n, hn⟩ : ∃ n, n = nm s 0 := ⟨_, rfl⟩
  rw [← hn] at HN0 hn0 HNO HBAD HIS HRD S0
  have hn' := Lib.hid hn
  clear hn
  by_cases h1 : s.size = 496
  · by_cases h2 : 2 + 2 * n ≤ 496
    · have q1 : ((s.size : Int) == 496) = true := by simp; omega
      have q1' := Lib.hid h1
      have hss : (s.size : Int) = 496 := by omega
      have q2 : ¬ ((s.size : Int) < 2 * (1 + (n : Int))) := by omega
      have HMK := make_slots n (by omega)
      go_enter Tryd.func34, Tryd.ntmps34
      go_upto_region 6 with (go_at_call 48; refine (HN0.out _).mono ?_; rintro e w1 ⟨rfl, rfl⟩)
      go_name_world W0 hW0
      have R0 : SlRow W0 w.heap.size (List.replicate n emS) := hW0 ▸ Own.made _ _ _
      have B0 : Below w.heap.size w W0 := hW0 ▸ by have := Below.refl w.heap.size w; exact this.alloc this.size _
      replace R0 := Lib.hid R0
      replace B0 := Lib.hid B0
      clear hW0 HMK
      go_wp2
      go_loopw [5, 28] (fun at_ i wr => ∃ (k a : Nat) (l : List Sl), k ≤ n ∧ i = .int .i64 (k : Int) ∧ at_ = .int .i64 (a : Int) ∧ Hid (stp s k = some (l, a)) ∧ Hid (SlRow wr w.heap.size (l ++ List.replicate (n - k) emS)) ∧ Hid (Below w.heap.size w wr)) (fun at_ i wr => n - (intOf i).toNat)
      case atStart => exact ⟨0, 2 + 2 * n, [], by omega, rfl, by go_num, S0, R0, B0⟩
      case round =>
        clear R0 B0
        obtain ⟨k, a, l, hk, rfl, rfl, hS, hR, hB⟩ := hrel
        have hI := HIS.out (by omega) k l a hk hS.out
        have ha := hI.le
        have hll := hI.len
        have hll' := Lib.hid hll
        have hRl : (l ++ List.replicate (n - k) emS).length = n := by simp; omega
        have hRl' := Lib.hid hRl
        clear hI hll hRl
        by_cases hlt : k < n
        · have hst := S1.out k l a hS.out
          have HNk := HN.out (k + 1) (by omega)
          rw [show ((k + 1 : Nat) : Int) = 1 + (k : Int) by omega] at HNk
          have htl := nm_lt s (k + 1)
          obtain ⟨t, ht⟩ : ∃ t, t = nm s (k + 1) := ⟨_, rfl⟩
          rw [← ht] at HNk hst htl
          replace HNk := Lib.hid HNk
          have hrow : l ++ List.replicate (n - k) emS = (l ++ [emS]) ++ List.replicate (n - (k + 1)) emS := by
            rw [show n - k = (n - (k + 1)) + 1 by omega, List.replicate_succ]
            simp
          have hrow' := Lib.hid hrow
          clear ht hrow
          by_cases h0 : t = 0
          · subst h0
            rw [if_pos rfl] at hst
            replace hst := Lib.hid hst
            go_wp2_with (go_at_call 48; refine (HNk.out _).mono ?_; rintro e w1 ⟨rfl, rfl⟩)
            go_roundw
            case rel => exact ⟨k + 1, a, l ++ [emS], by omega, by go_num, rfl, hst, Lib.hid (by rw [← hrow'.out]; exact hR.out), hB⟩
            case measure => simp [intOf]; omega
          · rw [if_neg h0] at hst
            have q3 : ((t : Int) == 0) = false := by simp; omega
            by_cases h3 : s.size < a + t - 1
            · rw [if_pos h3] at hst
              have hbad := Lib.hid (HBAD.out q1'.out h2 (k + 1) (by omega) hst)
              clear hst
              have q4 : (496 : Int) < (a : Int) + (t : Int) - 1 := by omega
              go_wp2_with (go_at_call 48; refine (HNk.out _).mono ?_; rintro e w1 ⟨rfl, rfl⟩)
              go_ret2
              exact ⟨.inl ⟨hbad.out, rfl⟩, hB.out⟩
            · rw [if_neg h3] at hst
              have q4 : ¬ (496 : Int) < (a : Int) + (t : Int) - 1 := by omega
              have hsl : ∀ W : World, (Instr.slice 9 (.string s) (some (.int .i64 (a : Int))) (some (.int .i64 ((a : Int) + (t : Int) - 1))) none).run Tryd.prog W = .ok (.string (s.extract a (a + t - 1))) W := fun W => slice_both W s a (a + t - 1) (by omega) (by omega) _ _ rfl (by omega)
              have hst' := Lib.hid hst
              clear hst
              obtain ⟨X, hX⟩ : ∃ X, X = s.extract a (a + t - 1) := ⟨_, rfl⟩
              rw [← hX] at hsl hst'
              clear hX
              have R1 := hR.out
              obtain ⟨c1, c2⟩ := R1.at_ k (by rw [hRl'.out]; exact hlt)
              obtain ⟨-, o2, o3⟩ := Own.at_ R1
              have R2 := Lib.hid (R1.set k (by rw [hRl'.out]; exact hlt) true X)
              have B2 := Lib.hid (SlRow.below (Nat.le_refl _) hB.out k true X)
              have hset : Hid ((l ++ List.replicate (n - k) emS).set k (true, X) = (l ++ [(true, X)]) ++ List.replicate (n - (k + 1)) emS) := Lib.hid (by
                rw [hrow'.out, List.append_assoc, List.set_append_right _ _ (by rw [hll'.out]; exact Nat.le_refl _), hll'.out, Nat.sub_self]
                simp)
              rw [hset.out] at R2
              have hend : ((a + t - 1 : Nat) : Int) = (a : Int) + (t : Int) - 1 := by omega
              have hend' := Lib.hid hend
              clear hend R1
              go_wp2_with (go_at_call 48; refine (HNk.out _).mono ?_; rintro e w1 ⟨rfl, rfl⟩)
              go_roundw
              case rel => exact ⟨k + 1, a + t - 1, _, by omega, by go_num, by rw [hend'.out], hst', R2, B2⟩
              case measure => simp [intOf]; omega
        · obtain rfl : k = n := by omega
          have R1 := hR.out
          rw [Nat.sub_self, List.replicate_zero, List.append_nil] at R1
          have hI := HIS.out (by omega) k l a (Nat.le_refl _) hS.out
          have hrec : ∀ x ∈ l, x.2.size ≤ maxLen := fun x hx => by
            have := rec_le l x hx
            have := hI.end_
            unfold maxLen
            omega
          have RI := SlRow.in_ R1 (by rw [hll'.out]; unfold maxLen; omega) hrec
          rw [hll'.out] at RI
          have hrd := HRD.out q1'.out h2 l a hS.out
          obtain ⟨tl, htl⟩ : ∃ tl, tl = (tr l).length := ⟨_, rfl⟩
          have htle : tl ≤ k := by rw [htl, ← hll'.out]; exact tr_len l
          have HT : Hid (∀ W, Below wr.heap.size wr W → Calls Tryd.prog 37 #[.slice (some ⟨w.heap.size, 0, none⟩) k k] W fun e w' => e = .returned (.slice (some ⟨w.heap.size, 0, none⟩) tl k) ∧ Below W.heap.size W w') := Lib.hid fun W hW => (trim_any _ l W (RI.below hW)).mono (by
            rintro e w' ⟨a', cap', hv, rfl, -, hb⟩
            injection hv with h1 h2 h3
            rw [← h1, ← h3, ← htl]
            exact ⟨rfl, hb⟩)
          obtain ⟨X, hX⟩ : ∃ X, X = s.extract a s.size := ⟨_, rfl⟩
          have hXz : X.size ≤ 496 := by rw [hX, ByteArray.size_extract]; omega
          have HZY := Lib.hid (fun W => trim0_yes X W hXz)
          have HZN := Lib.hid (fun W => trim0_no X W hXz)
          have hal : decide (∀ b ∈ X.data.toList, b = 0) = decide (s.data.toList.drop a = List.replicate (496 - a) 0) := by
            rw [hX, drop_ext s a ha, decide_eq_decide, List.eq_replicate_iff]
            constructor
            · exact fun h => ⟨by rw [List.length_drop, len_data]; omega, h⟩
            · exact fun h => h.2
          rw [← htl, hll'.out] at hrd
          obtain ⟨Z, hZ⟩ : ∃ Z, Z = decide (s.data.toList.drop a = List.replicate (496 - a) 0) := ⟨_, rfl⟩
          have hal' := Lib.hid hal
          have hZ' := Lib.hid hZ
          have hrd' := Lib.hid hrd
          have R1' := Lib.hid R1
          have hsl : ∀ W : World, (Instr.slice 9 (.string s) (some (.int .i64 (a : Int))) none none).run Tryd.prog W = .ok (.string X) W := fun W => by
            rw [hX]
            exact slice_from W s a (by omega)
          clear hal hZ hrd R1 RI hX hrec hI htl hXz
          by_cases hc : tl = k
          · subst hc
            cases Z with
            | true =>
              have hYES : rd s = some l := by rw [hrd'.out, if_pos ⟨rfl, of_decide_eq_true hZ'.out.symm⟩]
              replace hYES := Lib.hid hYES
              have HZ := Lib.hid (fun W => HZY.out W (of_decide_eq_true (hal'.out.trans hZ'.out.symm)))
              clear hrd' hZ' HZY HZN hal'
              go_wp2_with (first
                | (go_at_call 37; refine (HT.out _ (Below.refl _ _)).mono ?_; rintro e w2 ⟨rfl, hb2⟩; have B3 := Lib.hid (then_ hB.out hb2 hB.out.size); have R3 := Lib.hid (SlRow.keep R1'.out hb2); clear hb2)
                | (go_at_call 49; refine (HZ.out _).mono ?_; rintro e w4 ⟨rfl, hb4⟩; have B5 := Lib.hid (then_ B3.out hb4 B3.out.size); have R5 := Lib.hid (SlRow.keep R3.out hb4); clear hb4))
              all_goals (go_ret2; exact ⟨.inr ⟨l, _, hYES.out, by rw [hll'.out]; rfl, Nat.le_refl _, R5.out⟩, B5.out⟩)
            | false =>
              have hNO : rd s = none := by rw [hrd'.out, if_neg (fun h => of_decide_eq_false hZ'.out.symm h.2)]
              replace hNO := Lib.hid hNO
              have HZ := Lib.hid (fun W => HZN.out W (of_decide_eq_false (hal'.out.trans hZ'.out.symm)))
              clear hrd' hZ' HZY HZN hal'
              go_wp2_with (first
                | (go_at_call 37; refine (HT.out _ (Below.refl _ _)).mono ?_; rintro e w2 ⟨rfl, hb2⟩; have B3 := Lib.hid (then_ hB.out hb2 hB.out.size); clear hb2)
                | (go_at_call 49; refine (HZ.out _).mono ?_; rintro e w4 ⟨r, rfl, hr, hb4⟩; have B5 := Lib.hid (then_ B3.out hb4 B3.out.size); clear hb4))
              all_goals (go_ret2; exact ⟨.inl ⟨hNO.out, rfl⟩, B5.out⟩)
          · have hNO : rd s = none := by rw [hrd'.out, if_neg (fun h => hc h.1)]
            replace hNO := Lib.hid hNO
            have q5 : ¬ ((tl : Int) = (k : Int)) := by omega
            clear hrd' hZ' hc
            go_wp2_with (go_at_call 37; refine (HT.out _ (Below.refl _ _)).mono ?_; rintro e w2 ⟨rfl, hb2⟩; have B3 := Lib.hid (then_ hB.out hb2 hB.out.size); clear hb2)
            all_goals (go_ret2; exact ⟨.inl ⟨hNO.out, rfl⟩, B3.out⟩)
    · have q2 : (s.size : Int) < 2 * (1 + (n : Int)) := by omega
      have HNO' := Lib.hid (HNO.out (fun h => h2 h.2))
      clear h1 h2
      go_enter Tryd.func34, Tryd.ntmps34
      go_wp2_with (go_at_call 48; refine (HN0.out _).mono ?_; rintro e w1 ⟨rfl, rfl⟩)
      all_goals (go_ret2; exact ⟨HNO'.out _, Below.refl _ _⟩)
  · have q1 : ¬ ((s.size : Int) = 496) := by omega
    have HNO' := Lib.hid (HNO.out (fun h => h1 h.1))
    clear h1
    go_enter Tryd.func34, Tryd.ntmps34
    go_wp2_with (go_at_call 48; refine (HN0.out _).mono ?_; rintro e w1 ⟨rfl, rfl⟩)
    all_goals (go_ret2; exact ⟨HNO'.out _, Below.refl _ _⟩)
end Go.Proofs.YteepggjbgdjchaaDoor
