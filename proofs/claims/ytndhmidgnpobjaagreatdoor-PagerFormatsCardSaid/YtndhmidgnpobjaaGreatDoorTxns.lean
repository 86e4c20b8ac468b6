/- merged: Rows of strings that are written one behind another; slices of strings that stand in memory. It speaks of no function. The contracts of redo.sectorsOf, markOf, spread, arePages. Conditions: the arguments' own ranges; pages of at most 567 bytes for spread. Slices of transactions (a number and a slice of strings each) that stand in memory, or grow there. It speaks of no function. -/
import Derived.Test.YtndhmidgnpobjaaGreatDoorSta
import Derived.Deep.OwnRows
import Derived.KernelRfl
import Derived.Test.YtndhmidgnpobjaaGreatDoorRdoM
import Derived.Test.YtndhmidgnpobjaaGreatDoorCrcA
import Derived.Test.YtndhmidgnpobjaaGreatDoorPgrA
import Derived.Test.YtndhmidgnpobjaaGreatDoorSwap
section
namespace Go.Proofs.YtndhmidgnpobjaaGreatDoor
open Go.ChangeShapes Go.WideShapes Go.ChangeAt Go.RowKit
set_option linter.unusedVariables false
set_option linter.unusedSimpArgs false

theorem info_st : (Tryz.prog.info? 9).map (fun i => (i.zero, i.size, i.bytes)) = some (some (.string ⟨#[]⟩), 1, 16) := by kernel_rfl
/-- a row of n strings whose first j are laid -/
def rowS (n : Nat) (g : Nat → ByteArray) (j : Nat) : Array Value := ((List.range n).map fun i => .string (if i < j then g i else ⟨#[]⟩)).toArray
theorem rowS_size (n : Nat) (g : Nat → ByteArray) (j : Nat) : (rowS n g j).size = n := by simp [rowS]
theorem rowS_get (n : Nat) (g : Nat → ByteArray) (j i : Nat) (hi : i < n) : (rowS n g j)[i]? = some (.string (if i < j then g i else ⟨#[]⟩)) := by simp [rowS, hi]
theorem rowS_zero (n : Nat) (g : Nat → ByteArray) : madeCells #[Value.string ⟨#[]⟩] n = rowS n g 0 := by
  apply Array.ext'
  rw [toList_madeCells_one]
  simp only [rowS, Nat.not_lt_zero, if_false, List.map_const', List.length_range]
theorem rowS_set (n : Nat) (g : Nat → ByteArray) (j : Nat) (hj : j < n) : (rowS n g j).setIfInBounds j (.string (g j)) = rowS n g (j + 1) := by
  apply Array.ext_getElem?
  intro i
  by_cases hi : i < n
  · rw [Array.getElem?_setIfInBounds, rowS_get n g (j + 1) i hi, rowS_get n g j i hi, rowS_size]
    by_cases h : j = i
    · subst h; simp [hj]
    · simp only [h, if_false]
      by_cases h1 : i < j
      · rw [if_pos h1, if_pos (by omega)]
      · rw [if_neg h1, if_neg (by omega)]
  · rw [Array.getElem?_eq_none (by simp [rowS_size]; omega), Array.getElem?_eq_none (by simp [rowS_size]; omega)]
/-- make([]string, n) -/
theorem make_strs (n : Nat) (hn : n ≤ 1000000) (g : Nat → ByteArray) (w : World) : (Instr.makeSlice 34 (.int .i64 (n : Int)) (.int .i64 (n : Int))).run Tryz.prog w = .ok (.slice (some ⟨w.heap.size, 0, none⟩) n n) (w.alloc (.cells (rowS n g 0) 9)) := by
  have := run_make_row' (P := Tryz.prog) 34 9 (.string ⟨#[]⟩) 16 Tryz.underlying34 info_st rfl .i64 .i64 n (by omega) (by omega) w
  rw [rowS_zero n g] at this
  exact this
/-- a slice of strings in memory: the strings l, in a block of which S says something -/
def StrsIn (w : World) (S : Nat → Prop) (v : Value) (l : List ByteArray) : Prop :=
  ∃ a cap, v = .slice a l.length cap ∧ l.length ≤ cap ∧ cap ≤ maxLen ∧ (∀ s ∈ l, s.size ≤ maxLen) ∧
    (l = [] ∨ ∃ b o, a = some ⟨b, o, none⟩ ∧ S b ∧ b < w.heap.size ∧ ∀ i (h : i < l.length), w.cell? ⟨b, o + i, none⟩ = some (.string (l[i]'h)))
theorem StrsIn.mono {w : World} {S T : Nat → Prop} {v : Value} {l : List ByteArray} (h : StrsIn w S v l) (k : ∀ b, b < w.heap.size → S b → T b) : StrsIn w T v l := by
  obtain ⟨a, cap, h1, h2, h3, h4, h5⟩ := h
  refine ⟨a, cap, h1, h2, h3, h4, ?_⟩
  rcases h5 with h5 | ⟨b, o, e, hS, hb, hc⟩
  · exact .inl h5
  · exact .inr ⟨b, o, e, k b hb hS, hb, hc⟩
theorem StrsIn.keep {w w' : World} {S T : Nat → Prop} {v : Value} {l : List ByteArray} (h : StrsIn w S v l) (hc : Chg T w w') (k : ∀ b, b < w.heap.size → S b → ¬ T b) : StrsIn w' S v l := by
  obtain ⟨a, cap, h1, h2, h3, h4, h5⟩ := h
  refine ⟨a, cap, h1, h2, h3, h4, ?_⟩
  rcases h5 with h5 | ⟨b, o, e, hS, hb, hcl⟩
  · exact .inl h5
  · exact .inr ⟨b, o, e, hS, Nat.lt_of_lt_of_le hb hc.size, fun i hi => hc.cell (hcl i hi) (k b hb hS)⟩
theorem StrsIn.below {w w' : World} {S : Nat → Prop} {v : Value} {l : List ByteArray} (h : StrsIn w S v l) (hb : Below w.heap.size w w') : StrsIn w' S v l := h.keep (Chg.of (S := fun _ => False) hb) fun _ _ _ => id
theorem StrsIn.nil (w : World) (S : Nat → Prop) : StrsIn w S (.slice none 0 0) [] := ⟨none, 0, rfl, Nat.le_refl _, Nat.zero_le _, by simp, .inl rfl⟩
/-- a row that was made and laid whole -/
theorem StrsIn.row {w : World} {S : Nat → Prop} {b n : Nat} {g : Nat → ByteArray} (ho : Own w b 9 (rowS n g n)) (hn : n ≤ maxLen) (hg : ∀ i, i < n → (g i).size ≤ maxLen) (hS : S b) : StrsIn w S (.slice (some ⟨b, 0, none⟩) n n) ((List.range n).map g) := by
  refine ⟨some ⟨b, 0, none⟩, n, by simp, by simp, hn, ?_, ?_⟩
  · intro s hs
    obtain ⟨i, hi, rfl⟩ := List.mem_map.1 hs
    exact hg i (List.mem_range.1 hi)
  · refine .inr ⟨b, 0, rfl, hS, ho.in_, fun i hi => ?_⟩
    have hi' : i < n := by simpa using hi
    have := ho.at_.1 i
    rw [rowS_get n g n i hi', if_pos hi'] at this
    rw [Nat.zero_add, this]
    simp
/-- what a walk sees of it -/
theorem StrsIn.open_ {w : World} {S : Nat → Prop} {v : Value} {l : List ByteArray} (h : StrsIn w S v l) : ∃ a cap, v = .slice a l.length cap ∧ l.length ≤ cap ∧ cap ≤ maxLen ∧ (∀ i (hi : i < l.length), (l[i]'hi).size ≤ maxLen ∧ ∃ b o, a = some ⟨b, o, none⟩ ∧ S b ∧ b < w.heap.size ∧ w.cell? ⟨b, o + i, none⟩ = some (.string (l[i]'hi))) := by
  obtain ⟨a, cap, h1, h2, h3, h4, h5⟩ := h
  refine ⟨a, cap, h1, h2, h3, fun i hi => ⟨h4 _ (List.getElem_mem hi), ?_⟩⟩
  rcases h5 with h5 | ⟨b, o, e, hS, hb, hcl⟩
  · subst h5; simp at hi
  · exact ⟨b, o, e, hS, hb, hcl i hi⟩
end Go.Proofs.YtndhmidgnpobjaaGreatDoor
end
section
namespace Go.Proofs.YtndhmidgnpobjaaGreatDoor
open Go.ChangeShapes Go.WideShapes Go.ChangeAt Go.RowKit
set_option linter.unusedVariables false
set_option linter.unusedSimpArgs false

theorem rep_any (k : Nat) (w : World) (hk : k ≤ 1000) :
    Calls Tryz.prog 60 #[.string ⟨#[0]⟩, .int .i64 k] w fun e w' => e = .returned (.string (zB k)) ∧ Below w.heap.size w w' := by
  have h := Tryz.strings_Repeat ⟨#[0]⟩ k w (by omega) (by show 1 * k ≤ _; omega)
  rw [show Lib.repeatL (⟨#[0]⟩ : ByteArray).data.toList k = List.replicate k 0 from zB_eq k] at h
  exact h
theorem sof_any (n : Nat) (w : World) (hn : n ≤ 1000000000000) :
    Calls Tryz.prog 192 #[.int .i64 n] w fun e w' => e = .returned (.int .i64 (1 + 9 * n : Nat)) ∧ w = w' := by
  go_enter Tryz.func192, Tryz.ntmps192
  go_wp2
  go_ret
  exact ⟨ret_eq (by omega), rfl⟩
theorem mof_any (seq n : Nat) (w : World) (hs : seq ≤ 18446744073709551615) (hn : n ≤ 65535) :
    Calls Tryz.prog 227 #[.int .u64 seq, .int .i64 n] w fun e w' => e = .returned (.string (markB seq n)) ∧ Below w.heap.size w w' := by
  have HP := Lib.hid (fun w => put_yes n 2 w (by omega) (by omega))
  have HM := Lib.hid (fun w => mput_yes seq (cntB n) w hs (by rw [cntB_size]; omega))
  have HE : ((⟨(putL n 2).toArray⟩ : ByteArray) ++ ⟨#[1]⟩) = cntB n := rfl
  have HQ : mkB seq (cntB n) = markB seq n := rfl
  rw [HQ] at HM
  have z : (⟨(putL n 2).toArray⟩ : ByteArray).size ≤ 2 := by show (putL n 2).toArray.size ≤ 2; simp [putL]
  have hw : IntKind.u64.wrap (n : Int) = n := IntWalk.u64_in _ (by omega)
  clear HQ
  generalize (⟨(putL n 2).toArray⟩ : ByteArray) = P at *
  generalize markB seq n = M at *
  generalize cntB n = C at *
  go_enter Tryz.func227, Tryz.ntmps227
  go_wp2_with (first | (go_at_call 120; refine (HP.out _).mono ?_; rintro e w1 ⟨rfl, rfl⟩) | (go_at_call 127; refine (HM.out _).mono ?_; rintro e w2 ⟨rfl, hb⟩))
  go_ret
  exact ⟨rfl, ((Below.refl _ _).alloc (Nat.le_refl _) _).trans (hb.mono (by simp))⟩

set_option maxRecDepth 10000 in
theorem spread_any (p : ByteArray) (w : World) (hp : p.size ≤ 567) :
    Calls Tryz.prog 229 #[.string p] w fun e w' => ∃ b, e = .returned (.slice (some ⟨b, 0, none⟩) 9 9) ∧ Own w' b 9 (rowS 9 (secB p) 9) ∧ w.heap.size ≤ b ∧ Below w.heap.size w w' := by
  have HR := Lib.hid (fun w => rep_any (567 - p.size) w (by omega))
  have e1 : ((567 - p.size : Nat) : Int) = 567 - (p.size : Int) := by omega
  rw [e1] at HR
  clear e1
  have HE := Lib.hid (show p ++ zB (567 - p.size) = restB p from rfl)
  have hz := restB_size p hp
  have hZ : (zB (567 - p.size)).size ≤ 567 := by rw [zB_size]; omega
  have HS := Lib.hid (fun k => show secB p k = layB ((restB p).extract (k * 63) ((k + 1) * 63)) from rfl)
  generalize zB (567 - p.size) = Z at *
  generalize restB p = R at *
  have hz := Lib.hid hz
  go_enter Tryz.func229, Tryz.ntmps229
  go_upto_region 2 with (go_at_call 60; with_reducible refine (HR.out _).mono ?_; rintro e w1 ⟨rfl, hb1⟩)
  have HM : (Instr.makeSlice 34 (.int .i64 9) (.int .i64 9)).run Tryz.prog w1 = .ok (.slice (some ⟨w1.heap.size, 0, none⟩) 9 9) (w1.alloc (.cells (rowS 9 (secB p) 0) 9)) := make_strs 9 (by omega) (secB p) w1
  have HO := Own.made w1 9 (rowS 9 (secB p) 0)
  obtain ⟨W0, hW0⟩ : ∃ W0, W0 = w1.alloc (.cells (rowS 9 (secB p) 0) 9) := ⟨_, rfl⟩
  have L0 : Below w.heap.size w W0 := hW0 ▸ hb1.alloc hb1.size _
  have z1 := hb1.size
  rw [← hW0] at HM HO
  replace HO := Lib.hid HO
  replace L0 := Lib.hid L0
  clear hW0
  rw [HE.out]
  go_wp2
  clear HM
  go_loopw [16] (fun i wr => ∃ k : Nat, k ≤ 9 ∧ i = .int .i64 k ∧ Own wr w1.heap.size 9 (rowS 9 (secB p) k) ∧ Below w.heap.size w wr) (fun i wr => 9 - (intOf i).toNat)
  case atStart => exact ⟨0, by omega, rfl, HO.out, L0.out⟩
  case round =>
    obtain ⟨k, hk, rfl, hO, hL⟩ := hrel
    by_cases hlt : k < 9
    · have hs := hz.out
      obtain ⟨A, hA⟩ : ∃ A : Int, (k : Int) * 63 = A := ⟨_, rfl⟩
      obtain ⟨B, hB⟩ : ∃ B : Int, ((k : Int) + 1) * 63 = B := ⟨_, rfl⟩
      have hsl := run_slice_string (P := Tryz.prog) wr 9 R .i64 .i64 A B Tryz.underlying9 (by omega) (by omega) (by omega)
      have e1 : R.extract A.toNat B.toNat = R.extract (k * 63) ((k + 1) * 63) := by rw [show A.toNat = k * 63 by omega, show B.toNat = (k + 1) * 63 by omega]
      rw [e1] at hsl
      have zX : (R.extract (k * 63) ((k + 1) * 63)).size = 63 := by rw [ByteArray.size_extract]; omega
      have hX := HS.out k
      obtain ⟨X, hXe⟩ : ∃ X, X = R.extract (k * 63) ((k + 1) * 63) := ⟨_, rfl⟩
      rw [← hXe] at hsl zX hX
      have zXh := Lib.hid zX
      have HX := Lib.hid hX
      have hsz := hL.size
      obtain ⟨c1, c2, c3⟩ := hO.at_
      have hck : wr.cell? ⟨w1.heap.size, k, none⟩ = some (.string ⟨#[]⟩) := by
        rw [c1 k, rowS_get 9 _ k k hlt, if_neg (by omega)]
      have hfk := c2 k
      replace hO := Lib.hid hO
      replace hL := Lib.hid hL
      clear hs e1 hXe hX c1 c2
      have x1 : (10 : Int) ≤ X.size := by omega
      have x2 : ¬ (9223372036854775807 < min 10 X.size + 1) := by omega
      have x3 : ¬ (9223372036854775807 < min 10 X.size + 1 + (X.size - 10)) := by omega
      have x4 : (k : Int) < 9 := by omega
      clear zX
      go_upto_region 7 with fail
      refine wp_region_seq (fun W => True) (0 :: 1 :: 2 :: 3 :: 4 :: 5 :: 6 :: 7 :: 8 :: []) ([]) (0 :: 1 :: 2 :: 3 :: 4 :: 5 :: 6 :: 7 :: 8 :: 9 :: []) (by kernel_rfl) (by kernel_rfl) rfl (by kernel_rfl) rfl (trivial) (by simp only [picked, List.filterMap_cons, List.filterMap_nil, List.getElem?_cons_zero, List.getElem?_cons_succ, Option.map_some]; exact rfl) ?_
      iterate 9
        refine seq_want (v := ?_) rfl rfl (fun W hS => ?_) ?_
        rotate_left
        · conv => lhs; simp [go_sem, x1, x2, x3, x4]
          first | done | exact rfl
        simp only [Act.put, List.setIfInBounds_toArray, List.set_cons_zero, List.set_cons_succ]
      refine seq_last rfl rfl (by kernel_rfl) rfl fun K hK => ?_
      go_wp2
      refine hK _ _ ?_
      clear hK K
      refine seq_end ?_
      go_wp2
      go_roundw
      case rel =>
        have e : (X.extract 0 10 ++ (⟨#[0]⟩ : ByteArray) ++ X.extract 10 X.size) = secB p k := HX.out.symm
        refine ⟨k + 1, by omega, by go_num, ?_, hL.out.drew.setCell z1 _⟩
        have := hO.out.drawn.put k (.string (secB p k))
        rw [rowS_set 9 (secB p) k hlt, ← e] at this
        exact this
      case measure => simp [intOf]; omega
    · obtain rfl : k = 9 := by omega
      go_wp2
      go_ret
      exact ⟨_, rfl, hO, z1, hL⟩
end Go.Proofs.YtndhmidgnpobjaaGreatDoor
end
section
namespace Go.Proofs.YtndhmidgnpobjaaGreatDoor
open Go.ChangeShapes Go.WideShapes Go.ChangeAt Go.RowKit
set_option linter.unusedVariables false
set_option linter.unusedSimpArgs false

def txc : List (Nat × List ByteArray) → List Value → List Value
  | t :: ts, v :: vs => .int .u64 (t.1 : Int) :: v :: txc ts vs
  | _, _ => []
theorem txc_at : ∀ (ts : List (Nat × List ByteArray)) (vs : List Value) (h : vs.length = ts.length) (i : Nat) (hi : i < ts.length), (txc ts vs)[i * 2]? = some (.int .u64 ((ts[i]'hi).1 : Int)) ∧ (txc ts vs)[i * 2 + 1]? = vs[i]?
  | t :: ts, v :: vs, h, 0, _ => ⟨rfl, rfl⟩
  | t :: ts, v :: vs, h, i + 1, hi => by
    have := txc_at ts vs (by simpa using h) i (by simpa using hi)
    have e : (i + 1) * 2 = i * 2 + 1 + 1 := by omega
    rw [e]
    exact this
theorem txc_snoc : ∀ (ts : List (Nat × List ByteArray)) (vs : List Value) (t : Nat × List ByteArray) (v : Value), vs.length = ts.length → txc (ts ++ [t]) (vs ++ [v]) = txc ts vs ++ [.int .u64 (t.1 : Int), v]
  | [], [], _, _, _ => rfl
  | a :: ts, b :: vs, t, v, h => by
    have := txc_snoc ts vs t v (by simpa using h)
    simp only [List.cons_append, txc, this]
/-- transactions in memory -/
def TxnsIn (w : World) (S : Nat → Prop) (v : Value) (ts : List (Nat × List ByteArray)) : Prop :=
  ∃ a cap, v = .slice a ts.length cap ∧ ts.length ≤ cap ∧ cap ≤ maxLen ∧
    (ts = [] ∨ ∃ b o, a = some ⟨b, o, none⟩ ∧ S b ∧ b < w.heap.size ∧ ∀ i (h : i < ts.length), w.cell? ⟨b, o + i * 2, none⟩ = some (.int .u64 ((ts[i]'h).1 : Int)) ∧ ∃ u, w.cell? ⟨b, o + i * 2 + 1, none⟩ = some u ∧ StrsIn w S u (ts[i]'h).2)
theorem TxnsIn.nil (w : World) (S : Nat → Prop) : TxnsIn w S (.slice none 0 0) [] := ⟨none, 0, rfl, Nat.le_refl _, Nat.zero_le _, .inl rfl⟩
theorem TxnsIn.keep {w w' : World} {S T : Nat → Prop} {v : Value} {ts : List (Nat × List ByteArray)} (h : TxnsIn w S v ts) (hc : Chg T w w') (k : ∀ b, b < w.heap.size → S b → ¬ T b) : TxnsIn w' S v ts := by
  obtain ⟨a, cap, h1, h2, h3, h5⟩ := h
  refine ⟨a, cap, h1, h2, h3, ?_⟩
  rcases h5 with h5 | ⟨b, o, e, hS, hb, hcl⟩
  · exact .inl h5
  · refine .inr ⟨b, o, e, hS, Nat.lt_of_lt_of_le hb hc.size, fun i hi => ?_⟩
    obtain ⟨c1, u, c2, c3⟩ := hcl i hi
    exact ⟨hc.cell c1 (k b hb hS), u, hc.cell c2 (k b hb hS), c3.keep hc k⟩
theorem TxnsIn.mono {w : World} {S T : Nat → Prop} {v : Value} {ts : List (Nat × List ByteArray)} (h : TxnsIn w S v ts) (k : ∀ b, b < w.heap.size → S b → T b) : TxnsIn w T v ts := by
  obtain ⟨a, cap, h1, h2, h3, h5⟩ := h
  refine ⟨a, cap, h1, h2, h3, ?_⟩
  rcases h5 with h5 | ⟨b, o, e, hS, hb, hcl⟩
  · exact .inl h5
  · refine .inr ⟨b, o, e, k b hb hS, hb, fun i hi => ?_⟩
    obtain ⟨c1, u, c2, c3⟩ := hcl i hi
    exact ⟨c1, u, c2, c3.mono k⟩
theorem TxnsIn.below {w w' : World} {S : Nat → Prop} {v : Value} {ts : List (Nat × List ByteArray)} (h : TxnsIn w S v ts) (hb : Below w.heap.size w w') : TxnsIn w' S v ts := h.keep (Chg.of (S := fun _ => False) hb) fun _ _ _ => id
theorem TxnsIn.open_ {w : World} {S : Nat → Prop} {v : Value} {ts : List (Nat × List ByteArray)} (h : TxnsIn w S v ts) : ∃ a cap, v = .slice a ts.length cap ∧ ts.length ≤ cap ∧ cap ≤ maxLen ∧ ∀ i (hi : i < ts.length), ∃ b o, a = some ⟨b, o, none⟩ ∧ S b ∧ b < w.heap.size ∧ w.cell? ⟨b, o + i * 2, none⟩ = some (.int .u64 ((ts[i]'hi).1 : Int)) ∧ ∃ u, w.cell? ⟨b, o + i * 2 + 1, none⟩ = some u ∧ StrsIn w S u (ts[i]'hi).2 := by
  obtain ⟨a, cap, h1, h2, h3, h5⟩ := h
  refine ⟨a, cap, h1, h2, h3, fun i hi => ?_⟩
  rcases h5 with h5 | ⟨b, o, e, hS, hb, hcl⟩
  · subst h5; simp at hi
  · exact ⟨b, o, e, hS, hb, hcl i hi⟩
/-- transactions in a slice that grows: vs are the values of their slices of strings -/
structure TxRow (w : World) (T : TypeId) (S : Nat → Prop) (v : Value) (ts : List (Nat × List ByteArray)) (vs : List Value) : Prop where
  len : vs.length = ts.length
  row : w.ownsRow 0 T 2 v ts.length (txc ts vs)
  at_ : ∀ g, v.ownBlock = some g → S g
  strs : ∀ i (h : i < ts.length), ∃ u, vs[i]? = some u ∧ StrsIn w (fun b => S b ∧ v.ownBlock ≠ some b) u (ts[i]'h).2
def TxOwn (w : World) (T : TypeId) (S : Nat → Prop) (v : Value) (ts : List (Nat × List ByteArray)) : Prop := ∃ vs, TxRow w T S v ts vs
theorem TxOwn.nil (w : World) (T : TypeId) (S : Nat → Prop) : TxOwn w T S (.slice none 0 0) [] :=
  ⟨[], rfl, World.ownsRow_nil _ _ _ _, (by intro g hg; cases hg), (by intro i h; exact absurd h (Nat.not_lt_zero _))⟩
theorem own_keep {w w' : World} {e : TypeId} {size : Nat} {v : Value} {n : Nat} {xs : List Value} (h : w.ownsRow 0 e size v n xs) (hk : ∀ g, v.ownBlock = some g → w'.heap[g]? = w.heap[g]?) : w'.ownsRow 0 e size v n xs := by
  refine ⟨h.1, ?_⟩
  rcases h.2 with h2 | ⟨g, cap, cur, rfl, r1, r2, r3⟩
  · exact .inl h2
  · exact .inr ⟨g, cap, cur, rfl, r1, (hk g rfl).trans r2, r3⟩
theorem TxOwn.keep {w w' : World} {T : TypeId} {S U : Nat → Prop} {v : Value} {ts : List (Nat × List ByteArray)} (h : TxOwn w T S v ts) (hc : Chg U w w') (k : ∀ b, b < w.heap.size → S b → ¬ U b) : TxOwn w' T S v ts := by
  obtain ⟨vs, h1, h2, h3, h4⟩ := h
  refine ⟨vs, h1, own_keep h2 fun g hg => hc.block g (h2.lt g hg).2 (k g (h2.lt g hg).2 (h3 g hg)), h3, fun i hi => ?_⟩
  obtain ⟨u, hu, hs⟩ := h4 i hi
  exact ⟨u, hu, hs.keep hc fun b hb hS => k b hb hS.1⟩
theorem TxOwn.below {w w' : World} {T : TypeId} {S : Nat → Prop} {v : Value} {ts : List (Nat × List ByteArray)} (h : TxOwn w T S v ts) (hb : Below w.heap.size w w') : TxOwn w' T S v ts := h.keep (Chg.of (S := fun _ => False) hb) fun _ _ _ => id
theorem TxOwn.mono {w : World} {T : TypeId} {S U : Nat → Prop} {v : Value} {ts : List (Nat × List ByteArray)} (h : TxOwn w T S v ts) (k : ∀ b, b < w.heap.size → S b → U b) : TxOwn w T U v ts := by
  obtain ⟨vs, h1, h2, h3, h4⟩ := h
  refine ⟨vs, h1, h2, fun g hg => k g (h2.lt g hg).2 (h3 g hg), fun i hi => ?_⟩
  obtain ⟨u, hu, hs⟩ := h4 i hi
  exact ⟨u, hu, hs.mono fun b hb hS => ⟨k b hb hS.1, hS.2⟩⟩
theorem TxOwn.shape {w : World} {T : TypeId} {S : Nat → Prop} {v : Value} {ts : List (Nat × List ByteArray)} (h : TxOwn w T S v ts) : ∃ a c, v = .slice a ts.length c ∧ ts.length ≤ c ∧ c ≤ maxLen := by
  obtain ⟨vs, h1, h2, h3, h4⟩ := h
  rcases h2.2 with ⟨rfl, h⟩ | ⟨g, cap, cur, rfl, _, _, r1, r2, _⟩
  · exact ⟨none, 0, by rw [h], by omega, Nat.zero_le _⟩
  · exact ⟨_, _, rfl, r1, r2⟩
/-- one more, by append -/
theorem TxRow.push {w wa w3 : World} {T : TypeId} {S : Nat → Prop} {v v' u : Value} {ts : List (Nat × List ByteArray)} {vs : List Value} {t : Nat × List ByteArray} (h : TxRow w T S v ts vs) (hu : StrsIn w (fun b => S b ∧ v.ownBlock ≠ some b) u t.2)
    (ha : Below w.heap.size w wa) (hown : w3.ownsRow 0 T 2 v' (ts.length + 1) (txc ts vs ++ [.int .u64 (t.1 : Int), u])) (hg : wa.grownBy w3 v.ownBlock) (hl : v'.ownBlock = v.ownBlock ∨ v'.ownBlock = some wa.heap.size) (hS : ∀ q, w.heap.size ≤ q → S q) :
    TxOwn w3 T S v' (ts ++ [t]) ∧ Chg (fun q => v.ownBlock = some q) w w3 := by
  have hc : Chg (fun q => v.ownBlock = some q) w w3 := (Chg.of ha).grown hg fun k hk => .inl hk
  have kk : ∀ u l, StrsIn w (fun b => S b ∧ v.ownBlock ≠ some b) u l → StrsIn w3 (fun b => S b ∧ v'.ownBlock ≠ some b) u l := fun u l hs => by
    have h1 : StrsIn w (fun b => S b ∧ v.ownBlock ≠ some b ∧ v'.ownBlock ≠ some b) u l := hs.mono fun b hb hh => ⟨hh.1, hh.2, by
      rcases hl with hl | hl
      · rw [hl]; exact hh.2
      · rw [hl]; have := ha.size; intro e; injection e; omega⟩
    exact (h1.keep hc fun b hb hh => hh.2.1).mono fun b hb hh => ⟨hh.1, hh.2.2⟩
  refine ⟨⟨vs ++ [u], by simp [h.len], ?_, ?_, fun i hi => ?_⟩, hc⟩
  · rw [txc_snoc ts vs t u h.len, List.length_append]
    exact hown
  · intro g hg'
    rcases hl with hl | hl
    · exact h.at_ g (hl ▸ hg')
    · rw [hl] at hg'; injection hg' with e; exact e ▸ hS _ ha.size
  · by_cases hlt : i < ts.length
    · obtain ⟨u', hu', hs'⟩ := h.strs i hlt
      refine ⟨u', by rw [List.getElem?_append_left (by have := h.len; omega)]; exact hu', ?_⟩
      rw [List.getElem_append_left hlt]
      exact kk _ _ hs'
    · have e : i = ts.length := by simp at hi; omega
      subst e
      refine ⟨u, by rw [List.getElem?_append_right (by have := h.len; omega), h.len]; simp, ?_⟩
      rw [List.getElem_append_right (by omega)]
      simp only [Nat.sub_self, List.getElem_cons_zero]
      exact kk _ _ hu
theorem TxOwn.in_ {w : World} {T : TypeId} {S : Nat → Prop} {v : Value} {ts : List (Nat × List ByteArray)} (h : TxOwn w T S v ts) : TxnsIn w S v ts := by
  obtain ⟨a, c, hv, hc1, hc2⟩ := h.shape
  obtain ⟨vs, h1, h2, h3, h4⟩ := h
  refine ⟨a, c, hv, hc1, hc2, ?_⟩
  rcases h2.2 with ⟨_, h⟩ | ⟨g, cap, cur, hv2, r0, r1, r2, r3, r4, r5⟩
  · exact .inl (List.length_eq_zero_iff.1 h)
  · by_cases h0 : ts = []
    · exact .inl h0
    · rw [hv2] at h2 h3 h4
      refine .inr ⟨g, 0, ?_, h3 g rfl, (h2.lt g rfl).2, fun i hi => ?_⟩
      · rw [hv] at hv2; exact (Value.slice.inj hv2).1
      · have ha := txc_at ts vs h1 i hi
        obtain ⟨u, hu, hs⟩ := h4 i hi
        refine ⟨?_, u, ?_, hs.mono fun b _ hh => hh.1⟩
        · rw [Nat.zero_add]
          exact (h2.cellAt (i * 2) (by omega)).trans ha.1
        · rw [Nat.zero_add]
          exact (h2.cellAt (i * 2 + 1) (by omega)).trans (ha.2.trans hu)
end Go.Proofs.YtndhmidgnpobjaaGreatDoor
end
