
/- The contracts of what the laws of layer 6 share: a sector's text, the document's example, acts of a size that is looked at. Conditions: those that each theorem names. -/
import Derived.Test.YtgddogjieemgeaaDisF
namespace Go.Proofs.Ytgddogjieemgeaa
open Go.ChangeShapes Go.WideShapes Go.ChangeAt Go.RowKit
set_option linter.unusedVariables false
set_option linter.unusedSimpArgs false

def gg (b j : Nat) : Nat := (b + j * (b % 5)) % 256
def fl (b k : Nat) : List UInt8 := (List.range 64).map fun j => if j < k then UInt8.ofNat (gg b j) else 0
theorem fl_len (b k : Nat) : (fl b k).length = 64 := by simp [fl]
theorem fl_step (b k : Nat) (hk : k < 64) : (fl b k).set k (UInt8.ofNat (gg b k)) = fl b (k + 1) := by
  refine List.ext_getElem (by simp [fl]) fun j h1 h2 => ?_
  simp only [fl, List.getElem_set, List.getElem_map, List.getElem_range]
  by_cases e : k = j
  · subst e; simp
  · simp only [e, if_false]
    by_cases h : j < k
    · simp [h, show j < k + 1 by omega]
    · simp [h, show ¬ j < k + 1 by omega]
theorem gg_nat (b k : Nat) : ((UInt8.ofNat (gg b k)).toNat : Int) = (gg b k : Nat) := by
  simp [gg]
/-- the text of a sector -/
def fillB (b : Nat) : ByteArray := strOf (fl b 64)
theorem fillB_size (b : Nat) : (fillB b).size = 64 := by show (fl b 64).toArray.size = 64; simp [fl]
theorem fill_any (b : Nat) (hb : b < 256) (w : World) : Calls Try.prog 11 #[.int .u8 b] w fun e w' => e = .returned (.string (fillB b)) ∧ Below w.heap.size w w' := by
  have HM : (Instr.makeSlice 57 (.int .i64 64) (.int .i64 64)).run Try.prog w = _ := run_make_row' (P := Try.prog) 57 5 (.int .u8 0) 1 Try.underlying57 info_u8 rfl .i64 .i64 64 (by omega) (by omega) w
  have B0 := noughts w 5 64
  have e0 : List.replicate 64 (0 : UInt8) = fl b 0 := by simp [fl]; rfl
  rw [e0] at B0
  obtain ⟨W0, hW0⟩ : ∃ W0, W0 = w.alloc (.cells (madeCells #[.int .u8 0] 64) 5) := ⟨_, rfl⟩
  have L0 : Below w.heap.size w W0 := hW0 ▸ (Below.refl _ _).alloc (Nat.le_refl _) _
  rw [← hW0] at HM B0
  replace B0 := Lib.hid B0
  replace L0 := Lib.hid L0
  clear hW0 e0
  go_enter Try.func11, Try.ntmps11
  go_wp2
  clear HM
  go_loopw [4] (fun i wr => ∃ k : Nat, k ≤ 64 ∧ i = .int .i64 k ∧ BytesAt wr w.heap.size (fl b k) ∧ Below w.heap.size w wr) (fun i wr => 64 - (intOf i).toNat)
  case atStart => exact ⟨0, by omega, rfl, B0.out, L0.out⟩
  case round =>
    obtain ⟨k, hk, rfl, hB, hL⟩ := hrel
    by_cases hlt : k < 64
    · have c1 := hB.cell k (by rw [fl_len]; exact hlt)
      have c2 := hB.free k (by rw [fl_len]; exact hlt)
      replace hB := Lib.hid hB
      go_wp2
      go_roundw
      case rel =>
        refine ⟨k + 1, by omega, by go_num, ?_, hL.setCell (Nat.le_refl _) _⟩
        have e : (((b : Int) + k * (b % 5)) % 256) = ((UInt8.ofNat (gg b k)).toNat : Int) := by rw [gg_nat, gg, Int.natCast_emod, Int.natCast_add, Int.natCast_mul, Int.natCast_emod]; rfl
        rw [e, ← fl_step b k hlt]
        exact hB.out.store k (by rw [fl_len]; exact hlt) _
      case measure => simp [intOf]; omega
    · obtain rfl : k = 64 := by omega
      have HC := of_bytes Try.prog wr 57 9 5 w.heap.size 64 (fl b 64) hB Try.underlying57 Try.underlying5 Try.underlying9
      rw [fl_len] at HC
      change _ = Result.ok (Value.string (fillB b)) _ at HC
      clear hB
      obtain ⟨T, hT⟩ : ∃ T, T = fillB b := ⟨_, rfl⟩
      rw [← hT] at HC
      replace hT := Lib.hid hT
      go_wp2
      go_ret
      rw [← hT.out]
      exact ⟨rfl, hL⟩
theorem st_eq (s : St) : s = ⟨s.sure, s.wr, s.fuse, s.down⟩ := rfl
theorem settled_nil (kp : Nat → Nat) (j : Nat) (L : List UInt8) : settled kp [] j L = L := rfl
theorem sep_new {d sb mb : Nat} {wv : Value} (B : Nat) (h1 : B ≤ d) (h2 : B ≤ sb) (h3 : B ≤ mb) (h4 : ∀ g, wv.ownBlock = some g → B ≤ g) : ∀ q, fp d sb mb wv q → B ≤ q := by
  rintro q (rfl | rfl | rfl | h)
  · exact h1
  · exact h2
  · exact h3
  · exact h4 _ h
theorem own_of {w2 : World} {wv wv' : Value} {B : Nat} (h : wv'.ownBlock = wv.ownBlock ∨ ∃ g, wv'.ownBlock = some g ∧ w2.heap.size ≤ g) (hB : B ≤ w2.heap.size) (h4 : ∀ g, wv.ownBlock = some g → B ≤ g) : ∀ g, wv'.ownBlock = some g → B ≤ g := by
  intro g hg
  rcases h with h | ⟨g', h, hz⟩
  · exact h4 g (h ▸ hg)
  · rw [h] at hg
    obtain rfl : g' = g := by simpa using hg
    omega
theorem own_of' {wv wv' : Value} {B : Nat} (h : wv'.ownBlock = none ∨ wv'.ownBlock = wv.ownBlock) (h4 : ∀ g, wv.ownBlock = some g → B ≤ g) : ∀ g, wv'.ownBlock = some g → B ≤ g := by
  intro g hg
  rcases h with h | h
  · rw [h] at hg; cases hg
  · exact h4 g (h ▸ hg)
def s0 : St := ⟨List.replicate 128 0, [], -1, false⟩
def s1 : St := ⟨List.replicate 128 0, [(0, fillB 97)], -1, false⟩
def s2 : St := ⟨fl 97 64 ++ List.replicate 64 0, [], -1, false⟩
def s3 : St := ⟨fl 97 64 ++ List.replicate 64 0, [(0, fillB 98)], -1, false⟩
def s4 : St := ⟨(fl 98 64).take 3 ++ (fl 97 64).drop 3 ++ List.replicate 64 0, [], -1, false⟩
theorem e01 : wres 2 s0 0 (fillB 97) = (0, s1) := by simp [wres, burn, s0, s1, fillB_size]
theorem e12 : fres s1 = (0, s2) := by kernel_rfl
theorem e23 : wres 2 s2 0 (fillB 98) = (0, s3) := by simp [wres, burn, s2, s3, fillB_size]
theorem e34 : cres s3 0 [] 0 3 = s4 := by kernel_rfl
theorem e45 : rres 2 s4 0 = (strOf ((fl 98 64).take 3 ++ (fl 97 64).drop 3), 0) := by kernel_rfl
set_option maxHeartbeats 2000000 in
/-- the document's example of layer 6 -/
theorem awake_any (w : World) : Calls Try.prog 7 #[] w fun e w' => e = .returned (.bool true) ∧ Below w.heap.size w w' := by
  have f97 := fillB_size 97
  have f98 := fillB_size 98
  replace f97 := Lib.hid f97
  replace f98 := Lib.hid f98
  go_enter Try.func7, Try.ntmps7
  go_wp2_with fail
  refine (new_any w 2 (by omega) (by omega)).mono ?_
  rintro e w1 ⟨d, sb, mb, rfl, D1, b1, zd, zs, zm⟩
  have S1 := sep_new (wv := .slice none 0 0) w.heap.size zd zs zm (fun g hg => by cases hg)
  replace S1 := Lib.hid S1
  change DiskAt w1 d sb mb 128 (.slice none 0 0) 2 s0 at D1
  go_wp2_with fail
  refine (fill_any 97 (by omega) w1).mono ?_
  rintro e w2 ⟨rfl, b2⟩
  have D2 := D1.below b2
  have B2 := b1.trans (b2.mono b1.size)
  clear D1 b1 b2
  go_wp2_with fail
  have H := write_any D2 0 (fillB 97) (wf_mk (by decide) (by decide)) (by rw [f97.out]; decide) (by decide)
  rw [e01] at H
  refine H.mono ?_
  rintro e w3 ⟨rfl, wv3, D3, c3, l3⟩
  clear H
  have B3 := B2.trans (c3.below B2.size S1.out)
  have S3 := Lib.hid (sep_new (wv := wv3) w.heap.size zd zs zm (own_of l3 B2.size fun g hg => by cases hg))
  clear D2 c3 l3
  go_wp2_with fail
  have H := flush_any D3
  rw [e12] at H
  refine H.mono ?_
  rintro e w4 ⟨rfl, wv4, D4, c4, l4⟩
  clear H
  have B4 := B3.trans (c4.below B3.size S3.out)
  have S4 := Lib.hid (sep_new (wv := wv4) w.heap.size zd zs zm (own_of' l4 fun g hg => S3.out g (.inr (.inr (.inr hg)))))
  clear D3 c4 l4
  go_wp2_with fail
  refine (fill_any 98 (by omega) w4).mono ?_
  rintro e w5 ⟨rfl, b5⟩
  have D5 := D4.below b5
  have B5 := B4.trans (b5.mono B4.size)
  clear D4 b5
  go_wp2_with fail
  have H := write_any D5 0 (fillB 98) (wf_mk (by decide) (by decide)) (by rw [f98.out]; decide) (by decide)
  rw [e23] at H
  refine H.mono ?_
  rintro e w6 ⟨rfl, wv6, D6, c6, l6⟩
  clear H
  have B6 := B5.trans (c6.below B5.size S4.out)
  have S6 := Lib.hid (sep_new (wv := wv6) w.heap.size zd zs zm (own_of l6 B5.size fun g hg => S4.out g (.inr (.inr (.inr hg)))))
  clear D5 c6 l6
  go_wp2_with fail
  have H := crash_any D6 none 0 0 [] 0 3 ⟨Nat.le_refl _, Nat.zero_le _, .inl rfl⟩ (fun b o h _ => by cases h)
  rw [e34] at H
  refine H.mono ?_
  rintro e w7 ⟨rfl, D7, c7⟩
  clear H
  have B7 := B6.trans (c7.below B6.size S6.out)
  clear D6 c7
  go_wp2_with fail
  have H := read_any D7 0 (wf_mk (by decide) (by decide))
  rw [e45] at H
  refine H.mono ?_
  rintro e w8 ⟨rfl, b8⟩
  clear H
  have B8 := B7.trans (b8.mono B7.size)
  clear B2 B3 B4 B5 B6 B7 b8 D7
  have F1 := Lib.hid (fill_any 97 (by omega))
  have F2 := Lib.hid (fill_any 98 (by omega))
  go_upto_region 7 with fail
  have HT : (fillB 98).extract 0 3 ++ (fillB 97).extract 3 64 = strOf ((fl 98 64).take 3 ++ (fl 97 64).drop 3) := by kernel_rfl
  obtain ⟨T, hT⟩ : ∃ T, T = strOf ((fl 98 64).take 3 ++ (fl 97 64).drop 3) := ⟨_, rfl⟩
  obtain ⟨TA, hA⟩ : ∃ T, T = fillB 98 := ⟨_, rfl⟩
  obtain ⟨TB, hB⟩ : ∃ T, T = fillB 97 := ⟨_, rfl⟩
  rw [← hT, ← hA, ← hB] at HT
  rw [← hA] at f98 F2 ⊢
  rw [← hB] at f97 F1 ⊢
  rw [← hT]
  replace HT := Lib.hid HT
  have za := f98.out
  have zb := f97.out
  have za1 : (3 : Int) ≤ TA.size := by omega
  have zb1 : (3 : Int) ≤ TB.size := by omega
  have za2 : 3 ≤ TA.size := by omega
  have zb2 : 3 ≤ TB.size := by omega
  have ze1 : (TA.extract 0 3).size = 3 := by rw [ByteArray.size_extract]; omega
  have ze2 : (TB.extract 3 64).size = 61 := by rw [ByteArray.size_extract]; omega
  clear hT hA hB
  refine wp_region_seq (fun W => True) [0, 1, 2, 3, 4, 5, 6, 7, 9, 11, 12, 13, 14, 15] [] [0, 1, 2, 3, 4, 5, 6, 7, 8, 9, 10, 11, 12, 13, 14, 15] (by kernel_rfl) (by kernel_rfl) rfl (by kernel_rfl) rfl trivial (by simp only [picked, List.filterMap_cons, List.filterMap_nil, List.getElem?_cons_zero, List.getElem?_cons_succ, Option.map_some]; exact rfl) ?_
  iterate 8
    refine seq_want (v := ?_) rfl rfl (fun W hS => ?_) ?_
    rotate_left
    · conv => lhs; simp [go_sem]
      first | done | exact rfl
    simp only [Act.put, List.setIfInBounds_toArray, List.set_cons_zero, List.set_cons_succ]
  refine seq_on rfl rfl fun K hK => ?_
  go_wp2_with (go_at_call 11; refine (F2.out _).mono ?_; rintro e w9 ⟨rfl, b9⟩)
  refine hK _ _ trivial ?_
  clear hK K
  iterate 1
    refine seq_want (v := ?_) rfl rfl (fun W hS => ?_) ?_
    rotate_left
    · conv => lhs; simp [go_sem, za1, za2]
      first | done | exact rfl
    simp only [Act.put, List.setIfInBounds_toArray, List.set_cons_zero, List.set_cons_succ]
  refine seq_on rfl rfl fun K hK => ?_
  go_wp2_with (go_at_call 11; refine (F1.out _).mono ?_; rintro e w10 ⟨rfl, b10⟩)
  refine hK _ _ trivial ?_
  clear hK K
  iterate 2
    refine seq_want (v := ?_) rfl rfl (fun W hS => ?_) ?_
    rotate_left
    · conv => lhs; simp [go_sem, zb1, zb2, ze1, ze2, zb]
      first | done | exact rfl
    simp only [Act.put, List.setIfInBounds_toArray, List.set_cons_zero, List.set_cons_succ]
  rw [HT.out]
  iterate 3
    refine seq_want (v := ?_) rfl rfl (fun W hS => ?_) ?_
    rotate_left
    · conv => lhs; simp [go_sem]
      first | done | exact rfl
    simp only [Act.put, List.setIfInBounds_toArray, List.set_cons_zero, List.set_cons_succ]
  refine seq_end ?_
  go_wp2
  go_ret
  exact ⟨rfl, then_ (then_ B8.drew b9 B8.size) b10 (Nat.le_trans B8.size b9.size)⟩
end Go.Proofs.Ytgddogjieemgeaa
