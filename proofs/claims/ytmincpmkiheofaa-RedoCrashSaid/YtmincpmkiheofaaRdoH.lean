
/- The contracts of the closures by which a log writes. Conditions: the disk's and the log's blocks as they lie. -/
import Derived.Test.YtmincpmkiheofaaRdoG
namespace Go.Proofs.Ytmincpmkiheofaa
open Go.ChangeShapes Go.WideShapes Go.ChangeAt Go.RowKit
set_option linter.unusedVariables false
set_option linter.unusedSimpArgs false

/-- a call of the disk: a write, or a flush -/
abbrev Dop := Option (Nat × ByteArray)
def dres (n : Nat) (s : St) : Dop → Int × St
  | some (i, t) => wres n s (i : Int) t
  | none => fres s
/-- .. that is left out behind an error -/
def stepW (n : Nat) (x : Int × St) (o : Dop) : Int × St := if x.1 = 0 then dres n x.2 o else x
def runW (n : Nat) (ops : List Dop) (x : Int × St) : Int × St := ops.foldl (stepW n) x
theorem dres_len (n : Nat) (s : St) (o : Dop) : (dres n s o).2.wr.length ≤ s.wr.length + 1 := by
  have hb := (burn_eq s).1
  cases o with
  | none =>
    show (fres s).2.wr.length ≤ _
    unfold fres
    split
    · exact Nat.le_succ _
    · split
      · exact Nat.zero_le _
      · rw [hb]; exact Nat.le_succ _
  | some x =>
    obtain ⟨i, t⟩ := x
    show (wres n s (i : Int) t).2.wr.length ≤ _
    unfold wres
    split
    · exact Nat.le_succ _
    · split
      · exact Nat.le_succ _
      · split
        · simp
        · rw [hb]; exact Nat.le_succ _
theorem stepW_len (n : Nat) (x : Int × St) (o : Dop) : (stepW n x o).2.wr.length ≤ x.2.wr.length + 1 := by
  unfold stepW; split
  · exact dres_len n x.2 o
  · exact Nat.le_succ _
theorem runW_len (n : Nat) : ∀ (ops : List Dop) (x : Int × St), (runW n ops x).2.wr.length ≤ x.2.wr.length + ops.length
  | [], x => Nat.le_refl _
  | o :: ops, x => by
    have h1 := stepW_len n x o
    have h2 := runW_len n ops (stepW n x o)
    show (runW n ops (stepW n x o)).2.wr.length ≤ x.2.wr.length + (ops.length + 1)
    omega
theorem runW_snoc (n : Nat) (ops : List Dop) (o : Dop) (x : Int × St) : runW n (ops ++ [o]) x = stepW n (runW n ops x) o := by simp [runW]
theorem runW_app (n : Nat) (a b : List Dop) (x : Int × St) : runW n (a ++ b) x = runW n b (runW n a x) := by simp [runW]

section
variable {w : World} {lg pl pe pf b4 b5 d sb mb sc : Nat} {wv : Value} {N : Nat} {s : St} {l : LogS}
set_option maxRecDepth 10000 in
set_option maxHeartbeats 1000000 in
theorem sub_any (hL : LogAt w lg d l) (hk : l.Ok) (hP : Own w pl 30 #[.pointer (some ⟨lg, 0, none⟩)]) (at_ : Nat) (t : ByteArray) (h4 : Own w b4 3 #[.int .i64 (at_ : Int)]) (h5 : Own w b5 9 #[.string t])
    (hD : DiskAt w d sb mb sc wv N s) (hat : at_ ≤ 1000000) (ht : t.size ≤ maxLen) (hl : s.wr.length < 1000000) (hap : ∀ q, fp d sb mb wv q → q ≠ lg ∧ q ≠ pl ∧ q ≠ b4 ∧ q ≠ b5) :
    Calls Try.prog 45 #[.pointer (some ⟨pl, 0, none⟩), .pointer (some ⟨b4, 0, none⟩), .pointer (some ⟨b5, 0, none⟩)] w fun e w' => e = .returned (.int .i64 (wres N s ((l.from_ + l.used + at_ : Nat) : Int) t).1) ∧ Wrote w w' d sb mb sc wv N (wres N s ((l.from_ + l.used + at_ : Nat) : Int) t).2 := by
  have h1 := hk.used
  have h2 := hk.fit
  have HW := Lib.hid (write_any (hD.below (Below.refl w.heap.size w).drew) ((l.from_ + l.used + at_ : Nat) : Int) t (wf_mk (by omega) (by omega)) ht hl)
  obtain ⟨fr, sz, us, nx, fl⟩ := l
  unfold LogAt LogS.cells at hL
  simp only at hL h1 h2 HW
  have e1 : ((fr + us + at_ : Nat) : Int) = (fr : Int) + (us : Int) + (at_ : Int) := by omega
  rw [e1] at HW ⊢
  clear e1
  have HL := Lib.hid hL
  have HP := Lib.hid hP
  have H4 := Lib.hid h4
  have H5 := Lib.hid h5
  clear hL hP h4 h5 hD hk
  go_enter Try.func45, Try.ntmps45
  go_upto_region 1 with fail
  refine wp_region_seq (fun W => Own W lg 64 #[.pointer (some ⟨d, 0, none⟩), .int .i64 (fr : Int), .int .i64 (sz : Int), .int .i64 (us : Int), .int .u64 (nx : Int), .bool fl] ∧ Own W pl 30 #[.pointer (some ⟨lg, 0, none⟩)] ∧ Own W b4 3 #[.int .i64 (at_ : Int)] ∧ Own W b5 9 #[.string t]) (0 :: 1 :: 2 :: 3 :: 4 :: 5 :: 6 :: 7 :: 8 :: 9 :: 10 :: 11 :: 12 :: 13 :: 14 :: 15 :: 17 :: []) (0 :: 3 :: 4 :: 7 :: 8 :: 11 :: 13 :: 15 :: []) (0 :: 1 :: 2 :: 3 :: 4 :: 5 :: 6 :: 7 :: 8 :: 9 :: 10 :: 11 :: 12 :: 13 :: 14 :: 15 :: 16 :: 17 :: []) (by kernel_rfl) (by kernel_rfl) rfl (by kernel_rfl) rfl (⟨HL.out, HP.out, H4.out, H5.out⟩) (by simp only [picked, List.filterMap_cons, List.filterMap_nil, List.getElem?_cons_zero, List.getElem?_cons_succ, Option.map_some]; exact rfl) ?_
  iterate 16
    refine seq_want (v := ?_) rfl rfl (fun W hS => ?_) ?_
    rotate_left
    · first
        | (conv => lhs; simp [go_sem]
           first | done | exact rfl)
        | (have hS := hS rfl
           obtain ⟨q1, q2, q3, q4⟩ := hS
           obtain ⟨q1, q5, q6⟩ := Own.at_ q1
           obtain ⟨q2, q7, q8⟩ := Own.at_ q2
           obtain ⟨q3, q9, qa⟩ := Own.at_ q3
           obtain ⟨q4, qb, qc⟩ := Own.at_ q4
           conv => lhs; simp [go_sem, *]
           first | done | exact rfl)
    simp only [Act.put, List.setIfInBounds_toArray, List.set_cons_zero, List.set_cons_succ]
  refine seq_on rfl rfl fun K hK => ?_
  go_wp2_with fail
  refine HW.out.mono ?_
  rintro e w2 ⟨rfl, wv2, hd2, hc2, hw2⟩
  go_wp2
  have a1 : Own w2 lg 64 _ := hc2.own HL.out fun h => (hap _ h).1 rfl
  have a2 : Own w2 pl 30 _ := hc2.own HP.out fun h => (hap _ h).2.1 rfl
  have a3 : Own w2 b4 3 _ := hc2.own H4.out fun h => (hap _ h).2.2.1 rfl
  have a4 : Own w2 b5 9 _ := hc2.own H5.out fun h => (hap _ h).2.2.2 rfl
  refine hK _ _ ⟨a1, a2, a3, a4⟩ ?_
  clear hK K
  iterate 1
    refine seq_want (v := ?_) rfl rfl (fun W hS => ?_) ?_
    rotate_left
    · conv => lhs; simp [go_sem]
      first | done | exact rfl
    simp only [Act.put, List.setIfInBounds_toArray, List.set_cons_zero, List.set_cons_succ]
  refine seq_end ?_
  go_wp2
  go_ret
  exact ⟨rfl, wv2, hd2, (Chg.refl _ w).drew.same hc2, hw2⟩
end
end Go.Proofs.Ytmincpmkiheofaa
