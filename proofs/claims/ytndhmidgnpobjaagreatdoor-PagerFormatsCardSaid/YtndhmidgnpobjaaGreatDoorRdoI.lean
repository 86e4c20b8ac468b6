/- merged: The contracts of the closures by which a log writes. Conditions: the disk's and the log's blocks as they lie. The contracts of a log's closures do and put. Conditions: the disk's and the log's blocks as they lie. -/
import Derived.Test.YtndhmidgnpobjaaGreatDoorRdoG
section
namespace Go.Proofs.YtndhmidgnpobjaaGreatDoor
open Go.ChangeShapes Go.WideShapes Go.ChangeAt Go.RowKit
set_option linter.unusedVariables false
set_option linter.unusedSimpArgs false

/-- a call of the disk: a write, or a flush -/
abbrev Dop := Option (Nat × ByteArray)
def dres (n : Nat) (s : St) : Dop → Int × St
  | some (i, t) => wres n s (i : Int) t
  | none => fres s
/-- .. that is left out behind an error -/
def stepW (n : Nat) (x : Int × St) (o : Dop) : Int × St := if x.1 = 0 then dres n x.2 o else x
def runW (n : Nat) (ops : List Dop) (x : Int × St) : Int × St := ops.foldl (stepW n) x
theorem dres_len (n : Nat) (s : St) (o : Dop) : (dres n s o).2.wr.length ≤ s.wr.length + 1 := by
  have hb := (burn_eq s).1
  cases o with
  | none =>
    show (fres s).2.wr.length ≤ _
    unfold fres
    split
    · exact Nat.le_succ _
    · split
      · exact Nat.zero_le _
      · rw [hb]; exact Nat.le_succ _
  | some x =>
    obtain ⟨i, t⟩ := x
    show (wres n s (i : Int) t).2.wr.length ≤ _
    unfold wres
    split
    · exact Nat.le_succ _
    · split
      · exact Nat.le_succ _
      · split
        · simp
        · rw [hb]; exact Nat.le_succ _
theorem stepW_len (n : Nat) (x : Int × St) (o : Dop) : (stepW n x o).2.wr.length ≤ x.2.wr.length + 1 := by
  unfold stepW; split
  · exact dres_len n x.2 o
  · exact Nat.le_succ _
theorem runW_len (n : Nat) : ∀ (ops : List Dop) (x : Int × St), (runW n ops x).2.wr.length ≤ x.2.wr.length + ops.length
  | [], x => Nat.le_refl _
  | o :: ops, x => by
    have h1 := stepW_len n x o
    have h2 := runW_len n ops (stepW n x o)
    show (runW n ops (stepW n x o)).2.wr.length ≤ x.2.wr.length + (ops.length + 1)
    omega
theorem runW_snoc (n : Nat) (ops : List Dop) (o : Dop) (x : Int × St) : runW n (ops ++ [o]) x = stepW n (runW n ops x) o := by simp [runW]
theorem runW_app (n : Nat) (a b : List Dop) (x : Int × St) : runW n (a ++ b) x = runW n b (runW n a x) := by simp [runW]

section
variable {w : World} {lg pl pe pf b4 b5 d sb mb sc : Nat} {wv : Value} {N : Nat} {s : St} {l : LogS}
set_option maxRecDepth 10000 in
set_option maxHeartbeats 1000000 in
theorem sub_any (hL : LogAt w lg d l) (hk : l.Ok) (hP : Own w pl 120 #[.pointer (some ⟨lg, 0, none⟩)]) (at_ : Nat) (t : ByteArray) (h4 : Own w b4 3 #[.int .i64 (at_ : Int)]) (h5 : Own w b5 9 #[.string t])
    (hD : DiskAt w d sb mb sc wv N s) (hat : at_ ≤ 1000000) (ht : t.size ≤ maxLen) (hl : s.wr.length < 1000000) (hap : ∀ q, fp d sb mb wv q → q ≠ lg ∧ q ≠ pl ∧ q ≠ b4 ∧ q ≠ b5) :
    Calls Tryz.prog 268 #[.pointer (some ⟨pl, 0, none⟩), .pointer (some ⟨b4, 0, none⟩), .pointer (some ⟨b5, 0, none⟩)] w fun e w' => e = .returned (.int .i64 (wres N s ((l.from_ + l.used + at_ : Nat) : Int) t).1) ∧ Wrote w w' d sb mb sc wv N (wres N s ((l.from_ + l.used + at_ : Nat) : Int) t).2 := by
  have h1 := hk.used
  have h2 := hk.fit
  have HW := Lib.hid (write_any (hD.below (Below.refl w.heap.size w).drew) ((l.from_ + l.used + at_ : Nat) : Int) t (wf_mk (by omega) (by omega)) ht hl)
  obtain ⟨fr, sz, us, nx, fl⟩ := l
  unfold LogAt LogS.cells at hL
  simp only at hL h1 h2 HW
  have e1 : ((fr + us + at_ : Nat) : Int) = (fr : Int) + (us : Int) + (at_ : Int) := by omega
  rw [e1] at HW ⊢
  clear e1
  have HL := Lib.hid hL
  have HP := Lib.hid hP
  have H4 := Lib.hid h4
  have H5 := Lib.hid h5
  clear hL hP h4 h5 hD hk
  go_enter Tryz.func268, Tryz.ntmps268
  go_upto_region 1 with fail
  refine wp_region_seq (fun W => Own W lg 207 #[.pointer (some ⟨d, 0, none⟩), .int .i64 (fr : Int), .int .i64 (sz : Int), .int .i64 (us : Int), .int .u64 (nx : Int), .bool fl] ∧ Own W pl 120 #[.pointer (some ⟨lg, 0, none⟩)] ∧ Own W b4 3 #[.int .i64 (at_ : Int)] ∧ Own W b5 9 #[.string t]) (0 :: 1 :: 2 :: 3 :: 4 :: 5 :: 6 :: 7 :: 8 :: 9 :: 10 :: 11 :: 12 :: 13 :: 14 :: 15 :: 17 :: []) (0 :: 3 :: 4 :: 7 :: 8 :: 11 :: 13 :: 15 :: []) (0 :: 1 :: 2 :: 3 :: 4 :: 5 :: 6 :: 7 :: 8 :: 9 :: 10 :: 11 :: 12 :: 13 :: 14 :: 15 :: 16 :: 17 :: []) (by kernel_rfl) (by kernel_rfl) rfl (by kernel_rfl) rfl (⟨HL.out, HP.out, H4.out, H5.out⟩) (by simp only [picked, List.filterMap_cons, List.filterMap_nil, List.getElem?_cons_zero, List.getElem?_cons_succ, Option.map_some]; exact rfl) ?_
  iterate 16
    refine seq_want (v := ?_) rfl rfl (fun W hS => ?_) ?_
    rotate_left
    · first
        | (conv => lhs; simp [go_sem]
           first | done | exact rfl)
        | (have hS := hS rfl
           obtain ⟨q1, q2, q3, q4⟩ := hS
           obtain ⟨q1, q5, q6⟩ := Own.at_ q1
           obtain ⟨q2, q7, q8⟩ := Own.at_ q2
           obtain ⟨q3, q9, qa⟩ := Own.at_ q3
           obtain ⟨q4, qb, qc⟩ := Own.at_ q4
           conv => lhs; simp [go_sem, *]
           first | done | exact rfl)
    simp only [Act.put, List.setIfInBounds_toArray, List.set_cons_zero, List.set_cons_succ]
  refine seq_on rfl rfl fun K hK => ?_
  go_wp2_with fail
  refine HW.out.mono ?_
  rintro e w2 ⟨rfl, wv2, hd2, hc2, hw2⟩
  go_wp2
  have a1 : Own w2 lg 207 _ := hc2.own HL.out fun h => (hap _ h).1 rfl
  have a2 : Own w2 pl 120 _ := hc2.own HP.out fun h => (hap _ h).2.1 rfl
  have a3 : Own w2 b4 3 _ := hc2.own H4.out fun h => (hap _ h).2.2.1 rfl
  have a4 : Own w2 b5 9 _ := hc2.own H5.out fun h => (hap _ h).2.2.2 rfl
  refine hK _ _ ⟨a1, a2, a3, a4⟩ ?_
  clear hK K
  iterate 1
    refine seq_want (v := ?_) rfl rfl (fun W hS => ?_) ?_
    rotate_left
    · conv => lhs; simp [go_sem]
      first | done | exact rfl
    simp only [Act.put, List.setIfInBounds_toArray, List.set_cons_zero, List.set_cons_succ]
  refine seq_end ?_
  go_wp2
  go_ret
  exact ⟨rfl, wv2, hd2, (Chg.refl _ w).drew.same hc2, hw2⟩
end
end Go.Proofs.YtndhmidgnpobjaaGreatDoor
end
section
namespace Go.Proofs.YtndhmidgnpobjaaGreatDoor
open Go.ChangeShapes Go.WideShapes Go.ChangeAt Go.RowKit
set_option linter.unusedVariables false
set_option linter.unusedSimpArgs false

section
variable {w : World} {lg pl pe pf b4 b5 d sb mb sc : Nat} {wv : Value} {N : Nat} {s : St} {l : LogS}
set_option maxRecDepth 10000 in
/-- a step that is called where no error stands yet -/
theorem do_no (a : Value) (e0 : Int) (hE : Own w pe 26 #[.int .i64 e0]) (h0 : e0 ≠ 0) : Calls Tryz.prog 266 #[a, .pointer (some ⟨pe, 0, none⟩)] w fun e w' => e = .returned (.tuple #[]) ∧ w = w' := by
  have t0 : (e0 == 0) = false := by simpa using h0
  obtain ⟨o1, o2, o3⟩ := hE.at_
  clear hE h0
  go_enter Tryz.func266, Tryz.ntmps266
  go_wp2
  go_end0
  exact ⟨rfl, rfl⟩
set_option maxRecDepth 10000 in
theorem do_put (R : World → Int → Prop) (hE : Own w pe 26 #[.int .i64 0])
    (HC : Calls Tryz.prog 268 #[.pointer (some ⟨pl, 0, none⟩), .pointer (some ⟨b4, 0, none⟩), .pointer (some ⟨b5, 0, none⟩)] w fun e w' => ∃ c : Int, e = .returned (.int .i64 c) ∧ R w' c ∧ Own w' pe 26 #[.int .i64 0]) :
    Calls Tryz.prog 266 #[.func (.func 268) #[] #[.pointer (some ⟨pl, 0, none⟩), .pointer (some ⟨b4, 0, none⟩), .pointer (some ⟨b5, 0, none⟩)], .pointer (some ⟨pe, 0, none⟩)] w fun e w' => e = .returned (.tuple #[]) ∧ ∃ w1 c, R w1 c ∧ Own w1 pe 26 #[.int .i64 0] ∧ w' = w1.setCell ⟨pe, 0, none⟩ (.int .i64 c) := by
  have HC := Lib.hid HC
  obtain ⟨o1, o2, o3⟩ := hE.at_
  clear hE
  go_enter Tryz.func266, Tryz.ntmps266
  go_wp2_with fail
  refine HC.out.mono ?_
  rintro e w1 ⟨c, rfl, hR, hE1⟩
  have HE1 := Lib.hid hE1
  obtain ⟨o4, o5, o6⟩ := hE1.at_
  clear hE1
  go_wp2
  go_end0
  exact ⟨rfl, w1, c, hR, HE1.out, rfl⟩
set_option maxRecDepth 10000 in
theorem do_flush (R : World → Int → Prop) (hE : Own w pe 26 #[.int .i64 0])
    (HC : Calls Tryz.prog 126 #[.pointer (some ⟨d, 0, none⟩)] w fun e w' => ∃ c : Int, e = .returned (.int .i64 c) ∧ R w' c ∧ Own w' pe 26 #[.int .i64 0]) :
    Calls Tryz.prog 266 #[.func (.func 126) #[.pointer (some ⟨d, 0, none⟩)] #[], .pointer (some ⟨pe, 0, none⟩)] w fun e w' => e = .returned (.tuple #[]) ∧ ∃ w1 c, R w1 c ∧ Own w1 pe 26 #[.int .i64 0] ∧ w' = w1.setCell ⟨pe, 0, none⟩ (.int .i64 c) := by
  have HC := Lib.hid HC
  obtain ⟨o1, o2, o3⟩ := hE.at_
  clear hE
  go_enter Tryz.func266, Tryz.ntmps266
  go_wp2_with fail
  refine HC.out.mono ?_
  rintro e w1 ⟨c, rfl, hR, hE1⟩
  have HE1 := Lib.hid hE1
  obtain ⟨o4, o5, o6⟩ := hE1.at_
  clear hE1
  go_wp2
  go_end0
  exact ⟨rfl, w1, c, hR, HE1.out, rfl⟩
/-- what a step leaves -/
def Stepped (w w' : World) (pe d sb mb sc : Nat) (wv : Value) (N : Nat) (x : Int × St) : Prop :=
  ∃ wv', DiskAt w' d sb mb sc wv' N x.2 ∧ Own w' pe 26 #[.int .i64 x.1] ∧ Chg (fun q => fp d sb mb wv q ∨ q = pe) w w' ∧ (wv'.ownBlock = wv.ownBlock ∨ wv'.ownBlock = none ∨ ∃ g, wv'.ownBlock = some g ∧ w.heap.size ≤ g)
theorem Stepped.set {w w1 : World} {c : Int} {x : St} (hE : Own w1 pe 26 #[.int .i64 0]) (wv' : Value) (hD : DiskAt w1 d sb mb sc wv' N x) (hc : Chg (fp d sb mb wv) w w1) (hv : wv'.ownBlock = wv.ownBlock ∨ wv'.ownBlock = none ∨ ∃ g, wv'.ownBlock = some g ∧ w.heap.size ≤ g) (hpe : ¬ fp d sb mb wv pe) (hlt : pe < w.heap.size) :
    Stepped w (w1.setCell ⟨pe, 0, none⟩ (.int .i64 c)) pe d sb mb sc wv N (c, x) := by
  have hc2 := chg_one w1 pe 0 (.int .i64 c)
  refine ⟨wv', hD.keep hc2 fun q hq e => ?_, Own.put hE 0 _, (hc.mono fun q _ h => .inl h).same (hc2.mono fun q _ h => .inr h), hv⟩
  subst e
  rcases hq with h | h | h | h
  · exact hpe (.inl h)
  · exact hpe (.inr (.inl h))
  · exact hpe (.inr (.inr (.inl h)))
  · rcases hv with hv | hv | ⟨g, hv, hg⟩
    · exact hpe (.inr (.inr (.inr (hv ▸ h))))
    · rw [hv] at h; cases h
    · rw [hv] at h; injection h with h; omega
theorem Stepped.same {w : World} {x : Int × St} (hD : DiskAt w d sb mb sc wv N x.2) (hE : Own w pe 26 #[.int .i64 x.1]) : Stepped w w pe d sb mb sc wv N x := ⟨wv, hD, hE, Chg.refl _ _, .inl rfl⟩
set_option maxRecDepth 10000 in
set_option maxHeartbeats 1000000 in
/-- put -/
theorem put_any (x : Int × St) (hL : LogAt w lg d l) (hk : l.Ok) (hP : Own w pl 120 #[.pointer (some ⟨lg, 0, none⟩)]) (hF : Own w pf 194 #[.func (.func 266) #[] #[.pointer (some ⟨pe, 0, none⟩)]]) (hE : Own w pe 26 #[.int .i64 x.1])
    (hD : DiskAt w d sb mb sc wv N x.2) (at_ : Nat) (t : ByteArray) (hat : at_ ≤ 1000000) (ht : t.size ≤ maxLen) (hl : x.2.wr.length < 1000000) (hap : ∀ q, fp d sb mb wv q → q ≠ lg ∧ q ≠ pl ∧ q ≠ pf ∧ q ≠ pe) (hne : lg ≠ pe ∧ pl ≠ pe) :
    Calls Tryz.prog 267 #[.int .i64 (at_ : Int), .string t, .pointer (some ⟨pf, 0, none⟩), .pointer (some ⟨pl, 0, none⟩)] w fun e w' => e = .returned (.tuple #[]) ∧ Stepped w w' pe d sb mb sc wv N (stepW N x (some (l.from_ + l.used + at_, t))) := by
  obtain ⟨x1, x2⟩ := x
  simp only at hE hD hl
  obtain ⟨o1, o2, o3⟩ := hF.at_
  have zD : ∀ q, fp d sb mb wv q → q < w.heap.size := fun q hq => hD.in_ hq
  have HL := Lib.hid hL
  have HK := Lib.hid hk
  have HP := Lib.hid hP
  have HF := Lib.hid hF
  have HE := Lib.hid hE
  have HD := Lib.hid hD
  have ZD := Lib.hid zD
  clear hL hk hP hF hE hD zD
  go_enter Tryz.func267, Tryz.ntmps267
  go_wp2_with fail
  have O4 : Own ((w.alloc (.cells #[.int .i64 (at_ : Int)] 3)).alloc (.cells #[.string t] 9)) w.heap.size 3 #[.int .i64 (at_ : Int)] := (Own.made w _ _).more _
  have O5 : Own ((w.alloc (.cells #[.int .i64 (at_ : Int)] 3)).alloc (.cells #[.string t] 9)) (w.heap.size + 1) 9 #[.string t] := Own.made_at (by simp)
  have B0 : Below w.heap.size w ((w.alloc (.cells #[.int .i64 (at_ : Int)] 3)).alloc (.cells #[.string t] 9)) := ((Below.refl _ _).alloc (Nat.le_refl _) _).alloc (by simp) _
  obtain ⟨W0, hW0⟩ : ∃ W0, W0 = (w.alloc (.cells #[.int .i64 (at_ : Int)] 3)).alloc (.cells #[.string t] 9) := ⟨_, rfl⟩
  rw [← hW0] at O4 O5 B0 ⊢
  clear hW0
  have E0 : Own W0 pe 26 #[.int .i64 x1] := HE.out.keep B0
  have D0 := HD.out.below B0
  have hz := B0.size
  by_cases h0 : x1 = 0
  · subst h0
    have hd0 : ∀ q, fp d sb mb wv q → q ≠ lg ∧ q ≠ pl ∧ q ≠ w.heap.size ∧ q ≠ w.heap.size + 1 := fun q hq => by
      have h1 := hap q hq
      have h2 := ZD.out q hq
      exact ⟨h1.1, h1.2.1, by omega, by omega⟩
    have HS := sub_any (show LogAt W0 lg d l from Own.keep HL.out B0) HK.out (HP.out.keep B0) at_ t O4 O5 D0 hat ht hl hd0
    have hpe : ¬ fp d sb mb wv pe := fun h => (hap pe h).2.2.2 rfl
    have hpl := HE.out.in_
    refine (do_put (fun w' c => ∃ wv', DiskAt w' d sb mb sc wv' N (wres N x2 ((l.from_ + l.used + at_ : Nat) : Int) t).2 ∧ Chg (fp d sb mb wv) W0 w' ∧ (wv'.ownBlock = wv.ownBlock ∨ ∃ g, wv'.ownBlock = some g ∧ W0.heap.size ≤ g) ∧ c = (wres N x2 ((l.from_ + l.used + at_ : Nat) : Int) t).1) E0 (HS.mono ?_)).mono ?_
    · rintro e w2 ⟨rfl, wv2, hd2, hc2, hw2⟩
      exact ⟨_, rfl, ⟨wv2, hd2, hc2, hw2, rfl⟩, hc2.own E0 hpe⟩
    · rintro e w2 ⟨rfl, w1, c, ⟨wv2, hd2, hc2, hw2, rfl⟩, hE1, rfl⟩
      have HX : Stepped w _ pe d sb mb sc wv N ((wres N x2 ((l.from_ + l.used + at_ : Nat) : Int) t).1, (wres N x2 ((l.from_ + l.used + at_ : Nat) : Int) t).2) :=
        Stepped.set hE1 wv2 hd2 ((Chg.of B0).same hc2) (hw2.imp_right fun ⟨g, h1, h2⟩ => .inr ⟨g, h1, by omega⟩) hpe hpl
      replace HX := Lib.hid HX
      clear HS hd0 hd2 hc2 hw2 hE1
      go_wp2
      go_end0
      exact ⟨rfl, HX.out⟩
  · refine (do_no _ x1 E0 h0).mono ?_
    rintro e w2 ⟨rfl, rfl⟩
    have e1 : stepW N (x1, x2) (some (l.from_ + l.used + at_, t)) = (x1, x2) := by unfold stepW; rw [if_neg h0]
    replace e1 := Lib.hid e1
    replace B0 := Lib.hid B0
    clear h0
    go_wp2
    go_end0
    refine ⟨rfl, ?_⟩
    rw [e1.out]
    exact ⟨wv, D0, E0, Chg.of B0.out, .inl rfl⟩
end
end Go.Proofs.YtndhmidgnpobjaaGreatDoor
end
