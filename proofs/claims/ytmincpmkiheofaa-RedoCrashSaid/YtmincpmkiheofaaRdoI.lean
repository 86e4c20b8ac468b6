
/- The contracts of a log's closures do and put. Conditions: the disk's and the log's blocks as they lie. -/
import Derived.Test.YtmincpmkiheofaaRdoH
namespace Go.Proofs.Ytmincpmkiheofaa
open Go.ChangeShapes Go.WideShapes Go.ChangeAt Go.RowKit
set_option linter.unusedVariables false
set_option linter.unusedSimpArgs false

section
variable {w : World} {lg pl pe pf b4 b5 d sb mb sc : Nat} {wv : Value} {N : Nat} {s : St} {l : LogS}
set_option maxRecDepth 10000 in
/-- a step that is called where no error stands yet -/
theorem do_no (a : Value) (e0 : Int) (hE : Own w pe 27 #[.int .i64 e0]) (h0 : e0 ≠ 0) : Calls Try.prog 43 #[a, .pointer (some ⟨pe, 0, none⟩)] w fun e w' => e = .returned (.tuple #[]) ∧ w = w' := by
  have t0 : (e0 == 0) = false := by simpa using h0
  obtain ⟨o1, o2, o3⟩ := hE.at_
  clear hE h0
  go_enter Try.func43, Try.ntmps43
  go_wp2
  go_end0
  exact ⟨rfl, rfl⟩
set_option maxRecDepth 10000 in
theorem do_put (R : World → Int → Prop) (hE : Own w pe 27 #[.int .i64 0])
    (HC : Calls Try.prog 45 #[.pointer (some ⟨pl, 0, none⟩), .pointer (some ⟨b4, 0, none⟩), .pointer (some ⟨b5, 0, none⟩)] w fun e w' => ∃ c : Int, e = .returned (.int .i64 c) ∧ R w' c ∧ Own w' pe 27 #[.int .i64 0]) :
    Calls Try.prog 43 #[.func (.func 45) #[] #[.pointer (some ⟨pl, 0, none⟩), .pointer (some ⟨b4, 0, none⟩), .pointer (some ⟨b5, 0, none⟩)], .pointer (some ⟨pe, 0, none⟩)] w fun e w' => e = .returned (.tuple #[]) ∧ ∃ w1 c, R w1 c ∧ Own w1 pe 27 #[.int .i64 0] ∧ w' = w1.setCell ⟨pe, 0, none⟩ (.int .i64 c) := by
  have HC := Lib.hid HC
  obtain ⟨o1, o2, o3⟩ := hE.at_
  clear hE
  go_enter Try.func43, Try.ntmps43
  go_wp2_with fail
  refine HC.out.mono ?_
  rintro e w1 ⟨c, rfl, hR, hE1⟩
  have HE1 := Lib.hid hE1
  obtain ⟨o4, o5, o6⟩ := hE1.at_
  clear hE1
  go_wp2
  go_end0
  exact ⟨rfl, w1, c, hR, HE1.out, rfl⟩
set_option maxRecDepth 10000 in
theorem do_flush (R : World → Int → Prop) (hE : Own w pe 27 #[.int .i64 0])
    (HC : Calls Try.prog 48 #[.pointer (some ⟨d, 0, none⟩)] w fun e w' => ∃ c : Int, e = .returned (.int .i64 c) ∧ R w' c ∧ Own w' pe 27 #[.int .i64 0]) :
    Calls Try.prog 43 #[.func (.func 48) #[.pointer (some ⟨d, 0, none⟩)] #[], .pointer (some ⟨pe, 0, none⟩)] w fun e w' => e = .returned (.tuple #[]) ∧ ∃ w1 c, R w1 c ∧ Own w1 pe 27 #[.int .i64 0] ∧ w' = w1.setCell ⟨pe, 0, none⟩ (.int .i64 c) := by
  have HC := Lib.hid HC
  obtain ⟨o1, o2, o3⟩ := hE.at_
  clear hE
  go_enter Try.func43, Try.ntmps43
  go_wp2_with fail
  refine HC.out.mono ?_
  rintro e w1 ⟨c, rfl, hR, hE1⟩
  have HE1 := Lib.hid hE1
  obtain ⟨o4, o5, o6⟩ := hE1.at_
  clear hE1
  go_wp2
  go_end0
  exact ⟨rfl, w1, c, hR, HE1.out, rfl⟩
/-- what a step leaves -/
def Stepped (w w' : World) (pe d sb mb sc : Nat) (wv : Value) (N : Nat) (x : Int × St) : Prop :=
  ∃ wv', DiskAt w' d sb mb sc wv' N x.2 ∧ Own w' pe 27 #[.int .i64 x.1] ∧ Chg (fun q => fp d sb mb wv q ∨ q = pe) w w' ∧ (wv'.ownBlock = wv.ownBlock ∨ wv'.ownBlock = none ∨ ∃ g, wv'.ownBlock = some g ∧ w.heap.size ≤ g)
theorem Stepped.set {w w1 : World} {c : Int} {x : St} (hE : Own w1 pe 27 #[.int .i64 0]) (wv' : Value) (hD : DiskAt w1 d sb mb sc wv' N x) (hc : Chg (fp d sb mb wv) w w1) (hv : wv'.ownBlock = wv.ownBlock ∨ wv'.ownBlock = none ∨ ∃ g, wv'.ownBlock = some g ∧ w.heap.size ≤ g) (hpe : ¬ fp d sb mb wv pe) (hlt : pe < w.heap.size) :
    Stepped w (w1.setCell ⟨pe, 0, none⟩ (.int .i64 c)) pe d sb mb sc wv N (c, x) := by
  have hc2 := chg_one w1 pe 0 (.int .i64 c)
  refine ⟨wv', hD.keep hc2 fun q hq e => ?_, Own.put hE 0 _, (hc.mono fun q _ h => .inl h).same (hc2.mono fun q _ h => .inr h), hv⟩
  subst e
  rcases hq with h | h | h | h
  · exact hpe (.inl h)
  · exact hpe (.inr (.inl h))
  · exact hpe (.inr (.inr (.inl h)))
  · rcases hv with hv | hv | ⟨g, hv, hg⟩
    · exact hpe (.inr (.inr (.inr (hv ▸ h))))
    · rw [hv] at h; cases h
    · rw [hv] at h; injection h with h; omega
theorem Stepped.same {w : World} {x : Int × St} (hD : DiskAt w d sb mb sc wv N x.2) (hE : Own w pe 27 #[.int .i64 x.1]) : Stepped w w pe d sb mb sc wv N x := ⟨wv, hD, hE, Chg.refl _ _, .inl rfl⟩
set_option maxRecDepth 10000 in
set_option maxHeartbeats 1000000 in
/-- put -/
theorem put_any (x : Int × St) (hL : LogAt w lg d l) (hk : l.Ok) (hP : Own w pl 30 #[.pointer (some ⟨lg, 0, none⟩)]) (hF : Own w pf 84 #[.func (.func 43) #[] #[.pointer (some ⟨pe, 0, none⟩)]]) (hE : Own w pe 27 #[.int .i64 x.1])
    (hD : DiskAt w d sb mb sc wv N x.2) (at_ : Nat) (t : ByteArray) (hat : at_ ≤ 1000000) (ht : t.size ≤ maxLen) (hl : x.2.wr.length < 1000000) (hap : ∀ q, fp d sb mb wv q → q ≠ lg ∧ q ≠ pl ∧ q ≠ pf ∧ q ≠ pe) (hne : lg ≠ pe ∧ pl ≠ pe) :
    Calls Try.prog 44 #[.int .i64 (at_ : Int), .string t, .pointer (some ⟨pf, 0, none⟩), .pointer (some ⟨pl, 0, none⟩)] w fun e w' => e = .returned (.tuple #[]) ∧ Stepped w w' pe d sb mb sc wv N (stepW N x (some (l.from_ + l.used + at_, t))) := by
  obtain ⟨x1, x2⟩ := x
  simp only at hE hD hl
  obtain ⟨o1, o2, o3⟩ := hF.at_
  have zD : ∀ q, fp d sb mb wv q → q < w.heap.size := fun q hq => hD.in_ hq
  have HL := Lib.hid hL
  have HK := Lib.hid hk
  have HP := Lib.hid hP
  have HF := Lib.hid hF
  have HE := Lib.hid hE
  have HD := Lib.hid hD
  have ZD := Lib.hid zD
  clear hL hk hP hF hE hD zD
  go_enter Try.func44, Try.ntmps44
  go_wp2_with fail
  have O4 : Own ((w.alloc (.cells #[.int .i64 (at_ : Int)] 3)).alloc (.cells #[.string t] 9)) w.heap.size 3 #[.int .i64 (at_ : Int)] := (Own.made w _ _).more _
  have O5 : Own ((w.alloc (.cells #[.int .i64 (at_ : Int)] 3)).alloc (.cells #[.string t] 9)) (w.heap.size + 1) 9 #[.string t] := Own.made_at (by simp)
  have B0 : Below w.heap.size w ((w.alloc (.cells #[.int .i64 (at_ : Int)] 3)).alloc (.cells #[.string t] 9)) := ((Below.refl _ _).alloc (Nat.le_refl _) _).alloc (by simp) _
  obtain ⟨W0, hW0⟩ : ∃ W0, W0 = (w.alloc (.cells #[.int .i64 (at_ : Int)] 3)).alloc (.cells #[.string t] 9) := ⟨_, rfl⟩
  rw [← hW0] at O4 O5 B0 ⊢
  clear hW0
  have E0 : Own W0 pe 27 #[.int .i64 x1] := HE.out.keep B0
  have D0 := HD.out.below B0
  have hz := B0.size
  by_cases h0 : x1 = 0
  · subst h0
    have hd0 : ∀ q, fp d sb mb wv q → q ≠ lg ∧ q ≠ pl ∧ q ≠ w.heap.size ∧ q ≠ w.heap.size + 1 := fun q hq => by
      have h1 := hap q hq
      have h2 := ZD.out q hq
      exact ⟨h1.1, h1.2.1, by omega, by omega⟩
    have HS := sub_any (show LogAt W0 lg d l from Own.keep HL.out B0) HK.out (HP.out.keep B0) at_ t O4 O5 D0 hat ht hl hd0
    have hpe : ¬ fp d sb mb wv pe := fun h => (hap pe h).2.2.2 rfl
    have hpl := HE.out.in_
    refine (do_put (fun w' c => ∃ wv', DiskAt w' d sb mb sc wv' N (wres N x2 ((l.from_ + l.used + at_ : Nat) : Int) t).2 ∧ Chg (fp d sb mb wv) W0 w' ∧ (wv'.ownBlock = wv.ownBlock ∨ ∃ g, wv'.ownBlock = some g ∧ W0.heap.size ≤ g) ∧ c = (wres N x2 ((l.from_ + l.used + at_ : Nat) : Int) t).1) E0 (HS.mono ?_)).mono ?_
    · rintro e w2 ⟨rfl, wv2, hd2, hc2, hw2⟩
      exact ⟨_, rfl, ⟨wv2, hd2, hc2, hw2, rfl⟩, hc2.own E0 hpe⟩
    · rintro e w2 ⟨rfl, w1, c, ⟨wv2, hd2, hc2, hw2, rfl⟩, hE1, rfl⟩
      have HX : Stepped w _ pe d sb mb sc wv N ((wres N x2 ((l.from_ + l.used + at_ : Nat) : Int) t).1, (wres N x2 ((l.from_ + l.used + at_ : Nat) : Int) t).2) :=
        Stepped.set hE1 wv2 hd2 ((Chg.of B0).same hc2) (hw2.imp_right fun ⟨g, h1, h2⟩ => .inr ⟨g, h1, by omega⟩) hpe hpl
      replace HX := Lib.hid HX
      clear HS hd0 hd2 hc2 hw2 hE1
      go_wp2
      go_end0
      exact ⟨rfl, HX.out⟩
  · refine (do_no _ x1 E0 h0).mono ?_
    rintro e w2 ⟨rfl, rfl⟩
    have e1 : stepW N (x1, x2) (some (l.from_ + l.used + at_, t)) = (x1, x2) := by unfold stepW; rw [if_neg h0]
    replace e1 := Lib.hid e1
    replace B0 := Lib.hid B0
    clear h0
    go_wp2
    go_end0
    refine ⟨rfl, ?_⟩
    rw [e1.out]
    exact ⟨wv, D0, E0, Chg.of B0.out, .inl rfl⟩
end
end Go.Proofs.Ytmincpmkiheofaa
