/- merged: The contracts of the closures by which a layout writes. Conditions: the disk's blocks as they lie. The contract of a layout's put: so many sectors from one on. Conditions: the disk's blocks as they lie; the sectors in a row of their own. -/
import Derived.Test.YtndhmidgnpobjaaGreatDoorPgrG
import Derived.Laws.EntriesVeiled
section
namespace Go.Proofs.YtndhmidgnpobjaaGreatDoor
open Go.ChangeShapes Go.WideShapes Go.ChangeAt Go.RowKit
set_option linter.unusedVariables false
set_option linter.unusedSimpArgs false

/-- the writes of n sectors from one on -/
def putOps (at_ : Nat) (g : Nat → ByteArray) (n : Nat) : List Dop := (List.range n).map fun i => some (at_ + i, g i)
theorem putOps_succ (at_ : Nat) (g : Nat → ByteArray) (n : Nat) : putOps at_ g (n + 1) = putOps at_ g n ++ [some (at_ + n, g n)] := by simp [putOps, List.range_succ]
theorem putOps_len (at_ : Nat) (g : Nat → ByteArray) (n : Nat) : (putOps at_ g n).length = n := by simp [putOps]
section
variable {w : World} {bl pe pf b4 b6 b7 d sb mb sc : Nat} {wv : Value} {N : Nat} {s : St} {ll : Nat}
set_option maxRecDepth 10000 in
set_option maxHeartbeats 1000000 in
theorem sub97 (hB : Own w bl 105 #[.pointer (some ⟨d, 0, none⟩), .int .i64 (ll : Int)]) (at_ i : Nat) (t : ByteArray) (h4 : Own w b4 3 #[.int .i64 (at_ : Int)]) (h6 : Own w b6 3 #[.int .i64 (i : Int)]) (h7 : Own w b7 9 #[.string t])
    (hD : DiskAt w d sb mb sc wv N s) (hat : at_ ≤ 1000000) (hi : i ≤ 1000000) (ht : t.size ≤ maxLen) (hl : s.wr.length < 1000000) :
    Calls Tryz.prog 124 #[.pointer (some ⟨bl, 0, none⟩), .pointer (some ⟨b4, 0, none⟩), .pointer (some ⟨b6, 0, none⟩), .pointer (some ⟨b7, 0, none⟩)] w fun e w' => e = .returned (.int .i64 (wres N s ((at_ + i : Nat) : Int) t).1) ∧ Wrote w w' d sb mb sc wv N (wres N s ((at_ + i : Nat) : Int) t).2 := by
  have HW := Lib.hid (write_any hD ((at_ + i : Nat) : Int) t (wf_mk (by omega) (by omega)) ht hl)
  have e1 : ((at_ + i : Nat) : Int) = (at_ : Int) + (i : Int) := by omega
  rw [e1] at HW ⊢
  clear e1
  obtain ⟨q1, q2, q3⟩ := hB.at_
  obtain ⟨q4, q5, q6⟩ := h4.at_
  obtain ⟨q7, q8, q9⟩ := h6.at_
  obtain ⟨qa, qb, qc⟩ := h7.at_
  clear hB h4 h6 h7 hD
  go_enter Tryz.func124, Tryz.ntmps124
  go_wp2_with (go_at_call 125; refine HW.out.mono ?_; rintro e w2 ⟨rfl, hw2⟩)
  go_ret
  exact ⟨rfl, hw2⟩
set_option maxRecDepth 10000 in
/-- a step that is called where no error stands yet -/
theorem pdo_no (a : Value) (e0 : Int) (hE : Own w pe 26 #[.int .i64 e0]) (h0 : e0 ≠ 0) : Calls Tryz.prog 122 #[a, .pointer (some ⟨pe, 0, none⟩)] w fun e w' => e = .returned (.tuple #[]) ∧ w = w' := by
  have t0 : (e0 == 0) = false := by simpa using h0
  obtain ⟨o1, o2, o3⟩ := hE.at_
  clear hE h0
  go_enter Tryz.func122, Tryz.ntmps122
  go_wp2
  go_end0
  exact ⟨rfl, rfl⟩
set_option maxRecDepth 10000 in
theorem pdo_put (R : World → Int → Prop) (hE : Own w pe 26 #[.int .i64 0])
    (HC : Calls Tryz.prog 124 #[.pointer (some ⟨bl, 0, none⟩), .pointer (some ⟨b4, 0, none⟩), .pointer (some ⟨b6, 0, none⟩), .pointer (some ⟨b7, 0, none⟩)] w fun e w' => ∃ c : Int, e = .returned (.int .i64 c) ∧ R w' c ∧ Own w' pe 26 #[.int .i64 0]) :
    Calls Tryz.prog 122 #[.func (.func 124) #[] #[.pointer (some ⟨bl, 0, none⟩), .pointer (some ⟨b4, 0, none⟩), .pointer (some ⟨b6, 0, none⟩), .pointer (some ⟨b7, 0, none⟩)], .pointer (some ⟨pe, 0, none⟩)] w fun e w' => e = .returned (.tuple #[]) ∧ ∃ w1 c, R w1 c ∧ Own w1 pe 26 #[.int .i64 0] ∧ w' = w1.setCell ⟨pe, 0, none⟩ (.int .i64 c) := by
  have HC := Lib.hid HC
  obtain ⟨o1, o2, o3⟩ := hE.at_
  clear hE
  go_enter Tryz.func122, Tryz.ntmps122
  go_wp2_with fail
  refine HC.out.mono ?_
  rintro e w1 ⟨c, rfl, hR, hE1⟩
  have HE1 := Lib.hid hE1
  obtain ⟨o4, o5, o6⟩ := hE1.at_
  clear hE1
  go_wp2
  go_end0
  exact ⟨rfl, w1, c, hR, HE1.out, rfl⟩
set_option maxRecDepth 10000 in
theorem pdo_flush (R : World → Int → Prop) (hE : Own w pe 26 #[.int .i64 0])
    (HC : Calls Tryz.prog 126 #[.pointer (some ⟨d, 0, none⟩)] w fun e w' => ∃ c : Int, e = .returned (.int .i64 c) ∧ R w' c ∧ Own w' pe 26 #[.int .i64 0]) :
    Calls Tryz.prog 122 #[.func (.func 126) #[.pointer (some ⟨d, 0, none⟩)] #[], .pointer (some ⟨pe, 0, none⟩)] w fun e w' => e = .returned (.tuple #[]) ∧ ∃ w1 c, R w1 c ∧ Own w1 pe 26 #[.int .i64 0] ∧ w' = w1.setCell ⟨pe, 0, none⟩ (.int .i64 c) := by
  have HC := Lib.hid HC
  obtain ⟨o1, o2, o3⟩ := hE.at_
  clear hE
  go_enter Tryz.func122, Tryz.ntmps122
  go_wp2_with fail
  refine HC.out.mono ?_
  rintro e w1 ⟨c, rfl, hR, hE1⟩
  have HE1 := Lib.hid hE1
  obtain ⟨o4, o5, o6⟩ := hE1.at_
  clear hE1
  go_wp2
  go_end0
  exact ⟨rfl, w1, c, hR, HE1.out, rfl⟩
/-- do(flush) -/
theorem pdofl_any {x : Int × St} (hE : Own w pe 26 #[.int .i64 x.1]) (hD : DiskAt w d sb mb sc wv N x.2) (hap : ¬ fp d sb mb wv pe) :
    Calls Tryz.prog 122 #[.func (.func 126) #[.pointer (some ⟨d, 0, none⟩)] #[], .pointer (some ⟨pe, 0, none⟩)] w fun e w' => e = .returned (.tuple #[]) ∧ Stepped w w' pe d sb mb sc wv N (stepW N x none) := by
  obtain ⟨x1, x2⟩ := x
  simp only at hE hD
  by_cases h0 : x1 = 0
  · subst h0
    refine (pdo_flush (fun w' c => ∃ wv', DiskAt w' d sb mb sc wv' N (fres x2).2 ∧ Chg (fp d sb mb wv) w w' ∧ (wv'.ownBlock = none ∨ wv'.ownBlock = wv.ownBlock) ∧ c = (fres x2).1) hE ((flush_any hD).mono ?_)).mono ?_
    · rintro e w2 ⟨rfl, wv2, hd2, hc2, hw2⟩
      exact ⟨_, rfl, ⟨wv2, hd2, hc2, hw2, rfl⟩, hc2.own hE hap⟩
    · rintro e w2 ⟨rfl, w1, c, ⟨wv2, hd2, hc2, hw2, rfl⟩, hE1, rfl⟩
      refine ⟨rfl, ?_⟩
      have := Stepped.set hE1 wv2 hd2 hc2 (hw2.elim (fun h => .inr (.inl h)) .inl) hap hE.in_ (c := (fres x2).1)
      exact this
  · refine (pdo_no _ x1 hE h0).mono ?_
    rintro e w2 ⟨rfl, rfl⟩
    refine ⟨rfl, ?_⟩
    have e1 : stepW N (x1, x2) none = (x1, x2) := by unfold stepW; rw [if_neg h0]
    rw [e1]
    exact Stepped.same hD hE
end
end Go.Proofs.YtndhmidgnpobjaaGreatDoor
end
section
namespace Go.Proofs.YtndhmidgnpobjaaGreatDoor
open Go.ChangeShapes Go.WideShapes Go.ChangeAt Go.RowKit
set_option linter.unusedVariables false
set_option linter.unusedSimpArgs false

section
variable {w : World} {bl pe pf b4 b6 b7 d sb mb sc : Nat} {wv : Value} {N : Nat} {s : St} {ll : Nat}
theorem pput1 (x : Int × St) (hB : Own w bl 105 #[.pointer (some ⟨d, 0, none⟩), .int .i64 (ll : Int)]) (hE : Own w pe 26 #[.int .i64 x.1]) (at_ i : Nat) (t : ByteArray) (h4 : Own w b4 3 #[.int .i64 (at_ : Int)]) (h6 : Own w b6 3 #[.int .i64 (i : Int)]) (h7 : Own w b7 9 #[.string t])
    (hD : DiskAt w d sb mb sc wv N x.2) (hat : at_ ≤ 1000000) (hi : i ≤ 1000000) (ht : t.size ≤ maxLen) (hl : x.2.wr.length < 1000000) (hap : ¬ fp d sb mb wv pe) :
    Calls Tryz.prog 122 #[.func (.func 124) #[] #[.pointer (some ⟨bl, 0, none⟩), .pointer (some ⟨b4, 0, none⟩), .pointer (some ⟨b6, 0, none⟩), .pointer (some ⟨b7, 0, none⟩)], .pointer (some ⟨pe, 0, none⟩)] w fun e w' => e = .returned (.tuple #[]) ∧ Stepped w w' pe d sb mb sc wv N (stepW N x (some (at_ + i, t))) := by
  obtain ⟨x1, x2⟩ := x
  simp only at hE hD hl
  by_cases h0 : x1 = 0
  · subst h0
    refine (pdo_put (fun w' c => ∃ wv', DiskAt w' d sb mb sc wv' N (wres N x2 ((at_ + i : Nat) : Int) t).2 ∧ Chg (fp d sb mb wv) w w' ∧ (wv'.ownBlock = wv.ownBlock ∨ ∃ g, wv'.ownBlock = some g ∧ w.heap.size ≤ g) ∧ c = (wres N x2 ((at_ + i : Nat) : Int) t).1) hE ((sub97 hB at_ i t h4 h6 h7 hD hat hi ht hl).mono ?_)).mono ?_
    · rintro e w2 ⟨rfl, wv2, hd2, hc2, hw2⟩
      exact ⟨_, rfl, ⟨wv2, hd2, hc2, hw2, rfl⟩, hc2.own hE hap⟩
    · rintro e w2 ⟨rfl, w1, c, ⟨wv2, hd2, hc2, hw2, rfl⟩, hE1, rfl⟩
      exact ⟨rfl, Stepped.set hE1 wv2 hd2 hc2 (hw2.elim .inl fun h => .inr (.inr h)) hap hE.in_⟩
  · refine (pdo_no _ x1 hE h0).mono ?_
    rintro e w2 ⟨rfl, rfl⟩
    have e1 : stepW N (x1, x2) (some (at_ + i, t)) = (x1, x2) := by unfold stepW; rw [if_neg h0]
    rw [e1]
    exact ⟨rfl, Stepped.same hD hE⟩
theorem Own.type_ne {w : World} {p q : Nat} {T T' : TypeId} {cs cs' : Array Value} (h : Own w p T cs) (k : Own w q T' cs') (hT : T ≠ T') : p ≠ q := by
  rintro rfl
  unfold Own at h k
  rw [h] at k
  injection k with k
  injection k with k1 k2
  exact hT k2
/-- no block of another type, with no byte at its beginning, is the disk's -/
theorem DiskAt.no_own (hD : DiskAt w d sb mb sc wv N s) {b : Nat} {T : TypeId} {cs : Array Value} (ho : Own w b T cs) (h1 : T ≠ 148) (h2 : T ≠ 232) (h0 : ∀ x, cs[0]? ≠ some (.int .u8 x)) : ¬ fp d sb mb wv b := fun h => by
  rcases h with e | e | e | e
  · exact (ho.type_ne hD.own h1) e
  · subst e
    have hl := hD.ok.len
    have hp := hD.ok.pos
    have h5 := hD.sure.cell 0 (by omega)
    rw [ho.at_.1 0] at h5
    exact h0 _ h5
  · exact (hD.map.ne ho) e.symm
  · rcases hD.wrs.2 with ⟨h6, _⟩ | ⟨g6, c6, u6, h6, _, h7, _⟩
    · rw [h6] at e; cases e
    · rw [h6] at e
      injection e with e
      have e : g6 = b := e
      subst e
      unfold Own at ho
      rw [ho] at h7
      injection h7 with h7
      injection h7 with h8 h9
      exact h2 h9
set_option maxRecDepth 10000 in
set_option maxHeartbeats 1000000 in
theorem put96 (x : Int × St) (hB : Own w bl 105 #[.pointer (some ⟨d, 0, none⟩), .int .i64 (ll : Int)]) (hF : Own w pf 194 #[.func (.func 122) #[] #[.pointer (some ⟨pe, 0, none⟩)]]) (hE : Own w pe 26 #[.int .i64 x.1])
    (hD : DiskAt w d sb mb sc wv N x.2) (at_ n : Nat) (g : Nat → ByteArray) (b : Nat) (cs : Array Value) (hS : Own w b 9 cs) (hcs : ∀ i, i < n → cs[i]? = some (.string (g i))) (hg : ∀ i, i < n → (g i).size ≤ maxLen) (hn : n ≤ 1000) (h1 : 1 ≤ n) (hat : at_ ≤ 1000000) (hl : x.2.wr.length ≤ 900000)
    (hap : ∀ q, fp d sb mb wv q → q ≠ bl ∧ q ≠ pf ∧ q ≠ pe) :
    Calls Tryz.prog 123 #[.int .i64 (at_ : Int), .slice (some ⟨b, 0, none⟩) n n, .pointer (some ⟨pf, 0, none⟩), .pointer (some ⟨bl, 0, none⟩)] w fun e w' => e = .returned (.tuple #[]) ∧ Stepped w w' pe d sb mb sc wv N (runW N (putOps at_ g n) x) := by
  have nbe : bl ≠ pe := hB.type_ne hE (by decide)
  have nfe : pf ≠ pe := hF.type_ne hE (by decide)
  have nse : b ≠ pe := hS.type_ne hE (by decide)
  have zD : ∀ q, fp d sb mb wv q → q < w.heap.size := fun q hq => hD.in_ hq
  have zE := hE.in_
  have zS := hS.in_
  have HB := Lib.hid hB
  have HF := Lib.hid hF
  have HE := Lib.hid hE
  have HD := Lib.hid hD
  have HS := Lib.hid hS
  have HCS := Lib.hid hcs
  have HG := Lib.hid hg
  have HAP := Lib.hid hap
  have HZD := Lib.hid zD
  have S0 : Stepped w (w.alloc (.cells #[.int .i64 (at_ : Int)] 3)) pe d sb mb sc wv N x := (Stepped.same hD hE).below (box_one _ _ _)
  have P0 := Own.made w 3 #[.int .i64 (at_ : Int)]
  have Q0 := hS.more (.cells #[.int .i64 (at_ : Int)] 3)
  clear hB hF hE hD hS hcs hg hap zD
  go_enter Tryz.func123, Tryz.ntmps123
  go_upto_region 1 with fail
  go_name_world W0 hW0
  rw [hW0] at S0 P0 Q0
  have z0 : W0.heap.size = w.heap.size + 1 := by rw [← hW0]; simp
  have B0 : Below w.heap.size w W0 := hW0 ▸ box_one _ _ _
  clear hW0
  replace z0 := Lib.hid z0
  replace S0 := Lib.hid S0
  replace P0 := Lib.hid P0
  replace Q0 := Lib.hid Q0
  replace B0 := Lib.hid B0
  go_wp2
  go_loopw [10] (fun i wr => ∃ k : Nat, k ≤ n ∧ i = .int .i64 (k : Int) ∧ Stepped w wr pe d sb mb sc wv N (runW N (putOps at_ g k) x) ∧ Own wr w.heap.size 3 #[.int .i64 (at_ : Int)] ∧ Own wr b 9 cs) (fun i wr => n - (intOf i).toNat)
  case atStart => exact ⟨0, by omega, rfl, S0.out, P0.out, Q0.out⟩
  case round =>
    clear S0 P0 Q0 B0
    obtain ⟨k, hk, rfl, hS, hP, hQ⟩ := hrel
    by_cases hlt : k < n
    · obtain ⟨wv1, hD1, hE1, hc1, hv1⟩ := hS
      have hB1 : Own wr bl 105 _ := hc1.own HB.out fun h => h.elim (fun h => (HAP.out _ h).1 rfl) nbe
      have hF1 : Own wr pf 194 _ := hc1.own HF.out fun h => h.elim (fun h => (HAP.out _ h).2.1 rfl) nfe
      have hap1 : ¬ fp d sb mb wv1 pe := fun h => by
        rcases fp_next hv1 h with h | h
        · exact (HAP.out _ h).2.2 rfl
        · omega
      have hrl := runW_len N (putOps at_ g k) x
      rw [putOps_len] at hrl
      have hgk := HG.out k hlt
      have hck : wr.cell? ⟨b, k, none⟩ = some (.string (g k)) := by rw [hQ.at_.1 k, HCS.out k hlt]
      obtain ⟨t, ht⟩ : ∃ t, t = g k := ⟨_, rfl⟩
      have BB : Below wr.heap.size wr ((wr.alloc (.cells #[.int .i64 (k : Int)] 3)).alloc (.cells #[.string t] 9)) := (box_one _ _ _).alloc (by simp) _
      have h6 : Own ((wr.alloc (.cells #[.int .i64 (k : Int)] 3)).alloc (.cells #[.string t] 9)) wr.heap.size 3 #[.int .i64 (k : Int)] := (Own.made _ _ _).more _
      have h7 : Own ((wr.alloc (.cells #[.int .i64 (k : Int)] 3)).alloc (.cells #[.string t] 9)) (wr.heap.size + 1) 9 #[.string t] := Own.made_at (by simp)
      have C1 := Lib.hid (And.intro hD1 (And.intro hc1 hv1))
      have HPUT := pput1 (runW N (putOps at_ g k) x) (hB1.keep BB) (hE1.keep BB) at_ k t (hP.keep BB) h6 h7 (hD1.below BB) hat (by omega) (by rw [ht]; exact hgk) (by omega) hap1
      rw [ht, ← runW_snoc, ← putOps_succ, ← ht] at HPUT
      have hF2 := (hF1.keep BB).at_
      rw [← ht] at hck
      have P2 := hP.keep BB
      have Q2 := hQ.keep BB
      have D2 := hD1.below BB
      have nP : ¬ (fp d sb mb wv1 w.heap.size ∨ w.heap.size = pe) := fun h => by
        rcases h with h | h
        · exact hD1.no_own hP (by decide) (by decide) (fun x => by simp) h
        · omega
      have nQ : ¬ (fp d sb mb wv1 b ∨ b = pe) := fun h => h.elim (hD1.not_str hQ (HCS.out 0 (by omega))) nse
      replace HPUT := Lib.hid HPUT
      replace P2 := Lib.hid P2
      replace Q2 := Lib.hid Q2
      replace BB := Lib.hid BB
      replace nP := Lib.hid nP
      replace nQ := Lib.hid nQ
      clear hD1 hE1 hc1 hv1 hB1 hF1 hap1 hrl hgk ht h6 h7 D2 hP hQ
      obtain ⟨f1, f2, f3⟩ := hF2
      go_wp2_with fail
      refine HPUT.out.mono ?_
      rintro e w5 ⟨rfl, hS5⟩
      have hS6 := Stepped.then_ (C1.out.1.below BB.out) (C1.out.2.1.call BB.out) C1.out.2.2 hS5
      have hP6 : Own w5 w.heap.size 3 #[.int .i64 (at_ : Int)] := by
        obtain ⟨wv2, -, -, hc2, -⟩ := hS5
        exact hc2.own P2.out nP.out
      have hQ6 : Own w5 b 9 cs := by
        obtain ⟨wv2, -, -, hc2, -⟩ := hS5
        exact hc2.own Q2.out nQ.out
      replace hS6 := Lib.hid hS6
      replace hP6 := Lib.hid hP6
      replace hQ6 := Lib.hid hQ6
      clear hS5 f1 f2 f3
      go_wp2
      go_roundw
      case rel => exact ⟨k + 1, by omega, by go_num, hS6.out, hP6.out, hQ6.out⟩
      case measure => simp [intOf]; omega
    · obtain rfl : k = n := by omega
      replace hS := Lib.hid hS
      clear hP hQ
      go_wp2
      go_end0
      exact ⟨rfl, hS.out⟩
end
end Go.Proofs.YtndhmidgnpobjaaGreatDoor
end
