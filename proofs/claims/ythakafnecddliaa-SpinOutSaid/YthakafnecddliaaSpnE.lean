
/- The contracts of Ends, Out and Next. Conditions: at most 30,000 vertices, and edges. -/
import Derived.Test.YthakafnecddliaaSpnD
import Derived.Test.YthakafnecddliaaTree
namespace Go.Proofs.Ythakafnecddliaa.Pl
open Go.ChangeShapes Go.WideShapes Go.ChangeAt Go.RowKit Go.Proofs.Ythakafnecddliaa.Mp
set_option linter.unusedVariables false
set_option linter.unusedSimpArgs false

/-- a plan's vertices and edges, none of a plan that isn't right -/
noncomputable def pvs (vs : List Vx) (es : List Eg) : List Vx := if rtB vs es = true then vs else []
noncomputable def pes (vs : List Vx) (es : List Eg) : List Eg := if rtB vs es = true then es else []
theorem pvs_yes {vs : List Vx} {es : List Eg} (h : Rt vs es) : pvs vs es = vs ∧ pes vs es = es := by
  unfold pvs pes
  rw [if_pos (rtB_iff.2 h), if_pos (rtB_iff.2 h)]
  exact ⟨rfl, rfl⟩
theorem pvs_no {vs : List Vx} {es : List Eg} (h : ¬ Rt vs es) : pvs vs es = [] ∧ pes vs es = [] := by
  unfold pvs pes
  rw [rtB_not h]
  exact ⟨rfl, rfl⟩
theorem pfl (vs : List Vx) (es : List Eg) : FlV (pvs vs es) ∧ FlE (pvs vs es) (pes vs es) := by
  by_cases h : Rt vs es
  · rw [(pvs_yes h).1, (pvs_yes h).2]
    exact rt_iff.1 h
  · rw [(pvs_no h).1, (pvs_no h).2]
    exact ⟨⟨by simp, by simp, by simp, by simp, by simp⟩, ⟨by simp, by simp, by simp, by simp, by simp, by simp, by simp⟩⟩
theorem pes_len (vs : List Vx) (es : List Eg) : (pes vs es).length ≤ es.length := by
  unfold pes
  split
  · exact Nat.le_refl _
  · simp
section
variable {v e : Value} {vs : List Vx} {es : List Eg} {w : World}
theorem weave_any (hv : VIn w v vs) (he : EIn w e es) (hn : vs.length ≤ 30000) (hm : es.length ≤ 30000) : Calls Try.prog 32 #[.agg #[v, e]] w fun r w' => ∃ p Z, r = .returned (.pointer (some ⟨p, 0, none⟩)) ∧ Web w' w.heap.size p (wys (pvs vs es) (pes vs es)) Z ∧ Below w.heap.size w w' := by
  by_cases h : Rt vs es
  · rw [(pvs_yes h).1, (pvs_yes h).2]
    exact weave_yes hv he hn hm h
  · rw [(pvs_no h).1, (pvs_no h).2]
    exact weave_no hv he (by omega) (by omega) h
set_option maxRecDepth 10000 in
theorem out_any (hv : VIn w v vs) (he : EIn w e es) (hn : vs.length ≤ 30000) (hm : es.length ≤ 30000) (i : Int) : Calls Try.prog 20 #[.agg #[v, e], .int .i64 i] w fun r w' => ∃ u, r = .returned u ∧ HOwn w' w.heap.size u (ot (pvs vs es) (pes vs es) i) ∧ Below w.heap.size w w' := by
  have WV := Lib.hid (fun (W : World) (hW : Below w.heap.size w W) => weave_any (TIn.below hv hW) (TIn.below he hW) hn hm)
  have AR := Lib.hid (fun (W : World) (B p : Nat) (Z : Nat → Prop) (h : Web W B p (wys (pvs vs es) (pes vs es)) Z) => around_any (pfl vs es).1 (pfl vs es).2 h (Nat.le_trans (pes_len vs es) hm) i)
  obtain ⟨a, c, rfl⟩ := hv.sl
  obtain ⟨a', c', rfl⟩ := he.sl
  have BB := Lib.hid (bx1 w 30 #[.slice a vs.length c, .slice a' es.length c'])
  clear hv he
  generalize vs.length = n at *
  generalize es.length = m at *
  go_enter Try.func20, Try.ntmps20
  go_wp2_with (first
    | (go_at_call 37; refine (AR.out _ _ _ _ HW.out).mono ?_; rintro e w3 ⟨u, rfl, ho, b3⟩; have HO := Lib.hid ho; have B3 := Lib.hid b3; clear ho b3)
    | (go_at_call 32; refine (WV.out _ BB.out).mono ?_; rintro e w2 ⟨p, Z, rfl, hw, b2⟩; have HW := Lib.hid hw; have B2 := Lib.hid (then_ BB.out b2 BB.out.size); clear hw b2))
  go_ret
  refine ⟨u, rfl, ⟨HO.out.1, HO.out.2.imp id fun ⟨g, cap, cur, e1, e2, e3⟩ => ⟨g, cap, cur, e1, Nat.le_trans B2.out.size e2, e3⟩⟩, then_ B2.out B3.out B2.out.size⟩
noncomputable def enA (vs : List Vx) (es : List Eg) (h : Hf) : Vx := if h ∈ hfs (pes vs es) then vx (pvs vs es) (frm (pes vs es) h) else ⟨0, 0, 0⟩
noncomputable def enB (vs : List Vx) (es : List Eg) (h : Hf) : Vx := if h ∈ hfs (pes vs es) then vx (pvs vs es) (dst (pes vs es) h) else ⟨0, 0, 0⟩
end
end Go.Proofs.Ythakafnecddliaa.Pl