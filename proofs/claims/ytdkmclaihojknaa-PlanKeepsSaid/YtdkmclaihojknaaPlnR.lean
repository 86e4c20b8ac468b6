
/- The reference's Vertex, Edge, At, Links, On and Meets. Conditions: those that each theorem names. -/
import Derived.Test.YtdkmclaihojknaaPlnA
import Derived.Test.YtdkmclaihojknaaGeoJ
namespace Go.Proofs.Ytdkmclaihojknaa.Pl
open Go.ChangeShapes Go.WideShapes Go.ChangeAt Go.RowKit
set_option linter.unusedVariables false
set_option linter.unusedSimpArgs false

/-- the place of a number, or -1 -/
def vIx (vs : List Vx) (i : Int) : Int := if hasV vs i = true then ((vs.findIdx fun v => v.id == i : Nat) : Int) else -1
def eIx (es : List Eg) (i : Int) : Int := if hasE es i = true then ((es.findIdx fun v => v.id == i : Nat) : Int) else -1
theorem idx_at {α : Type} {P : α → Bool} {L : List α} {k : Nat} (hk : k < L.length) (h0 : ∀ i (h : i < L.length), i < k → P (L[i]'h) = false) (h1 : P (L[k]'hk) = true) : L.findIdx P = k := by
  rw [List.findIdx_eq hk]
  exact ⟨h1, fun j hj => h0 j (by omega) hj⟩
theorem vIx_yes {vs : List Vx} {i : Int} (h : hasV vs i = true) : ∃ k, ∃ hk : k < vs.length, vIx vs i = (k : Int) ∧ fV vs i = some (vs[k]'hk) := by
  have hx : vs.findIdx (fun v => v.id == i) < vs.length := by
    rw [List.findIdx_lt_length]
    obtain ⟨v, hv, hv2⟩ := hasV_iff.1 h
    exact ⟨v, hv, by simpa using hv2⟩
  refine ⟨_, hx, by unfold vIx; rw [if_pos h], ?_⟩
  unfold fV
  exact find_at hx (fun j hj hlt => by simpa using List.not_of_lt_findIdx hlt) (List.findIdx_getElem (w := hx))
theorem eIx_yes {vs : List Eg} {i : Int} (h : hasE vs i = true) : ∃ k, ∃ hk : k < vs.length, eIx vs i = (k : Int) ∧ fE vs i = some (vs[k]'hk) := by
  have hx : vs.findIdx (fun v => v.id == i) < vs.length := by
    rw [List.findIdx_lt_length]
    obtain ⟨v, hv, hv2⟩ := hasE_iff.1 h
    exact ⟨v, hv, by simpa using hv2⟩
  refine ⟨_, hx, by unfold eIx; rw [if_pos h], ?_⟩
  unfold fE
  exact find_at hx (fun j hj hlt => by simpa using List.not_of_lt_findIdx hlt) (List.findIdx_getElem (w := hx))
theorem vIx_no {vs : List Vx} {i : Int} (h : hasV vs i = false) : vIx vs i = -1 := by unfold vIx; rw [h]; rfl
theorem eIx_no {vs : List Eg} {i : Int} (h : hasE vs i = false) : eIx vs i = -1 := by unfold eIx; rw [h]; rfl
theorem vIx_neg (vs : List Vx) (i : Int) : decide (vIx vs i < 0) = !hasV vs i := by
  cases h : hasV vs i with
  | false => rw [vIx_no h]; rfl
  | true =>
    obtain ⟨k, hk, e, _⟩ := vIx_yes h
    rw [e]
    simp
theorem eIx_neg (vs : List Eg) (i : Int) : decide (eIx vs i < 0) = !hasE vs i := by
  cases h : hasE vs i with
  | false => rw [eIx_no h]; rfl
  | true =>
    obtain ⟨k, hk, e, _⟩ := eIx_yes h
    rw [e]
    simp
set_option maxRecDepth 10000 in
theorem rvertex_any (v e : Value) (vs : List Vx) (i : Int) (w : World) (h : VIn w v vs) (he : ∃ a l c, e = .slice a l c) (hn : vs.length ≤ 100000) :
    Calls Try.prog 27 #[.agg #[v, e], .int .i64 i] w fun x w' => x = .returned (.int .i64 (vIx vs i)) ∧ Below w.heap.size w w' := by
  obtain ⟨a, cap, rfl, hc1, hc2, -, hcl⟩ := h.open_
  obtain ⟨ea, el, ec, rfl⟩ := he
  have HIX : Hid (∀ z : Int, (∃ k, ∃ hk : k < vs.length, z = (k : Int) ∧ (∀ m (hm : m < vs.length), m < k → ((vs[m]'hm).id == i) = false) ∧ ((vs[k]'hk).id == i) = true) → vIx vs i = z) := Lib.hid (by
    rintro z ⟨k, hk, rfl, h0, h1⟩
    have hh : hasV vs i = true := hasV_iff.2 ⟨_, List.getElem_mem hk, by simpa using h1⟩
    unfold vIx
    rw [if_pos hh, idx_at hk h0 h1])
  have HNO : Hid ((∀ m (hm : m < vs.length), ((vs[m]'hm).id == i) = false) → vIx vs i = -1) := Lib.hid fun h0 => by
    have hh : hasV vs i = false := by
      rw [← Bool.not_eq_true, hasV_iff]
      rintro ⟨u, hu, hu2⟩
      obtain ⟨m, hm, rfl⟩ := List.mem_iff_getElem.1 hu
      have := h0 m hm
      simp at this
      exact this hu2
    unfold vIx
    rw [hh]
    rfl
  obtain ⟨R, hR⟩ : ∃ R, R = vIx vs i := ⟨_, rfl⟩
  rw [← hR] at HIX HNO ⊢
  clear hR h
  obtain ⟨n, hnn⟩ : ∃ n, n = vs.length := ⟨_, rfl⟩
  rw [← hnn] at hc1 hn ⊢
  have HN := Lib.hid hnn
  clear hnn
  have OB := Lib.hid (Own.made w 25 #[.slice a n cap, .slice ea el ec])
  have BB := Lib.hid (bx1 w 25 #[.slice a n cap, .slice ea el ec])
  go_enter Try.func27, Try.ntmps27
  go_upto_region 2 with fail
  go_wp2
  go_loopw [5] (fun j wr => ∃ k : Nat, k ≤ n ∧ j = .int .i64 (k : Int) ∧ Hid (∀ m (hm : m < vs.length), m < k → ((vs[m]'hm).id == i) = false) ∧ Hid (Below w.heap.size w wr) ∧ Hid (Own wr w.heap.size 25 #[.slice a n cap, .slice ea el ec])) (fun j wr => n - (intOf j).toNat)
  case atStart => exact ⟨0, by omega, rfl, Lib.hid fun m hm h => by omega, BB, OB⟩
  case round =>
    obtain ⟨k, hk, rfl, hno, HB, HO⟩ := hrel
    obtain ⟨q1, q2, q3⟩ := HO.out.at_
    by_cases hlt : k < n
    · have hkl : k < vs.length := by rw [← HN.out]; exact hlt
      obtain ⟨b, o, rfl, hb, hc⟩ := hcl k hkl
      obtain ⟨c1, c2, c3⟩ := hc wr HB.out
      obtain ⟨x, hx⟩ : ∃ x, x = vs[k]'hkl := ⟨_, rfl⟩
      rw [← hx] at c1 c2 c3
      have HX := Lib.hid hx
      clear hx hcl hc
      obtain ⟨x1, x2, x3⟩ := x
      simp only at c1 c2 c3
      rcases eqq x1 i with ⟨hi, ht⟩ | ⟨hi, ht⟩
      · have e := HIX.out (k : Int) ⟨k, hkl, rfl, fun m hm hmk => hno.out m hm hmk, by rw [← HX.out]; exact ht⟩
        subst e
        clear hi
        go_wp2
        go_ret
        exact ⟨rfl, HB.out⟩
      · clear hi
        go_wp2
        go_roundw
        case rel =>
          refine ⟨k + 1, by omega, by go_num, Lib.hid fun m hm hmk => ?_, HB, HO⟩
          rcases Nat.lt_succ_iff_lt_or_eq.1 hmk with hmk | rfl
          · exact hno.out m hm hmk
          · rw [← HX.out]; exact ht
        case measure => simp [intOf] <;> omega
    · have e := HNO.out fun m hm => hno.out m hm (by rw [← HN.out] at hm; omega)
      subst e
      go_wp2
      go_ret
      exact ⟨rfl, HB.out⟩
set_option maxRecDepth 10000 in
theorem redge_any (v e : Value) (es : List Eg) (i : Int) (w : World) (h : EIn w e es) (he : ∃ a l c, v = .slice a l c) (hn : es.length ≤ 100000) :
    Calls Try.prog 28 #[.agg #[v, e], .int .i64 i] w fun x w' => x = .returned (.int .i64 (eIx es i)) ∧ Below w.heap.size w w' := by
  obtain ⟨a, cap, rfl, hc1, hc2, -, hcl⟩ := h.open_
  obtain ⟨ea, el, ec, rfl⟩ := he
  have HIX : Hid (∀ z : Int, (∃ k, ∃ hk : k < es.length, z = (k : Int) ∧ (∀ m (hm : m < es.length), m < k → ((es[m]'hm).id == i) = false) ∧ ((es[k]'hk).id == i) = true) → eIx es i = z) := Lib.hid (by
    rintro z ⟨k, hk, rfl, h0, h1⟩
    have hh : hasE es i = true := hasE_iff.2 ⟨_, List.getElem_mem hk, by simpa using h1⟩
    unfold eIx
    rw [if_pos hh, idx_at hk h0 h1])
  have HNO : Hid ((∀ m (hm : m < es.length), ((es[m]'hm).id == i) = false) → eIx es i = -1) := Lib.hid fun h0 => by
    have hh : hasE es i = false := by
      rw [← Bool.not_eq_true, hasE_iff]
      rintro ⟨u, hu, hu2⟩
      obtain ⟨m, hm, rfl⟩ := List.mem_iff_getElem.1 hu
      have := h0 m hm
      simp at this
      exact this hu2
    unfold eIx
    rw [hh]
    rfl
  obtain ⟨R, hR⟩ : ∃ R, R = eIx es i := ⟨_, rfl⟩
  rw [← hR] at HIX HNO ⊢
  clear hR h
  obtain ⟨n, hnn⟩ : ∃ n, n = es.length := ⟨_, rfl⟩
  rw [← hnn] at hc1 hn ⊢
  have HN := Lib.hid hnn
  clear hnn
  have OB := Lib.hid (Own.made w 25 #[.slice ea el ec, .slice a n cap])
  have BB := Lib.hid (bx1 w 25 #[.slice ea el ec, .slice a n cap])
  go_enter Try.func28, Try.ntmps28
  go_upto_region 2 with fail
  go_wp2
  go_loopw [5] (fun j wr => ∃ k : Nat, k ≤ n ∧ j = .int .i64 (k : Int) ∧ Hid (∀ m (hm : m < es.length), m < k → ((es[m]'hm).id == i) = false) ∧ Hid (Below w.heap.size w wr) ∧ Hid (Own wr w.heap.size 25 #[.slice ea el ec, .slice a n cap])) (fun j wr => n - (intOf j).toNat)
  case atStart => exact ⟨0, by omega, rfl, Lib.hid fun m hm h => by omega, BB, OB⟩
  case round =>
    obtain ⟨k, hk, rfl, hno, HB, HO⟩ := hrel
    obtain ⟨q1, q2, q3⟩ := HO.out.at_
    by_cases hlt : k < n
    · have hkl : k < es.length := by rw [← HN.out]; exact hlt
      obtain ⟨b, o, rfl, hb, hc⟩ := hcl k hkl
      obtain ⟨c1, c2, c3⟩ := hc wr HB.out
      obtain ⟨x, hx⟩ : ∃ x, x = es[k]'hkl := ⟨_, rfl⟩
      rw [← hx] at c1 c2 c3
      have HX := Lib.hid hx
      clear hx hcl hc
      obtain ⟨x1, x2, x3⟩ := x
      simp only at c1 c2 c3
      rcases eqq x1 i with ⟨hi, ht⟩ | ⟨hi, ht⟩
      · have e := HIX.out (k : Int) ⟨k, hkl, rfl, fun m hm hmk => hno.out m hm hmk, by rw [← HX.out]; exact ht⟩
        subst e
        clear hi
        go_wp2
        go_ret
        exact ⟨rfl, HB.out⟩
      · clear hi
        go_wp2
        go_roundw
        case rel =>
          refine ⟨k + 1, by omega, by go_num, Lib.hid fun m hm hmk => ?_, HB, HO⟩
          rcases Nat.lt_succ_iff_lt_or_eq.1 hmk with hmk | rfl
          · exact hno.out m hm hmk
          · rw [← HX.out]; exact ht
        case measure => simp [intOf] <;> omega
    · have e := HNO.out fun m hm => hno.out m hm (by rw [← HN.out] at hm; omega)
      subst e
      go_wp2
      go_ret
      exact ⟨rfl, HB.out⟩
end Go.Proofs.Ytdkmclaihojknaa.Pl