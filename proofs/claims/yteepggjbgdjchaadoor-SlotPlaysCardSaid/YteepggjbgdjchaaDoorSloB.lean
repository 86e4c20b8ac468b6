
/- The contracts of slot's closures, of slices.IndexFunc and ContainsFunc at slots. Conditions: slots that stand in memory. -/
import Derived.Test.YteepggjbgdjchaaDoorSloA
namespace Go.Proofs.YteepggjbgdjchaaDoor
open Go.ChangeShapes Go.WideShapes Go.ChangeAt Go.RowKit
set_option linter.unusedVariables false
set_option linter.unusedSimpArgs false

set_option maxRecDepth 10000 in
theorem vac1_any (u : Bool) (r : ByteArray) (w : World) : Calls Tryd.prog 46 #[.agg #[.bool u, .string r]] w fun e w' => e = .returned (.bool (isE (u, r))) ∧ Below w.heap.size w w' := by
  have E := eq_em u r
  obtain ⟨b, hb⟩ : ∃ b, b = isE (u, r) := ⟨_, rfl⟩
  rw [← hb] at E ⊢
  clear hb
  go_enter Tryd.func46, Tryd.ntmps46
  go_wp2
  go_ret
  exact ⟨rfl, by have := Below.refl w.heap.size w; exact this.alloc this.size _⟩
theorem neq_em (u : Bool) (r : ByteArray) : (!isE (u, r)) = !(u == false && r.toList == (⟨#[]⟩ : ByteArray).toList) := by rw [isE_eqs]
set_option maxRecDepth 10000 in
theorem pack1_any (u : Bool) (r : ByteArray) (w : World) : Calls Tryd.prog 36 #[.agg #[.bool u, .string r]] w fun e w' => e = .returned (.bool (!okS (u, r))) ∧ Below w.heap.size w w' := by
  have E := eq_em u r
  have HB : ∀ W : World, W = w.alloc (.cells #[.bool u, .string r] 51) → Below w.heap.size w W := fun W h => by have := Below.refl w.heap.size w; rw [h]; exact this.alloc this.size _
  replace HB := Lib.hid HB
  cases u with
  | true =>
    go_enter Tryd.func36, Tryd.ntmps36
    go_wp2
    go_ret
    exact ⟨rfl, HB.out _ rfl⟩
  | false =>
    obtain ⟨b, hb⟩ : ∃ b, b = isE (false, r) := ⟨_, rfl⟩
    have e : okS (false, r) = b := by rw [hb]; rfl
    rw [← hb] at E
    rw [e]
    clear hb e
    go_enter Tryd.func36, Tryd.ntmps36
    go_wp2
    go_ret
    exact ⟨rfl, HB.out _ rfl⟩
/-- the place of the first that p holds of, or -1 -/
def IdxOf (p : Sl → Bool) (L : List Sl) (z : Int) : Prop := (z = -1 ∧ ∀ x ∈ L, p x = false) ∨ ∃ k, ∃ h : k < L.length, z = (k : Int) ∧ p (L[k]'h) = true ∧ ∀ j (hj : j < k), p (L[j]'(Nat.lt_trans hj h)) = false
set_option maxRecDepth 10000 in
theorem idx_any (f : FuncId) (p : Sl → Bool) (v : Value) (L : List Sl) (w : World) (h : SlIn w v L) (HE : ∀ (args : Array Value) (W : World), (callFunc f args).run Tryd.prog W = .ok (.enter f args) W)
    (HP : ∀ u r W, Calls Tryd.prog f #[.agg #[.bool u, .string r]] W fun e w' => e = .returned (.bool (p (u, r))) ∧ Below W.heap.size W w') :
    Calls Tryd.prog 45 #[v, .func (.func f) #[] #[]] w fun e w' => ∃ z, e = .returned (.int .i64 z) ∧ IdxOf p L z ∧ Below w.heap.size w w' := by
  obtain ⟨a, cap, rfl, hc1, hc2, -, hcl⟩ := h.open_
  obtain ⟨n, hn⟩ : ∃ n, n = L.length := ⟨_, rfl⟩
  rw [← hn] at hc1 ⊢
  have hn' := Lib.hid hn
  have hmax : n ≤ 9223372036854775807 := by unfold maxLen at hc2; omega
  replace HP := Lib.hid HP
  clear hn h
  go_enter Tryd.func45, Tryd.ntmps45
  go_wp2
  go_loopw [8] (fun i wr => ∃ k : Nat, k ≤ n ∧ i = .int .i64 (k : Int) ∧ Hid (∀ j, j < k → ∀ h : j < L.length, p (L[j]'h) = false) ∧ Below w.heap.size w wr) (fun i wr => n - (intOf i).toNat)
  case atStart => exact ⟨0, by omega, rfl, Lib.hid (fun j hj => by omega), Below.refl _ _⟩
  case round =>
    obtain ⟨k, hk, rfl, hN, hB⟩ := hrel
    replace hB := Lib.hid hB
    by_cases hlt : k < n
    · have hkl : k < L.length := by have := hn'.out; omega
      obtain ⟨b, o, rfl, hb, c1, c2, c3⟩ := hcl k hkl
      obtain ⟨x, hx⟩ : ∃ x, x = L[k]'hkl := ⟨_, rfl⟩
      rw [← hx] at c1 c2 c3
      have hx' := Lib.hid hx
      clear hx
      obtain ⟨u, r⟩ := x
      simp only at c1 c2 c3
      replace c1 := keep hB.out c1
      replace c2 := keep hB.out c2
      have HX := Lib.hid (HP.out u r)
      cases hpe : p (u, r) with
      | true =>
        rw [hpe] at HX
        have hpe' := Lib.hid hpe
        clear hpe
        go_wp2_with (refine (HX.out _).mono ?_; rintro e w2 ⟨rfl, hb2⟩)
        have hb3 := then_ hB.out hb2 hB.out.size
        go_ret
        exact ⟨_, rfl, .inr ⟨k, hkl, rfl, by rw [← hx'.out]; exact hpe'.out, fun j hj => hN.out j hj _⟩, hb3⟩
      | false =>
        rw [hpe] at HX
        have hpe' := Lib.hid hpe
        clear hpe
        go_wp2_with (refine (HX.out _).mono ?_; rintro e w2 ⟨rfl, hb2⟩)
        have hb3 := then_ hB.out hb2 hB.out.size
        go_roundw
        case rel => exact ⟨k + 1, by omega, by go_num, Lib.hid (fun j hj h => by
          by_cases e : j = k
          · subst e; rw [← hx'.out]; exact hpe'.out
          · exact hN.out j (by omega) h), hb3⟩
        case measure => simp [intOf]; omega
    · obtain rfl : k = n := by omega
      go_wp2
      go_ret
      refine ⟨_, rfl, .inl ⟨rfl, fun x hx => ?_⟩, hB.out⟩
      obtain ⟨j, hj, rfl⟩ := List.mem_iff_getElem.1 hx
      exact hN.out j (by have := hn'.out; omega) hj
theorem okS_all (L : List Sl) (z : Int) (h : IdxOf (fun x => !okS x) L z) : decide (0 ≤ z) = !L.all okS := by
  rcases h with ⟨rfl, h⟩ | ⟨k, hk, rfl, h, _⟩
  · rw [List.all_eq_true.2 (fun x hx => by simpa using h x hx)]; rfl
  · have : L.all okS = false := by
      rw [Bool.eq_false_iff]
      intro ha
      have := List.all_eq_true.1 ha _ (List.getElem_mem hk)
      simp [this] at h
    rw [this, Bool.not_false, decide_eq_true (by omega)]
set_option maxRecDepth 10000 in
theorem contains_any (v : Value) (L : List Sl) (w : World) (h : SlIn w v L) :
    Calls Tryd.prog 35 #[v, .func (.func 36) #[] #[]] w fun e w' => e = .returned (.bool (!L.all okS)) ∧ Below w.heap.size w w' := by
  have HI := Lib.hid (fun w (h : SlIn w v L) => idx_any 36 (fun x => !okS x) v L w h (enter_fn Tryd.func36 rfl rfl) pack1_any)
  have HO := Lib.hid (okS_all L)
  obtain ⟨a, cap, hv, _⟩ := h
  subst hv
  obtain ⟨R, hR⟩ : ∃ R, R = !L.all okS := ⟨_, rfl⟩
  rw [← hR] at HO ⊢
  clear hR
  have h' : SlIn w (.slice a L.length cap) L := ⟨a, cap, rfl, by assumption⟩
  go_enter Tryd.func35, Tryd.ntmps35
  go_wp2_with (go_at_call 45; refine (HI.out _ h').mono ?_; rintro e w2 ⟨z, rfl, hz, hb2⟩; have ez := HO.out z hz; clear hz)
  go_ret
  exact ⟨by first | rw [ez] | rfl, hb2⟩
end Go.Proofs.YteepggjbgdjchaaDoor
