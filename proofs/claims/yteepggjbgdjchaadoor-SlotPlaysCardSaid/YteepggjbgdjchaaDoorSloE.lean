
/- The contracts of slot's Pack, holding, vacant, Get, Empty. Conditions: slots that stand in memory; strings within Go's own limit. -/
import Derived.Test.YteepggjbgdjchaaDoorSloD
namespace Go.Proofs.YteepggjbgdjchaaDoor
open Go.ChangeShapes Go.WideShapes Go.ChangeAt Go.RowKit
set_option linter.unusedVariables false
set_option linter.unusedSimpArgs false

set_option maxRecDepth 10000 in
theorem pack_any (v : Value) (L : List Sl) (w : World) (h : SlIn w v L) (hz : sz L ≤ 9223372036854775807) : Calls Tryd.prog 24 #[v] w fun e w' => e = .returned (.tuple #[.string (pk L).1, .int .i64 ((pk L).2 : Nat)]) ∧ Below w.heap.size w w' := by
  have HC := Lib.hid (contains_any v L w h)
  have HT := Lib.hid (fun W (hb : Below w.heap.size w W) => trim_any v L W (h.below hb))
  obtain ⟨a, cap, rfl, hc1, hc2, -, -⟩ := h.open_
  have hzt := sz_tr L
  have HS : Hid (∀ W v', SlIn W v' (tr L) → Calls Tryd.prog 27 #[v'] W fun e w' => e = .returned (.int .i64 (sz (tr L) : Nat)) ∧ Below W.heap.size W w') := Lib.hid fun W v' hi => size_any v' _ W hi (by omega)
  have HJ : Hid (∀ W v', sz (tr L) ≤ 496 → SlIn W v' (tr L) → Calls Tryd.prog 38 #[v'] W fun e w' => e = .returned (.string (rmB (tr L))) ∧ Below W.heap.size W w') := Lib.hid fun W v' hz hi => join_any v' _ W hi hz
  obtain ⟨X, hX⟩ : ∃ X, X = pk L := ⟨_, rfl⟩
  have HX : Hid (pk L = X) := Lib.hid hX.symm
  rw [← hX]
  have HX2 : Hid (X = if L.all okS = false then (⟨#[]⟩, 2) else if 496 < sz (tr L) then (⟨#[]⟩, 8) else (rmB (tr L), 0)) := Lib.hid hX
  obtain ⟨ok, hok⟩ : ∃ ok, ok = L.all okS := ⟨_, rfl⟩
  rw [← hok] at HC HX2
  obtain ⟨Z, hZ⟩ : ∃ Z, Z = sz (tr L) := ⟨_, rfl⟩
  rw [← hZ] at HS HJ HX2
  clear hX hok hZ h hzt
  cases ok with
  | false =>
    obtain rfl : X = (⟨#[]⟩, 2) := by rw [HX2.out]; rfl
    clear HX2
    go_enter Tryd.func24, Tryd.ntmps24
    go_wp2_with (go_at_call 35; refine HC.out.mono ?_; rintro e w2 ⟨rfl, hb2⟩; have B2 := Lib.hid hb2; clear hb2)
    go_ret2
    exact ⟨rfl, B2.out⟩
  | true =>
    rw [if_neg (by simp)] at HX2
    by_cases hlt : 496 < Z
    · obtain rfl : X = (⟨#[]⟩, 8) := by rw [HX2.out, if_pos hlt]
      clear HX2
      have q : (496 : Int) < (Z : Int) := by omega
      go_enter Tryd.func24, Tryd.ntmps24
      go_wp2_with (first
        | (go_at_call 35; refine HC.out.mono ?_; rintro e w2 ⟨rfl, hb2⟩; have B2 := Lib.hid hb2; clear hb2)
        | (go_at_call 37; refine (HT.out _ B2.out).mono ?_; rintro e w3 ⟨a', cap', hv, rfl, hi3, hb3⟩; have B3 := Lib.hid (then_ B2.out hb3 B2.out.size); have I3 := Lib.hid hi3; clear hi3 hb3 hv)
        | (go_at_call 27; refine (HS.out _ _ I3.out).mono ?_; rintro e w4 ⟨rfl, hb4⟩; have B4 := Lib.hid (then_ B3.out hb4 B3.out.size); clear hb4))
      go_ret2
      exact ⟨rfl, B4.out⟩
    · obtain rfl : X = (rmB (tr L), 0) := by rw [HX2.out, if_neg hlt]
      clear HX2
      have q : ¬ (496 : Int) < (Z : Int) := by omega
      have hZ := Lib.hid (show Z ≤ 496 by omega)
      obtain ⟨R, hR⟩ : ∃ R, R = rmB (tr L) := ⟨_, rfl⟩
      rw [← hR] at HJ ⊢
      clear hR HX
      go_enter Tryd.func24, Tryd.ntmps24
      go_wp2_with (first
        | (go_at_call 35; refine HC.out.mono ?_; rintro e w2 ⟨rfl, hb2⟩; have B2 := Lib.hid hb2; clear hb2)
        | (go_at_call 37; refine (HT.out _ B2.out).mono ?_; rintro e w3 ⟨a', cap', hv, rfl, hi3, hb3⟩; have B3 := Lib.hid (then_ B2.out hb3 B2.out.size); have I3 := Lib.hid hi3; clear hi3 hb3 hv)
        | (go_at_call 27; refine (HS.out _ _ I3.out).mono ?_; rintro e w4 ⟨rfl, hb4⟩; have B4 := Lib.hid (then_ B3.out hb4 B3.out.size); have I4 := Lib.hid (I3.out.below hb4); clear hb4)
        | (go_at_call 38; refine (HJ.out _ _ hZ.out I4.out).mono ?_; rintro e w5 ⟨rfl, hb5⟩; have B5 := Lib.hid (then_ B4.out hb5 B4.out.size); clear hb5))
      go_ret2
      exact ⟨rfl, B5.out⟩
/-- what holding answers -/
def HoldAns (s : ByteArray) (i : Int) (B : Nat) (e : Ending) (w' : World) : Prop :=
  (rd s = none ∧ e = .returned (.tuple #[.slice none 0 0, .int .i64 2])) ∨
  (∃ L, rd s = some L ∧ (∀ (k : Nat) (h : k < L.length), i = (k : Int) → isE (L[k]'h) = true) ∧ e = .returned (.tuple #[.slice none 0 0, .int .i64 6])) ∨
  ∃ L b, ∃ k : Nat, ∃ h : k < L.length, rd s = some L ∧ i = (k : Int) ∧ isE (L[k]'h) = false ∧ e = .returned (.tuple #[.slice (some ⟨b, 0, none⟩) L.length L.length, .int .i64 0]) ∧ B ≤ b ∧ SlRow w' b L
theorem rd_len {s : ByteArray} {L : List Sl} (h : rd s = some L) : L.length ≤ 247 ∧ (∀ x ∈ L, x.2.size ≤ 496) ∧ sz L ≤ 496 := by
  have hf := (rd_sound s L h).1.sz
  have hz : sz L = 2 + 2 * L.length + (recs L).length := rfl
  exact ⟨by omega, fun x hx => by have := rec_le L x hx; omega, hf⟩
set_option maxRecDepth 10000 in
set_option maxHeartbeats 1000000 in
theorem holding_any (s : ByteArray) (i : Int) (w : World) (hs : s.size ≤ 140737488355328) (hi : -9223372036854775808 ≤ i) (hi2 : i ≤ 9223372036854775807) : Calls Tryd.prog 28 #[.string s, .int .i64 i] w fun e w' => HoldAns s i w.heap.size e w' ∧ Below w.heap.size w w' := by
  have HC := Lib.hid (cut_any s w hs)
  have key : ∀ (e : Ending) (w1 : World), CutAns s w.heap.size e w1 → (rd s = none ∧ e = .returned (.tuple #[.slice none 0 0, .bool false])) ∨ ∃ L b, rd s = some L ∧ e = .returned (.tuple #[.slice (some ⟨b, 0, none⟩) L.length L.length, .bool true]) ∧ w.heap.size ≤ b ∧ SlRow w1 b L := fun _ _ h => h
  have KEY := Lib.hid key
  clear key
  cases hr : rd s with
  | none =>
    have hr' := Lib.hid hr
    have HC2 : Hid (Calls Tryd.prog 34 #[.string s] w fun e w' => e = .returned (.tuple #[.slice none 0 0, .bool false]) ∧ Below w.heap.size w w') := Lib.hid (HC.out.mono fun e w1 h => by
      rcases h.1 with ⟨_, h1⟩ | ⟨L, b, h1, _⟩
      · exact ⟨h1, h.2⟩
      · rw [hr] at h1; cases h1)
    clear hr
    go_enter Tryd.func28, Tryd.ntmps28
    go_wp2_with (go_at_call 34; refine HC2.out.mono ?_; rintro e w2 ⟨rfl, hb2⟩; have B2 := Lib.hid hb2; clear hb2)
    all_goals (go_ret2; exact ⟨.inl ⟨hr'.out, rfl⟩, B2.out⟩)
  | some L =>
    have hr' := Lib.hid hr
    have HC2 : Hid (Calls Tryd.prog 34 #[.string s] w fun e w' => ∃ b, e = .returned (.tuple #[.slice (some ⟨b, 0, none⟩) L.length L.length, .bool true]) ∧ w.heap.size ≤ b ∧ SlRow w' b L ∧ Below w.heap.size w w') := Lib.hid (HC.out.mono fun e w1 h => by
      rcases h.1 with ⟨h1, _⟩ | ⟨L', b, h1, h2, h3, h4⟩
      · rw [hr] at h1; cases h1
      · rw [hr] at h1
        injection h1 with h1
        subst h1
        exact ⟨b, h2, h3, h4, h.2⟩)
    obtain ⟨n, hn⟩ : ∃ n, n = L.length := ⟨_, rfl⟩
    have hn' := Lib.hid hn
    have hlen := (rd_len hr).1
    rw [← hn] at HC2 hlen
    clear hr hn HC KEY
    have NO : ∀ W, ((i < 0 ∨ (n : Int) ≤ i) ∨ ∃ k, ∃ h : k < L.length, i = (k : Int) ∧ isE (L[k]'h) = true) → HoldAns s i w.heap.size (.returned (.tuple #[.slice none 0 0, .int .i64 6])) W := fun W h => .inr (.inl ⟨L, hr'.out, fun k hk e => by
      rcases h with h | ⟨j, hj, e2, h⟩
      · have := hn'.out; omega
      · obtain rfl : j = k := by omega
        exact h, rfl⟩)
    replace NO := Lib.hid NO
    by_cases h0 : i < 0
    · have NO' := Lib.hid (fun W => NO.out W (.inl (.inl h0)))
      clear NO
      go_enter Tryd.func28, Tryd.ntmps28
      go_wp2_with (go_at_call 34; refine HC2.out.mono ?_; rintro e w2 ⟨b, rfl, hbb, hR, hb2⟩; have B2 := Lib.hid hb2; clear hb2 hR)
      all_goals (go_ret2; exact ⟨NO'.out _, B2.out⟩)
    · by_cases h1 : (n : Int) ≤ i
      · have NO' := Lib.hid (fun W => NO.out W (.inl (.inr h1)))
        clear NO
        go_enter Tryd.func28, Tryd.ntmps28
        go_wp2_with (go_at_call 34; refine HC2.out.mono ?_; rintro e w2 ⟨b, rfl, hbb, hR, hb2⟩; have B2 := Lib.hid hb2; clear hb2 hR)
        all_goals (go_ret2; exact ⟨NO'.out _, B2.out⟩)
      · obtain ⟨k, rfl⟩ : ∃ k : Nat, i = (k : Int) := ⟨i.toNat, by omega⟩
        have hk : k < n := by omega
        have hkl : k < L.length := by rw [← hn'.out]; exact hk
        obtain ⟨x, hx⟩ : ∃ x, x = L[k]'hkl := ⟨_, rfl⟩
        have hx' := Lib.hid hx
        have CA : ∀ W b, SlRow W b L → W.cell? ⟨b, k * 2, none⟩ = some (.bool x.1) ∧ W.cell? ⟨b, k * 2 + 1, none⟩ = some (.string x.2) := fun W b h => by rw [hx]; exact h.at_ k hkl
        replace CA := Lib.hid CA
        clear hx h0 h1
        have hkk : (k : Int) < (n : Int) := by omega
        obtain ⟨u, r⟩ := x
        have E := eq_em u r
        cases he : isE (u, r) with
        | true =>
          rw [he] at E
          have NO' := Lib.hid (fun W => NO.out W (.inr ⟨k, hkl, rfl, by rw [← hx'.out]; exact he⟩))
          clear NO he
          go_enter Tryd.func28, Tryd.ntmps28
          go_wp2_with (go_at_call 34; refine HC2.out.mono ?_; rintro e w2 ⟨b, rfl, hbb, hR, hb2⟩; have B2 := Lib.hid hb2; obtain ⟨c1, c2⟩ := CA.out _ _ hR; have zb := Own.in_ hR; clear hb2 hR)
          all_goals (go_ret2; exact ⟨NO'.out _, B2.out⟩)
        | false =>
          rw [he] at E
          have YES : ∀ W b, w.heap.size ≤ b → SlRow W b L → HoldAns s (k : Int) w.heap.size (.returned (.tuple #[.slice (some ⟨b, 0, none⟩) n n, .int .i64 0])) W := fun W b h1 h2 => .inr (.inr ⟨L, b, k, hkl, hr'.out, rfl, by rw [← hx'.out]; exact he, by rw [hn'.out], h1, h2⟩)
          replace YES := Lib.hid YES
          clear NO he
          go_enter Tryd.func28, Tryd.ntmps28
          go_wp2_with (go_at_call 34; refine HC2.out.mono ?_; rintro e w2 ⟨b, rfl, hbb, hR, hb2⟩; have B2 := Lib.hid hb2; have R2 := Lib.hid hR; obtain ⟨c1, c2⟩ := CA.out _ _ hR; have zb := Own.in_ hR; clear hb2 hR)
          all_goals (go_ret2; exact ⟨YES.out _ _ hbb R2.out, B2.out⟩)
end Go.Proofs.YteepggjbgdjchaaDoor
