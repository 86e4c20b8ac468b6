
/- The contracts of slot's Get, Empty, Add, change, Set, Del, Left, Read. Conditions: strings within Go's own limit. -/
import Derived.Test.YteepggjbgdjchaaDoorSloF
namespace Go.Proofs.YteepggjbgdjchaaDoor
open Go.ChangeShapes Go.WideShapes Go.ChangeAt Go.RowKit
set_option linter.unusedVariables false
set_option linter.unusedSimpArgs false

/-- is there a record in slot i? -/
def hd (L : List Sl) (i : Int) : Bool := decide (0 ≤ i) && (match L[i.toNat]? with | some x => !isE x | none => false)
theorem hd_yes {L : List Sl} {k : Nat} (hk : k < L.length) (h : isE (L[k]'hk) = false) : hd L (k : Int) = true := by
  unfold hd
  rw [Int.toNat_natCast, List.getElem?_eq_getElem hk]
  simp [h]
theorem hd_no {L : List Sl} {i : Int} (h : ∀ (k : Nat) (h : k < L.length), i = (k : Int) → isE (L[k]'h) = true) : hd L i = false := by
  unfold hd
  by_cases h0 : 0 ≤ i
  · by_cases h1 : i.toNat < L.length
    · rw [List.getElem?_eq_getElem h1]
      have := h i.toNat h1 (by omega)
      simp [this]
    · rw [List.getElem?_eq_none (by omega)]; simp
  · simp [h0]
/-- the answer's error, where a record is looked for -/
def hs (s : ByteArray) (i : Int) : Nat := match rd s with | none => 2 | some L => if hd L i then 0 else 6
theorem hs_some {s : ByteArray} {L : List Sl} (h : rd s = some L) (i : Int) : hs s i = if hd L i then 0 else 6 := by unfold hs; rw [h]
theorem hold_cases (s : ByteArray) (i : Int) (w : World) (hz : s.size ≤ 140737488355328) (hi : -9223372036854775808 ≤ i) (hi2 : i ≤ 9223372036854775807) :
    (hs s i ≠ 0 ∧ Calls Tryd.prog 28 #[.string s, .int .i64 i] w fun e w' => e = .returned (.tuple #[.slice none 0 0, .int .i64 (hs s i : Nat)]) ∧ Below w.heap.size w w') ∨
    ∃ L, ∃ k : Nat, ∃ h : k < L.length, rd s = some L ∧ i = (k : Int) ∧ isE (L[k]'h) = false ∧ hs s i = 0 ∧
      Calls Tryd.prog 28 #[.string s, .int .i64 i] w fun e w' => ∃ b, e = .returned (.tuple #[.slice (some ⟨b, 0, none⟩) L.length L.length, .int .i64 0]) ∧ w.heap.size ≤ b ∧ SlRow w' b L ∧ Below w.heap.size w w' := by
  have H := holding_any s i w hz hi hi2
  cases hr : rd s with
  | none =>
    have e0 : hs s i = 2 := by unfold hs; rw [hr]
    refine .inl ⟨by omega, H.mono fun e w' h => ?_⟩
    rcases h.1 with ⟨_, h1⟩ | ⟨L, h1, _⟩ | ⟨L, b, k, hk, h1, _⟩
    · exact ⟨by rw [h1, e0]; rfl, h.2⟩
    · rw [hr] at h1; cases h1
    · rw [hr] at h1; cases h1
  | some L =>
    have e0 := hs_some hr i
    by_cases hh : ∃ k : Nat, ∃ h : k < L.length, i = (k : Int) ∧ isE (L[k]'h) = false
    · obtain ⟨k, hk, rfl, hx⟩ := hh
      rw [hd_yes hk hx] at e0
      refine .inr ⟨L, k, hk, rfl, rfl, hx, e0, H.mono fun e w' h => ?_⟩
      rcases h.1 with ⟨h1, _⟩ | ⟨L', h1, h2, _⟩ | ⟨L', b, k', hk', h1, h2, h3, h4, h5, h6⟩
      · rw [hr] at h1; cases h1
      · rw [hr] at h1; injection h1 with h1; subst h1
        rw [h2 k hk rfl] at hx; cases hx
      · rw [hr] at h1; injection h1 with h1; subst h1
        exact ⟨b, h4, h5, h6, h.2⟩
    · have hno : ∀ (k : Nat) (h : k < L.length), i = (k : Int) → isE (L[k]'h) = true := fun k hk e => by
        cases hx : isE (L[k]'hk) with
        | true => rfl
        | false => exact absurd ⟨k, hk, e, hx⟩ hh
      rw [hd_no hno] at e0
      have e1 : hs s i = 6 := e0
      refine .inl ⟨by omega, H.mono fun e w' h => ?_⟩
      rcases h.1 with ⟨h1, _⟩ | ⟨L', h1, h2, h3⟩ | ⟨L', b, k', hk', h1, h2, h3, h4, h5, h6⟩
      · rw [hr] at h1; cases h1
      · exact ⟨by rw [h3, e1]; rfl, h.2⟩
      · rw [hr] at h1; injection h1 with h1; subst h1
        exact absurd ⟨k', hk', h2, h3⟩ hh
/-- what Get answers -/
def gt (s : ByteArray) (i : Int) : ByteArray := if hs s i = 0 then (match rd s with | none => ⟨#[]⟩ | some L => (L.getD i.toNat emS).2) else ⟨#[]⟩
theorem gt_no {s : ByteArray} {i : Int} (h : hs s i ≠ 0) : gt s i = ⟨#[]⟩ := by unfold gt; rw [if_neg h]
theorem gt_yes {s : ByteArray} {L : List Sl} {k : Nat} (hk : k < L.length) (hr : rd s = some L) (h : hs s (k : Int) = 0) : gt s (k : Int) = (L[k]'hk).2 := by
  unfold gt
  rw [if_pos h, hr, Int.toNat_natCast]
  simp [List.getD_eq_getElem?_getD, List.getElem?_eq_getElem hk]
set_option maxRecDepth 10000 in
theorem get_slot (s : ByteArray) (i : Int) (w : World) (hz : s.size ≤ 140737488355328) (hi : -9223372036854775808 ≤ i) (hi2 : i ≤ 9223372036854775807) :
    Calls Tryd.prog 15 #[.string s, .int .i64 i] w fun e w' => e = .returned (.tuple #[.string (gt s i), .int .i64 (hs s i : Nat)]) ∧ Below w.heap.size w w' := by
  rcases hold_cases s i w hz hi hi2 with ⟨h0, H⟩ | ⟨L, k, hk, hr, rfl, hx, h0, H⟩
  · rw [gt_no h0]
    obtain ⟨c, hc⟩ : ∃ c, c = hs s i := ⟨_, rfl⟩
    rw [← hc] at H h0 ⊢
    have q : ¬ ((c : Int) = 0) := by omega
    replace H := Lib.hid H
    clear hc h0
    go_enter Tryd.func15, Tryd.ntmps15
    go_wp2_with (go_at_call 28; refine H.out.mono ?_; rintro e w2 ⟨rfl, hb2⟩; have B2 := Lib.hid hb2; clear hb2)
    all_goals (go_ret2; exact ⟨rfl, B2.out⟩)
  · rw [gt_yes hk hr h0, h0]
    have hsz := (rd_len hr).2.1 _ (List.getElem_mem hk)
    have CA : ∀ W b, SlRow W b L → W.cell? ⟨b, k * 2 + 1, none⟩ = some (.string (L[k]'hk).2) := fun W b h => (h.at_ k hk).2
    replace CA := Lib.hid CA
    obtain ⟨R, hR⟩ : ∃ R, R = (L[k]'hk).2 := ⟨_, rfl⟩
    rw [← hR] at hsz CA ⊢
    obtain ⟨n, hn⟩ : ∃ n, n = L.length := ⟨_, rfl⟩
    rw [← hn] at H
    have hkn : k < n := by omega
    have hl := (rd_len hr).1
    have hkk : (k : Int) < (n : Int) := by omega
    have HCL := Lib.hid (fun W => clone_any R W (by omega))
    replace H := Lib.hid H
    clear hR hn hx h0 hr
    go_enter Tryd.func15, Tryd.ntmps15
    go_wp2_with (first
      | (go_at_call 28; refine H.out.mono ?_; rintro e w2 ⟨b, rfl, hbb, hR, hb2⟩; have B2 := Lib.hid hb2; have c1 := CA.out _ _ hR; clear hb2 hR)
      | (go_at_call 29; refine (HCL.out _).mono ?_; rintro e w3 ⟨rfl, hb3⟩; have B3 := Lib.hid (then_ B2.out hb3 B2.out.size); clear hb3))
    all_goals (go_ret2; exact ⟨rfl, B3.out⟩)
set_option maxRecDepth 10000 in
theorem empty_slot (w : World) : Calls Tryd.prog 11 #[] w fun e w' => e = .returned (.string (rmB [])) ∧ Below w.heap.size w w' := by
  have HR := rep0_any 496 w (by omega)
  have e : zB 496 = rmB [] := by
    apply ByteArray.ext
    apply Array.toList_inj.1
    rw [rm_list]
    unfold zB
    rw [List.toList_toArray]
    rfl
  rw [e] at HR
  obtain ⟨Z, hZ⟩ : ∃ Z, Z = rmB [] := ⟨_, rfl⟩
  rw [← hZ] at HR ⊢
  replace HR := Lib.hid HR
  clear hZ e
  go_enter Tryd.func11, Tryd.ntmps11
  go_wp2_with (go_at_call 25; refine HR.out.mono ?_; rintro e w2 ⟨rfl, hb⟩)
  go_ret
  exact ⟨rfl, hb⟩
end Go.Proofs.YteepggjbgdjchaaDoor
