
/- What the law on every call of layer 12 asks, as contracts in its own words. Conditions: rooms that are right, slots that stand in memory. -/
import Derived.Test.YteepggjbgdjchaaDoorSloP
namespace Go.Proofs.YteepggjbgdjchaaDoor
open Go.ChangeShapes Go.WideShapes Go.ChangeAt Go.RowKit
set_option linter.unusedVariables false
set_option linter.unusedSimpArgs false

theorem hd_true {L : List Sl} {i : Int} (h : hd L i = true) : ∃ k : Nat, ∃ hk : k < L.length, i = (k : Int) ∧ isE (L[k]'hk) = false := by
  unfold hd at h
  rw [Bool.and_eq_true, decide_eq_true_eq] at h
  obtain ⟨h0, h1⟩ := h
  by_cases hk : i.toNat < L.length
  · rw [List.getElem?_eq_getElem hk] at h1
    exact ⟨i.toNat, hk, by omega, by simpa using h1⟩
  · rw [List.getElem?_eq_none (by omega)] at h1
    cases h1
theorem used_of {x : Sl} (h : okS x = true) (h1 : isE x = false) : x.1 = true := by
  cases hx : x.1 with
  | true => rfl
  | false =>
    have := okS_no x h hx
    rw [this] at h1
    cases h1
theorem isE_used' {x : Sl} (h : x.1 = true) : isE x = false := by unfold isE; rw [h]; rfl
theorem isE_not {x : Sl} (h : okS x = true) (h1 : x.1 = false) : isE x = true := by rw [okS_no x h h1]; rfl
theorem pk_two {V : List Sl} (h : ∀ x ∈ V, okS x = true) : (Fit (tr V) ∧ pk V = (rmB (tr V), 0)) ∨ pk V = (⟨#[]⟩, 8) := by
  unfold pk
  rw [if_neg (by rw [List.all_eq_true.2 h]; simp)]
  by_cases h2 : 496 < sz (tr V)
  · rw [if_pos h2]; exact .inr rfl
  · rw [if_neg h2]
    exact .inl ⟨⟨fun x hx => h x (tr_mem V x hx), tr_tr V, by omega⟩, rfl⟩
theorem ok_set {L : List Sl} (h : ∀ x ∈ L, okS x = true) (k : Nat) (x : Sl) (hx : okS x = true) : ∀ y ∈ L.set k x, okS y = true := fun y hy => by
  rcases List.mem_or_eq_of_mem_set hy with hy | rfl
  · exact h y hy
  · exact hx
/-- the reference's packing, reading, and the look at Left, where the room is packed -/
theorem play_pack {V : List Sl} {c : Nat} (hV : ∀ x ∈ V, x.2.size ≤ 1000) (W : World) (B : Nat) (v : Value) (h : RT_ W B v V) : Calls Tryd.prog 18 #[v] W fun e w' => e = .returned (.tuple #[.string (pk V).1, .int .i64 ((pk V).2 : Nat)]) ∧ Below W.heap.size W w' :=
  rpack_any v V W (h.in_ (fun x hx => by have := hV x hx; unfold maxLen; omega))
theorem play_read {U : List Sl} (hU : Fit U) (W : World) : Calls Tryd.prog 19 #[.string (rmB U)] W fun e w' => ∃ v, e = .returned (.tuple #[v, .bool true]) ∧ RT_ w' 0 v U ∧ Below W.heap.size W w' := by
  have z := rmB_size U hU.sz
  refine (rread_any (rmB U) W (by omega)).mono ?_
  rintro e w' ⟨v, h1, h2, h3⟩
  rw [rd_rm U hU] at h1
  exact ⟨v, h1, RT_.low (show RT_ w' W.heap.size v U from h2 U (rd_rm U hU)), h3⟩
theorem play_left {U : List Sl} (hU : Fit U) (W : World) (v : Value) (h : RT_ W 0 v U) : Calls Tryd.prog 20 #[.string (rmB U), v] W fun e w' => e = .returned (.bool true) ∧ Below W.heap.size W w' := by
  have z := rmB_size U hU.sz
  exact leftright_any (rmB U) v U W (by omega) (rd_rm U hU) h
theorem fit_len {L : List Sl} (h : Fit L) : L.length ≤ 247 ∧ ∀ x ∈ L, x.2.size ≤ 496 := by
  have hz : sz L = 2 + 2 * L.length + (recs L).length := rfl
  have := h.sz
  exact ⟨by omega, fun x hx => by have := rec_le L x hx; omega⟩
theorem ch_yes {L : List Sl} (h : Fit L) {k : Nat} (hk : k < L.length) (he : isE (L[k]'hk) = false) (x : Sl) : ch (rmB L) (k : Int) x = pk (L.set k x) := by
  unfold ch
  rw [if_pos (by rw [hs_some (rd_rm L h), hd_yes hk he]; rfl), rd_rm L h, Int.toNat_natCast]
theorem ch_none {L : List Sl} (h : Fit L) {i : Int} (hn : hd L i = false) (x : Sl) : ch (rmB L) i x = (⟨#[]⟩, 6) := by
  have e : hs (rmB L) i = 6 := by rw [hs_some (rd_rm L h), hn]; rfl
  unfold ch
  rw [if_neg (by omega), e]
theorem get_none {L : List Sl} (h : Fit L) {i : Int} (hn : hd L i = false) : hs (rmB L) i = 6 ∧ gt (rmB L) i = ⟨#[]⟩ := by
  have e : hs (rmB L) i = 6 := by rw [hs_some (rd_rm L h), hn]; rfl
  exact ⟨e, gt_no (by omega)⟩
theorem ad_two_ways {L : List Sl} (h : Fit L) (r : ByteArray) : (Fit (adL L r) ∧ pk (adL L r) = (rmB (adL L r), 0) ∧ ad (rmB L) r = (rmB (adL L r), vk L, 0)) ∨ (pk (adL L r) = (⟨#[]⟩, 8) ∧ ad (rmB L) r = (⟨#[]⟩, 0, 8)) := by
  rw [ad_rm h, adL_pk h]
  by_cases h1 : 496 < sz (vl L) + r.size
  · rw [if_pos h1, if_pos h1]; exact .inr ⟨rfl, rfl⟩
  · rw [if_neg h1, if_neg h1]; exact .inl ⟨adL_fit h r h1, rfl, rfl⟩
end Go.Proofs.YteepggjbgdjchaaDoor
