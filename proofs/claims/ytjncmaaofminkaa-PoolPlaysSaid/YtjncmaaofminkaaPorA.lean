
/- The document's pool as it lies in memory; the contracts of find and without. Conditions: those that each theorem names. -/
import Derived.Test.YtjncmaaofminkaaPooM
import Derived.Test.YtjncmaaofminkaaPooG
namespace Go.Proofs.Ytjncmaaofminkaa
open Go.ChangeShapes Go.WideShapes Go.ChangeAt Go.RowKit
set_option linter.unusedVariables false
set_option linter.unusedSimpArgs false

def fc (f : RF) : List Value := [.int .i64 f.no, .string f.s, .bool f.dirty, .int .i64 (f.pins : Int)]
def fcs (R : List RF) : List Value := R.flatMap fc
theorem fcs_len (R : List RF) : (fcs R).length = R.length * 4 := by
  induction R with
  | nil => rfl
  | cons x l ih => simp only [fcs, List.flatMap_cons, List.length_append, List.length_cons, fc, List.length_nil] at *; omega
theorem fcs_app (R S : List RF) : fcs (R ++ S) = fcs R ++ fcs S := by simp [fcs]
theorem fcs_at : ∀ (R : List RF) (j : Nat) (h : j < R.length), (fcs R)[j * 4]? = some (.int .i64 (R[j]'h).no) ∧ (fcs R)[j * 4 + 1]? = some (.string (R[j]'h).s) ∧ (fcs R)[j * 4 + 2]? = some (.bool (R[j]'h).dirty) ∧ (fcs R)[j * 4 + 3]? = some (.int .i64 ((R[j]'h).pins : Int))
  | x :: l, 0, _ => ⟨rfl, rfl, rfl, rfl⟩
  | x :: l, j + 1, h => by
    have := fcs_at l j (by simpa using h)
    have e1 : (j + 1) * 4 = j * 4 + 1 + 1 + 1 + 1 := by omega
    rw [e1]
    exact this
/-- the document's pool at block p -/
structure RefAt (w : World) (B p n : Nat) (v : Value) (R : List RF) : Prop where
  own : Own w p 39 #[.int .i64 (n : Int), v]
  row : w.ownsRow B 60 4 v R.length (fcs R)
  base : B ≤ p
def fref (p : Nat) (v : Value) : Nat → Prop := fun q => q = p ∨ v.ownBlock = some q
section
variable {w w' : World} {B p n c : Nat} {v : Value} {R S T : List RF} {f : RF}
theorem RefAt.ne (h : RefAt w B p n v R) {g : Nat} (hg : v.ownBlock = some g) : g ≠ p := by
  rintro rfl
  rcases h.row.2 with ⟨rfl, _⟩ | ⟨g', cap, cur, rfl, _, h1, _⟩
  · cases hg
  · obtain rfl : g' = g := by simpa [Value.ownBlock] using hg
    have := h.own
    unfold Own at this
    rw [this] at h1
    injection h1 with h1
    injection h1 with h1 h2
    exact absurd h2 (by decide)
theorem RefAt.in_ (h : RefAt w B p n v R) {q : Nat} (hq : fref p v q) : q < w.heap.size := by
  rcases hq with rfl | hq
  · exact h.own.in_
  · exact (h.row.lt q hq).2
theorem RefAt.low (h : RefAt w B p n v R) {q : Nat} (hq : fref p v q) : B ≤ q := by
  rcases hq with rfl | hq
  · exact h.base
  · exact (h.row.lt q hq).1
theorem RefAt.keep (h : RefAt w B p n v R) {Z : Nat → Prop} (hc : Chg Z w w') (hZ : ∀ q, fref p v q → ¬ Z q) : RefAt w' B p n v R :=
  ⟨hc.own h.own (hZ p (.inl rfl)), ownsRow_keepB h.row fun g hg => hc.block g (h.in_ (.inr hg)) (hZ g (.inr hg)), h.base⟩
theorem RefAt.below (h : RefAt w B p n v R) (hb : Below w.heap.size w w') : RefAt w' B p n v R := h.keep (Chg.of (S := fun _ => False) hb) fun _ _ => id
theorem RefAt.slice (h : RefAt w B p n v R) : ∃ a cp, v = .slice a R.length cp ∧ R.length ≤ cp ∧ cp ≤ maxLen ∧ ∀ k (hk : k < R.length), ∃ g, a = some ⟨g, 0, none⟩ ∧ v.ownBlock = some g ∧
    w.cell? ⟨g, k * 4, none⟩ = some (.int .i64 (R[k]'hk).no) ∧ w.cell? ⟨g, k * 4 + 1, none⟩ = some (.string (R[k]'hk).s) ∧ w.cell? ⟨g, k * 4 + 2, none⟩ = some (.bool (R[k]'hk).dirty) ∧ w.cell? ⟨g, k * 4 + 3, none⟩ = some (.int .i64 ((R[k]'hk).pins : Int)) := by
  rcases h.row.2 with ⟨rfl, h2⟩ | ⟨g, cap, cur, rfl, h1, h2, h3, h4, h5, h6⟩
  · exact ⟨none, 0, by rw [h2], by omega, by unfold maxLen; omega, fun k hk => by omega⟩
  · refine ⟨_, cap, rfl, h3, h4, fun k hk => ⟨g, rfl, rfl, ?_⟩⟩
    have e := fcs_at R k hk
    have hc := fun j hj => World.ownsRow.cellAt h.row j hj
    exact ⟨(hc (k * 4) (by omega)).trans e.1, (hc (k * 4 + 1) (by omega)).trans e.2.1, (hc (k * 4 + 2) (by omega)).trans e.2.2.1, (hc (k * 4 + 3) (by omega)).trans e.2.2.2⟩
/-- the place of a frame -/
def idx (R : List RF) (no : Int) : Int := match R.findIdx? fun f => f.no == no with
  | none => -1
  | some i => (i : Int)
theorem idx_none {no : Int} (h : ∀ x ∈ R, x.no ≠ no) : idx R no = -1 := by
  unfold idx
  rw [List.findIdx?_eq_none_iff.2 fun x hx => by simpa using h x hx]
theorem idx_at {k : Nat} {no' : Int} (hk : k < R.length) (h1 : (R[k]'hk).no = no') (h2 : ∀ x ∈ R.take k, x.no ≠ no') : idx R no' = (k : Int) := by
  unfold idx
  have : R.findIdx? (fun f => f.no == no') = some k := by
    rw [List.findIdx?_eq_some_iff_getElem]
    refine ⟨hk, by simpa using h1, fun j hj => ?_⟩
    have := h2 (R[j]'(by omega)) (by rw [List.mem_take_iff_getElem]; exact ⟨j, by omega, rfl⟩)
    simpa using this
  rw [this]
set_option maxRecDepth 10000 in
theorem rfind_any (h : RefAt w B p n v R) (no : Int) (hl : R.length ≤ 1000000) : Calls Try.prog 30 #[.pointer (some ⟨p, 0, none⟩), .int .i64 no] w fun e w' => e = .returned (.int .i64 (idx R no)) ∧ w = w' := by
  obtain ⟨a, cp, rfl, hc1, hc2, hcell⟩ := h.slice
  obtain ⟨o1, o2, o3⟩ := h.own.at_
  obtain ⟨N, hN⟩ : ∃ N, N = R.length := ⟨_, rfl⟩
  have HN := Lib.hid hN
  have HC := Lib.hid hcell
  rw [← hN] at hl hc1 o1
  unfold maxLen at hc2
  clear h hN hcell
  go_enter Try.func30, Try.ntmps30
  go_wp2
  go_loop [5] (fun i => ∃ k : Nat, k ≤ N ∧ i = .int .i64 k ∧ ∀ x ∈ R.take k, x.no ≠ no) (fun i => N - (intOf i).toNat)
  case atStart => exact ⟨0, by omega, rfl, by simp⟩
  case round =>
    obtain ⟨k, hk, rfl, hno⟩ := hrel
    have HNO := Lib.hid hno
    clear hno
    by_cases hlt : k < N
    · have hlt2 : k < R.length := by rw [← HN.out]; exact hlt
      obtain ⟨g, rfl, -, c0, -⟩ := HC.out k hlt2
      obtain ⟨x, hx⟩ : ∃ x, x = (R[k]'hlt2).no := ⟨_, rfl⟩
      rw [← hx] at c0
      have HX := Lib.hid hx
      clear hx
      by_cases he : x = no
      · have E := Lib.hid (idx_at hlt2 (HX.out.symm.trans he) HNO.out)
        have he2 : (x == no) = true := by simpa using he
        clear he
        go_wp2
        go_ret
        exact ⟨ret_eq E.out.symm, rfl⟩
      · have he2 : (x == no) = false := by simpa using he
        have HE := Lib.hid he
        clear he
        go_wp2
        go_round
        case rel => exact ⟨k + 1, by omega, by go_num, fun y hy => by
          rw [List.take_succ_eq_append_getElem hlt2, List.mem_append] at hy
          rcases hy with hy | hy
          · exact HNO.out y hy
          · simp at hy; subst hy; rw [← HX.out]; exact HE.out⟩
        case measure => simp [intOf]; omega
    · have E := Lib.hid (idx_none (R := R) (no := no) fun x hx => HNO.out x (by
        have : k = R.length := by have := HN.out; omega
        rw [this, List.take_length]; exact hx))
      go_wp2
      go_ret
      exact ⟨ret_eq E.out.symm, rfl⟩
end
end Go.Proofs.Ytjncmaaofminkaa
