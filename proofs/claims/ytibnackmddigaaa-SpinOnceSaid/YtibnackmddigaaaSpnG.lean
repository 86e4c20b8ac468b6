/- merged: Rings of halves: how they are gone around. Plain mathematics. No condition but those that each theorem names. The contract of Rings. Conditions: at most 30,000 vertices, and edges. -/
import Derived.Test.YtibnackmddigaaaSpnM
import Derived.Test.YtibnackmddigaaaSpnF
section
namespace Go.Proofs.Ytibnackmddigaaa.Pl
open Go.ChangeShapes Go.WideShapes Go.ChangeAt Go.RowKit
set_option linter.unusedVariables false
set_option linter.unusedSimpArgs false

/-- from one half on, till one comes that was met -/
def walkR (f : Hf → Hf) : Nat → List Hf → Hf → List Hf
  | 0, _, _ => []
  | n + 1, met, h => if h ∈ met then [] else h :: walkR f n (met ++ [h]) (f h)
def ringsR (f : Hf → Hf) (N : Nat) : List Hf → List Hf → List (List Hf)
  | [], _ => []
  | h :: hs, met => if walkR f N met h = [] then ringsR f N hs met else walkR f N met h :: ringsR f N hs (met ++ walkR f N met h)
def rg (vs : List Vx) (es : List Eg) : List (List Hf) := ringsR (nx vs es) (2 * es.length + 1) (hfs es) []
section
variable {vs : List Vx} {es : List Eg}
theorem mem_prv {l : List Hf} (hl : l ≠ []) {x : Hf} (hx : x ∈ l) : prv l x ∈ l := by
  unfold prv
  split
  · cases l with
    | nil => exact absurd rfl hl
    | cons a l =>
      rw [List.getLastD_eq_getLast?, List.getLast?_eq_some_getLast (List.cons_ne_nil a l)]
      exact List.getLast_mem _
  · have h1 : l.idxOf x < l.length := List.idxOf_lt_length_of_mem hx
    rw [List.getD_eq_getElem?_getD, List.getElem?_eq_getElem (by omega)]
    exact List.getElem_mem _
/-- what follows a half leaves where that one leads -/
theorem nx_mem {h : Hf} (hh : h ∈ hfs es) : nx vs es h ∈ hfs es ∧ frm es (nx vs es h) = dst es h := by
  have h1 : tw h ∈ ot vs es (dst es h) := mem_ot.2 ⟨tw_mem.2 hh, rfl⟩
  have h2 := mem_prv (List.ne_nil_of_mem h1) h1
  exact mem_ot.1 h2
theorem walkR_step (f : Hf → Hf) (n : Nat) (met : List Hf) (h : Hf) (hm : h ∉ met) : walkR f (n + 1) met h = h :: walkR f n (met ++ [h]) (f h) := by
  rw [walkR, if_neg hm]
theorem walkR_stop (f : Hf → Hf) (n : Nat) (met : List Hf) (h : Hf) (hm : h ∈ met) : walkR f n met h = [] := by
  cases n with
  | zero => rfl
  | succ n => rw [walkR, if_pos hm]
end
end Go.Proofs.Ytibnackmddigaaa.Pl
end
section
namespace Go.Proofs.Ytibnackmddigaaa.Pl
open Go.ChangeShapes Go.WideShapes Go.ChangeAt Go.RowKit Go.Proofs.Ytibnackmddigaaa.Mp
set_option linter.unusedVariables false
set_option linter.unusedSimpArgs false

/-- a row of rows of halves, of one's own -/
def RgAt (w : World) (B : Nat) (v : Value) (PL : List (Value × List Hf)) : Prop := w.ownsRow B 40 1 v PL.length (PL.map (·.1)) ∧ ∀ x ∈ PL, HOwn w B x.1 x.2
section
variable {w w' : World} {B : Nat} {v : Value} {PL : List (Value × List Hf)}
theorem RgAt.nil (w : World) (B : Nat) : RgAt w B (.slice none 0 0) [] := ⟨World.ownsRow_nil _ _ _ _, fun x hx => by cases hx⟩
theorem RgAt.keep {Z : Nat → Prop} (h : RgAt w B v PL) (hc : Chg Z w w') (h1 : ∀ g, v.ownBlock = some g → ¬ Z g) (h2 : ∀ x ∈ PL, ∀ g, x.1.ownBlock = some g → ¬ Z g) : RgAt w' B v PL := ⟨row_keep hc h.1 h1, fun x hx => (h.2 x hx).keep hc (h2 x hx)⟩
theorem RgAt.below (h : RgAt w B v PL) (hb : Below w.heap.size w w') : RgAt w' B v PL := h.keep (Chg.of (S := fun _ => False) hb) (fun _ _ k => k) fun _ _ _ _ k => k
theorem RgAt.foot (h : RgAt w B v PL) : (∀ g, v.ownBlock = some g → B ≤ g ∧ g < w.heap.size) ∧ ∀ x ∈ PL, ∀ g, x.1.ownBlock = some g → B ≤ g ∧ g < w.heap.size := ⟨fun g hg => World.ownsRow.lt h.1 g hg, fun x hx g hg => World.ownsRow.lt (h.2 x hx) g hg⟩
theorem info_Row : (Try.prog.info? 40).map (fun i => (i.zero, i.size, i.bytes)) = some (some (.slice none 0 0), 1, 24) := by kernel_rfl
/-- the halves that were met -/
def MtG (w : World) (b : Nat) (met : List Hf) : Prop := MapG w b hV (met.map fun h => (h, .agg #[]))
theorem lk_met (met : List Hf) (h : Hf) : lkG (met.map fun h => (h, Value.agg #[])) h = if h ∈ met then some (.agg #[]) else none := by
  induction met with
  | nil => rfl
  | cons x l ih =>
    unfold lkG at ih ⊢
    rw [List.map_cons, List.find?_cons]
    by_cases e : h = x
    · subst e; simp
    · have : decide (h = (x, Value.agg #[]).1) = false := decide_eq_false e
      rw [this]
      simp only
      rw [ih]
      simp [e]
theorem zero_emp (w : World) : (zeroValue 77).run Try.prog w = .ok (.agg #[]) w := by kernel_rfl
set_option maxRecDepth 10000 in
theorem isMet_any {met : List Hf} {mm q : Nat} (h : Hf) (w : World) (hM : MtG w mm met) (hq : Own w q 76 #[.map (some mm)]) :
    Calls Try.prog 37 #[hV h, .pointer (some ⟨q, 0, none⟩)] w fun e w' => e = .returned (.bool (decide (h ∈ met))) ∧ Below w.heap.size w w' := by
  have LK : ∀ W, Below w.heap.size w W → (Instr.lookup 76 (.map (some mm)) (hV h) true).run Try.prog W = .ok (.tuple #[.agg #[], .bool (decide (h ∈ met))]) W := fun W hW => by
    have k := (MapG.keep hM (hW.block _ (MapG.in_ hM))).look (t := 76) Try.underlying76 key_half (zero_emp W) h
    rw [k, lk_met]
    by_cases m : h ∈ met
    · rw [if_pos m, decide_eq_true m]; rfl
    · rw [if_neg m, decide_eq_false m]; rfl
  obtain ⟨e, b⟩ := h
  unfold hV at LK ⊢
  simp only at LK ⊢
  have L1 := LK _ (bx1 w 42 #[.int .i64 e, .bool b])
  obtain ⟨q1, q2⟩ := (hq.keep (bx1 w 42 #[.int .i64 e, .bool b])).at_
  have B2 : Hid (Below w.heap.size w ((w.alloc (.cells #[.int .i64 e, .bool b] 42)).alloc (.cells #[] 77))) := Lib.hid (by repeat' (first | (with_reducible exact Below.refl _ _) | (with_reducible assumption) | (with_reducible refine below_drewN ?_ _) | (with_reducible refine Below.drew ?_) | (with_reducible refine Below.alloc ?_ ?_ _) | (with_reducible refine Below.setCell ?_ ?_ _) | (with_reducible refine then_ ?_ (by with_reducible assumption) ?_) | (with_reducible exact Nat.le_refl _) | (with_reducible exact Nat.le_succ _) | (with_reducible exact Nat.le_succ_of_le (by with_reducible assumption)) | omega | (simp; done) | (simp; omega) | (exact Nat.le_succ _) | (exact Nat.le_succ_of_le (by with_reducible assumption))))
  generalize decide ((e, b) ∈ met) = ok at *
  clear LK hM hq
  go_enter Try.func37, Try.ntmps37
  go_wp2
  go_ret
  exact ⟨rfl, B2.out⟩
end
end Go.Proofs.Ytibnackmddigaaa.Pl
end
