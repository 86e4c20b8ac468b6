/- merged: The contract of croftref04.fit, of two numbers: do both fit? Regions that draw their order, walked as a tree: of what is ready each is taken in turn; reads and reckoning come first. It speaks of no function. What a number is beside a store into a block of numbers; croftref04.of, in general. -/
import Derived.Test.YtigcbgehnlilaaaDoorAskB
import Derived.Test.YtigcbgehnlilaaaDoorSeq
import Derived.Test.YtigcbgehnlilaaaDoorMemN
import Derived.Test.YtigcbgehnlilaaaDoorOps
import Derived.Test.YtigcbgehnlilaaaDoorDivA
import Derived.Test.YtigcbgehnlilaaaDoorRatM
section
namespace Go.Proofs.YtigcbgehnlilaaaDoor
open Go.ChangeShapes Go.WideShapes Go.ChangeAt Go.RowKit
set_option linter.unusedVariables false
set_option linter.unusedSimpArgs false

set_option maxHeartbeats 8000000 in
set_option maxRecDepth 20000 in
theorem fit_two {x y : Int} {S1 S2 : Nat → Prop} {s1 s2 : Bool} {a1 a2 : Option Addr} {l1 c1 l2 c2 g : Nat} (w : World) (ho : Own w g 59 #[.bool s1, .slice a1 l1 c1, .bool s2, .slice a2 l2 c2])
    (h1 : NumP w S1 (.agg #[.bool s1, .slice a1 l1 c1]) x) (h2 : NumP w S2 (.agg #[.bool s2, .slice a2 l2 c2]) y) :
    Calls Tryd.prog 37 #[.slice (some ⟨g, 0, none⟩) 2 2] w fun e w' => e = .returned (.bool (fb x && fb y)) ∧ Below w.heap.size w w' := by
  have W1 := Lib.hid (fun w1 (hb : Below w.heap.size w w1) => words_fb _ 0 _ x w1 ((h1.keep hb).old 0))
  have W2 := Lib.hid (fun w1 (hb : Below w.heap.size w w1) => words_fb _ 0 _ y w1 ((h2.keep hb).old 0))
  have HO := Lib.hid ho
  have hg := ho.in_
  clear h1 h2 ho
  obtain ⟨p, hp⟩ : ∃ p, fb x = p := ⟨_, rfl⟩
  obtain ⟨q, hq⟩ : ∃ q, fb y = q := ⟨_, rfl⟩
  obtain ⟨X, hX⟩ : ∃ X, fz x = X := ⟨_, rfl⟩
  obtain ⟨Y, hY⟩ : ∃ Y, fz y = Y := ⟨_, rfl⟩
  rw [hp, hX] at W1
  rw [hq, hY] at W2
  rw [hp, hq]
  clear hp hq hX hY
  go_enter Tryd.func37, Tryd.ntmps37
  go_wp2
  go_loopg [3] 2 (fun m i wr => ∃ k : Nat, m + k = 2 ∧ i = .int .i64 k ∧ (0 < k → p = true) ∧ (1 < k → q = true) ∧ Below w.heap.size w wr)
  case atStart => exact ⟨0, rfl, rfl, by simp, by simp, by repeat' (first | (with_reducible exact Below.refl _ _) | (with_reducible assumption) | (with_reducible refine below_drewN ?_ _) | (with_reducible refine Below.drew ?_) | (with_reducible refine Below.alloc ?_ ?_ _) | (with_reducible refine Below.setCell ?_ ?_ _) | (with_reducible refine then_ ?_ (by with_reducible assumption) ?_) | (with_reducible exact Nat.le_refl _) | (with_reducible exact Nat.le_succ _) | (with_reducible exact Nat.le_succ_of_le (by with_reducible assumption)) | omega | (simp; done) | (simp; omega) | (exact Nat.le_succ _) | (exact Nat.le_succ_of_le (by with_reducible assumption)))⟩
  case round =>
    obtain ⟨k, hk, rfl, hp, hq, hB⟩ := hrel
    obtain ⟨P1, P2, P3⟩ := (HO.out.keep hB).at_
    rcases (by omega : k = 0 ∨ k = 1 ∨ k = 2) with rfl | rfl | rfl
    · clear hp hq
      cases p with
      | true =>
        go_wp2_with (go_at_call 47; refine (W1.out _ (by repeat' (first | (with_reducible exact Below.refl _ _) | (with_reducible assumption) | (with_reducible refine below_drewN ?_ _) | (with_reducible refine Below.drew ?_) | (with_reducible refine Below.alloc ?_ ?_ _) | (with_reducible refine Below.setCell ?_ ?_ _) | (with_reducible refine then_ ?_ (by with_reducible assumption) ?_) | (with_reducible exact Nat.le_refl _) | (with_reducible exact Nat.le_succ _) | (with_reducible exact Nat.le_succ_of_le (by with_reducible assumption)) | omega | (simp; done) | (simp; omega) | (exact Nat.le_succ _) | (exact Nat.le_succ_of_le (by with_reducible assumption))))).mono ?_; rintro e w1 ⟨rfl, hb1⟩; have hB1 : Below w.heap.size w w1 := then_ hB hb1 hB.size; have hz1 := hB1.size)
        go_roundg 1
        case measure => omega
        case rel => exact ⟨1, by omega, by go_num, by simp, by simp, by repeat' (first | (with_reducible exact Below.refl _ _) | (with_reducible assumption) | (with_reducible refine below_drewN ?_ _) | (with_reducible refine Below.drew ?_) | (with_reducible refine Below.alloc ?_ ?_ _) | (with_reducible refine Below.setCell ?_ ?_ _) | (with_reducible refine then_ ?_ (by with_reducible assumption) ?_) | (with_reducible exact Nat.le_refl _) | (with_reducible exact Nat.le_succ _) | (with_reducible exact Nat.le_succ_of_le (by with_reducible assumption)) | omega | (simp; done) | (simp; omega) | (exact Nat.le_succ _) | (exact Nat.le_succ_of_le (by with_reducible assumption)))⟩
      | false =>
        go_wp2_with (go_at_call 47; refine (W1.out _ (by repeat' (first | (with_reducible exact Below.refl _ _) | (with_reducible assumption) | (with_reducible refine below_drewN ?_ _) | (with_reducible refine Below.drew ?_) | (with_reducible refine Below.alloc ?_ ?_ _) | (with_reducible refine Below.setCell ?_ ?_ _) | (with_reducible refine then_ ?_ (by with_reducible assumption) ?_) | (with_reducible exact Nat.le_refl _) | (with_reducible exact Nat.le_succ _) | (with_reducible exact Nat.le_succ_of_le (by with_reducible assumption)) | omega | (simp; done) | (simp; omega) | (exact Nat.le_succ _) | (exact Nat.le_succ_of_le (by with_reducible assumption))))).mono ?_; rintro e w1 ⟨rfl, hb1⟩; have hB1 : Below w.heap.size w w1 := then_ hB hb1 hB.size; have hz1 := hB1.size)
        go_ret
        exact ⟨rfl, by repeat' (first | (with_reducible exact Below.refl _ _) | (with_reducible assumption) | (with_reducible refine below_drewN ?_ _) | (with_reducible refine Below.drew ?_) | (with_reducible refine Below.alloc ?_ ?_ _) | (with_reducible refine Below.setCell ?_ ?_ _) | (with_reducible refine then_ ?_ (by with_reducible assumption) ?_) | (with_reducible exact Nat.le_refl _) | (with_reducible exact Nat.le_succ _) | (with_reducible exact Nat.le_succ_of_le (by with_reducible assumption)) | omega | (simp; done) | (simp; omega) | (exact Nat.le_succ _) | (exact Nat.le_succ_of_le (by with_reducible assumption)))⟩
    · obtain rfl : p = true := hp (by omega)
      clear hp hq
      cases q with
      | true =>
        go_wp2_with (go_at_call 47; refine (W2.out _ (by repeat' (first | (with_reducible exact Below.refl _ _) | (with_reducible assumption) | (with_reducible refine below_drewN ?_ _) | (with_reducible refine Below.drew ?_) | (with_reducible refine Below.alloc ?_ ?_ _) | (with_reducible refine Below.setCell ?_ ?_ _) | (with_reducible refine then_ ?_ (by with_reducible assumption) ?_) | (with_reducible exact Nat.le_refl _) | (with_reducible exact Nat.le_succ _) | (with_reducible exact Nat.le_succ_of_le (by with_reducible assumption)) | omega | (simp; done) | (simp; omega) | (exact Nat.le_succ _) | (exact Nat.le_succ_of_le (by with_reducible assumption))))).mono ?_; rintro e w1 ⟨rfl, hb1⟩; have hB1 : Below w.heap.size w w1 := then_ hB hb1 hB.size; have hz1 := hB1.size)
        go_roundg 0
        case measure => omega
        case rel => exact ⟨2, by omega, by go_num, by simp, by simp, by repeat' (first | (with_reducible exact Below.refl _ _) | (with_reducible assumption) | (with_reducible refine below_drewN ?_ _) | (with_reducible refine Below.drew ?_) | (with_reducible refine Below.alloc ?_ ?_ _) | (with_reducible refine Below.setCell ?_ ?_ _) | (with_reducible refine then_ ?_ (by with_reducible assumption) ?_) | (with_reducible exact Nat.le_refl _) | (with_reducible exact Nat.le_succ _) | (with_reducible exact Nat.le_succ_of_le (by with_reducible assumption)) | omega | (simp; done) | (simp; omega) | (exact Nat.le_succ _) | (exact Nat.le_succ_of_le (by with_reducible assumption)))⟩
      | false =>
        go_wp2_with (go_at_call 47; refine (W2.out _ (by repeat' (first | (with_reducible exact Below.refl _ _) | (with_reducible assumption) | (with_reducible refine below_drewN ?_ _) | (with_reducible refine Below.drew ?_) | (with_reducible refine Below.alloc ?_ ?_ _) | (with_reducible refine Below.setCell ?_ ?_ _) | (with_reducible refine then_ ?_ (by with_reducible assumption) ?_) | (with_reducible exact Nat.le_refl _) | (with_reducible exact Nat.le_succ _) | (with_reducible exact Nat.le_succ_of_le (by with_reducible assumption)) | omega | (simp; done) | (simp; omega) | (exact Nat.le_succ _) | (exact Nat.le_succ_of_le (by with_reducible assumption))))).mono ?_; rintro e w1 ⟨rfl, hb1⟩; have hB1 : Below w.heap.size w w1 := then_ hB hb1 hB.size; have hz1 := hB1.size)
        go_ret
        exact ⟨rfl, by repeat' (first | (with_reducible exact Below.refl _ _) | (with_reducible assumption) | (with_reducible refine below_drewN ?_ _) | (with_reducible refine Below.drew ?_) | (with_reducible refine Below.alloc ?_ ?_ _) | (with_reducible refine Below.setCell ?_ ?_ _) | (with_reducible refine then_ ?_ (by with_reducible assumption) ?_) | (with_reducible exact Nat.le_refl _) | (with_reducible exact Nat.le_succ _) | (with_reducible exact Nat.le_succ_of_le (by with_reducible assumption)) | omega | (simp; done) | (simp; omega) | (exact Nat.le_succ _) | (exact Nat.le_succ_of_le (by with_reducible assumption)))⟩
    · obtain rfl : p = true := hp (by omega)
      obtain rfl : q = true := hq (by omega)
      go_wp2
      go_ret
      exact ⟨rfl, by repeat' (first | (with_reducible exact Below.refl _ _) | (with_reducible assumption) | (with_reducible refine below_drewN ?_ _) | (with_reducible refine Below.drew ?_) | (with_reducible refine Below.alloc ?_ ?_ _) | (with_reducible refine Below.setCell ?_ ?_ _) | (with_reducible refine then_ ?_ (by with_reducible assumption) ?_) | (with_reducible exact Nat.le_refl _) | (with_reducible exact Nat.le_succ _) | (with_reducible exact Nat.le_succ_of_le (by with_reducible assumption)) | omega | (simp; done) | (simp; omega) | (exact Nat.le_succ _) | (exact Nat.le_succ_of_le (by with_reducible assumption)))⟩
end Go.Proofs.YtigcbgehnlilaaaDoor
end
section
namespace Go.Proofs.YtigcbgehnlilaaaDoor
open Go.ChangeShapes Go.WideShapes Go.ChangeAt Go.RowKit
set_option linter.unusedVariables false

section
variable {P : Program} {ops : Array Oper} {Q : Exit → Act → World → Prop} {md : Region.Mode} {S : World → Prop} {cls see : Nat → Bool}
theorem op_of_list {i : Nat} {a : Act} {w : World} {o : Oper} {K : Act → World → Prop} (ho : ops[i]? = some o) (h : wpList P ops (SeqQ K Q) [o] a w) : wpOp P ops Q i K a w := by
  unfold wpOp
  simp only [ho]
  unfold wpList at h
  split
  · rename_i hw
    simp only [hw, if_true] at h
    rcases h with h | ⟨h1, a2, w2, h2⟩
    · refine .inl ?_
      unfold Oper.wp at h ⊢
      generalize (execOp a.eval o).run P w = r at h ⊢
      cases r with
      | ok n w' =>
        cases n <;> (try simp only [Oper.upon] at h ⊢)
        case enter f args => exact Calls.mono h fun e w'' he => by cases e <;> exact he
        case row row args => exact Rows.mono h fun u w'' he => he
        all_goals exact h
      | halt x w' =>
        cases x <;> exact h
    · exact .inr ⟨h1, a2, w2, h2⟩
  · rename_i hw
    rw [if_neg hw] at h
    exact h
/-- what each of the ready ones must meet -/
def Branch (P : Program) (md : Region.Mode) (ops : Array Oper) (Q : Exit → Act → World → Prop) (S : World → Prop) (cls see : Nat → Bool) (fuel : Nat) (listed : Array Bool) (a : Act) (w : World) (i : Nat) : Prop :=
  ∃ o, ops[i]? = some o ∧ ∀ K : Act → World → Prop, (∀ a' w', S w' → wpAnyG P md ops (NoPanic Q) S cls see fuel (listed.setIfInBounds i true) a' w' → K a' w') → wpList P ops (SeqQ K (NoPanic Q)) [o] a w
theorem Branch.go {fuel : Nat} {listed : Array Bool} {a : Act} {w : World} {i : Nat} (h : Branch P md ops Q S cls see fuel listed a w i) (hc : cls i = false) : wpOp P ops (NoPanic Q) i (fun a' w' => (cls i = true → w' = w) ∧ (cls i = false → needB md ops see i = true → S w') ∧ wpAnyG P md ops (NoPanic Q) S cls see fuel (listed.setIfInBounds i true) a' w') a w := by
  obtain ⟨o, ho, h⟩ := h
  exact op_of_list ho (h _ fun a' w' hS h' => ⟨fun e => (by rw [hc] at e; cases e), fun _ _ => hS, h'⟩)
theorem tree_one {i fuel : Nat} {listed : Array Bool} {a : Act} {w : World} (hr : Region.ready md ops listed = [i]) (hi : cls i = false) (h1 : Branch P md ops Q S cls see fuel listed a w i) : wpAnyG P md ops (NoPanic Q) S cls see (fuel + 1) listed a w := by
  refine ⟨fun e => (by rw [hr] at e; cases e), fun j hj => ?_⟩
  rw [hr] at hj
  obtain rfl : j = i := by simpa using hj
  exact h1.go hi
theorem tree_end {listed : Array Bool} {a : Act} {w : World} (hr : Region.ready md ops listed = []) (h : Q .normal a w) : wpAnyG P md ops (NoPanic Q) S cls see 0 listed a w := ⟨hr, h⟩
end
end Go.Proofs.YtigcbgehnlilaaaDoor
end
section
namespace Go.Proofs.YtigcbgehnlilaaaDoor
open Go.ChangeShapes Go.WideShapes Go.ChangeAt Go.RowKit
set_option linter.unusedVariables false
set_option linter.unusedSimpArgs false

section
variable {a : Act} {w w0 : World} {af : Array Edge} {pos : String} {t : TypeId} {gd : Option (Nat × Bool)}
theorem ld_A {s p o d : Nat} {T' : TypeId} {cs : Array Value} {v0 v1 v2 v3 : Value} (h : a.tmps[s]? = some (.pointer (some ⟨p, o, none⟩))) (ho : Own w p T' cs) (c0 : cs[o]? = some v0) (c1 : cs[o + 1]? = some v1) (c2 : cs[o + 2]? = some v2) (c3 : cs[o + 3]? = some v3) : Step Tryd.prog w0 { dst := some d, op := .load 23 (.tmp s), type := t, pos := pos, after := af, guard := gd } (.val (.agg #[v0, v1, v2, v3])) a w :=
  by
  obtain ⟨h1, h2, h3⟩ := ho.at_
  refine .inl ?_
  simp [go_sem, execOp, h, h1, Nat.add_assoc, c0, c1, c2, c3]
theorem fa_Q_0 {s p o d : Nat} (h : a.tmps[s]? = some (.pointer (some ⟨p, o, none⟩))) : Step Tryd.prog w0 { dst := some d, op := .fieldAddr 34 (.tmp s) 0, type := t, pos := pos, after := af, guard := gd } (.val (.pointer (some ⟨p, o, none⟩))) a w :=
  .inl (by simp [go_sem, execOp, h])
theorem fa_Q_1 {s p o d : Nat} (h : a.tmps[s]? = some (.pointer (some ⟨p, o, none⟩))) : Step Tryd.prog w0 { dst := some d, op := .fieldAddr 34 (.tmp s) 1, type := t, pos := pos, after := af, guard := gd } (.val (.pointer (some ⟨p, o + 4, none⟩))) a w :=
  .inl (by simp [go_sem, execOp, h])
theorem ld_N {s p o d : Nat} {T' : TypeId} {cs : Array Value} {v0 v1 : Value} (h : a.tmps[s]? = some (.pointer (some ⟨p, o, none⟩))) (ho : Own w p T' cs) (c0 : cs[o]? = some v0) (c1 : cs[o + 1]? = some v1) : Step Tryd.prog w0 { dst := some d, op := .load 59 (.tmp s), type := t, pos := pos, after := af, guard := gd } (.val (.agg #[v0, v1])) a w :=
  by
  obtain ⟨h1, h2, h3⟩ := ho.at_
  refine .inl ?_
  simp [go_sem, execOp, h, h1, Nat.add_assoc, c0, c1]
end
theorem sv_ {P : Program} {w0 w : World} {o : Oper} {v : Value} {a : Act} (h : Step P w0 o (.val v) a w) : Stepn P w0 o (.val v) a w := h
theorem NumP.aside {w : World} {S : Nat → Prop} {v : Value} {z : Int} (h : NumP w S v z) {g : Nat} {T : TypeId} {s : Bool} {a : Option Addr} {l c : Nat} (ho : Own w g T #[.bool s, .slice a l c]) : NumP w (fun b => S b ∧ b ≠ g) v z := by
  obtain ⟨a', len, cap, e, r⟩ := h
  refine ⟨a', len, cap, e, r.hlen, r.hcap, r.hmax, ?_⟩
  rcases r.hcells with h0 | ⟨b, o, ha, hs, hl, hc⟩
  · exact .inl h0
  · by_cases hd : digs z.natAbs = []
    · exact .inl hd
    · refine .inr ⟨b, o, ha, ⟨hs, ?_⟩, hl, hc⟩
      rintro rfl
      obtain ⟨x, hx⟩ : ∃ x, (digs z.natAbs)[0]? = some x := by
        cases hd' : digs z.natAbs with
        | nil => exact absurd hd' hd
        | cons x r => exact ⟨x, rfl⟩
      have h1 := hc 0 x hx
      obtain ⟨q1, _, _⟩ := ho.at_
      rw [Nat.add_zero, q1 o] at h1
      match o with
      | 0 => simp at h1
      | 1 => simp at h1
      | o + 2 => simp at h1
theorem len16 {z : Int} (h : Fit z) : (digs z.natAbs).length ≤ 10000000 := Nat.le_trans (short_20 (fit20 h)) (by decide)
theorem mul_P {x y : Int} (hx : Fit x) (hy : Fit y) {S S' : Nat → Prop} {v v' : Value} (w : World) (h1 : NumP w S v x) (h2 : NumP w S' v' y) : Calls Tryd.prog 36 #[v, v'] w fun e w' => ∃ v2, e = .returned v2 ∧ NumP w' (fun _ => True) v2 (x * y) ∧ Below w.heap.size w w' := by
  refine (mul_num 0 _ _ _ _ v v' x y w (Nat.zero_le _) (h1.old 0) (h2.old 0) (len16 hx) (len16 hy)).mono ?_
  rintro e w' ⟨v2, he, hn, hb⟩
  exact ⟨v2, he, NumP.of hn fun _ _ _ => trivial, hb⟩
theorem fit_is {x y : Int} {t : Bool} (h : (fb x && fb y) = t) {S1 S2 : Nat → Prop} {s1 s2 : Bool} {a1 a2 : Option Addr} {l1 c1 l2 c2 g : Nat} (w : World) (ho : Own w g 59 #[.bool s1, .slice a1 l1 c1, .bool s2, .slice a2 l2 c2])
    (h1 : NumP w S1 (.agg #[.bool s1, .slice a1 l1 c1]) x) (h2 : NumP w S2 (.agg #[.bool s2, .slice a2 l2 c2]) y) :
    Calls Tryd.prog 37 #[.slice (some ⟨g, 0, none⟩) 2 2] w fun e w' => e = .returned (.bool t) ∧ Below w.heap.size w w' := h ▸ fit_two w ho h1 h2
theorem of_anyz (z : Int) (hz : Fit z) (w : World) : Calls Tryd.prog 35 #[.agg #[.int .u64 (L0 z), .int .u64 (L1 z), .int .u64 (L2 z), .int .u64 (L3 z)]] w fun e w' => ∃ v, e = .returned v ∧ NumP w' (fun _ => True) v z ∧ Below w.heap.size w w' := by
  refine (of_num z hz w).mono ?_
  rintro e w' ⟨v, he, hn, hb⟩
  exact ⟨v, he, hn.mono fun _ _ _ => trivial, hb⟩
end Go.Proofs.YtigcbgehnlilaaaDoor
end
