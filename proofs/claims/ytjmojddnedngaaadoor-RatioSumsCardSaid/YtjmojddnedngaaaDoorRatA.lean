
/- The contract of the closure that does one step on the way to a fraction and keeps its first error. Conditions: those that each theorem names. -/
import Derived.Test.YtjmojddnedngaaaDoorRefS
import Derived.Test.YtjmojddnedngaaaDoorOps
namespace Go.Proofs.YtjmojddnedngaaaDoor
open Go.ChangeShapes Go.WideShapes Go.ChangeAt Go.RowKit
set_option linter.unusedVariables false
set_option linter.unusedSimpArgs false

/-- all blocks but p are as they were -/
structure But (p : Nat) (w w' : World) : Prop where
  os : w'.os = w.os
  tape : w'.tape = w.tape
  output : w'.output = w.output
  size : w.heap.size ≤ w'.heap.size
  block : ∀ q, q < w.heap.size → q ≠ p → w'.heap[q]? = w.heap[q]?
theorem But.refl (p : Nat) (w : World) : But p w w := ⟨rfl, rfl, rfl, Nat.le_refl _, fun _ _ _ => rfl⟩
theorem But.trans {p : Nat} {a b c : World} (h : But p a b) (k : But p b c) : But p a c :=
  ⟨k.os.trans h.os, k.tape.trans h.tape, k.output.trans h.output, Nat.le_trans h.size k.size, fun q hq hn => (k.block q (Nat.lt_of_lt_of_le hq h.size) hn).trans (h.block q hq hn)⟩
theorem But.of {p : Nat} {w w' : World} (h : Below w.heap.size w w') : But p w w' := ⟨h.os, h.tape, h.output, h.size, fun q hq _ => h.block q hq⟩
theorem But.set {p : Nat} {w w' : World} (h : But p w w') (i : Nat) (v : Value) : But p w (w'.setCell ⟨p, i, none⟩ v) :=
  ⟨h.os, h.tape, h.output, by simpa [World.setCell] using h.size, fun q hq hn => (Below.heap_setCell _ ⟨p, i, none⟩ v q hn).trans (h.block q hq hn)⟩
theorem But.far {p g : Nat} {w w' : World} (h : But p w w') (hg : w.heap.size ≤ g) (i : Nat) (v : Value) : But p w (w'.setCell ⟨g, i, none⟩ v) :=
  ⟨h.os, h.tape, h.output, by simpa [World.setCell] using h.size, fun q hq hn => (Below.heap_setCell _ ⟨g, i, none⟩ v q (show q ≠ g by omega)).trans (h.block q hq hn)⟩
theorem But.alloc {p : Nat} {w w' : World} (h : But p w w') (o : Obj) : But p w (w'.alloc o) :=
  ⟨h.os, h.tape, h.output, Nat.le_trans h.size ((Below.refl 0 w').alloc (Nat.zero_le _) o).size, fun q hq hn => (Below.heap_alloc w' o q (Nat.lt_of_lt_of_le hq h.size)).trans (h.block q hq hn)⟩
/-- nothing old but p is written, and p holds what it held -/
theorem But.same {p : Nat} {w w' : World} {T : TypeId} {cs : Array Value} (h : But p w w') (ho : Own w p T cs) (hp : Own w' p T cs) : Below w.heap.size w w' :=
  ⟨h.os, h.tape, h.output, h.size, fun q hq => by
    by_cases e : q = p
    · subst e; exact hp.trans ho.symm
    · exact h.block q hq e⟩
theorem But.own {p q : Nat} {w w' : World} {T : TypeId} {cs : Array Value} (h : But p w w') (ho : Own w q T cs) (hn : q ≠ p) : Own w' q T cs := (h.block q ho.in_ hn).trans ho
/-- from B on written, and p -/
theorem But.below {p B : Nat} {w w' : World} (h : But p w w') (hB : B ≤ w.heap.size) (hp : B ≤ p) : Below B w w' := ⟨h.os, h.tape, h.output, h.size, fun q hq => h.block q (by omega) (by omega)⟩
set_option maxHeartbeats 4000000 in
set_option maxRecDepth 20000 in
theorem do_Mul {x y r er z : Int} {x0 : Int} {p : Nat} {w : World} (hF : ∀ w, Calls Tryd.prog 26 #[.agg #[.int .u64 (L0 x), .int .u64 (L1 x), .int .u64 (L2 x), .int .u64 (L3 x)], .agg #[.int .u64 (L0 y), .int .u64 (L1 y), .int .u64 (L2 y), .int .u64 (L3 y)]] w fun e w' => e = .returned (.tuple #[.agg #[.int .u64 (L0 r), .int .u64 (L1 r), .int .u64 (L2 r), .int .u64 (L3 r)], .int .i64 er]) ∧ Below w.heap.size w w')
    (ho : Own w p 27 #[.int .i64 x0]) (hz1 : x0 = 0 → z = er) (hz2 : x0 ≠ 0 → z = x0) :
    Calls Tryd.prog 45 #[.func (.func 26) #[] #[], .agg #[.int .u64 (L0 x), .int .u64 (L1 x), .int .u64 (L2 x), .int .u64 (L3 x)], .agg #[.int .u64 (L0 y), .int .u64 (L1 y), .int .u64 (L2 y), .int .u64 (L3 y)], .pointer (some ⟨p, 0, none⟩)] w fun e w' => e = .returned (.agg #[.int .u64 (L0 r), .int .u64 (L1 r), .int .u64 (L2 r), .int .u64 (L3 r)]) ∧ But p w w' ∧ Own w' p 27 #[.int .i64 z] := by
  have HF := Lib.hid hF
  have Z1 := Lib.hid hz1
  have Z2 := Lib.hid hz2
  clear hz1 hz2
  have hp := ho.in_
  clear hF
  go_enter Tryd.func45, Tryd.ntmps45
  go_wp2_with fail
  refine (HF.out _).mono ?_
  rintro e w1 ⟨rfl, hb⟩
  have hs := hb.size
  have B0 : Below w.heap.size w w1 := then_ (by repeat' (first | (with_reducible exact Below.refl _ _) | (with_reducible assumption) | (with_reducible refine below_drewN ?_ _) | (with_reducible refine Below.drew ?_) | (with_reducible refine Below.alloc ?_ ?_ _) | (with_reducible refine Below.setCell ?_ ?_ _) | (with_reducible refine then_ ?_ (by with_reducible assumption) ?_) | (with_reducible exact Nat.le_refl _) | (with_reducible exact Nat.le_succ _) | (with_reducible exact Nat.le_succ_of_le (by with_reducible assumption)) | omega | (simp; done) | (simp; omega) | (exact Nat.le_succ _) | (exact Nat.le_succ_of_le (by with_reducible assumption)))) hb (by simp; omega)
  have O1 : Own w1 p 27 #[.int .i64 x0] := ho.keep B0
  have O2 : Own w1 (w.heap.size + 1 + 1) 24 #[.int .u64 0, .int .u64 0, .int .u64 0, .int .u64 0] := Own.keep (Own.made_at (by simp)) hb
  obtain ⟨a1, a2, a3⟩ := O1.at_
  obtain ⟨b1, b2, b3⟩ := O2.at_
  have sz : w.heap.size + 1 + 1 < w1.heap.size := O2.in_
  clear hb hs
  have B1 : But p w w1 := But.of B0
  clear B0 HF ho
  replace O1 := Lib.hid O1
  replace B1 := Lib.hid B1
  clear O2
  by_cases h0 : x0 = 0
  · have t0 : (x0 == 0) = true := by simpa using h0
    have Z := Lib.hid (Z1.out h0)
    clear h0
    go_wp2
    refine bodyPost_ret (by simp [results, Tryd.results45, go_sem, b1, sz]; done) rfl ⟨rfl, ?_, ?_⟩
    · exact (((((B1.out.set 0 _).far (by omega) 0 _).far (by omega) 1 _).far (by omega) 2 _).far (by omega) 3 _).alloc _
    · rw [Z.out]
      exact Own.more (Own.apart (Own.apart (Own.apart (Own.apart (Own.as (Own.put O1.out 0 _) rfl) (by omega) 0 _) (by omega) 1 _) (by omega) 2 _) (by omega) 3 _) _
  · have t0 : (x0 == 0) = false := by simpa using h0
    have Z := Lib.hid (Z2.out h0)
    clear h0
    go_wp2
    refine bodyPost_ret (by simp [results, Tryd.results45, go_sem, b1, sz]; done) rfl ⟨rfl, ?_, ?_⟩
    · exact ((((B1.out.far (by omega) 0 _).far (by omega) 1 _).far (by omega) 2 _).far (by omega) 3 _).alloc _
    · rw [Z.out]
      exact Own.more (Own.apart (Own.apart (Own.apart (Own.apart O1.out (by omega) 0 _) (by omega) 1 _) (by omega) 2 _) (by omega) 3 _) _
set_option maxHeartbeats 4000000 in
set_option maxRecDepth 20000 in
theorem do_Add {x y r er z : Int} {x0 : Int} {p : Nat} {w : World} (hF : ∀ w, Calls Tryd.prog 10 #[.agg #[.int .u64 (L0 x), .int .u64 (L1 x), .int .u64 (L2 x), .int .u64 (L3 x)], .agg #[.int .u64 (L0 y), .int .u64 (L1 y), .int .u64 (L2 y), .int .u64 (L3 y)]] w fun e w' => e = .returned (.tuple #[.agg #[.int .u64 (L0 r), .int .u64 (L1 r), .int .u64 (L2 r), .int .u64 (L3 r)], .int .i64 er]) ∧ Below w.heap.size w w')
    (ho : Own w p 27 #[.int .i64 x0]) (hz1 : x0 = 0 → z = er) (hz2 : x0 ≠ 0 → z = x0) :
    Calls Tryd.prog 45 #[.func (.func 10) #[] #[], .agg #[.int .u64 (L0 x), .int .u64 (L1 x), .int .u64 (L2 x), .int .u64 (L3 x)], .agg #[.int .u64 (L0 y), .int .u64 (L1 y), .int .u64 (L2 y), .int .u64 (L3 y)], .pointer (some ⟨p, 0, none⟩)] w fun e w' => e = .returned (.agg #[.int .u64 (L0 r), .int .u64 (L1 r), .int .u64 (L2 r), .int .u64 (L3 r)]) ∧ But p w w' ∧ Own w' p 27 #[.int .i64 z] := by
  have HF := Lib.hid hF
  have Z1 := Lib.hid hz1
  have Z2 := Lib.hid hz2
  clear hz1 hz2
  have hp := ho.in_
  clear hF
  go_enter Tryd.func45, Tryd.ntmps45
  go_wp2_with fail
  refine (HF.out _).mono ?_
  rintro e w1 ⟨rfl, hb⟩
  have hs := hb.size
  have B0 : Below w.heap.size w w1 := then_ (by repeat' (first | (with_reducible exact Below.refl _ _) | (with_reducible assumption) | (with_reducible refine below_drewN ?_ _) | (with_reducible refine Below.drew ?_) | (with_reducible refine Below.alloc ?_ ?_ _) | (with_reducible refine Below.setCell ?_ ?_ _) | (with_reducible refine then_ ?_ (by with_reducible assumption) ?_) | (with_reducible exact Nat.le_refl _) | (with_reducible exact Nat.le_succ _) | (with_reducible exact Nat.le_succ_of_le (by with_reducible assumption)) | omega | (simp; done) | (simp; omega) | (exact Nat.le_succ _) | (exact Nat.le_succ_of_le (by with_reducible assumption)))) hb (by simp; omega)
  have O1 : Own w1 p 27 #[.int .i64 x0] := ho.keep B0
  have O2 : Own w1 (w.heap.size + 1 + 1) 24 #[.int .u64 0, .int .u64 0, .int .u64 0, .int .u64 0] := Own.keep (Own.made_at (by simp)) hb
  obtain ⟨a1, a2, a3⟩ := O1.at_
  obtain ⟨b1, b2, b3⟩ := O2.at_
  have sz : w.heap.size + 1 + 1 < w1.heap.size := O2.in_
  clear hb hs
  have B1 : But p w w1 := But.of B0
  clear B0 HF ho
  replace O1 := Lib.hid O1
  replace B1 := Lib.hid B1
  clear O2
  by_cases h0 : x0 = 0
  · have t0 : (x0 == 0) = true := by simpa using h0
    have Z := Lib.hid (Z1.out h0)
    clear h0
    go_wp2
    refine bodyPost_ret (by simp [results, Tryd.results45, go_sem, b1, sz]; done) rfl ⟨rfl, ?_, ?_⟩
    · exact (((((B1.out.set 0 _).far (by omega) 0 _).far (by omega) 1 _).far (by omega) 2 _).far (by omega) 3 _).alloc _
    · rw [Z.out]
      exact Own.more (Own.apart (Own.apart (Own.apart (Own.apart (Own.as (Own.put O1.out 0 _) rfl) (by omega) 0 _) (by omega) 1 _) (by omega) 2 _) (by omega) 3 _) _
  · have t0 : (x0 == 0) = false := by simpa using h0
    have Z := Lib.hid (Z2.out h0)
    clear h0
    go_wp2
    refine bodyPost_ret (by simp [results, Tryd.results45, go_sem, b1, sz]; done) rfl ⟨rfl, ?_, ?_⟩
    · exact ((((B1.out.far (by omega) 0 _).far (by omega) 1 _).far (by omega) 2 _).far (by omega) 3 _).alloc _
    · rw [Z.out]
      exact Own.more (Own.apart (Own.apart (Own.apart (Own.apart O1.out (by omega) 0 _) (by omega) 1 _) (by omega) 2 _) (by omega) 3 _) _
set_option maxHeartbeats 4000000 in
set_option maxRecDepth 20000 in
theorem do_Sub {x y r er z : Int} {x0 : Int} {p : Nat} {w : World} (hF : ∀ w, Calls Tryd.prog 11 #[.agg #[.int .u64 (L0 x), .int .u64 (L1 x), .int .u64 (L2 x), .int .u64 (L3 x)], .agg #[.int .u64 (L0 y), .int .u64 (L1 y), .int .u64 (L2 y), .int .u64 (L3 y)]] w fun e w' => e = .returned (.tuple #[.agg #[.int .u64 (L0 r), .int .u64 (L1 r), .int .u64 (L2 r), .int .u64 (L3 r)], .int .i64 er]) ∧ Below w.heap.size w w')
    (ho : Own w p 27 #[.int .i64 x0]) (hz1 : x0 = 0 → z = er) (hz2 : x0 ≠ 0 → z = x0) :
    Calls Tryd.prog 45 #[.func (.func 11) #[] #[], .agg #[.int .u64 (L0 x), .int .u64 (L1 x), .int .u64 (L2 x), .int .u64 (L3 x)], .agg #[.int .u64 (L0 y), .int .u64 (L1 y), .int .u64 (L2 y), .int .u64 (L3 y)], .pointer (some ⟨p, 0, none⟩)] w fun e w' => e = .returned (.agg #[.int .u64 (L0 r), .int .u64 (L1 r), .int .u64 (L2 r), .int .u64 (L3 r)]) ∧ But p w w' ∧ Own w' p 27 #[.int .i64 z] := by
  have HF := Lib.hid hF
  have Z1 := Lib.hid hz1
  have Z2 := Lib.hid hz2
  clear hz1 hz2
  have hp := ho.in_
  clear hF
  go_enter Tryd.func45, Tryd.ntmps45
  go_wp2_with fail
  refine (HF.out _).mono ?_
  rintro e w1 ⟨rfl, hb⟩
  have hs := hb.size
  have B0 : Below w.heap.size w w1 := then_ (by repeat' (first | (with_reducible exact Below.refl _ _) | (with_reducible assumption) | (with_reducible refine below_drewN ?_ _) | (with_reducible refine Below.drew ?_) | (with_reducible refine Below.alloc ?_ ?_ _) | (with_reducible refine Below.setCell ?_ ?_ _) | (with_reducible refine then_ ?_ (by with_reducible assumption) ?_) | (with_reducible exact Nat.le_refl _) | (with_reducible exact Nat.le_succ _) | (with_reducible exact Nat.le_succ_of_le (by with_reducible assumption)) | omega | (simp; done) | (simp; omega) | (exact Nat.le_succ _) | (exact Nat.le_succ_of_le (by with_reducible assumption)))) hb (by simp; omega)
  have O1 : Own w1 p 27 #[.int .i64 x0] := ho.keep B0
  have O2 : Own w1 (w.heap.size + 1 + 1) 24 #[.int .u64 0, .int .u64 0, .int .u64 0, .int .u64 0] := Own.keep (Own.made_at (by simp)) hb
  obtain ⟨a1, a2, a3⟩ := O1.at_
  obtain ⟨b1, b2, b3⟩ := O2.at_
  have sz : w.heap.size + 1 + 1 < w1.heap.size := O2.in_
  clear hb hs
  have B1 : But p w w1 := But.of B0
  clear B0 HF ho
  replace O1 := Lib.hid O1
  replace B1 := Lib.hid B1
  clear O2
  by_cases h0 : x0 = 0
  · have t0 : (x0 == 0) = true := by simpa using h0
    have Z := Lib.hid (Z1.out h0)
    clear h0
    go_wp2
    refine bodyPost_ret (by simp [results, Tryd.results45, go_sem, b1, sz]; done) rfl ⟨rfl, ?_, ?_⟩
    · exact (((((B1.out.set 0 _).far (by omega) 0 _).far (by omega) 1 _).far (by omega) 2 _).far (by omega) 3 _).alloc _
    · rw [Z.out]
      exact Own.more (Own.apart (Own.apart (Own.apart (Own.apart (Own.as (Own.put O1.out 0 _) rfl) (by omega) 0 _) (by omega) 1 _) (by omega) 2 _) (by omega) 3 _) _
  · have t0 : (x0 == 0) = false := by simpa using h0
    have Z := Lib.hid (Z2.out h0)
    clear h0
    go_wp2
    refine bodyPost_ret (by simp [results, Tryd.results45, go_sem, b1, sz]; done) rfl ⟨rfl, ?_, ?_⟩
    · exact ((((B1.out.far (by omega) 0 _).far (by omega) 1 _).far (by omega) 2 _).far (by omega) 3 _).alloc _
    · rw [Z.out]
      exact Own.more (Own.apart (Own.apart (Own.apart (Own.apart O1.out (by omega) 0 _) (by omega) 1 _) (by omega) 2 _) (by omega) 3 _) _
end Go.Proofs.YtjmojddnedngaaaDoor
