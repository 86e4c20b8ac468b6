/- merged: Two small facts that all regions with numbers want: that Of is entered, that a number equals itself. More steps of operations in a region (XMemo): tests, picks; and the sums, differences, products as one contract each, whether they fit or not. Quotients and rests as one contract; what holds of them; more steps of operations (XMemo). The greatest number that divides both: as one contract; what divides both divides it; one more step (XMemo). -/
import Derived.Test.YtibnackmddigaaaWideG
import Derived.Test.YtibnackmddigaaaWideJ
import Derived.Test.YtibnackmddigaaaWideR
import Derived.Test.YtibnackmddigaaaMemoW
section
namespace Go.Proofs.Ytibnackmddigaaa
open Go.ChangeShapes Go.WideShapes Go.ChangeAt Go.RowKit
set_option linter.unusedVariables false

end Go.Proofs.Ytibnackmddigaaa
end
section
namespace Go.Proofs.Ytibnackmddigaaa
open Go.ChangeShapes Go.WideShapes Go.ChangeAt Go.RowKit
set_option linter.unusedVariables false
set_option linter.unusedSimpArgs false
section
variable {a : Act} {w w0 : World} {af : Array Edge} {pos : String} {t : TypeId} {gd : Option (Nat × Bool)}
theorem notb {s d : Nat} {b : Bool} (h : a.tmps[s]? = some (.bool b)) :
    Step Try.prog w0 { dst := some d, op := .unOp .not 4 (.tmp s), type := t, pos := pos, after := af, guard := gd } (.val (.bool (!b))) a w :=
  .inl (by simp [go_sem, execOp, h])
/-- 'x || y', x false: y -/
theorem pickn {c s d : Nat} {v k : Value} (h : a.tmps[c]? = some (.bool false)) (h' : a.tmps[s]? = some v) :
    Step Try.prog w0 { dst := some d, op := .pick (.tmp c) (.const k) (.tmp s), type := t, pos := pos, after := af, guard := gd } (.val v) a w :=
  .inl (by simp [go_sem, execOp, h, h'])
/-- 'x || y', x true -/
theorem picko {c s d : Nat} {k : Value} (h : a.tmps[c]? = some (.bool true)) (hs : a.tmps[s]? = some undef) :
    Step Try.prog w0 { dst := some d, op := .pick (.tmp c) (.const k) (.tmp s), type := t, pos := pos, after := af, guard := gd } (.val k) a w :=
  .inl (by simp [go_sem, execOp, h, hs])
/-- 'x && y', x false -/
theorem pickf {c s d : Nat} {k : Value} (h : a.tmps[c]? = some (.bool false)) (hs : a.tmps[s]? = some undef) :
    Step Try.prog w0 { dst := some d, op := .pick (.tmp c) (.tmp s) (.const k), type := t, pos := pos, after := af, guard := gd } (.val k) a w :=
  .inl (by simp [go_sem, execOp, h, hs])
end
theorem Ready.goneS {B : Nat} {w0 : World} {a0 : Act} {L : List Sp} {l : List Oper} {o : Oper} {me : Nat} {a : Act} {w : World} (R : Ready l.toArray (spOf L) B w0 a0 o me a w) (k : Nat) {ok : Oper} {d : Nat} (hk : l[k]? = some ok := by exact rfl) (hd : ok.dst = some d := by exact rfl) (hv : spOf L k = .skip := by exact rfl)
    (h : (o.after.any fun e => Region.binds .any e && e.on == k) = true := by kernel_rfl) : a.tmps[d]? = some undef := by
  have := R.dep k hk h
  rw [hv] at this
  exact this d hd
/-- what an operation that may not fit answers: the number, or 0 and ErrLarge -/
def Gives (F : Nat) (x y z : Int) (r er : Int) : Prop :=
  (∀ w, Calls Try.prog F #[.agg #[.int .u64 (L0 x), .int .u64 (L1 x), .int .u64 (L2 x), .int .u64 (L3 x)], .agg #[.int .u64 (L0 y), .int .u64 (L1 y), .int .u64 (L2 y), .int .u64 (L3 y)]] w fun e w' => e = .returned (.tuple #[.agg #[.int .u64 (L0 r), .int .u64 (L1 r), .int .u64 (L2 r), .int .u64 (L3 r)], .int .i64 er]) ∧ Bel w.heap.size w w') ∧ Fit r ∧ (er = 0 ∧ r = z ∧ Fit z ∨ er = 3 ∧ r = 0 ∧ ¬ Fit z)
theorem Gives.same {F : Nat} {x y z r er r' er' : Int} (h : Gives F x y z r er) {F' : Nat} {x' y' : Int} (h' : Gives F' x' y' z r' er') : r' = r ∧ er' = er := by
  rcases h.2.2 with ⟨h1, h2, h3⟩ | ⟨h1, h2, h3⟩ <;> rcases h'.2.2 with ⟨k1, k2, k3⟩ | ⟨k1, k2, k3⟩
  · exact ⟨k2.trans h2.symm, k1.trans h1.symm⟩
  · exact absurd h3 k3
  · exact absurd k3 h3
  · exact ⟨k2.trans h2.symm, k1.trans h1.symm⟩
theorem Gives.is {F : Nat} {x y z r er : Int} (h : Gives F x y z r er) (e : er = 0) : r = z := by
  rcases h.2.2 with ⟨_, h2, _⟩ | ⟨h1, _⟩
  · exact h2
  · omega
end Go.Proofs.Ytibnackmddigaaa
end
section
namespace Go.Proofs.Ytibnackmddigaaa
open Go.ChangeShapes Go.WideShapes Go.ChangeAt Go.RowKit
set_option linter.unusedVariables false
set_option linter.unusedSimpArgs false
section
variable {a : Act} {w w0 : World} {af : Array Edge} {pos : String} {t : TypeId} {gd : Option (Nat × Bool)}
end
end Go.Proofs.Ytibnackmddigaaa
end
section
namespace Go.Proofs.Ytibnackmddigaaa
open Go.ChangeShapes Go.WideShapes Go.ChangeAt Go.RowKit
set_option linter.unusedVariables false
set_option linter.unusedSimpArgs false
section
variable {a : Act} {w w0 : World} {af : Array Edge} {pos : String} {t : TypeId} {gd : Option (Nat × Bool)}
end
end Go.Proofs.Ytibnackmddigaaa
end
