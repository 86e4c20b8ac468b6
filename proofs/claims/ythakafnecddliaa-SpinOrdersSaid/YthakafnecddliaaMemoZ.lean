/- merged: Two small facts that all regions with numbers want: that Of is entered, that a number equals itself. More steps of operations in a region (XMemo): tests, picks; and the sums, differences, products as one contract each, whether they fit or not. Quotients and rests as one contract; what holds of them; more steps of operations (XMemo). The greatest number that divides both: as one contract; what divides both divides it; one more step (XMemo). -/
import Derived.Test.YthakafnecddliaaWideQ
import Derived.Test.YthakafnecddliaaWideJ
import Derived.Test.YthakafnecddliaaWideR
import Derived.Test.YthakafnecddliaaMemoW
section
namespace Go.Proofs.Ythakafnecddliaa
open Go.ChangeShapes Go.WideShapes Go.ChangeAt Go.RowKit
set_option linter.unusedVariables false

theorem en_Of : ∀ args w, (callFunc 102 args).run Try.prog w = .ok (.enter 102 args) w := enter_of Try.func102 rfl rfl
theorem eq_i (n : Int) (w : World) : (Op.equalIn 10000 140 (.agg #[.int .u64 (L0 n), .int .u64 (L1 n), .int .u64 (L2 n), .int .u64 (L3 n)]) (.agg #[.int .u64 (L0 n), .int .u64 (L1 n), .int .u64 (L2 n), .int .u64 (L3 n)])).run Try.prog w = .ok true w := by
  rw [eq_Int]; simp
end Go.Proofs.Ythakafnecddliaa
end
section
namespace Go.Proofs.Ythakafnecddliaa
open Go.ChangeShapes Go.WideShapes Go.ChangeAt Go.RowKit
set_option linter.unusedVariables false
set_option linter.unusedSimpArgs false
section
variable {a : Act} {w w0 : World} {af : Array Edge} {pos : String} {t : TypeId} {gd : Option (Nat × Bool)}
theorem notb {s d : Nat} {b : Bool} (h : a.tmps[s]? = some (.bool b)) :
    Step Try.prog w0 { dst := some d, op := .unOp .not 4 (.tmp s), type := t, pos := pos, after := af, guard := gd } (.val (.bool (!b))) a w :=
  .inl (by simp [go_sem, execOp, h])
theorem nqw {s s' d : Nat} {x0 x1 x2 x3 y0 y1 y2 y3 : Int} {b : Bool} (h : a.tmps[s]? = some (.agg #[.int .u64 x0, .int .u64 x1, .int .u64 x2, .int .u64 x3])) (h' : a.tmps[s']? = some (.agg #[.int .u64 y0, .int .u64 y1, .int .u64 y2, .int .u64 y3]))
    (E : ∀ w, (Op.equalIn 10000 140 (.agg #[.int .u64 x0, .int .u64 x1, .int .u64 x2, .int .u64 x3]) (.agg #[.int .u64 y0, .int .u64 y1, .int .u64 y2, .int .u64 y3])).run Try.prog w = .ok b w) :
    Step Try.prog w0 { dst := some d, op := .binOp .neq 140 (.tmp s) (.tmp s') 140, type := t, pos := pos, after := af, guard := gd } (.val (.bool (!b))) a w :=
  .inl (by simp [go_sem, execOp, h, h', E])
theorem nqi {s s' d T : Nat} {k : IntKind} {x y : Int} {b : Bool} (h : a.tmps[s]? = some (.int k x)) (h' : a.tmps[s']? = some (.int k y)) (hT : Try.prog.underlying T = some (.int k)) (hb : (!(x == y)) = b) :
    Step Try.prog w0 { dst := some d, op := .binOp .neq T (.tmp s) (.tmp s') T, type := t, pos := pos, after := af, guard := gd } (.val (.bool b)) a w :=
  .inl (by subst hb; simp [go_sem, execOp, h, h', hT, bne])
theorem eqi {s s' d T : Nat} {k : IntKind} {x y : Int} {b : Bool} (h : a.tmps[s]? = some (.int k x)) (h' : a.tmps[s']? = some (.int k y)) (hT : Try.prog.underlying T = some (.int k)) (hb : (x == y) = b) :
    Step Try.prog w0 { dst := some d, op := .binOp .eql T (.tmp s) (.tmp s') T, type := t, pos := pos, after := af, guard := gd } (.val (.bool b)) a w :=
  .inl (by subst hb; simp [go_sem, execOp, h, h', hT])
theorem nqk {s d T : Nat} {k : IntKind} {x y : Int} {b : Bool} (h : a.tmps[s]? = some (.int k x)) (hT : Try.prog.underlying T = some (.int k)) (hb : (!(x == y)) = b) :
    Step Try.prog w0 { dst := some d, op := .binOp .neq T (.tmp s) (.const (.int k y)) T, type := t, pos := pos, after := af, guard := gd } (.val (.bool b)) a w :=
  .inl (by subst hb; simp [go_sem, execOp, h, hT, bne])
theorem gtk {s d T : Nat} {k : IntKind} {x y : Int} {b : Bool} (h : a.tmps[s]? = some (.int k x)) (hT : Try.prog.underlying T = some (.int k)) (hb : decide (y < x) = b) :
    Step Try.prog w0 { dst := some d, op := .binOp .gtr T (.tmp s) (.const (.int k y)) T, type := t, pos := pos, after := af, guard := gd } (.val (.bool b)) a w :=
  .inl (by subst hb; simp [go_sem, execOp, h, hT])
theorem ltk {s d T : Nat} {k : IntKind} {x y : Int} {b : Bool} (h : a.tmps[s]? = some (.int k x)) (hT : Try.prog.underlying T = some (.int k)) (hb : decide (x < y) = b) :
    Step Try.prog w0 { dst := some d, op := .binOp .lss T (.tmp s) (.const (.int k y)) T, type := t, pos := pos, after := af, guard := gd } (.val (.bool b)) a w :=
  .inl (by subst hb; simp [go_sem, execOp, h, hT])
/-- 'x || y', x false: y -/
theorem pickn {c s d : Nat} {v k : Value} (h : a.tmps[c]? = some (.bool false)) (h' : a.tmps[s]? = some v) :
    Step Try.prog w0 { dst := some d, op := .pick (.tmp c) (.const k) (.tmp s), type := t, pos := pos, after := af, guard := gd } (.val v) a w :=
  .inl (by simp [go_sem, execOp, h, h'])
/-- 'x || y', x true -/
theorem picko {c s d : Nat} {k : Value} (h : a.tmps[c]? = some (.bool true)) (hs : a.tmps[s]? = some undef) :
    Step Try.prog w0 { dst := some d, op := .pick (.tmp c) (.const k) (.tmp s), type := t, pos := pos, after := af, guard := gd } (.val k) a w :=
  .inl (by simp [go_sem, execOp, h, hs])
/-- 'x && y', x false -/
theorem pickf {c s d : Nat} {k : Value} (h : a.tmps[c]? = some (.bool false)) (hs : a.tmps[s]? = some undef) :
    Step Try.prog w0 { dst := some d, op := .pick (.tmp c) (.tmp s) (.const k), type := t, pos := pos, after := af, guard := gd } (.val k) a w :=
  .inl (by simp [go_sem, execOp, h, hs])
theorem bld0 {d : Nat} : Step Try.prog w0 { dst := some d, op := .build 140 #[], type := t, pos := pos, after := af, guard := gd } (.val (.agg #[.int .u64 0, .int .u64 0, .int .u64 0, .int .u64 0])) a w :=
  .inl (by simp [go_sem, execOp])
end
theorem Ready.goneS {B : Nat} {w0 : World} {a0 : Act} {L : List Sp} {l : List Oper} {o : Oper} {me : Nat} {a : Act} {w : World} (R : Ready l.toArray (spOf L) B w0 a0 o me a w) (k : Nat) {ok : Oper} {d : Nat} (hk : l[k]? = some ok := by exact rfl) (hd : ok.dst = some d := by exact rfl) (hv : spOf L k = .skip := by exact rfl)
    (h : (o.after.any fun e => Region.binds .any e && e.on == k) = true := by kernel_rfl) : a.tmps[d]? = some undef := by
  have := R.dep k hk h
  rw [hv] at this
  exact this d hd
/-- what an operation that may not fit answers: the number, or 0 and ErrLarge -/
def Gives (F : Nat) (x y z : Int) (r er : Int) : Prop :=
  (∀ w, Calls Try.prog F #[.agg #[.int .u64 (L0 x), .int .u64 (L1 x), .int .u64 (L2 x), .int .u64 (L3 x)], .agg #[.int .u64 (L0 y), .int .u64 (L1 y), .int .u64 (L2 y), .int .u64 (L3 y)]] w fun e w' => e = .returned (.tuple #[.agg #[.int .u64 (L0 r), .int .u64 (L1 r), .int .u64 (L2 r), .int .u64 (L3 r)], .int .i64 er]) ∧ Bel w.heap.size w w') ∧ Fit r ∧ (er = 0 ∧ r = z ∧ Fit z ∨ er = 3 ∧ r = 0 ∧ ¬ Fit z)
theorem Gives.same {F : Nat} {x y z r er r' er' : Int} (h : Gives F x y z r er) {F' : Nat} {x' y' : Int} (h' : Gives F' x' y' z r' er') : r' = r ∧ er' = er := by
  rcases h.2.2 with ⟨h1, h2, h3⟩ | ⟨h1, h2, h3⟩ <;> rcases h'.2.2 with ⟨k1, k2, k3⟩ | ⟨k1, k2, k3⟩
  · exact ⟨k2.trans h2.symm, k1.trans h1.symm⟩
  · exact absurd h3 k3
  · exact absurd k3 h3
  · exact ⟨k2.trans h2.symm, k1.trans h1.symm⟩
theorem Gives.is {F : Nat} {x y z r er : Int} (h : Gives F x y z r er) (e : er = 0) : r = z := by
  rcases h.2.2 with ⟨_, h2, _⟩ | ⟨h1, _⟩
  · exact h2
  · omega
end Go.Proofs.Ythakafnecddliaa
end
section
namespace Go.Proofs.Ythakafnecddliaa
open Go.ChangeShapes Go.WideShapes Go.ChangeAt Go.RowKit
set_option linter.unusedVariables false
set_option linter.unusedSimpArgs false
section
variable {a : Act} {w w0 : World} {af : Array Edge} {pos : String} {t : TypeId} {gd : Option (Nat × Bool)}
theorem x30 {s d : Nat} {v v' v'' : Value} (h : a.tmps[s]? = some (.tuple #[v, v', v''])) : Step Try.prog w0 { dst := some d, op := .extract (.tmp s) 0, type := t, pos := pos, after := af, guard := gd } (.val v) a w :=
  .inl (by simp [go_sem, execOp, h])
theorem x31 {s d : Nat} {v v' v'' : Value} (h : a.tmps[s]? = some (.tuple #[v, v', v''])) : Step Try.prog w0 { dst := some d, op := .extract (.tmp s) 1, type := t, pos := pos, after := af, guard := gd } (.val v') a w :=
  .inl (by simp [go_sem, execOp, h])
theorem x32 {s d : Nat} {v v' v'' : Value} (h : a.tmps[s]? = some (.tuple #[v, v', v''])) : Step Try.prog w0 { dst := some d, op := .extract (.tmp s) 2, type := t, pos := pos, after := af, guard := gd } (.val v'') a w :=
  .inl (by simp [go_sem, execOp, h])
end
theorem eq_z0 (w : World) : (Op.equalIn 10000 140 (.agg #[.int .u64 (L0 0), .int .u64 (L1 0), .int .u64 (L2 0), .int .u64 (L3 0)]) (.agg #[.int .u64 0, .int .u64 0, .int .u64 0, .int .u64 0])).run Try.prog w = .ok true w := (eq_Int _ _ _ _ _ _ _ _ w).trans rfl
theorem quo_le (m n : Nat) (h : 2 ≤ n) : 2 * ((m : Int) / n) ≤ m := by
  have h1 := Int.mul_ediv_self_le (x := (m : Int)) (k := (n : Int)) (by omega)
  have h2 : 0 ≤ (m : Int) / n := Int.ediv_nonneg (by omega) (by omega)
  have h3 := Int.mul_le_mul_of_nonneg_right (show (2 : Int) ≤ n by omega) h2
  omega
theorem quo_large {x y : Int} (hx : Fit x) (h : y ≠ 0) (hc : ¬ Fit (x.tdiv y)) : y = -1 ∧ x < 0 := by
  obtain ⟨hl, hh⟩ := hx
  by_cases h1 : y = 1
  · subst h1; rw [Int.tdiv_one] at hc; exact absurd ⟨hl, hh⟩ hc
  · by_cases h2 : y = -1
    · subst h2
      refine ⟨rfl, ?_⟩
      rw [Int.tdiv_neg, Int.tdiv_one] at hc
      by_cases h3 : x < 0
      · exact h3
      · exact absurd ⟨by omega, by omega⟩ hc
    · have h4 := quo_le x.natAbs y.natAbs (by omega)
      have h5 : 0 ≤ (x.natAbs : Int) / y.natAbs := Int.ediv_nonneg (by omega) (by omega)
      rw [tdiv_abs] at hc
      generalize (x.natAbs : Int) / y.natAbs = k at *
      refine absurd ?_ hc
      split <;> exact ⟨by omega, by omega⟩
theorem rest_facts {a b : Int} (h : b ≠ 0) : (0 ≤ a → 0 ≤ a.tmod b ∧ a.tmod b ≤ a) ∧ (a ≤ 0 → a ≤ a.tmod b ∧ a.tmod b ≤ 0) ∧ (a.tmod b).natAbs < b.natAbs := by
  have h1 := Int.emod_nonneg (a.natAbs : Int) (show (b.natAbs : Int) ≠ 0 by omega)
  have h2 := Int.emod_lt_of_pos (a.natAbs : Int) (show (0 : Int) < b.natAbs by omega)
  have h3 : (a.natAbs : Int) % b.natAbs ≤ a.natAbs := by
    have := Nat.mod_le a.natAbs b.natAbs
    omega
  rw [tmod_abs]
  generalize (a.natAbs : Int) % b.natAbs = k at *
  by_cases ha : a < 0
  · simp only [ha, decide_true, if_true]; omega
  · simp only [ha, decide_false, Bool.false_eq_true, if_false]; omega
end Go.Proofs.Ythakafnecddliaa
end
section
namespace Go.Proofs.Ythakafnecddliaa
open Go.ChangeShapes Go.WideShapes Go.ChangeAt Go.RowKit
set_option linter.unusedVariables false
set_option linter.unusedSimpArgs false
section
variable {a : Act} {w w0 : World} {af : Array Edge} {pos : String} {t : TypeId} {gd : Option (Nat × Bool)}
theorem gek {s d T : Nat} {k : IntKind} {x y : Int} {b : Bool} (h : a.tmps[s]? = some (.int k x)) (hT : Try.prog.underlying T = some (.int k)) (hb : decide (y ≤ x) = b) :
    Step Try.prog w0 { dst := some d, op := .binOp .geq T (.tmp s) (.const (.int k y)) T, type := t, pos := pos, after := af, guard := gd } (.val (.bool b)) a w :=
  .inl (by subst hb; simp [go_sem, execOp, h, hT])
end
theorem gcd_zero {x y : Int} (h : ((x.natAbs).gcd y.natAbs : Int) = 0) : x = 0 ∧ y = 0 := by
  have h' : (x.natAbs).gcd y.natAbs = 0 := by omega
  obtain ⟨h1, h2⟩ := Nat.gcd_eq_zero_iff.1 h'
  omega
theorem rest_zero {x y : Int} (h : y ≠ 0) : x.tmod y = 0 ↔ y.natAbs ∣ x.natAbs := by
  rw [← Int.dvd_iff_tmod_eq_zero, Int.natAbs_dvd_natAbs]
end Go.Proofs.Ythakafnecddliaa
end
