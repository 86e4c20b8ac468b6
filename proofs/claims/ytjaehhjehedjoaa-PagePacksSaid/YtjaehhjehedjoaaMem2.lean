
/- What m2.py's regions want beside XMemo. It speaks of no function. -/
import Derived.Test.YtjaehhjehedjoaaMemo
import Derived.Test.YtjaehhjehedjoaaSeq
namespace Go.Proofs.Ytjaehhjehedjoaa
open Go.ChangeShapes Go.WideShapes Go.ChangeAt Go.RowKit
set_option linter.unusedVariables false
theorem Ready.gone2 {B : Nat} {w0 : World} {a0 : Act} {L : List Sp} {l : List Oper} {o : Oper} {me : Nat} {a : Act} {w : World} (R : Ready l.toArray (spOf L) B w0 a0 o me a w) (k : Nat) {ok : Oper} {d : Nat} (hk : l[k]? = some ok := by exact rfl) (hd : ok.dst = some d := by exact rfl) (hv : spOf L k = .skip := by exact rfl)
    (h : (o.after.any fun e => Region.binds .any e && e.on == k) = true := by kernel_rfl) : a.tmps[d]? = some undef := by
  have := R.dep k hk h
  rw [hv] at this
  exact this d hd
end Go.Proofs.Ytjaehhjehedjoaa
