/- merged: The contract of wide.Above. Conditions: numbers that a wide.Int can be. Two small facts that all regions with numbers want: that Of is entered, that a number equals itself. More steps of operations in a region (XMemo): tests, picks; and the sums, differences, products as one contract each, whether they fit or not. Quotients and rests as one contract; what holds of them; more steps of operations (XMemo). The contract of croftref03.Add: the sum of two numbers. -/
import Derived.Test.YtjmojddnedngaaaDoorWideJ
import Derived.Test.YtjmojddnedngaaaDoorWideQ
import Derived.Deep.QuietTactic
import Derived.Test.YtjmojddnedngaaaDoorWideG
import Derived.Test.YtjmojddnedngaaaDoorRefS
import Derived.Test.YtjmojddnedngaaaDoorWideK
import Derived.Test.YtjmojddnedngaaaDoorMemoW
import Derived.Test.YtjmojddnedngaaaDoorRefR
import Derived.Test.YtjmojddnedngaaaDoorSeq
section
namespace Go.Proofs.YtjmojddnedngaaaDoor
open Go.ChangeShapes Go.WideShapes Go.ChangeAt Go.RowKit
set_option linter.unusedVariables false

theorem cmp_range (p q : Int) : -1 ≤ cmpZ p q ∧ cmpZ p q ≤ 1 := by unfold cmpZ; repeat' split
                                                                   all_goals omega

end Go.Proofs.YtjmojddnedngaaaDoor
end
section
namespace Go.Proofs.YtjmojddnedngaaaDoor
open Go.ChangeShapes Go.WideShapes Go.ChangeAt Go.RowKit
set_option linter.unusedVariables false

end Go.Proofs.YtjmojddnedngaaaDoor
end
section
namespace Go.Proofs.YtjmojddnedngaaaDoor
open Go.ChangeShapes Go.WideShapes Go.ChangeAt Go.RowKit
set_option linter.unusedVariables false
set_option linter.unusedSimpArgs false
section
variable {a : Act} {w w0 : World} {af : Array Edge} {pos : String} {t : TypeId} {gd : Option (Nat × Bool)}
theorem notb {s d : Nat} {b : Bool} (h : a.tmps[s]? = some (.bool b)) :
    Step Tryd.prog w0 { dst := some d, op := .unOp .not 4 (.tmp s), type := t, pos := pos, after := af, guard := gd } (.val (.bool (!b))) a w :=
  .inl (by simp [go_sem, execOp, h])
/-- 'x || y', x false: y -/
theorem pickn {c s d : Nat} {v k : Value} (h : a.tmps[c]? = some (.bool false)) (h' : a.tmps[s]? = some v) :
    Step Tryd.prog w0 { dst := some d, op := .pick (.tmp c) (.const k) (.tmp s), type := t, pos := pos, after := af, guard := gd } (.val v) a w :=
  .inl (by simp [go_sem, execOp, h, h'])
/-- 'x || y', x true -/
theorem picko {c s d : Nat} {k : Value} (h : a.tmps[c]? = some (.bool true)) (hs : a.tmps[s]? = some undef) :
    Step Tryd.prog w0 { dst := some d, op := .pick (.tmp c) (.const k) (.tmp s), type := t, pos := pos, after := af, guard := gd } (.val k) a w :=
  .inl (by simp [go_sem, execOp, h, hs])
/-- 'x && y', x false -/
theorem pickf {c s d : Nat} {k : Value} (h : a.tmps[c]? = some (.bool false)) (hs : a.tmps[s]? = some undef) :
    Step Tryd.prog w0 { dst := some d, op := .pick (.tmp c) (.tmp s) (.const k), type := t, pos := pos, after := af, guard := gd } (.val k) a w :=
  .inl (by simp [go_sem, execOp, h, hs])
end
theorem Ready.goneS {B : Nat} {w0 : World} {a0 : Act} {L : List Sp} {l : List Oper} {o : Oper} {me : Nat} {a : Act} {w : World} (R : Ready l.toArray (spOf L) B w0 a0 o me a w) (k : Nat) {ok : Oper} {d : Nat} (hk : l[k]? = some ok := by exact rfl) (hd : ok.dst = some d := by exact rfl) (hv : spOf L k = .skip := by exact rfl)
    (h : (o.after.any fun e => Region.binds .any e && e.on == k) = true := by kernel_rfl) : a.tmps[d]? = some undef := by
  have := R.dep k hk h
  rw [hv] at this
  exact this d hd
/-- what an operation that may not fit answers: the number, or 0 and ErrLarge -/
def Gives (F : Nat) (x y z : Int) (r er : Int) : Prop :=
  (∀ w, Calls Tryd.prog F #[.agg #[.int .u64 (L0 x), .int .u64 (L1 x), .int .u64 (L2 x), .int .u64 (L3 x)], .agg #[.int .u64 (L0 y), .int .u64 (L1 y), .int .u64 (L2 y), .int .u64 (L3 y)]] w fun e w' => e = .returned (.tuple #[.agg #[.int .u64 (L0 r), .int .u64 (L1 r), .int .u64 (L2 r), .int .u64 (L3 r)], .int .i64 er]) ∧ Below w.heap.size w w') ∧ Fit r ∧ (er = 0 ∧ r = z ∧ Fit z ∨ er = 3 ∧ r = 0 ∧ ¬ Fit z)
theorem Gives.same {F : Nat} {x y z r er r' er' : Int} (h : Gives F x y z r er) {F' : Nat} {x' y' : Int} (h' : Gives F' x' y' z r' er') : r' = r ∧ er' = er := by
  rcases h.2.2 with ⟨h1, h2, h3⟩ | ⟨h1, h2, h3⟩ <;> rcases h'.2.2 with ⟨k1, k2, k3⟩ | ⟨k1, k2, k3⟩
  · exact ⟨k2.trans h2.symm, k1.trans h1.symm⟩
  · exact absurd h3 k3
  · exact absurd k3 h3
  · exact ⟨k2.trans h2.symm, k1.trans h1.symm⟩
theorem Gives.is {F : Nat} {x y z r er : Int} (h : Gives F x y z r er) (e : er = 0) : r = z := by
  rcases h.2.2 with ⟨_, h2, _⟩ | ⟨h1, _⟩
  · exact h2
  · omega
end Go.Proofs.YtjmojddnedngaaaDoor
end
section
namespace Go.Proofs.YtjmojddnedngaaaDoor
open Go.ChangeShapes Go.WideShapes Go.ChangeAt Go.RowKit
set_option linter.unusedVariables false
set_option linter.unusedSimpArgs false
section
variable {a : Act} {w w0 : World} {af : Array Edge} {pos : String} {t : TypeId} {gd : Option (Nat × Bool)}
theorem x30 {s d : Nat} {v v' v'' : Value} (h : a.tmps[s]? = some (.tuple #[v, v', v''])) : Step Tryd.prog w0 { dst := some d, op := .extract (.tmp s) 0, type := t, pos := pos, after := af, guard := gd } (.val v) a w :=
  .inl (by simp [go_sem, execOp, h])
theorem x31 {s d : Nat} {v v' v'' : Value} (h : a.tmps[s]? = some (.tuple #[v, v', v''])) : Step Tryd.prog w0 { dst := some d, op := .extract (.tmp s) 1, type := t, pos := pos, after := af, guard := gd } (.val v') a w :=
  .inl (by simp [go_sem, execOp, h])
theorem x32 {s d : Nat} {v v' v'' : Value} (h : a.tmps[s]? = some (.tuple #[v, v', v''])) : Step Tryd.prog w0 { dst := some d, op := .extract (.tmp s) 2, type := t, pos := pos, after := af, guard := gd } (.val v'') a w :=
  .inl (by simp [go_sem, execOp, h])
end
def Quo (x y q r er : Int) : Prop :=
  (∀ w, Calls Tryd.prog 42 #[.agg #[.int .u64 (L0 x), .int .u64 (L1 x), .int .u64 (L2 x), .int .u64 (L3 x)], .agg #[.int .u64 (L0 y), .int .u64 (L1 y), .int .u64 (L2 y), .int .u64 (L3 y)]] w fun e w' => e = .returned (.tuple #[.agg #[.int .u64 (L0 q), .int .u64 (L1 q), .int .u64 (L2 q), .int .u64 (L3 q)], .agg #[.int .u64 (L0 r), .int .u64 (L1 r), .int .u64 (L2 r), .int .u64 (L3 r)], .int .i64 er]) ∧ Below w.heap.size w w') ∧
  (y = 0 ∧ q = 0 ∧ r = 0 ∧ er = 4 ∨ y ≠ 0 ∧ ¬ Fit (x.tdiv y) ∧ q = 0 ∧ r = 0 ∧ er = 3 ∨ y ≠ 0 ∧ Fit (x.tdiv y) ∧ q = x.tdiv y ∧ r = x.tmod y ∧ er = 0)
end Go.Proofs.YtjmojddnedngaaaDoor
end
section
namespace Go.Proofs.YtjmojddnedngaaaDoor
open Go.ChangeShapes Go.WideShapes Go.ChangeAt Go.RowKit
set_option linter.unusedVariables false

-- WALK
set_option maxHeartbeats 16000000 in
set_option maxRecDepth 20000 in
theorem add_num (T Tx Cx Ty Cy : Nat) (v v' : Value) (x y : Int) (w : World) (hT : T ≤ w.heap.size) (hx : Num w Tx Cx v x) (hy : Num w Ty Cy v' y) (hlx : (digs x.natAbs).length ≤ 100000000) (hly : (digs y.natAbs).length ≤ 100000000) :
    Calls Tryd.prog 17 #[v, v'] w fun e w' => ∃ v2, e = .returned v2 ∧ Num w' T w.heap.size v2 (x + y) ∧ Below w.heap.size w w' := by
  obtain ⟨xa, xl, xc, rfl, rx⟩ := hx
  obtain ⟨ya, yl, yc, rfl, ry⟩ := hy
  have lx : xl ≤ 100000000 := by have := rx.hlen; omega
  have ly : yl ≤ 100000000 := by have := ry.hlen; omega
  have RX := Lib.hid (fun w' (hb : Below w.heap.size w w') => rx.keep hb)
  have RY := Lib.hid (fun w' (hb : Below w.heap.size w w') => ry.keep hb)
  clear rx ry hlx hly
  obtain ⟨sx, hsx⟩ : ∃ s, decide (x < 0) = s := ⟨_, rfl⟩
  obtain ⟨sy, hsy⟩ : ∃ s, decide (y < 0) = s := ⟨_, rfl⟩
  rw [hsx, hsy]
  have HX := Lib.hid hsx
  have HY := Lib.hid hsy
  clear hsx hsy
  go_enter Tryd.func17, Tryd.ntmps17
  go_upto_region 1 with fail
  go_name_world W0 hW0
  have OA : Own W0 w.heap.size 42 #[.bool sx, .slice xa xl xc] := hW0 ▸ (by repeat' (first | (with_reducible assumption) | (with_reducible refine Own.drawnN ?_ _) | (with_reducible refine Own.drawn ?_) | (with_reducible refine Own.made_at ?_; first | rfl | (simp; done) | omega | (simp; omega)) | (with_reducible refine Own.more ?_ _) | (with_reducible refine Own.apart ?_ ?_ _ _; rotate_left; first | omega | (simp; done) | (simp; omega)) | (refine Own.put ?_ _ _)))
  have OB : Own W0 (w.heap.size + 1) 42 #[.bool sy, .slice ya yl yc] := hW0 ▸ (by repeat' (first | (with_reducible assumption) | (with_reducible refine Own.drawnN ?_ _) | (with_reducible refine Own.drawn ?_) | (with_reducible refine Own.made_at ?_; first | rfl | (simp; done) | omega | (simp; omega)) | (with_reducible refine Own.more ?_ _) | (with_reducible refine Own.apart ?_ ?_ _ _; rotate_left; first | omega | (simp; done) | (simp; omega)) | (refine Own.put ?_ _ _)))
  have OR : Own W0 (w.heap.size + 2) 42 #[.bool false, .slice none 0 0] := hW0 ▸ (by repeat' (first | (with_reducible assumption) | (with_reducible refine Own.drawnN ?_ _) | (with_reducible refine Own.drawn ?_) | (with_reducible refine Own.made_at ?_; first | rfl | (simp; done) | omega | (simp; omega)) | (with_reducible refine Own.more ?_ _) | (with_reducible refine Own.apart ?_ ?_ _ _; rotate_left; first | omega | (simp; done) | (simp; omega)) | (refine Own.put ?_ _ _)))
  have hB : Below w.heap.size w W0 := hW0 ▸ (by repeat' (first | (with_reducible exact Below.refl _ _) | (with_reducible assumption) | (with_reducible refine below_drewN ?_ _) | (with_reducible refine Below.drew ?_) | (with_reducible refine Below.alloc ?_ ?_ _) | (with_reducible refine Below.setCell ?_ ?_ _) | (with_reducible refine then_ ?_ (by with_reducible assumption) ?_) | (with_reducible exact Nat.le_refl _) | (with_reducible exact Nat.le_succ _) | (with_reducible exact Nat.le_succ_of_le (by with_reducible assumption)) | omega | (simp; done) | (simp; omega) | (exact Nat.le_succ _) | (exact Nat.le_succ_of_le (by with_reducible assumption))))
  clear hW0
  obtain ⟨q11, q12, q13⟩ := OA.at_
  obtain ⟨q21, q22, q23⟩ := OB.at_
  have hs0 := OR.in_
  by_cases hss : sx = sy
  · subst hss
    have t1 : (sx == sx) = true := by cases sx <;> rfl
    have HZ := Lib.hid (show (if sx = true then -((x.natAbs + y.natAbs : Nat) : Int) else ((x.natAbs + y.natAbs : Nat) : Int)) = x + y by
      have h1 := HX.out
      have h2 := HY.out
      cases sx
      · simp at h1 h2 ⊢; omega
      · simp at h1 h2 ⊢; omega)
    go_upto_region 2 with fail
    clear q11 q12 q13 q21 q22 q23
    refine wp_region_seq (fun W => Own W w.heap.size 42 #[.bool sx, .slice xa xl xc] ∧ Own W (w.heap.size + 1) 42 #[.bool sx, .slice ya yl yc]) (0 :: 1 :: 2 :: 3 :: 4 :: 5 :: 7 :: []) (1 :: 3 :: 5 :: []) (0 :: 1 :: 2 :: 3 :: 4 :: 5 :: 6 :: 7 :: 8 :: 9 :: []) (by kernel_rfl) (by kernel_rfl) rfl (by kernel_rfl) rfl (⟨OA.drawn, OB.drawn⟩) (by simp only [picked, List.filterMap_cons, List.filterMap_nil, List.getElem?_cons_zero, List.getElem?_cons_succ, Option.map_some]; exact rfl) ?_
    iterate 6
      refine seq_want (v := ?_) rfl rfl (fun W hS => ?_) ?_
      rotate_left
      · first
          | (conv => lhs; simp [go_sem]
             first | done | exact rfl)
          | (have hS := hS rfl
             obtain ⟨q1, q2⟩ := hS
             obtain ⟨q11, q12, q13⟩ := q1.at_
             obtain ⟨q21, q22, q23⟩ := q2.at_
             conv => lhs; simp [go_sem, *]
             first | done | exact rfl)
      simp only [Act.put, List.setIfInBounds_toArray, List.set_cons_zero, List.set_cons_succ]
    refine seq_on rfl rfl fun K hK => ?_
    go_wp2_with (go_at_call 36; refine (plus_num x.natAbs y.natAbs _ T _ _ _ _ _ _ _ _ _ W0.drew lx ly (RX.out _ hB.drew) (RY.out _ hB.drew)).mono ?_; rintro e w1 ⟨a', l', c', rfl, hd, hb1⟩)
    have hdg := Dg.digs (x.natAbs + y.natAbs)
    have hvl := vl_digs (x.natAbs + y.natAbs)
    obtain ⟨zs, hzs⟩ : ∃ zs, digs (x.natAbs + y.natAbs) = zs := ⟨_, rfl⟩
    rw [hzs] at hd hdg hvl
    clear hzs
    refine hK _ _ ⟨OA.drawn.keep hb1, OB.drawn.keep hb1⟩ ?_
    clear hK K
    iterate 1
      refine seq_want (v := ?_) rfl rfl (fun W hS => ?_) ?_
      rotate_left
      · conv => lhs; simp [go_sem]
        first | done | exact rfl
      simp only [Act.put, List.setIfInBounds_toArray, List.set_cons_zero, List.set_cons_succ]
    refine seq_on rfl rfl fun K hK => ?_
    go_wp2_with (go_at_call 33; refine (trim_num T W0.drew.heap.size sx a' l' c' zs _ w1 hd hdg hvl).mono ?_; rintro e w2 ⟨v2, rfl, hn, hb2⟩)
    have hb12 := then_ hb1 hb2 hb1.size
    refine hK _ _ ⟨OA.drawn.keep hb12, OB.drawn.keep hb12⟩ ?_
    clear hK K
    have OR2 := OR.drawn.keep hb12
    have hs3 : w.heap.size + 2 < W0.drew.heap.size := hs0
    have hB2 := then_ hB.drew hb12 hB.size
    have hz := HZ.out
    rw [hz] at hn
    obtain ⟨sn, na, nl, nc, rfl⟩ := hn.shape
    have HN := Lib.hid hn
    obtain ⟨r1, r2, r3⟩ := OR2.at_
    have hs2 := OA.in_
    clear hn hd hdg hvl hb1 hb2 hb12 OA OB OR hB HX HY hz
    refine seq_last rfl rfl (by kernel_rfl) rfl fun K hK => ?_
    go_wp2
    refine hK _ _ ?_
    clear hK K
    refine seq_end ?_
    go_wp2
    refine bodyPost_ret (v := .agg #[.bool sn, .slice na nl nc]) (by simp [results, Tryd.results17, go_sem, r1]) rfl ⟨_, rfl, ?_, ?_⟩
    · exact ((HN.out.put (by omega) (by omega) _).put (by omega) (by omega) _).mono (Nat.le_refl _) (by omega)
    · repeat' (first | (with_reducible exact Below.refl _ _) | (with_reducible assumption) | (with_reducible refine below_drewN ?_ _) | (with_reducible refine Below.drew ?_) | (with_reducible refine Below.alloc ?_ ?_ _) | (with_reducible refine Below.setCell ?_ ?_ _) | (with_reducible refine then_ ?_ (by with_reducible assumption) ?_) | (with_reducible exact Nat.le_refl _) | (with_reducible exact Nat.le_succ _) | (with_reducible exact Nat.le_succ_of_le (by with_reducible assumption)) | omega | (simp; done) | (simp; omega) | (exact Nat.le_succ _) | (exact Nat.le_succ_of_le (by with_reducible assumption)))
  · have t1 : (sx == sy) = false := by simpa using hss
    replace hss := Lib.hid hss
    have CZ := cmp_range (x.natAbs : Int) y.natAbs
    obtain ⟨cz, hcz⟩ : ∃ c, cmpZ (x.natAbs : Int) y.natAbs = c := ⟨_, rfl⟩
    have SZ := fun w' hb => size_num x.natAbs y.natAbs _ _ _ _ _ _ _ _ _ _ w' (RX.out w' hb) (RY.out w' hb)
    rw [hcz] at SZ CZ
    have HC := Lib.hid hcz
    replace SZ := Lib.hid SZ
    clear hcz
    go_wp2_with fail
    go_at_call 37
    refine (SZ.out W0 hB).mono ?_
    rintro e w0 ⟨rfl, kd, rfl⟩
    have hs1 : w.heap.size + 2 < (W0.drewN kd).heap.size := hs0
    replace hB := below_drewN hB kd
    replace OA := OA.drawnN kd
    replace OB := OB.drawnN kd
    replace OR := OR.drawnN kd
    clear q11 q12 q13 q21 q22 q23 hs0 SZ
    obtain ⟨W1, hW1⟩ : ∃ W1, W0.drewN kd = W1 := ⟨_, rfl⟩
    rw [hW1] at hs1 hB OA OB OR ⊢
    clear hW1
    obtain ⟨q11, q12, q13⟩ := OA.at_
    obtain ⟨q21, q22, q23⟩ := OB.at_
    by_cases hge : 0 ≤ cz
    · have hmn : y.natAbs ≤ x.natAbs := by
        have h := HC.out
        unfold cmpZ at h
        rcases Nat.lt_or_ge x.natAbs y.natAbs with h1 | h1
        · rw [if_pos (by omega)] at h; omega
        · exact h1
      have HZ := Lib.hid (show (if sx = true then -((x.natAbs : Int) - y.natAbs) else (x.natAbs : Int) - y.natAbs) = x + y by
        have h1 := HX.out
        have h2 := HY.out
        have h3 := hss.out
        cases sx <;> cases sy <;> simp at h1 h2 h3 ⊢ <;> omega)
      clear HC hss
      go_upto_region 4 with fail
      clear q11 q12 q13 q21 q22 q23
      refine wp_region_seq (fun W => Own W w.heap.size 42 #[.bool sx, .slice xa xl xc] ∧ Own W (w.heap.size + 1) 42 #[.bool sy, .slice ya yl yc]) (0 :: 1 :: 2 :: 3 :: 4 :: 5 :: 7 :: []) (1 :: 3 :: 5 :: []) (0 :: 1 :: 2 :: 3 :: 4 :: 5 :: 6 :: 7 :: 8 :: 9 :: []) (by kernel_rfl) (by kernel_rfl) rfl (by kernel_rfl) rfl (⟨OA.drawn, OB.drawn⟩) (by simp only [picked, List.filterMap_cons, List.filterMap_nil, List.getElem?_cons_zero, List.getElem?_cons_succ, Option.map_some]; exact rfl) ?_
      iterate 6
        refine seq_want (v := ?_) rfl rfl (fun W hS => ?_) ?_
        rotate_left
        · first
            | (conv => lhs; simp [go_sem]
               first | done | exact rfl)
            | (have hS := hS rfl
               obtain ⟨q1, q2⟩ := hS
               obtain ⟨q11, q12, q13⟩ := q1.at_
               obtain ⟨q21, q22, q23⟩ := q2.at_
               conv => lhs; simp [go_sem, *]
               first | done | exact rfl)
        simp only [Act.put, List.setIfInBounds_toArray, List.set_cons_zero, List.set_cons_succ]
      refine seq_on rfl rfl fun K hK => ?_
      go_wp2_with (go_at_call 38; refine (minus_num x.natAbs y.natAbs hmn _ T _ _ _ _ _ _ _ _ _ W1.drew lx (RX.out _ hB.drew) (RY.out _ hB.drew)).mono ?_; rintro e w1 ⟨a', l', c', zs, rfl, hd, hdg, hvl, hb1⟩)
      refine hK _ _ ⟨OA.drawn.keep hb1, OB.drawn.keep hb1⟩ ?_
      clear hK K
      iterate 1
        refine seq_want (v := ?_) rfl rfl (fun W hS => ?_) ?_
        rotate_left
        · conv => lhs; simp [go_sem]
          first | done | exact rfl
        simp only [Act.put, List.setIfInBounds_toArray, List.set_cons_zero, List.set_cons_succ]
      refine seq_on rfl rfl fun K hK => ?_
      go_wp2_with (go_at_call 33; refine (trim_num T W1.drew.heap.size sx a' l' c' zs _ w1 hd hdg hvl).mono ?_; rintro e w2 ⟨v2, rfl, hn, hb2⟩)
      have hb12 := then_ hb1 hb2 hb1.size
      refine hK _ _ ⟨OA.drawn.keep hb12, OB.drawn.keep hb12⟩ ?_
      clear hK K
      have OR2 := OR.drawn.keep hb12
      have hs3 : w.heap.size + 2 < W1.drew.heap.size := hs1
      have hB2 := then_ hB.drew hb12 hB.size
      have hz := HZ.out
      rw [hz] at hn
      obtain ⟨sn, na, nl, nc, rfl⟩ := hn.shape
      have HN := Lib.hid hn
      obtain ⟨r1, r2, r3⟩ := OR2.at_
      have hs2 := OA.in_
      clear hn hd hdg hvl hb1 hb2 hb12 OA OB OR hB HX HY hz
      refine seq_last rfl rfl (by kernel_rfl) rfl fun K hK => ?_
      go_wp2
      refine hK _ _ ?_
      clear hK K
      refine seq_end ?_
      go_wp2
      refine bodyPost_ret (v := .agg #[.bool sn, .slice na nl nc]) (by simp [results, Tryd.results17, go_sem, r1]) rfl ⟨_, rfl, ?_, ?_⟩
      · exact ((HN.out.put (by omega) (by omega) _).put (by omega) (by omega) _).mono (Nat.le_refl _) (by omega)
      · repeat' (first | (with_reducible exact Below.refl _ _) | (with_reducible assumption) | (with_reducible refine below_drewN ?_ _) | (with_reducible refine Below.drew ?_) | (with_reducible refine Below.alloc ?_ ?_ _) | (with_reducible refine Below.setCell ?_ ?_ _) | (with_reducible refine then_ ?_ (by with_reducible assumption) ?_) | (with_reducible exact Nat.le_refl _) | (with_reducible exact Nat.le_succ _) | (with_reducible exact Nat.le_succ_of_le (by with_reducible assumption)) | omega | (simp; done) | (simp; omega) | (exact Nat.le_succ _) | (exact Nat.le_succ_of_le (by with_reducible assumption)))
    · have hmn : x.natAbs ≤ y.natAbs := by
        have h := HC.out
        unfold cmpZ at h
        rcases Nat.lt_or_ge y.natAbs x.natAbs with h1 | h1
        · rw [if_neg (by omega), if_pos (by omega)] at h; omega
        · exact h1
      have HZ := Lib.hid (show (if sy = true then -((y.natAbs : Int) - x.natAbs) else (y.natAbs : Int) - x.natAbs) = x + y by
        have h1 := HX.out
        have h2 := HY.out
        have h3 := hss.out
        cases sx <;> cases sy <;> simp at h1 h2 h3 ⊢ <;> omega)
      clear HC hss
      go_upto_region 5 with fail
      clear q11 q12 q13 q21 q22 q23
      refine wp_region_seq (fun W => Own W w.heap.size 42 #[.bool sx, .slice xa xl xc] ∧ Own W (w.heap.size + 1) 42 #[.bool sy, .slice ya yl yc]) (0 :: 1 :: 2 :: 3 :: 4 :: 5 :: 7 :: []) (1 :: 3 :: 5 :: []) (0 :: 1 :: 2 :: 3 :: 4 :: 5 :: 6 :: 7 :: 8 :: 9 :: []) (by kernel_rfl) (by kernel_rfl) rfl (by kernel_rfl) rfl (⟨OA.drawn, OB.drawn⟩) (by simp only [picked, List.filterMap_cons, List.filterMap_nil, List.getElem?_cons_zero, List.getElem?_cons_succ, Option.map_some]; exact rfl) ?_
      iterate 6
        refine seq_want (v := ?_) rfl rfl (fun W hS => ?_) ?_
        rotate_left
        · first
            | (conv => lhs; simp [go_sem]
               first | done | exact rfl)
            | (have hS := hS rfl
               obtain ⟨q1, q2⟩ := hS
               obtain ⟨q11, q12, q13⟩ := q1.at_
               obtain ⟨q21, q22, q23⟩ := q2.at_
               conv => lhs; simp [go_sem, *]
               first | done | exact rfl)
        simp only [Act.put, List.setIfInBounds_toArray, List.set_cons_zero, List.set_cons_succ]
      refine seq_on rfl rfl fun K hK => ?_
      go_wp2_with (go_at_call 38; refine (minus_num y.natAbs x.natAbs hmn _ T _ _ _ _ _ _ _ _ _ W1.drew ly (RY.out _ hB.drew) (RX.out _ hB.drew)).mono ?_; rintro e w1 ⟨a', l', c', zs, rfl, hd, hdg, hvl, hb1⟩)
      refine hK _ _ ⟨OA.drawn.keep hb1, OB.drawn.keep hb1⟩ ?_
      clear hK K
      iterate 1
        refine seq_want (v := ?_) rfl rfl (fun W hS => ?_) ?_
        rotate_left
        · conv => lhs; simp [go_sem]
          first | done | exact rfl
        simp only [Act.put, List.setIfInBounds_toArray, List.set_cons_zero, List.set_cons_succ]
      refine seq_on rfl rfl fun K hK => ?_
      go_wp2_with (go_at_call 33; refine (trim_num T W1.drew.heap.size sy a' l' c' zs _ w1 hd hdg hvl).mono ?_; rintro e w2 ⟨v2, rfl, hn, hb2⟩)
      have hb12 := then_ hb1 hb2 hb1.size
      refine hK _ _ ⟨OA.drawn.keep hb12, OB.drawn.keep hb12⟩ ?_
      clear hK K
      have OR2 := OR.drawn.keep hb12
      have hs3 : w.heap.size + 2 < W1.drew.heap.size := hs1
      have hB2 := then_ hB.drew hb12 hB.size
      have hz := HZ.out
      rw [hz] at hn
      obtain ⟨sn, na, nl, nc, rfl⟩ := hn.shape
      have HN := Lib.hid hn
      obtain ⟨r1, r2, r3⟩ := OR2.at_
      have hs2 := OA.in_
      clear hn hd hdg hvl hb1 hb2 hb12 OA OB OR hB HX HY hz
      refine seq_last rfl rfl (by kernel_rfl) rfl fun K hK => ?_
      go_wp2
      refine hK _ _ ?_
      clear hK K
      refine seq_end ?_
      go_wp2
      refine bodyPost_ret (v := .agg #[.bool sn, .slice na nl nc]) (by simp [results, Tryd.results17, go_sem, r1]) rfl ⟨_, rfl, ?_, ?_⟩
      · exact ((HN.out.put (by omega) (by omega) _).put (by omega) (by omega) _).mono (Nat.le_refl _) (by omega)
      · repeat' (first | (with_reducible exact Below.refl _ _) | (with_reducible assumption) | (with_reducible refine below_drewN ?_ _) | (with_reducible refine Below.drew ?_) | (with_reducible refine Below.alloc ?_ ?_ _) | (with_reducible refine Below.setCell ?_ ?_ _) | (with_reducible refine then_ ?_ (by with_reducible assumption) ?_) | (with_reducible exact Nat.le_refl _) | (with_reducible exact Nat.le_succ _) | (with_reducible exact Nat.le_succ_of_le (by with_reducible assumption)) | omega | (simp; done) | (simp; omega) | (exact Nat.le_succ _) | (exact Nat.le_succ_of_le (by with_reducible assumption)))
end Go.Proofs.YtjmojddnedngaaaDoor
end
