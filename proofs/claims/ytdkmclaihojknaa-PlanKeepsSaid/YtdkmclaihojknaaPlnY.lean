
/- The reference's Copied, Add, Link. Conditions: those that each theorem names. -/
import Derived.Test.YtdkmclaihojknaaPlnR
import Derived.Laws.OwnMore
import Derived.Maps.AppendAt
namespace Go.Proofs.Ytdkmclaihojknaa.Pl
open Go.ChangeShapes Go.WideShapes Go.ChangeAt Go.RowKit
set_option linter.unusedVariables false
set_option linter.unusedSimpArgs false

theorem app_empty {P : Program} {w : World} (base : Nat) (t ty e : TypeId) (i : TypeInfo) (size : Nat) (ht : P.underlying t = some (.slice e)) (hi : P.info? e = some i)
    (v : Value) (n : Nat) (xs : List Value) (hown : w.ownsRow base e size v n xs) (c : Nat) :
    (Builtin.append_ #[t, t] ty #[v, .slice none 0 c]).run P w = .ok v w := by
  rcases hown.2 with ⟨rfl, rfl⟩ | ⟨g, cap, cur, rfl, _, _, hnc, _⟩
  · simp [Builtin.append_, run_underlying ht, sizeOf, typeInfo, hi, Builtin.lenOf, Builtin.firstCells]
  · simp [Builtin.append_, run_underlying ht, sizeOf, typeInfo, hi, Builtin.lenOf, Builtin.firstCells, hnc, storeCells]
/-- the cells of rows of three numbers -/
def c3 {α : Type} (p q r : α → Int) (L : List α) : List Value := L.flatMap fun x => [.int .i64 (p x), .int .i64 (q x), .int .i64 (r x)]
section
variable {α : Type} {p q r : α → Int} {w w' : World} {B : Nat} {v d : Value} {L D : List α}
theorem c3_len (p q r : α → Int) (L : List α) : (c3 p q r L).length = L.length * 3 := by
  induction L with
  | nil => rfl
  | cons s L ih => show (c3 p q r L).length + 1 + 1 + 1 = (L.length + 1) * 3; omega
theorem c3_app (p q r : α → Int) (a b : List α) : c3 p q r (a ++ b) = c3 p q r a ++ c3 p q r b := by simp [c3]
theorem c3_at (p q r : α → Int) : ∀ (L : List α) (i : Nat) (hi : i < L.length), (c3 p q r L)[i * 3]? = some (.int .i64 (p (L[i]'hi))) ∧ (c3 p q r L)[i * 3 + 1]? = some (.int .i64 (q (L[i]'hi))) ∧ (c3 p q r L)[i * 3 + 2]? = some (.int .i64 (r (L[i]'hi)))
  | x :: L, 0, _ => ⟨rfl, rfl, rfl⟩
  | x :: L, i + 1, hi => by
    have := c3_at p q r L i (by simpa using hi)
    rw [show (i + 1) * 3 = i * 3 + 1 + 1 + 1 by omega]
    exact this
/-- rows of three numbers in a slice of one's own -/
def TOwn (p q r : α → Int) (T : TypeId) (w : World) (B : Nat) (v : Value) (L : List α) : Prop := w.ownsRow B T 3 v L.length (c3 p q r L)
theorem TOwn.in_ {T : TypeId} (h : TOwn p q r T w B v L) : TIn p q r w v L := by
  have hlt := World.ownsRow.lt h
  rcases h.2 with ⟨h1, h2⟩ | ⟨g, cap, cur, h1, r1, r2, r3, r4, r5, r6⟩
  · exact ⟨none, 0, by rw [h1, h2], by omega, Nat.zero_le _, .inl (List.length_eq_zero_iff.1 h2)⟩
  · refine ⟨_, cap, h1, r3, r4, .inr ⟨g, 0, rfl, (hlt g (by rw [h1]; rfl)).2, fun i hi => ?_⟩⟩
    have ho : Own w g T cur := r2
    obtain ⟨e1, e2, e3⟩ := c3_at p q r L i hi
    have k := ho.at_.1
    rw [k, k, k]
    have hl := c3_len p q r L
    rw [← r6] at e1 e2 e3
    rw [List.getElem?_take_of_lt (by omega)] at e1 e2 e3
    exact ⟨by simpa using e1, by simpa using e2, by simpa using e3⟩
theorem TOwn.nil {T : TypeId} (w : World) (B : Nat) : TOwn p q r T w B (.slice none 0 0) [] := World.ownsRow_nil _ _ _ _
theorem TOwn.shape {T : TypeId} (h : TOwn p q r T w B v L) : ∃ a c, v = .slice a L.length c := by
  rcases h.2 with ⟨rfl, h2⟩ | ⟨g, cap, cur, rfl, _⟩
  · exact ⟨none, 0, by rw [h2]⟩
  · exact ⟨_, _, rfl⟩
theorem TOwn.own {T : TypeId} (h : TOwn p q r T w B v L) {g : Nat} (hg : v.ownBlock = some g) : B ≤ g ∧ ∃ cur, Own w g T cur := by
  rcases h.2 with ⟨rfl, _⟩ | ⟨g', cap, cur, rfl, r1, r2, _⟩
  · cases hg
  · injection hg with hg
    have hg : g' = g := hg
    subst hg
    exact ⟨r1, cur, r2⟩
theorem TOwn.keep {T : TypeId} (h : TOwn p q r T w B v L) {Z : Nat → Prop} (hc : Chg Z w w') (hz : ∀ g, v.ownBlock = some g → ¬ Z g) : TOwn p q r T w' B v L := by
  have hlt := World.ownsRow.lt h
  refine ⟨h.1, ?_⟩
  rcases h.2 with h2 | ⟨g, cap, cur, rfl, r1, r2, r3⟩
  · exact .inl h2
  · exact .inr ⟨g, cap, cur, rfl, r1, (hc.block g (hlt g rfl).2 (hz g rfl)).trans r2, r3⟩
theorem TOwn.below {T : TypeId} (h : TOwn p q r T w B v L) (hb : Below w.heap.size w w') : TOwn p q r T w' B v L := h.keep (Chg.of (S := fun _ => False) hb) fun _ _ k => k
theorem TIn.cells (h : TIn p q r w v L) {a : Option Addr} {n c : Nat} (e : v = .slice a n c) : n = L.length ∧ (L = [] ∨ ∃ b o, a = some ⟨b, o, none⟩ ∧ ∀ j u, (c3 p q r L)[j]? = some u → w.cell? ((⟨b, o, none⟩ : Addr).add j) = some u) := by
  obtain ⟨a', cap, h1, h2, h3, h5⟩ := h
  rw [h1] at e
  injection e with e1 e2 e3
  subst e1 e2 e3
  refine ⟨rfl, h5.imp_right ?_⟩
  rintro ⟨b, o, rfl, hb, hc⟩
  refine ⟨b, o, rfl, fun j u hu => ?_⟩
  have hl := (List.getElem?_eq_some_iff.1 hu).1
  rw [c3_len] at hl
  have e9 : (⟨b, o, none⟩ : Addr).add j = ⟨b, o + j, none⟩ := by unfold Addr.add; split <;> simp_all
  rw [e9]
  have hi : j / 3 < L.length := by omega
  obtain ⟨k0, k1, k2⟩ := hc (j / 3) hi
  obtain ⟨e0, e1, e2⟩ := c3_at p q r L (j / 3) hi
  have h3 : j % 3 = 0 ∨ j % 3 = 1 ∨ j % 3 = 2 := by omega
  rcases h3 with h3 | h3 | h3
  · have ej : j = j / 3 * 3 := by omega
    rw [ej] at hu ⊢
    rw [e0] at hu
    rw [k0, hu]
  · have ej : j = j / 3 * 3 + 1 := by omega
    rw [ej] at hu ⊢
    rw [e1] at hu
    rw [← Nat.add_assoc, k1, hu]
  · have ej : j = j / 3 * 3 + 2 := by omega
    rw [ej] at hu ⊢
    rw [e2] at hu
    rw [← Nat.add_assoc, k2, hu]
theorem app_rows {P : Program} {T t : TypeId} {i : TypeInfo} {z : Value} (ht : P.underlying t = some (.slice T)) (hi : P.info? T = some i) (hz0 : i.zero = some z) (hz1 : i.size = 3) (hz2 : i.bytes = 24) (hzc : z.cells.size = 3) (ty : TypeId)
    (hB : B ≤ w.heap.size) (hd : TOwn p q r T w B d D) (hv : TIn p q r w v L) (hn : D.length + L.length ≤ 100000) :
    ∃ v' w', (Builtin.append_ #[t, t] ty #[d, v]).run P w = .ok v' w' ∧ TOwn p q r T w' B v' (D ++ L) ∧ w.grownBy w' d.ownBlock := by
  have hv' := hv
  obtain ⟨a, cap, rfl, h2, h3, -⟩ := hv'
  obtain ⟨-, hc⟩ := hv.cells rfl
  have key : ∀ ad : Addr, a = some ad → (∀ j u, (c3 p q r L)[j]? = some u → w.cell? (ad.add j) = some u) → ∃ v' w', (Builtin.append_ #[t, t] ty #[d, .slice a L.length cap]).run P w = .ok v' w' ∧ TOwn p q r T w' B v' (D ++ L) ∧ w.grownBy w' d.ownBlock := fun ad hea hcell => by
    subst hea
    obtain ⟨v', w', h1, h2, h3, _, _⟩ := run_append_own_at (P := P) w B t ty T i z 3 24 ht hi hz0 hz1 hz2 hzc (by decide) d D.length (c3 p q r D) hd ad L.length cap (c3 p q r L) (c3_len p q r L) hcell (by
      intro u hu
      obtain ⟨s, _, hs⟩ := List.mem_flatMap.1 hu
      simp at hs
      rcases hs with rfl | rfl | rfl <;> rfl) (by unfold maxLen; omega) (by omega) hB
    exact ⟨v', w', h1, by unfold TOwn; rw [List.length_append, c3_app]; exact h2, h3⟩
  rcases hc with rfl | ⟨b, o, rfl, hcell⟩
  · cases a with
    | none => exact ⟨d, w, app_empty (P := P) B t ty T i 3 ht hi d D.length (c3 p q r D) hd cap, by rw [List.append_nil]; exact hd, rfl, rfl, rfl, Nat.le_refl _, fun _ _ _ => rfl⟩
    | some ad => exact key ad rfl fun j u hu => by simp [c3] at hu
  · exact key _ rfl hcell
theorem wpList_app_rows {P : Program} {T t : TypeId} {i : TypeInfo} {z : Value} {ops : Array Oper} {rest : List Oper} {o : Oper} {a : Act} {Q : Exit → Act → World → Prop} (hgd : o.guard = none) (s x : Operand)
    (ho : o.op = .call { callee := .builtin .append, args := #[s, x], argTypes := #[t, t] })
    (ht : P.underlying t = some (.slice T)) (hi : P.info? T = some i) (hz0 : i.zero = some z) (hz1 : i.size = 3) (hz2 : i.bytes = 24) (hzc : z.cells.size = 3) (hs : a.eval s = d) (hx : a.eval x = v)
    (hB : B ≤ w.heap.size) (hd : TOwn p q r T w B d D) (hv : TIn p q r w v L) (hn : D.length + L.length ≤ 100000)
    (h : ∀ v' w', TOwn p q r T w' B v' (D ++ L) → w.grownBy w' d.ownBlock → wpList P ops Q rest (a.put o.dst v') w') : wpList P ops Q (o :: rest) a w := by
  refine wpList_plain hgd fun K hK => ?_
  obtain ⟨v', w', hr, h2, h3⟩ := app_rows (P := P) (T := T) (t := t) ht hi hz0 hz1 hz2 hzc o.type hB hd hv hn
  unfold Oper.wp execOp
  simp only [ho, resolve, invoke, builtin, Sem.run_bind, Sem.run_pure, Result.andThen_ok, List.map_toArray, List.map_cons, List.map_nil, hs, hx, hr]
  exact hK _ _ (h v' w' h2 h3)
end
theorem info_Vertex : (Try.prog.info? 31).map (fun i => (i.zero, i.size, i.bytes)) = some (some (.agg #[.int .i64 0, .int .i64 0, .int .i64 0]), 3, 24) := by kernel_rfl
theorem info_Edge : (Try.prog.info? 33).map (fun i => (i.zero, i.size, i.bytes)) = some (some (.agg #[.int .i64 0, .int .i64 0, .int .i64 0]), 3, 24) := by kernel_rfl
theorem info_pr {T : TypeId} {z : Value} {s b : Nat} (h : (Try.prog.info? T).map (fun i => (i.zero, i.size, i.bytes)) = some (some z, s, b)) : ∃ i, Try.prog.info? T = some i ∧ i.zero = some z ∧ i.size = s ∧ i.bytes = b := by
  cases e : Try.prog.info? T with
  | none => rw [e] at h; cases h
  | some i =>
    rw [e] at h
    simp only [Option.map_some, Option.some.injEq, Prod.mk.injEq] at h
    exact ⟨i, rfl, h.1, h.2.1, h.2.2⟩
abbrev VOwn (w : World) (B : Nat) (v : Value) (L : List Vx) : Prop := TOwn Vx.id Vx.x Vx.y 31 w B v L
abbrev EOwn (w : World) (B : Nat) (v : Value) (L : List Eg) : Prop := TOwn Eg.id Eg.a Eg.b 33 w B v L
theorem pl_two2 {w : World} {p : Nat} {T : TypeId} {x y : Value} (h : Own w p T #[x, y]) : w.cell? ⟨p, 0, none⟩ = some x ∧ w.cell? ⟨p, 1, none⟩ = some y := ⟨(h.at_).1 0, (h.at_).1 1⟩
theorem keep_none {w w' : World} (h : w.grownBy w' (Value.slice none 0 0).ownBlock) : Chg (fun _ => False) w w' := (Chg.refl _ _).grown h fun k hk => by cases hk
theorem own_ty {w : World} {p q : Nat} {T U : TypeId} {cs ds : Array Value} (h : Own w p T cs) (k : Own w q U ds) (hT : T ≠ U) : p ≠ q := by
  rintro rfl
  unfold Own at h k
  rw [h] at k
  injection k with k
  injection k with _ e
  exact hT e
section
variable {v e : Value} {vs : List Vx} {es : List Eg} {w : World}
set_option maxRecDepth 10000 in
set_option maxHeartbeats 1000000 in
theorem copied_any (hv : VIn w v vs) (he : EIn w e es) (hn : vs.length ≤ 1000) (hm : es.length ≤ 1000) : Calls Try.prog 43 #[.agg #[v, e]] w fun r w' => ∃ v' e', r = .returned (.agg #[v', e']) ∧ VOwn w' w.heap.size v' vs ∧ EOwn w' w.heap.size e' es ∧ Below w.heap.size w w' := by
  obtain ⟨i0, hi0, hz0, hz1, hz2⟩ := info_pr info_Vertex
  obtain ⟨j0, hj0, hy0, hy1, hy2⟩ := info_pr info_Edge
  have HV : Hid (∀ W, Below w.heap.size w W → VIn W v vs) := Lib.hid fun W hW => TIn.below hv hW
  have HE : Hid (∀ W, Below w.heap.size w W → EIn W e es) := Lib.hid fun W hW => TIn.below he hW
  obtain ⟨a, c, rfl⟩ := hv.sl
  obtain ⟨a', c', rfl⟩ := he.sl
  clear hv he
  generalize hnn : vs.length = n at *
  generalize hmm : es.length = m at *
  have HN := Lib.hid hnn
  have HM := Lib.hid hmm
  clear hnn hmm
  have B0 : Hid (Below w.heap.size w (((w.alloc (.cells #[.slice a n c, .slice a' m c'] 25)).alloc (.cells #[.slice none 0 0, .slice none 0 0] 25)).alloc (.cells #[.slice none 0 0, .slice none 0 0] 25))) := Lib.hid (by repeat' (first | (with_reducible exact Below.refl _ _) | (with_reducible assumption) | (with_reducible refine below_drewN ?_ _) | (with_reducible refine Below.drew ?_) | (with_reducible refine Below.alloc ?_ ?_ _) | (with_reducible refine Below.setCell ?_ ?_ _) | (with_reducible refine then_ ?_ (by with_reducible assumption) ?_) | (with_reducible exact Nat.le_refl _) | (with_reducible exact Nat.le_succ _) | (with_reducible exact Nat.le_succ_of_le (by with_reducible assumption)) | omega | (simp; done) | (simp; omega) | (exact Nat.le_succ _) | (exact Nat.le_succ_of_le (by with_reducible assumption))))
  have O0 : Hid (Own (((w.alloc (.cells #[.slice a n c, .slice a' m c'] 25)).alloc (.cells #[.slice none 0 0, .slice none 0 0] 25)).alloc (.cells #[.slice none 0 0, .slice none 0 0] 25)) w.heap.size 25 #[.slice a n c, .slice a' m c']) := Lib.hid (((Own.made _ _ _).more _).more _)
  have P0 : Hid (Own (((w.alloc (.cells #[.slice a n c, .slice a' m c'] 25)).alloc (.cells #[.slice none 0 0, .slice none 0 0] 25)).alloc (.cells #[.slice none 0 0, .slice none 0 0] 25)) (w.heap.size + 1) 25 #[.slice none 0 0, .slice none 0 0]) := Lib.hid (Own.more (Own.made_at (by simp)) _)
  have Q0 : Hid (Own (((w.alloc (.cells #[.slice a n c, .slice a' m c'] 25)).alloc (.cells #[.slice none 0 0, .slice none 0 0] 25)).alloc (.cells #[.slice none 0 0, .slice none 0 0] 25)) (w.heap.size + 2) 25 #[.slice none 0 0, .slice none 0 0]) := Lib.hid (Own.made_at (by simp))
  go_enter Try.func43, Try.ntmps43
  go_upto_region 2 with fail
  generalize hW0 : ((w.alloc (.cells #[.slice a n c, .slice a' m c'] 25)).alloc (.cells #[.slice none 0 0, .slice none 0 0] 25)).alloc (.cells #[.slice none 0 0, .slice none 0 0] 25) = W0 at B0 O0 P0 Q0 ⊢
  clear hW0
  obtain ⟨o0, o1⟩ := pl_two2 O0.out
  obtain ⟨p0, p1⟩ := pl_two2 P0.out
  obtain ⟨q0, q1⟩ := pl_two2 Q0.out
  have f0 := Q0.out.at_.2.1
  go_upto_region 3 with (at_builtin; refine wpList_app_rows (P := Try.prog) (w := W0) (B := w.heap.size) (T := 31) (t := 22) rfl _ _ rfl Try.underlying22 hi0 hz0 hz1 hz2 rfl rfl rfl B0.out.size (TOwn.nil W0 w.heap.size) (HV.out _ B0.out) (by have := HN.out; simp; omega) ?_; intro v8 w8 hown hgrow; have HO8 := Lib.hid hown; have HG8 := Lib.hid hgrow; obtain ⟨ya, yc, rfl⟩ := hown.shape; clear hown hgrow; obtain ⟨q0, q1⟩ := pl_two2 ((keep_none HG8.out).own Q0.out (fun k => k)); have f0 := ((keep_none HG8.out).own Q0.out (fun k => k)).at_.2.1)
  have Z8 := keep_none HG8.out
  have Y8 : Below W0.heap.size W0 w8 := Z8.below (Nat.le_refl _) fun q k => k.elim
  have q8 := Z8.own Q0.out fun k => k
  have C8 : Chg (fun q => q = w.heap.size + 2) w8 (w8.setCell ⟨w.heap.size + 1 + 1, 0, none⟩ (.slice ya vs.length yc)) := (Chg.refl (fun q => q = w.heap.size + 2) w8).set ⟨w.heap.size + 1 + 1, 0, none⟩ (.inl rfl) _
  have V8 : Hid (VOwn (w8.setCell ⟨w.heap.size + 1 + 1, 0, none⟩ (.slice ya vs.length yc)) w.heap.size (.slice ya vs.length yc) vs) := Lib.hid (TOwn.keep (by have := HO8.out; rw [List.nil_append] at this; exact this) C8 fun g hg k => by
    obtain ⟨_, cur, ho⟩ := HO8.out.own hg
    exact own_ty ho q8 (by decide) k)
  have Q8 : Hid (Own (w8.setCell ⟨w.heap.size + 1 + 1, 0, none⟩ (.slice ya vs.length yc)) (w.heap.size + 2) 25 #[.slice ya vs.length yc, .slice none 0 0]) := Lib.hid ((q8.put 0 (.slice ya vs.length yc)).as (by simp))
  have O8 : Hid (Own (w8.setCell ⟨w.heap.size + 1 + 1, 0, none⟩ (.slice ya vs.length yc)) w.heap.size 25 #[.slice a n c, .slice a' m c']) := Lib.hid (C8.own (O0.out.keep Y8) fun k => by omega)
  have P8 : Hid (Own (w8.setCell ⟨w.heap.size + 1 + 1, 0, none⟩ (.slice ya vs.length yc)) (w.heap.size + 1) 25 #[.slice none 0 0, .slice none 0 0]) := Lib.hid (C8.own (P0.out.keep Y8) fun k => by omega)
  have B8 : Hid (Below w.heap.size w (w8.setCell ⟨w.heap.size + 1 + 1, 0, none⟩ (.slice ya vs.length yc))) := Lib.hid ((then_ B0.out Y8 B0.out.size).trans (C8.below (by have := (then_ B0.out Y8 B0.out.size).size; omega) fun q k => by omega))
  clear HO8 HG8 Z8 Y8 q8 C8 f0 q0 q1 o0 o1 p0 p1 O0 P0 Q0 B0
  generalize hW8 : w8.setCell ⟨w.heap.size + 1 + 1, 0, none⟩ (.slice ya vs.length yc) = W8 at V8 Q8 O8 P8 B8 ⊢
  clear hW8
  obtain ⟨o0, o1⟩ := pl_two2 O8.out
  obtain ⟨q0, q1⟩ := pl_two2 Q8.out
  have f0 := Q8.out.at_.2.1
  go_upto_region 4 with (at_builtin; refine wpList_app_rows (P := Try.prog) (w := W8) (B := w.heap.size) (T := 33) (t := 23) rfl _ _ rfl Try.underlying23 hj0 hy0 hy1 hy2 rfl rfl rfl B8.out.size (TOwn.nil W8 w.heap.size) (HE.out _ B8.out) (by have := HM.out; simp; omega) ?_; intro v9 w9 hown hgrow; have HO9 := Lib.hid hown; have HG9 := Lib.hid hgrow; obtain ⟨za, zc, rfl⟩ := hown.shape; clear hown hgrow; obtain ⟨q0, q1⟩ := pl_two2 ((keep_none HG9.out).own Q8.out (fun k => k)); have f0 := ((keep_none HG9.out).own Q8.out (fun k => k)).at_.2.1)
  have Z9 := keep_none HG9.out
  have Y9 : Below W8.heap.size W8 w9 := Z9.below (Nat.le_refl _) fun q k => k.elim
  have q9 := Z9.own Q8.out fun k => k
  have C9 : Chg (fun q => q = w.heap.size + 2) w9 (w9.setCell ⟨w.heap.size + 1 + 1, 1, none⟩ (.slice za es.length zc)) := (Chg.refl (fun q => q = w.heap.size + 2) w9).set ⟨w.heap.size + 1 + 1, 1, none⟩ (.inl rfl) _
  have V9 : Hid (VOwn (w9.setCell ⟨w.heap.size + 1 + 1, 1, none⟩ (.slice za es.length zc)) w.heap.size (.slice ya vs.length yc) vs) := Lib.hid (TOwn.keep (TOwn.below V8.out Y9) C9 fun g hg k => by
    obtain ⟨_, cur, ho⟩ := (TOwn.below V8.out Y9).own hg
    exact own_ty ho q9 (by decide) k)
  have E9 : Hid (EOwn (w9.setCell ⟨w.heap.size + 1 + 1, 1, none⟩ (.slice za es.length zc)) w.heap.size (.slice za es.length zc) es) := Lib.hid (TOwn.keep (by have := HO9.out; rw [List.nil_append] at this; exact this) C9 fun g hg k => by
    obtain ⟨_, cur, ho⟩ := HO9.out.own hg
    exact own_ty ho q9 (by decide) k)
  have Q9 : Hid (Own (w9.setCell ⟨w.heap.size + 1 + 1, 1, none⟩ (.slice za es.length zc)) (w.heap.size + 2) 25 #[.slice ya vs.length yc, .slice za es.length zc]) := Lib.hid ((q9.put 1 (.slice za es.length zc)).as (by simp))
  have P9 : Hid (Own (w9.setCell ⟨w.heap.size + 1 + 1, 1, none⟩ (.slice za es.length zc)) (w.heap.size + 1) 25 #[.slice none 0 0, .slice none 0 0]) := Lib.hid (C9.own (P8.out.keep Y9) fun k => by omega)
  have B9 : Hid (Below w.heap.size w (w9.setCell ⟨w.heap.size + 1 + 1, 1, none⟩ (.slice za es.length zc))) := Lib.hid ((then_ B8.out Y9 B8.out.size).trans (C9.below (by have := (then_ B8.out Y9 B8.out.size).size; omega) fun q k => by omega))
  clear HO9 HG9 Z9 Y9 q9 C9 f0 q0 q1 o0 o1 V8 Q8 O8 P8 B8
  generalize hW9 : w9.setCell ⟨w.heap.size + 1 + 1, 1, none⟩ (.slice za es.length zc) = W9 at V9 E9 Q9 P9 B9 ⊢
  clear hW9
  obtain ⟨q0, q1⟩ := pl_two2 Q9.out
  obtain ⟨p0, p1⟩ := pl_two2 P9.out
  have f0 := P9.out.at_.2.1
  go_wp2
  have C10 : Chg (fun q => q = w.heap.size + 1) W9 ((W9.setCell ⟨w.heap.size + 1, 0, none⟩ (.slice ya vs.length yc)).setCell ⟨w.heap.size + 1, 1, none⟩ (.slice za es.length zc)) := ((Chg.refl (fun q => q = w.heap.size + 1) W9).set ⟨w.heap.size + 1, 0, none⟩ (.inl rfl) _).set ⟨w.heap.size + 1, 1, none⟩ (.inl rfl) _
  refine bodyPost_ret (v := .agg #[.slice ya vs.length yc, .slice za es.length zc]) (by simp [results, Try.results43, go_sem, p0, p1]) rfl ⟨_, _, rfl, ?_, ?_, ?_⟩
  · exact V9.out.keep C10 fun g hg k => by
      obtain ⟨_, cur, ho⟩ := V9.out.own hg
      exact own_ty ho P9.out (by decide) k
  · exact E9.out.keep C10 fun g hg k => by
      obtain ⟨_, cur, ho⟩ := E9.out.own hg
      exact own_ty ho P9.out (by decide) k
  · exact B9.out.trans (C10.below B9.out.size fun q k => by omega)
end
end Go.Proofs.Ytdkmclaihojknaa.Pl