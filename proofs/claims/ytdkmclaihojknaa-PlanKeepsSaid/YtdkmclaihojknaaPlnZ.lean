
/- The reference's Add and Link. Conditions: those that each theorem names. -/
import Derived.Test.YtdkmclaihojknaaPlnY
namespace Go.Proofs.Ytdkmclaihojknaa.Pl
open Go.ChangeShapes Go.WideShapes Go.ChangeAt Go.RowKit
set_option linter.unusedVariables false
set_option linter.unusedSimpArgs false
/-- the next number -/
def nxt {α : Type} (f : α → Int) (L : List α) : Int := match L.getLast? with
  | some v => f v + 1
  | none => 1
theorem nxt_nil {α : Type} (f : α → Int) : nxt f [] = 1 := rfl
theorem nxt_at {α : Type} (f : α → Int) (L : List α) (h : 0 < L.length) : nxt f L = f (L[L.length - 1]'(by omega)) + 1 := by
  unfold nxt
  rw [List.getLast?_eq_getElem?, List.getElem?_eq_getElem (by omega)]
theorem three_new (W : World) (T : TypeId) (x y z : Value) (j : Nat) {t : Value} (hu : [x, y, z][j]? = some t) : (W.alloc (.cells #[x, y, z] T)).cell? ((⟨W.heap.size, 0, none⟩ : Addr).add j) = some t := by
  have e : (⟨W.heap.size, 0, none⟩ : Addr).add j = ⟨W.heap.size, j, none⟩ := by unfold Addr.add; split <;> simp_all
  rw [e]
  have := (Own.made W T #[x, y, z]).at_.1 j
  exact this.trans (by simpa using hu)
theorem one_in {α : Type} (p q r : α → Int) (W : World) (T : TypeId) (x : α) : TIn p q r (W.alloc (.cells #[.int .i64 (p x), .int .i64 (q x), .int .i64 (r x)] T)) (.slice (some ⟨W.heap.size, 0, none⟩) 1 1) [x] := by
  refine ⟨_, 1, rfl, Nat.le_refl _, by unfold maxLen; omega, .inr ⟨_, 0, rfl, (Own.made W T _).in_, fun i hi => ?_⟩⟩
  have hi : i = 0 := by simpa using hi
  subst hi
  have k := (Own.made W T #[.int .i64 (p x), .int .i64 (q x), .int .i64 (r x)]).at_.1
  exact ⟨k 0, k 1, k 2⟩
theorem TOwn.low {α : Type} {p q r : α → Int} {T : TypeId} {w : World} {B B' : Nat} {v : Value} {L : List α} (h : TOwn p q r T w B v L) (hB : B' ≤ B) : TOwn p q r T w B' v L := by
  refine ⟨h.1, ?_⟩
  rcases h.2 with h2 | ⟨g, cap, cur, rfl, r1, r2⟩
  · exact .inl h2
  · exact .inr ⟨g, cap, cur, rfl, Nat.le_trans hB r1, r2⟩
section
variable {v e : Value} {vs : List Vx} {es : List Eg} {w : World}
set_option maxRecDepth 10000 in
set_option maxHeartbeats 2000000 in
theorem radd_any (x y : Int) (hv : VIn w v vs) (he : EIn w e es) (hn : vs.length ≤ 1000) (hm : es.length ≤ 1000) (hid : ∀ u ∈ vs, 0 < Vx.id u ∧ Vx.id u ≤ 1099511627776) : Calls Try.prog 20 #[.agg #[v, e], .agg #[.int .i64 x, .int .i64 y]] w fun r w' => ∃ v' e', r = .returned (.agg #[v', e']) ∧ VIn w' v' (vs ++ [⟨nxt Vx.id vs, x, y⟩]) ∧ EIn w' e' es ∧ Below w.heap.size w w' := by
  obtain ⟨i0, hi0, hz0, hz1, hz2⟩ := info_pr info_Vertex
  have CP : Hid (∀ W, Below w.heap.size w W → Calls Try.prog 43 #[.agg #[v, e]] W fun r w' => ∃ v' e', r = .returned (.agg #[v', e']) ∧ VOwn w' W.heap.size v' vs ∧ EOwn w' W.heap.size e' es ∧ Below W.heap.size W w') := Lib.hid fun W hW => copied_any (TIn.below hv hW) (TIn.below he hW) hn hm
  clear hv he
  obtain ⟨Z, hZ⟩ : ∃ Z, Z = nxt Vx.id vs := ⟨_, rfl⟩
  have HZ := Lib.hid hZ
  rw [← hZ]
  clear hZ
  have HID := Lib.hid hid
  clear hid
  have B0 : Hid (Below w.heap.size w (((w.alloc (.cells #[v, e] 25)).alloc (.cells #[.int .i64 x, .int .i64 y] 27)).alloc (.cells #[.slice none 0 0, .slice none 0 0] 25))) := Lib.hid (by repeat' (first | (with_reducible exact Below.refl _ _) | (with_reducible assumption) | (with_reducible refine below_drewN ?_ _) | (with_reducible refine Below.drew ?_) | (with_reducible refine Below.alloc ?_ ?_ _) | (with_reducible refine Below.setCell ?_ ?_ _) | (with_reducible refine then_ ?_ (by with_reducible assumption) ?_) | (with_reducible exact Nat.le_refl _) | (with_reducible exact Nat.le_succ _) | (with_reducible exact Nat.le_succ_of_le (by with_reducible assumption)) | omega | (simp; done) | (simp; omega) | (exact Nat.le_succ _) | (exact Nat.le_succ_of_le (by with_reducible assumption))))
  have O0 : Hid (Own (((w.alloc (.cells #[v, e] 25)).alloc (.cells #[.int .i64 x, .int .i64 y] 27)).alloc (.cells #[.slice none 0 0, .slice none 0 0] 25)) w.heap.size 25 #[v, e]) := Lib.hid (((Own.made _ _ _).more _).more _)
  have R0 : Hid (Own (((w.alloc (.cells #[v, e] 25)).alloc (.cells #[.int .i64 x, .int .i64 y] 27)).alloc (.cells #[.slice none 0 0, .slice none 0 0] 25)) (w.heap.size + 2) 25 #[.slice none 0 0, .slice none 0 0]) := Lib.hid (Own.made_at (by simp))
  have PTB : Hid (Own (((w.alloc (.cells #[v, e] 25)).alloc (.cells #[.int .i64 x, .int .i64 y] 27)).alloc (.cells #[.slice none 0 0, .slice none 0 0] 25)) (w.heap.size + 1) 27 #[.int .i64 x, .int .i64 y]) := Lib.hid (Own.more (Own.made_at (by simp)) _)
  go_enter Try.func20, Try.ntmps20
  go_upto_region 1 with fail
  generalize hW0 : ((w.alloc (.cells #[v, e] 25)).alloc (.cells #[.int .i64 x, .int .i64 y] 27)).alloc (.cells #[.slice none 0 0, .slice none 0 0] 25) = W0 at B0 O0 R0 PTB ⊢
  clear hW0
  obtain ⟨o0, o1⟩ := pl_two2 O0.out
  go_upto_region 3 with (go_at_call 43; refine (CP.out _ B0.out).mono ?_; rintro r w1 ⟨v8, e8, rfl, hv8, he8, b1⟩; obtain ⟨sa, sc, rfl⟩ := hv8.shape; obtain ⟨sb, sd, rfl⟩ := he8.shape; have VV := Lib.hid hv8; have EE := Lib.hid he8; have B1 := Lib.hid b1; clear hv8 he8 b1)
  have BX := bx1 w1 25 #[Value.slice sa vs.length sc, Value.slice sb es.length sd]
  have VV2 : Hid (VOwn (w1.alloc (.cells #[Value.slice sa vs.length sc, Value.slice sb es.length sd] 25)) w.heap.size (Value.slice sa vs.length sc) vs) := Lib.hid (TOwn.low (TOwn.below VV.out BX) B0.out.size)
  have EE2 : Hid (EOwn (w1.alloc (.cells #[Value.slice sa vs.length sc, Value.slice sb es.length sd] 25)) w.heap.size (Value.slice sb es.length sd) es) := Lib.hid (TOwn.low (TOwn.below EE.out BX) B0.out.size)
  have Q2 := Lib.hid (Own.made w1 25 #[Value.slice sa vs.length sc, Value.slice sb es.length sd])
  have B2 := Lib.hid (then_ (then_ B0.out B1.out B0.out.size) BX (then_ B0.out B1.out B0.out.size).size)
  have R2 := Lib.hid ((R0.out.keep B1.out).keep BX)
  have PT2 := Lib.hid ((PTB.out.keep B1.out).keep BX)
  have Z1 : Hid (W0.heap.size ≤ w1.heap.size) := Lib.hid B1.out.size
  have Z0 : Hid (w.heap.size + 2 < W0.heap.size) := Lib.hid R0.out.in_
  obtain ⟨g, hg⟩ : ∃ g, g = w1.heap.size := ⟨_, rfl⟩
  generalize hW2 : w1.alloc (.cells #[Value.slice sa vs.length sc, Value.slice sb es.length sd] 25) = W2 at VV2 EE2 Q2 B2 R2 PT2 ⊢
  rw [← hg] at Q2 Z1 ⊢
  clear hW2 hg VV EE B1 BX CP O0 R0 o0 o1 B0 PTB
  obtain ⟨q0, q1⟩ := pl_two2 Q2.out
  have ff := Q2.out.at_.2.1
  obtain ⟨t0, t1⟩ := pl_two2 PT2.out
  have key : ∀ NZ : Unit, True := fun _ => trivial
  clear key
  have GE : Hid (∀ h0 : 0 < vs.length, ∃ b o z, Value.slice sa vs.length sc = Value.slice (some ⟨b, o, none⟩) vs.length sc ∧ W2.cell? ⟨b, o + (vs.length - 1) * 3, none⟩ = some (.int .i64 z) ∧ Z = z + 1 ∧ 0 < z ∧ z ≤ 1099511627776) := Lib.hid fun h0 => by
    obtain ⟨a9, c9, e9, _, _, _, h9⟩ := (TOwn.in_ VV2.out).open_
    injection e9 with e8 _ e7
    subst e8 e7
    obtain ⟨b, o, hb, _, hcell⟩ := h9 (vs.length - 1) (by omega)
    subst hb
    refine ⟨b, o, _, rfl, (hcell W2 (Below.refl _ _)).1, ?_, HID.out _ (List.getElem_mem _)⟩
    rw [HZ.out]
    exact nxt_at _ _ h0
  have GN : Hid (vs.length = 0 → Z = 1) := Lib.hid fun h0 => by
    rw [HZ.out, List.length_eq_zero_iff.1 h0]
    rfl
  have FIN : ∀ (w9 : World) (ya : Option Addr) (yc : Nat), TOwn Vx.id Vx.x Vx.y 31 w9 w.heap.size (.slice ya (vs.length + 1) yc) (vs ++ [⟨Z, x, y⟩]) → (W2.alloc (.cells #[.int .i64 Z, .int .i64 x, .int .i64 y] 31)).grownBy w9 (Value.slice sa vs.length sc).ownBlock →
      ∃ W9, W9 = w9.setCell ⟨g, 0, none⟩ (Value.slice ya (vs.length + 1) yc) ∧ TOwn Vx.id Vx.x Vx.y 31 W9 w.heap.size (Value.slice ya (vs.length + 1) yc) (vs ++ [⟨Z, x, y⟩]) ∧ EOwn W9 w.heap.size (Value.slice sb es.length sd) es ∧ Own W9 g 25 #[Value.slice ya (vs.length + 1) yc, Value.slice sb es.length sd] ∧ Own W9 (w.heap.size + 2) 25 #[.slice none 0 0, .slice none 0 0] ∧ Below w.heap.size w W9 ∧ Own w9 g 25 #[Value.slice sa vs.length sc, Value.slice sb es.length sd] := by
    intro w9 ya yc hy hg9
    have by_ := bx1 W2 31 #[.int .i64 Z, .int .i64 x, .int .i64 y]
    have c1 : Chg (fun q => (Value.slice sa vs.length sc).ownBlock = some q) (W2.alloc (.cells #[.int .i64 Z, .int .i64 x, .int .i64 y] 31)) w9 := (Chg.refl _ _).grown hg9 fun k hk => .inl hk
    have nT : ∀ {q : Nat} {U : TypeId} {cs : Array Value}, Own (W2.alloc (.cells #[.int .i64 Z, .int .i64 x, .int .i64 y] 31)) q U cs → U ≠ 31 → Own w9 q U cs := fun ho hT => c1.own ho fun e => by
      obtain ⟨_, cur, ho2⟩ := (TOwn.below VV2.out by_).own e
      exact own_ty ho ho2 hT rfl
    have g9 := nT (Q2.out.keep by_) (by decide)
    have r9 := nT (R2.out.keep by_) (by decide)
    have c2 : Chg (fun q => q = g) w9 (w9.setCell ⟨g, 0, none⟩ (Value.slice ya (vs.length + 1) yc)) := (Chg.refl (fun q => q = g) w9).set ⟨g, 0, none⟩ (.inl rfl) _
    have o9 : EOwn w9 w.heap.size (Value.slice sb es.length sd) es := (TOwn.below EE2.out by_).keep c1 fun q hq e => by
      obtain ⟨_, cur, ho2⟩ := (TOwn.below VV2.out by_).own e
      obtain ⟨_, cur3, ho3⟩ := (TOwn.below EE2.out by_).own hq
      exact own_ty ho3 ho2 (by decide) rfl
    have b9 : Below w.heap.size w w9 := (then_ B2.out by_ B2.out.size).trans (c1.below (by have := (then_ B2.out by_ B2.out.size).size; exact this) fun q e => by
      obtain ⟨hb, _⟩ := (TOwn.below VV2.out by_).own e
      exact hb)
    refine ⟨_, rfl, hy.keep c2 fun q hq e => ?_, o9.keep c2 fun q hq e => ?_, (g9.put 0 (Value.slice ya (vs.length + 1) yc)).as (by simp), c2.own r9 fun e => by have := Z0.out; have := Z1.out; omega, b9.trans (c2.below b9.size fun q e => by have := Z0.out; have := Z1.out; omega), g9⟩
    · obtain ⟨_, cur, ho⟩ := hy.own hq
      exact own_ty ho g9 (by decide) e
    · obtain ⟨_, cur, ho⟩ := o9.own hq
      exact own_ty ho g9 (by decide) e
  have FN := Lib.hid FIN
  clear FIN
  have hln : vs.length ≤ 1000 := by first | exact hn | exact hm
  have VL : Hid (∀ (W : World), TIn Vx.id Vx.x Vx.y (W2.alloc (.cells #[.int .i64 Z, .int .i64 x, .int .i64 y] 31)) (.slice (some ⟨W2.heap.size, 0, none⟩) 1 1) [(⟨Z, x, y⟩ : Vx)]) := Lib.hid fun _ => one_in Vx.id Vx.x Vx.y W2 31 (⟨Z, x, y⟩ : Vx)
  have MN2 : Hid (TOwn Vx.id Vx.x Vx.y 31 (W2.alloc (.cells #[.int .i64 Z, .int .i64 x, .int .i64 y] 31)) w.heap.size (Value.slice sa vs.length sc) vs) := Lib.hid (TOwn.below VV2.out (bx1 _ _ _))
  have BB2 : Hid (w.heap.size ≤ (W2.alloc (.cells #[.int .i64 Z, .int .i64 x, .int .i64 y] 31)).heap.size) := Lib.hid (Nat.le_trans B2.out.size (bx1 W2 31 #[.int .i64 Z, .int .i64 x, .int .i64 y]).size)
  have nlen : (vs ++ [(⟨Z, x, y⟩ : Vx)]).length = vs.length + 1 := by simp
  by_cases h0 : 0 < vs.length
  · obtain ⟨b, o, z, es9, hc, hzz, hz1', hz2'⟩ := GE.out h0
    have x1 : IntKind.i64.wrap ((vs.length : Int) - 1) = ((vs.length - 1 : Nat) : Int) := by rw [IntKind.wrap_i64]; omega
    have x2 : ((vs.length - 1 : Nat) : Int) < (vs.length : Int) := by omega
    have x3 : IntKind.i64.wrap (z + 1) = Z := by rw [IntKind.wrap_i64]; omega
    have x4 : (0 : Int) < (vs.length : Int) := by omega
    injection es9 with es9
    subst es9
    clear hzz hz1' hz2' GE GN
    generalize hnl : vs.length = nl at *
    go_upto_region 5 with fail
    clear hc x1 x2 x3
    go_upto_region 6 with (at_builtin; refine wpList_app_rows (P := Try.prog) (w := W2.alloc (.cells #[.int .i64 Z, .int .i64 x, .int .i64 y] 31)) (B := w.heap.size) (T := 31) (t := 22) rfl _ _ rfl Try.underlying22 hi0 hz0 hz1 hz2 rfl rfl rfl BB2.out MN2.out (VL.out W2) (by have := hnl; simp; omega) ?_; intro v9 w9 hown hgrow; obtain ⟨ya, yc, e9⟩ := hown.shape; rw [nlen] at e9; subst e9; obtain ⟨W9, hW9, f1, f2, f3, f4, f5, f6⟩ := FN.out w9 ya yc hown hgrow; have F1 := Lib.hid f1; have F2 := Lib.hid f2; have F3 := Lib.hid f3; have F4 := Lib.hid f4; have F5 := Lib.hid f5; have HW := Lib.hid hW9; clear hown hgrow f1 f2 f3 f4 f5 hW9; obtain ⟨q0, q1⟩ := pl_two2 f6; have ff := f6.at_.2.1)
    rw [← HW.out]
    clear HW ff q0 q1 f6
    obtain ⟨q0, q1⟩ := pl_two2 F3.out
    obtain ⟨r0, r1⟩ := pl_two2 F4.out
    have ff := F4.out.at_.2.1
    go_wp2
    have C10 : Chg (fun q => q = w.heap.size + 2) W9 ((W9.setCell ⟨w.heap.size + 2, 0, none⟩ (Value.slice ya (nl + 1) yc)).setCell ⟨w.heap.size + 2, 1, none⟩ (Value.slice sb es.length sd)) := ((Chg.refl (fun q => q = w.heap.size + 2) W9).set ⟨w.heap.size + 2, 0, none⟩ (.inl rfl) _).set ⟨w.heap.size + 2, 1, none⟩ (.inl rfl) _
    refine bodyPost_ret (v := .agg #[Value.slice ya (nl + 1) yc, Value.slice sb es.length sd]) (by simp [results, Try.results20, go_sem, r0, r1]) rfl ⟨_, _, rfl, ?_, ?_, ?_⟩
    · exact (TOwn.keep (F1).out C10 fun g hg k => by
        obtain ⟨_, cur, ho⟩ := (F1).out.own hg
        exact own_ty ho F4.out (by decide) k).in_
    · exact (TOwn.keep (F2).out C10 fun g hg k => by
        obtain ⟨_, cur, ho⟩ := (F2).out.own hg
        exact own_ty ho F4.out (by decide) k).in_
    · exact F5.out.trans (C10.below F5.out.size fun q k => by omega)
  · have hz := GN.out (by omega)
    have x4 : ¬ (0 : Int) < (vs.length : Int) := by omega
    subst hz
    clear GE GN
    generalize hnl : vs.length = nl at *
    have hnl0 : nl = 0 := by omega
    subst hnl0
    clear x4 h0
    go_upto_region 5 with fail
    go_upto_region 6 with (at_builtin; refine wpList_app_rows (P := Try.prog) (w := W2.alloc (.cells #[.int .i64 1, .int .i64 x, .int .i64 y] 31)) (B := w.heap.size) (T := 31) (t := 22) rfl _ _ rfl Try.underlying22 hi0 hz0 hz1 hz2 rfl rfl rfl BB2.out MN2.out (VL.out W2) (by have := hnl; simp; omega) ?_; intro v9 w9 hown hgrow; obtain ⟨ya, yc, e9⟩ := hown.shape; rw [nlen] at e9; subst e9; obtain ⟨W9, hW9, f1, f2, f3, f4, f5, f6⟩ := FN.out w9 ya yc hown hgrow; have F1 := Lib.hid f1; have F2 := Lib.hid f2; have F3 := Lib.hid f3; have F4 := Lib.hid f4; have F5 := Lib.hid f5; have HW := Lib.hid hW9; clear hown hgrow f1 f2 f3 f4 f5 hW9; obtain ⟨q0, q1⟩ := pl_two2 f6; have ff := f6.at_.2.1)
    rw [← HW.out]
    clear HW ff q0 q1 f6
    obtain ⟨q0, q1⟩ := pl_two2 F3.out
    obtain ⟨r0, r1⟩ := pl_two2 F4.out
    have ff := F4.out.at_.2.1
    go_wp2
    have C10 : Chg (fun q => q = w.heap.size + 2) W9 ((W9.setCell ⟨w.heap.size + 2, 0, none⟩ (Value.slice ya (0 + 1) yc)).setCell ⟨w.heap.size + 2, 1, none⟩ (Value.slice sb es.length sd)) := ((Chg.refl (fun q => q = w.heap.size + 2) W9).set ⟨w.heap.size + 2, 0, none⟩ (.inl rfl) _).set ⟨w.heap.size + 2, 1, none⟩ (.inl rfl) _
    refine bodyPost_ret (v := .agg #[Value.slice ya (0 + 1) yc, Value.slice sb es.length sd]) (by simp [results, Try.results20, go_sem, r0, r1]) rfl ⟨_, _, rfl, ?_, ?_, ?_⟩
    · exact (TOwn.keep (F1).out C10 fun g hg k => by
        obtain ⟨_, cur, ho⟩ := (F1).out.own hg
        exact own_ty ho F4.out (by decide) k).in_
    · exact (TOwn.keep (F2).out C10 fun g hg k => by
        obtain ⟨_, cur, ho⟩ := (F2).out.own hg
        exact own_ty ho F4.out (by decide) k).in_
    · exact F5.out.trans (C10.below F5.out.size fun q k => by omega)
set_option maxRecDepth 10000 in
set_option maxHeartbeats 2000000 in
theorem rlink_any (x y : Int) (hv : VIn w v vs) (he : EIn w e es) (hn : vs.length ≤ 1000) (hm : es.length ≤ 1000) (hid : ∀ u ∈ es, 0 < Eg.id u ∧ Eg.id u ≤ 1099511627776) : Calls Try.prog 21 #[.agg #[v, e], .int .i64 x, .int .i64 y] w fun r w' => ∃ v' e', r = .returned (.agg #[v', e']) ∧ VIn w' v' vs ∧ EIn w' e' (es ++ [⟨nxt Eg.id es, x, y⟩]) ∧ Below w.heap.size w w' := by
  obtain ⟨i0, hi0, hz0, hz1, hz2⟩ := info_pr info_Edge
  have CP : Hid (∀ W, Below w.heap.size w W → Calls Try.prog 43 #[.agg #[v, e]] W fun r w' => ∃ v' e', r = .returned (.agg #[v', e']) ∧ VOwn w' W.heap.size v' vs ∧ EOwn w' W.heap.size e' es ∧ Below W.heap.size W w') := Lib.hid fun W hW => copied_any (TIn.below hv hW) (TIn.below he hW) hn hm
  clear hv he
  obtain ⟨Z, hZ⟩ : ∃ Z, Z = nxt Eg.id es := ⟨_, rfl⟩
  have HZ := Lib.hid hZ
  rw [← hZ]
  clear hZ
  have HID := Lib.hid hid
  clear hid
  have B0 : Hid (Below w.heap.size w ((w.alloc (.cells #[v, e] 25)).alloc (.cells #[.slice none 0 0, .slice none 0 0] 25))) := Lib.hid (by repeat' (first | (with_reducible exact Below.refl _ _) | (with_reducible assumption) | (with_reducible refine below_drewN ?_ _) | (with_reducible refine Below.drew ?_) | (with_reducible refine Below.alloc ?_ ?_ _) | (with_reducible refine Below.setCell ?_ ?_ _) | (with_reducible refine then_ ?_ (by with_reducible assumption) ?_) | (with_reducible exact Nat.le_refl _) | (with_reducible exact Nat.le_succ _) | (with_reducible exact Nat.le_succ_of_le (by with_reducible assumption)) | omega | (simp; done) | (simp; omega) | (exact Nat.le_succ _) | (exact Nat.le_succ_of_le (by with_reducible assumption))))
  have O0 : Hid (Own ((w.alloc (.cells #[v, e] 25)).alloc (.cells #[.slice none 0 0, .slice none 0 0] 25)) w.heap.size 25 #[v, e]) := Lib.hid ((Own.made _ _ _).more _)
  have R0 : Hid (Own ((w.alloc (.cells #[v, e] 25)).alloc (.cells #[.slice none 0 0, .slice none 0 0] 25)) (w.heap.size + 1) 25 #[.slice none 0 0, .slice none 0 0]) := Lib.hid (Own.made_at (by simp))
  go_enter Try.func21, Try.ntmps21
  go_upto_region 1 with fail
  generalize hW0 : (w.alloc (.cells #[v, e] 25)).alloc (.cells #[.slice none 0 0, .slice none 0 0] 25) = W0 at B0 O0 R0 ⊢
  clear hW0
  obtain ⟨o0, o1⟩ := pl_two2 O0.out
  go_upto_region 3 with (go_at_call 43; refine (CP.out _ B0.out).mono ?_; rintro r w1 ⟨v8, e8, rfl, hv8, he8, b1⟩; obtain ⟨sa, sc, rfl⟩ := hv8.shape; obtain ⟨sb, sd, rfl⟩ := he8.shape; have VV := Lib.hid hv8; have EE := Lib.hid he8; have B1 := Lib.hid b1; clear hv8 he8 b1)
  have BX := bx1 w1 25 #[Value.slice sa vs.length sc, Value.slice sb es.length sd]
  have VV2 : Hid (VOwn (w1.alloc (.cells #[Value.slice sa vs.length sc, Value.slice sb es.length sd] 25)) w.heap.size (Value.slice sa vs.length sc) vs) := Lib.hid (TOwn.low (TOwn.below VV.out BX) B0.out.size)
  have EE2 : Hid (EOwn (w1.alloc (.cells #[Value.slice sa vs.length sc, Value.slice sb es.length sd] 25)) w.heap.size (Value.slice sb es.length sd) es) := Lib.hid (TOwn.low (TOwn.below EE.out BX) B0.out.size)
  have Q2 := Lib.hid (Own.made w1 25 #[Value.slice sa vs.length sc, Value.slice sb es.length sd])
  have B2 := Lib.hid (then_ (then_ B0.out B1.out B0.out.size) BX (then_ B0.out B1.out B0.out.size).size)
  have R2 := Lib.hid ((R0.out.keep B1.out).keep BX)
  have Z1 : Hid (W0.heap.size ≤ w1.heap.size) := Lib.hid B1.out.size
  have Z0 : Hid (w.heap.size + 1 < W0.heap.size) := Lib.hid R0.out.in_
  obtain ⟨g, hg⟩ : ∃ g, g = w1.heap.size := ⟨_, rfl⟩
  generalize hW2 : w1.alloc (.cells #[Value.slice sa vs.length sc, Value.slice sb es.length sd] 25) = W2 at VV2 EE2 Q2 B2 R2 ⊢
  rw [← hg] at Q2 Z1 ⊢
  clear hW2 hg VV EE B1 BX CP O0 R0 o0 o1 B0
  obtain ⟨q0, q1⟩ := pl_two2 Q2.out
  have ff := Q2.out.at_.2.1
  have key : ∀ NZ : Unit, True := fun _ => trivial
  clear key
  have GE : Hid (∀ h0 : 0 < es.length, ∃ b o z, Value.slice sb es.length sd = Value.slice (some ⟨b, o, none⟩) es.length sd ∧ W2.cell? ⟨b, o + (es.length - 1) * 3, none⟩ = some (.int .i64 z) ∧ Z = z + 1 ∧ 0 < z ∧ z ≤ 1099511627776) := Lib.hid fun h0 => by
    obtain ⟨a9, c9, e9, _, _, _, h9⟩ := (TOwn.in_ EE2.out).open_
    injection e9 with e8 _ e7
    subst e8 e7
    obtain ⟨b, o, hb, _, hcell⟩ := h9 (es.length - 1) (by omega)
    subst hb
    refine ⟨b, o, _, rfl, (hcell W2 (Below.refl _ _)).1, ?_, HID.out _ (List.getElem_mem _)⟩
    rw [HZ.out]
    exact nxt_at _ _ h0
  have GN : Hid (es.length = 0 → Z = 1) := Lib.hid fun h0 => by
    rw [HZ.out, List.length_eq_zero_iff.1 h0]
    rfl
  have FIN : ∀ (w9 : World) (ya : Option Addr) (yc : Nat), TOwn Eg.id Eg.a Eg.b 33 w9 w.heap.size (.slice ya (es.length + 1) yc) (es ++ [⟨Z, x, y⟩]) → (W2.alloc (.cells #[.int .i64 Z, .int .i64 x, .int .i64 y] 33)).grownBy w9 (Value.slice sb es.length sd).ownBlock →
      ∃ W9, W9 = w9.setCell ⟨g, 1, none⟩ (Value.slice ya (es.length + 1) yc) ∧ TOwn Eg.id Eg.a Eg.b 33 W9 w.heap.size (Value.slice ya (es.length + 1) yc) (es ++ [⟨Z, x, y⟩]) ∧ VOwn W9 w.heap.size (Value.slice sa vs.length sc) vs ∧ Own W9 g 25 #[Value.slice sa vs.length sc, Value.slice ya (es.length + 1) yc] ∧ Own W9 (w.heap.size + 1) 25 #[.slice none 0 0, .slice none 0 0] ∧ Below w.heap.size w W9 ∧ Own w9 g 25 #[Value.slice sa vs.length sc, Value.slice sb es.length sd] := by
    intro w9 ya yc hy hg9
    have by_ := bx1 W2 33 #[.int .i64 Z, .int .i64 x, .int .i64 y]
    have c1 : Chg (fun q => (Value.slice sb es.length sd).ownBlock = some q) (W2.alloc (.cells #[.int .i64 Z, .int .i64 x, .int .i64 y] 33)) w9 := (Chg.refl _ _).grown hg9 fun k hk => .inl hk
    have nT : ∀ {q : Nat} {U : TypeId} {cs : Array Value}, Own (W2.alloc (.cells #[.int .i64 Z, .int .i64 x, .int .i64 y] 33)) q U cs → U ≠ 33 → Own w9 q U cs := fun ho hT => c1.own ho fun e => by
      obtain ⟨_, cur, ho2⟩ := (TOwn.below EE2.out by_).own e
      exact own_ty ho ho2 hT rfl
    have g9 := nT (Q2.out.keep by_) (by decide)
    have r9 := nT (R2.out.keep by_) (by decide)
    have c2 : Chg (fun q => q = g) w9 (w9.setCell ⟨g, 1, none⟩ (Value.slice ya (es.length + 1) yc)) := (Chg.refl (fun q => q = g) w9).set ⟨g, 1, none⟩ (.inl rfl) _
    have o9 : VOwn w9 w.heap.size (Value.slice sa vs.length sc) vs := (TOwn.below VV2.out by_).keep c1 fun q hq e => by
      obtain ⟨_, cur, ho2⟩ := (TOwn.below EE2.out by_).own e
      obtain ⟨_, cur3, ho3⟩ := (TOwn.below VV2.out by_).own hq
      exact own_ty ho3 ho2 (by decide) rfl
    have b9 : Below w.heap.size w w9 := (then_ B2.out by_ B2.out.size).trans (c1.below (by have := (then_ B2.out by_ B2.out.size).size; exact this) fun q e => by
      obtain ⟨hb, _⟩ := (TOwn.below EE2.out by_).own e
      exact hb)
    refine ⟨_, rfl, hy.keep c2 fun q hq e => ?_, o9.keep c2 fun q hq e => ?_, (g9.put 1 (Value.slice ya (es.length + 1) yc)).as (by simp), c2.own r9 fun e => by have := Z0.out; have := Z1.out; omega, b9.trans (c2.below b9.size fun q e => by have := Z0.out; have := Z1.out; omega), g9⟩
    · obtain ⟨_, cur, ho⟩ := hy.own hq
      exact own_ty ho g9 (by decide) e
    · obtain ⟨_, cur, ho⟩ := o9.own hq
      exact own_ty ho g9 (by decide) e
  have FN := Lib.hid FIN
  clear FIN
  have hln : es.length ≤ 1000 := by first | exact hn | exact hm
  have VL : Hid (∀ (W : World), TIn Eg.id Eg.a Eg.b (W2.alloc (.cells #[.int .i64 Z, .int .i64 x, .int .i64 y] 33)) (.slice (some ⟨W2.heap.size, 0, none⟩) 1 1) [(⟨Z, x, y⟩ : Eg)]) := Lib.hid fun _ => one_in Eg.id Eg.a Eg.b W2 33 (⟨Z, x, y⟩ : Eg)
  have MN2 : Hid (TOwn Eg.id Eg.a Eg.b 33 (W2.alloc (.cells #[.int .i64 Z, .int .i64 x, .int .i64 y] 33)) w.heap.size (Value.slice sb es.length sd) es) := Lib.hid (TOwn.below EE2.out (bx1 _ _ _))
  have BB2 : Hid (w.heap.size ≤ (W2.alloc (.cells #[.int .i64 Z, .int .i64 x, .int .i64 y] 33)).heap.size) := Lib.hid (Nat.le_trans B2.out.size (bx1 W2 33 #[.int .i64 Z, .int .i64 x, .int .i64 y]).size)
  have nlen : (es ++ [(⟨Z, x, y⟩ : Eg)]).length = es.length + 1 := by simp
  by_cases h0 : 0 < es.length
  · obtain ⟨b, o, z, es9, hc, hzz, hz1', hz2'⟩ := GE.out h0
    have x1 : IntKind.i64.wrap ((es.length : Int) - 1) = ((es.length - 1 : Nat) : Int) := by rw [IntKind.wrap_i64]; omega
    have x2 : ((es.length - 1 : Nat) : Int) < (es.length : Int) := by omega
    have x3 : IntKind.i64.wrap (z + 1) = Z := by rw [IntKind.wrap_i64]; omega
    have x4 : (0 : Int) < (es.length : Int) := by omega
    injection es9 with es9
    subst es9
    clear hzz hz1' hz2' GE GN
    generalize hnl : es.length = nl at *
    go_upto_region 5 with fail
    clear hc x1 x2 x3
    go_upto_region 6 with (at_builtin; refine wpList_app_rows (P := Try.prog) (w := W2.alloc (.cells #[.int .i64 Z, .int .i64 x, .int .i64 y] 33)) (B := w.heap.size) (T := 33) (t := 23) rfl _ _ rfl Try.underlying23 hi0 hz0 hz1 hz2 rfl rfl rfl BB2.out MN2.out (VL.out W2) (by have := hnl; simp; omega) ?_; intro v9 w9 hown hgrow; obtain ⟨ya, yc, e9⟩ := hown.shape; rw [nlen] at e9; subst e9; obtain ⟨W9, hW9, f1, f2, f3, f4, f5, f6⟩ := FN.out w9 ya yc hown hgrow; have F1 := Lib.hid f1; have F2 := Lib.hid f2; have F3 := Lib.hid f3; have F4 := Lib.hid f4; have F5 := Lib.hid f5; have HW := Lib.hid hW9; clear hown hgrow f1 f2 f3 f4 f5 hW9; obtain ⟨q0, q1⟩ := pl_two2 f6; have ff := f6.at_.2.1)
    rw [← HW.out]
    clear HW ff q0 q1 f6
    obtain ⟨q0, q1⟩ := pl_two2 F3.out
    obtain ⟨r0, r1⟩ := pl_two2 F4.out
    have ff := F4.out.at_.2.1
    go_wp2
    have C10 : Chg (fun q => q = w.heap.size + 1) W9 ((W9.setCell ⟨w.heap.size + 1, 0, none⟩ (Value.slice sa vs.length sc)).setCell ⟨w.heap.size + 1, 1, none⟩ (Value.slice ya (nl + 1) yc)) := ((Chg.refl (fun q => q = w.heap.size + 1) W9).set ⟨w.heap.size + 1, 0, none⟩ (.inl rfl) _).set ⟨w.heap.size + 1, 1, none⟩ (.inl rfl) _
    refine bodyPost_ret (v := .agg #[Value.slice sa vs.length sc, Value.slice ya (nl + 1) yc]) (by simp [results, Try.results21, go_sem, r0, r1]) rfl ⟨_, _, rfl, ?_, ?_, ?_⟩
    · exact (TOwn.keep (F2).out C10 fun g hg k => by
        obtain ⟨_, cur, ho⟩ := (F2).out.own hg
        exact own_ty ho F4.out (by decide) k).in_
    · exact (TOwn.keep (F1).out C10 fun g hg k => by
        obtain ⟨_, cur, ho⟩ := (F1).out.own hg
        exact own_ty ho F4.out (by decide) k).in_
    · exact F5.out.trans (C10.below F5.out.size fun q k => by omega)
  · have hz := GN.out (by omega)
    have x4 : ¬ (0 : Int) < (es.length : Int) := by omega
    subst hz
    clear GE GN
    generalize hnl : es.length = nl at *
    have hnl0 : nl = 0 := by omega
    subst hnl0
    clear x4 h0
    go_upto_region 5 with fail
    go_upto_region 6 with (at_builtin; refine wpList_app_rows (P := Try.prog) (w := W2.alloc (.cells #[.int .i64 1, .int .i64 x, .int .i64 y] 33)) (B := w.heap.size) (T := 33) (t := 23) rfl _ _ rfl Try.underlying23 hi0 hz0 hz1 hz2 rfl rfl rfl BB2.out MN2.out (VL.out W2) (by have := hnl; simp; omega) ?_; intro v9 w9 hown hgrow; obtain ⟨ya, yc, e9⟩ := hown.shape; rw [nlen] at e9; subst e9; obtain ⟨W9, hW9, f1, f2, f3, f4, f5, f6⟩ := FN.out w9 ya yc hown hgrow; have F1 := Lib.hid f1; have F2 := Lib.hid f2; have F3 := Lib.hid f3; have F4 := Lib.hid f4; have F5 := Lib.hid f5; have HW := Lib.hid hW9; clear hown hgrow f1 f2 f3 f4 f5 hW9; obtain ⟨q0, q1⟩ := pl_two2 f6; have ff := f6.at_.2.1)
    rw [← HW.out]
    clear HW ff q0 q1 f6
    obtain ⟨q0, q1⟩ := pl_two2 F3.out
    obtain ⟨r0, r1⟩ := pl_two2 F4.out
    have ff := F4.out.at_.2.1
    go_wp2
    have C10 : Chg (fun q => q = w.heap.size + 1) W9 ((W9.setCell ⟨w.heap.size + 1, 0, none⟩ (Value.slice sa vs.length sc)).setCell ⟨w.heap.size + 1, 1, none⟩ (Value.slice ya (0 + 1) yc)) := ((Chg.refl (fun q => q = w.heap.size + 1) W9).set ⟨w.heap.size + 1, 0, none⟩ (.inl rfl) _).set ⟨w.heap.size + 1, 1, none⟩ (.inl rfl) _
    refine bodyPost_ret (v := .agg #[Value.slice sa vs.length sc, Value.slice ya (0 + 1) yc]) (by simp [results, Try.results21, go_sem, r0, r1]) rfl ⟨_, _, rfl, ?_, ?_, ?_⟩
    · exact (TOwn.keep (F2).out C10 fun g hg k => by
        obtain ⟨_, cur, ho⟩ := (F2).out.own hg
        exact own_ty ho F4.out (by decide) k).in_
    · exact (TOwn.keep (F1).out C10 fun g hg k => by
        obtain ⟨_, cur, ho⟩ := (F1).out.own hg
        exact own_ty ho F4.out (by decide) k).in_
    · exact F5.out.trans (C10.below F5.out.size fun q k => by omega)
end
end Go.Proofs.Ytdkmclaihojknaa.Pl