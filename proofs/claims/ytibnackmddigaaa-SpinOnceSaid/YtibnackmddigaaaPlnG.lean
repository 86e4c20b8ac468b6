
/- The contract of draw. Conditions: at most 100,000 vertices, and edges. -/
import Derived.Test.YtibnackmddigaaaPlnF
namespace Go.Proofs.Ytibnackmddigaaa.Pl
open Go.ChangeShapes Go.WideShapes Go.ChangeAt Go.RowKit
set_option linter.unusedVariables false
set_option linter.unusedSimpArgs false

/-- the last number of a row, or nought -/
def Lst {α : Type} (f : α → Int) (L : List α) (l : Int) : Prop := 0 ≤ l ∧ (∀ u ∈ L, f u ≤ l) ∧ (l = 0 ∨ ∃ u ∈ L, f u = l)
section
variable {α : Type} {f : α → Int} {L : List α} {l : Int}
theorem Lst.start : Lst f [] 0 := ⟨Int.le_refl _, fun _ h => (by cases h), .inl rfl⟩
theorem Lst.next (h : Lst f L l) {x : α} (hx : l < f x) : Lst f (L ++ [x]) (f x) := by
  obtain ⟨h0, h1, h2⟩ := h
  refine ⟨by omega, fun u hu => ?_, .inr ⟨x, by simp, rfl⟩⟩
  rcases List.mem_append.1 hu with hu | hu
  · have := h1 u hu; omega
  · rw [List.mem_singleton] at hu
    rw [hu]
    exact Int.le_refl _
theorem Lst.ok (h : Lst f L l) {x : Int} : l < x ↔ 0 < x ∧ ∀ u ∈ L, f u < x := by
  obtain ⟨h0, h1, h2⟩ := h
  constructor
  · intro h
    exact ⟨by omega, fun u hu => by have := h1 u hu; omega⟩
  · rintro ⟨h3, h4⟩
    rcases h2 with rfl | ⟨u, hu, e⟩
    · exact h3
    · have := h4 u hu; omega
end
theorem take_snoc {α : Type} (L : List α) (k : Nat) (hk : k < L.length) : L.take (k + 1) = L.take k ++ [L[k]'hk] := (List.take_append_getElem hk).symm
section
variable {w w' : World} {B d : Nat} {vs : List Vx} {es : List Eg}
theorem drw_new (w : World) (B a b c : Nat) {W : World} (hB : B ≤ a ∧ B ≤ b ∧ B ≤ c ∧ B ≤ d) (hne : a ≠ b ∧ a ≠ c ∧ b ≤ c ∧ b ≠ c) (ho : Own W d 124 #[.map (some a), .map (some b), .map (some c), .slice none 0 0, .slice none 0 0]) (h1 : W.heap[a]? = some (.map #[] 0)) (h2 : W.heap[b]? = some (.map #[] 0)) (h3 : W.heap[c]? = some (.map #[] 0)) : DrawAt W B d [] [] :=
  ⟨a, b, c, _, _, [], ho, ⟨hB.2.2.2, hB.1, hB.2.1, hB.2.2.1⟩, ⟨hne.1, hne.2.1, hne.2.2.2⟩, ⟨#[], 0, h1, by simp, by simp [plF, fV]⟩, ⟨#[], 0, h2, by simp [mtF]⟩, ⟨#[], 0, h3, by simp [jnF]⟩, World.ownsRow_nil _ _ _ _, World.ownsRow_nil _ _ _ _, rfl, fun x hx => by cases hx⟩
theorem obj_new {q : Nat} (o : Obj) (h : q = w.heap.size) : (w.alloc o).heap[q]? = some o := by
  subst h
  unfold World.alloc
  simp
theorem obj_more {q : Nat} {o o2 : Obj} (h : w.heap[q]? = some o) : (w.alloc o2).heap[q]? = some o := (Below.heap_alloc w o2 q (Array.getElem?_eq_some_iff.1 h).1).trans h
theorem own_DT {q : Nat} {T : TypeId} {cs : Array Value} (hc : Chg (DT w B) w w') (ho : Own w q T cs) (h1 : T ≠ 124) (h2 : T ≠ 37) (h3 : T ≠ 148) : Own w' q T cs := hc.own ho fun k => by
  rcases k.2 with ⟨es, ck, e⟩ | ⟨U, cs2, ho2, hU⟩
  · unfold Own at ho; rw [ho] at e; cases e
  · by_cases e : T = U
    · subst e; rcases hU with h | h | h
      · exact h1 h
      · exact h2 h
      · exact h3 h
    · exact own_ne ho ho2 e rfl
theorem chg_below (hc : Chg (DT w B) w w') {w0 : World} (h : Below B w0 w) (hB : B ≤ w.heap.size) : Below B w0 w' := h.trans (hc.below hB fun q k => k.1)
set_option maxRecDepth 10000 in
set_option maxHeartbeats 2000000 in
theorem draw_any (v e : Value) (vs : List Vx) (es : List Eg) (w : World) (hv : VIn w v vs) (he : EIn w e es) (hn : vs.length ≤ 100000) (hm : es.length ≤ 100000) :
    Calls Try.prog 38 #[.agg #[v, e]] w fun r w' => ((Rt vs es ∧ ∃ d, r = .returned (.tuple #[.pointer (some ⟨d, 0, none⟩), .bool true]) ∧ DrawAt w' w.heap.size d vs es) ∨ (¬ Rt vs es ∧ r = .returned (.tuple #[.pointer none, .bool false]))) ∧ Below w.heap.size w w' := by
  obtain ⟨a, cap, rfl, hc1, hc2, -, hcl⟩ := hv.open_
  obtain ⟨a', cap', rfl, hc1', hc2', -, hcl'⟩ := he.open_
  have HV := Lib.hid hcl
  have HE := Lib.hid hcl'
  clear hv he hcl hcl'
  obtain ⟨n, hnn⟩ : ∃ n, n = vs.length := ⟨_, rfl⟩
  obtain ⟨m, hmm⟩ : ∃ m, m = es.length := ⟨_, rfl⟩
  rw [← hnn] at hc1 hn ⊢
  rw [← hmm] at hc1' hm ⊢
  have HN := Lib.hid hnn
  have HM := Lib.hid hmm
  clear hnn hmm
  have hmk := @run_makeMap Try.prog
  go_enter Try.func38, Try.ntmps38
  go_wp2
  go_loopw [5, 18] (fun l j wr => ∃ (k : Nat) (z : Int), k ≤ n ∧ j = .int .i64 (k : Int) ∧ l = .int .i64 z ∧ Hid (∀ i, i < k → OkV vs i) ∧ Hid (Lst Vx.id (vs.take k) z) ∧ Hid (DrawAt wr w.heap.size (w.heap.size + 4) (vs.take k) []) ∧ Hid (Own wr w.heap.size 30 #[.slice a n cap, .slice a' m cap']) ∧ Hid (Below w.heap.size w wr)) (fun l j wr => n - (intOf j).toNat)
  case atStart =>
    refine ⟨0, 0, by omega, rfl, rfl, Lib.hid fun i hi => by omega, Lib.hid Lst.start, Lib.hid ?_, Lib.hid ?_, Lib.hid (by repeat' (first | (with_reducible exact Below.refl _ _) | (with_reducible assumption) | (with_reducible refine below_drewN ?_ _) | (with_reducible refine Below.drew ?_) | (with_reducible refine Below.alloc ?_ ?_ _) | (with_reducible refine Below.setCell ?_ ?_ _) | (with_reducible refine then_ ?_ (by with_reducible assumption) ?_) | (with_reducible exact Nat.le_refl _) | (with_reducible exact Nat.le_succ _) | (with_reducible exact Nat.le_succ_of_le (by with_reducible assumption)) | omega | (simp; done) | (simp; omega) | (exact Nat.le_succ _) | (exact Nat.le_succ_of_le (by with_reducible assumption))))⟩
    · exact drw_new w w.heap.size (w.heap.size + 1) (w.heap.size + 2) (w.heap.size + 3) (by omega) (by omega) (Own.made_at (by simp)) (obj_more (obj_more (obj_more (obj_new _ (by simp))))) (obj_more (obj_more (obj_new _ (by simp)))) (obj_more (obj_new _ (by simp)))
    · exact (((((Own.made w _ _).more _).more _).more _).more _)
  case round =>
    obtain ⟨k, z, hk, rfl, rfl, HOK, HL, HD, HP, HB⟩ := hrel
    obtain ⟨p1, p2, p3⟩ := HP.out.at_
    have HBz := Lib.hid HB.out.size
    by_cases hlt : k < n
    · have hkl : k < vs.length := by rw [← HN.out]; exact hlt
      obtain ⟨b, o, rfl, hb, hc⟩ := HV.out k hkl
      obtain ⟨c1, c2, c3⟩ := hc wr HB.out
      have TS := Lib.hid (take_snoc vs k hkl)
      have GE := Lib.hid (List.getElem?_eq_getElem hkl)
      have tkl : (vs.take k).length ≤ 100000 := by rw [List.length_take]; omega
      obtain ⟨x, hx⟩ : ∃ x, x = vs[k]'hkl := ⟨_, rfl⟩
      rw [← hx] at c1 c2 c3 TS GE
      clear hx hc HV
      obtain ⟨x1, x2, x3⟩ := x
      simp only at c1 c2 c3
      have OKK : Hid (OkV vs k ↔ z < x1 ∧ cAdd (vs.take k) [] x2 x3 = 0) := Lib.hid (by
        rw [HL.out.ok (x := x1)]
        constructor
        · intro h
          have := h _ GE.out
          exact ⟨⟨this.1, this.2.1⟩, this.2.2⟩
        · rintro ⟨⟨h1, h2⟩, h3⟩ v hv
          rw [GE.out] at hv
          injection hv with hv
          subst hv
          exact ⟨h1, h2, h3⟩)
      have BX := Lib.hid (bx1 wr 39 #[.int .i64 x1, .int .i64 x2, .int .i64 x3])
      have HB1 := Lib.hid (then_ HB.out BX.out HB.out.size)
      have OX := Lib.hid (Own.made wr 39 #[.int .i64 x1, .int .i64 x2, .int .i64 x3])
      by_cases hle : x1 ≤ z
      · have NR : Hid (¬ Rt vs es) := Lib.hid fun h => by have := OKK.out.1 (h.1 k); omega
        go_wp2
        go_ret2
        exact ⟨.inr ⟨NR.out, rfl⟩, HB1.out⟩
      · have CA := Lib.hid (canAdd_any (HD.out.below BX.out) (by omega) x2 x3)
        obtain ⟨c, hc⟩ : ∃ c, c = cAdd (vs.take k) [] x2 x3 := ⟨_, rfl⟩
        rw [← hc] at CA OKK
        have HC := Lib.hid hc
        clear hc
        by_cases h0 : c = 0
        · subst h0
          have OK9 : Hid (OkV vs k) := Lib.hid (OKK.out.2 ⟨by omega, rfl⟩)
          go_upto_region 8 with (go_at_call 57; refine CA.out.mono ?_; rintro e w2 ⟨rfl, b2⟩; have B2 := Lib.hid b2; clear b2)
          have D2 := Lib.hid ((HD.out.below BX.out).below B2.out)
          have O2 := Lib.hid (OX.out.keep B2.out)
          have P2 := Lib.hid ((HP.out.keep BX.out).keep B2.out)
          have HB2 := Lib.hid (then_ HB1.out B2.out HB1.out.size)
          have CK := cAdd_ok.1 HC.out.symm
          have AD := Lib.hid (add_any D2.out ⟨x1, x2, x3⟩ (hasV_no.2 fun u hu e => by have := HL.out.2.1 u hu; have e : u.id = x1 := e; omega) CK.2.1 tkl HB2.out.size)
          obtain ⟨o1, o2, o3⟩ := three_at O2.out
          clear CK CA BX OX HB1 HD p1 p2 p3 HP c1 c2 c3 OKK
          go_upto_region 9 with (go_at_call 58; refine AD.out.mono ?_; rintro e w3 ⟨rfl, d3, c3⟩; have D3 := Lib.hid d3; have C3 := Lib.hid c3; clear d3 c3)
          have HB3 := Lib.hid (chg_below C3.out HB2.out HB2.out.size)
          have O3 := Lib.hid (own_DT C3.out O2.out (by decide) (by decide) (by decide))
          have P3 := Lib.hid (own_DT C3.out P2.out (by decide) (by decide) (by decide))
          obtain ⟨o1, o2, o3⟩ := three_at O3.out
          go_wp2
          go_roundw
          case rel => exact ⟨k + 1, x1, by omega, by go_num, rfl, Lib.hid fun i hi => by
            rcases Nat.lt_succ_iff_lt_or_eq.1 hi with hi | rfl
            · exact HOK.out i hi
            · exact OK9.out, Lib.hid (by rw [TS.out]; exact HL.out.next (x := (⟨x1, x2, x3⟩ : Vx)) (by show z < x1; omega)), Lib.hid (by rw [TS.out]; exact D3.out), P3, HB3⟩
          case measure => simp [intOf] <;> omega
        · have t0 : (c != 0) = true := by simpa using h0
          have NR : Hid (¬ Rt vs es) := Lib.hid fun h => h0 (OKK.out.1 (h.1 k)).2
          go_wp2_with (go_at_call 57; refine CA.out.mono ?_; rintro e w2 ⟨rfl, b2⟩; have B2 := Lib.hid b2; clear b2)
          have HB2 := Lib.hid (then_ HB1.out B2.out HB1.out.size)
          go_ret2
          exact ⟨.inr ⟨NR.out, rfl⟩, HB2.out⟩
    · obtain rfl : k = n := by omega
      have ALL : Hid (∀ i, OkV vs i) := Lib.hid fun i v hv => by
        have hi := (List.getElem?_eq_some_iff.1 hv).1
        exact HOK.out i (by rw [HN.out]; exact hi) v hv
      have HD1 : Hid (DrawAt wr w.heap.size (w.heap.size + 4) vs []) := Lib.hid (by have := HD.out; rw [List.take_of_length_le (by rw [HN.out]; exact Nat.le_refl _)] at this; exact this)
      clear HOK HL HD HV hlt
      go_wp2
      go_loopw [5, 42] (fun l j wq => ∃ (k' : Nat) (z : Int), k' ≤ m ∧ j = .int .i64 (k' : Int) ∧ l = .int .i64 z ∧ Hid (∀ i, i < k' → OkE vs es i) ∧ Hid (Lst Eg.id (es.take k') z) ∧ Hid (DrawAt wq w.heap.size (w.heap.size + 4) vs (es.take k')) ∧ Hid (Below w.heap.size w wq)) (fun l j wq => m - (intOf j).toNat)
      case atStart => exact ⟨0, 0, by omega, rfl, rfl, Lib.hid fun i hi => by omega, Lib.hid Lst.start, HD1, HB⟩
      case round =>
        clear HP HD1 HBz HB p1 p2 p3
        obtain ⟨k', z, hk, rfl, rfl, HOK, HL, HD, HB⟩ := hrel
        have HBz := Lib.hid HB.out.size
        by_cases hlt : k' < m
        · have hkl : k' < es.length := by rw [← HM.out]; exact hlt
          obtain ⟨b, o, rfl, hb, hc⟩ := HE.out k' hkl
          obtain ⟨c1, c2, c3⟩ := hc _ HB.out
          have TS := Lib.hid (take_snoc es k' hkl)
          have GE := Lib.hid (List.getElem?_eq_getElem hkl)
          have tkl : (es.take k').length ≤ 100000 := by rw [List.length_take]; omega
          obtain ⟨x, hx⟩ : ∃ x, x = es[k']'hkl := ⟨_, rfl⟩
          rw [← hx] at c1 c2 c3 TS GE
          clear hx hc HE
          obtain ⟨x1, x2, x3⟩ := x
          simp only at c1 c2 c3
          have OKK : Hid (OkE vs es k' ↔ z < x1 ∧ cLink vs (es.take k') x2 x3 = 0) := Lib.hid (by
            rw [HL.out.ok (x := x1)]
            constructor
            · intro h
              have := h _ GE.out
              exact ⟨⟨this.1, this.2.1⟩, this.2.2⟩
            · rintro ⟨⟨h1, h2⟩, h3⟩ v hv
              rw [GE.out] at hv
              injection hv with hv
              subst hv
              exact ⟨h1, h2, h3⟩)
          have BX := Lib.hid (bx1 wr 71 #[.int .i64 x1, .int .i64 x2, .int .i64 x3])
          have HB1 := Lib.hid (then_ HB.out BX.out HB.out.size)
          have OX := Lib.hid (Own.made wr 71 #[.int .i64 x1, .int .i64 x2, .int .i64 x3])
          by_cases hle : x1 ≤ z
          · have NR : Hid (¬ Rt vs es) := Lib.hid fun h => by have := OKK.out.1 (h.2 k'); omega
            go_wp2
            go_ret2
            exact ⟨.inr ⟨NR.out, rfl⟩, HB1.out⟩
          · have CA := Lib.hid (canLink_any (HD.out.below BX.out) (by omega) x2 x3)
            obtain ⟨c, hc⟩ : ∃ c, c = cLink vs (es.take k') x2 x3 := ⟨_, rfl⟩
            rw [← hc] at CA OKK
            have HC := Lib.hid hc
            clear hc
            by_cases h0 : c = 0
            · subst h0
              have OK9 : Hid (OkE vs es k') := Lib.hid (OKK.out.2 ⟨by omega, rfl⟩)
              go_upto_region 17 with (go_at_call 59; refine CA.out.mono ?_; rintro e w2 ⟨rfl, b2⟩; have B2 := Lib.hid b2; clear b2)
              have D2 := Lib.hid ((HD.out.below BX.out).below B2.out)
              have O2 := Lib.hid (OX.out.keep B2.out)
              have HB2 := Lib.hid (then_ HB1.out B2.out HB1.out.size)
              have CK := cLink_ok.1 HC.out.symm
              have AD := Lib.hid (link_any D2.out ⟨x1, x2, x3⟩ CK.2.2.2.1 tkl HB2.out.size)
              obtain ⟨o1, o2, o3⟩ := three_at O2.out
              clear CK CA BX OX HB1 HD c1 c2 c3 OKK
              go_upto_region 18 with (go_at_call 60; refine AD.out.mono ?_; rintro e w3 ⟨rfl, d3, c3⟩; have D3 := Lib.hid d3; have C3 := Lib.hid c3; clear d3 c3)
              have HB3 := Lib.hid (chg_below C3.out HB2.out HB2.out.size)
              have O3 := Lib.hid (own_DT C3.out O2.out (by decide) (by decide) (by decide))
              obtain ⟨o1, o2, o3⟩ := three_at O3.out
              go_wp2
              go_roundw
              case rel => exact ⟨k' + 1, x1, by omega, by go_num, rfl, Lib.hid fun i hi => by
                rcases Nat.lt_succ_iff_lt_or_eq.1 hi with hi | rfl
                · exact HOK.out i hi
                · exact OK9.out, Lib.hid (by rw [TS.out]; exact HL.out.next (x := (⟨x1, x2, x3⟩ : Eg)) (by show z < x1; omega)), Lib.hid (by rw [TS.out]; exact D3.out), HB3⟩
              case measure => simp [intOf] <;> omega
            · have t0 : (c != 0) = true := by simpa using h0
              have NR : Hid (¬ Rt vs es) := Lib.hid fun h => h0 (OKK.out.1 (h.2 k')).2
              go_wp2_with (go_at_call 59; refine CA.out.mono ?_; rintro e w2 ⟨rfl, b2⟩; have B2 := Lib.hid b2; clear b2)
              have HB2 := Lib.hid (then_ HB1.out B2.out HB1.out.size)
              go_ret2
              exact ⟨.inr ⟨NR.out, rfl⟩, HB2.out⟩
        · obtain rfl : k' = m := by omega
          have RT : Hid (Rt vs es) := Lib.hid ⟨ALL.out, fun i v hv => by
            have hi := (List.getElem?_eq_some_iff.1 hv).1
            exact HOK.out i (by rw [HM.out]; exact hi) v hv⟩
          have HD2 : Hid (DrawAt wr w.heap.size (w.heap.size + 4) vs es) := Lib.hid (by have := HD.out; rw [List.take_of_length_le (by rw [HM.out]; exact Nat.le_refl _)] at this; exact this)
          go_wp2
          go_ret2
          exact ⟨.inl ⟨RT.out, _, rfl, HD2.out⟩, HB.out⟩
end
end Go.Proofs.Ytibnackmddigaaa.Pl