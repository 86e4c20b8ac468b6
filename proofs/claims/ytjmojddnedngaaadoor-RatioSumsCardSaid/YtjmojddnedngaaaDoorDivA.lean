
/- The contract of croftref03.Div: quotient and rest to nought, of a number through one that isn't nought. -/
import Derived.Test.YtjmojddnedngaaaDoorFloA
import Derived.Test.YtjmojddnedngaaaDoorRefU
import Derived.Maps.AppendAt
import Derived.OwnWalk
namespace Go.Proofs.YtjmojddnedngaaaDoor
open Go.ChangeShapes Go.WideShapes Go.ChangeAt Go.RowKit
set_option linter.unusedVariables false

theorem info_row : (Tryd.prog.info? 40).map (fun i => (i.zero, i.size, i.bytes)) = some (some (.slice none 0 0), 1, 24) := by kernel_rfl
theorem two_ge {j m : Nat} (h : 16 * m ≤ j) : 65536 ^ m ≤ 2 ^ j := by
  have h2 : (2 : Nat) ^ (16 * m) ≤ 2 ^ j := Nat.pow_le_pow_right (by decide) h
  rwa [Nat.pow_mul, show (2 : Nat) ^ 16 = 65536 from rfl] at h2
theorem rounds {A B k : Nat} (hA : A < 65536 ^ 20) (hB : 0 < B) (h : B * 2 ^ k ≤ A) : k < 320 := by
  rcases Nat.lt_or_ge k 320 with hk | hk
  · exact hk
  · have h1 := two_ge (j := k) (m := 20) (by omega)
    have h2 : 1 * 2 ^ k ≤ B * 2 ^ k := Nat.mul_le_mul_right _ hB
    omega
theorem short_20 {n : Nat} (h : n < 65536 ^ 20) : (digs n).length ≤ 20 := digs_short (by
  have : (n : Int) < ((65536 ^ 20 : Nat) : Int) := Int.ofNat_lt.2 h
  rwa [Int.natCast_pow 65536 20] at this)
theorem short_21 {n : Nat} (h : n < 65536 * 65536 ^ 20) : (digs n).length ≤ 21 := digs_short (by
  rw [Nat.mul_comm, ← Nat.pow_succ] at h
  have : (n : Int) < ((65536 ^ 21 : Nat) : Int) := Int.ofNat_lt.2 h
  rwa [Int.natCast_pow 65536 21] at this)
theorem cmp_le {m n : Nat} : cmpZ (m : Int) n ≤ 0 ↔ m ≤ n := by
  unfold cmpZ
  repeat' split
  all_goals omega
theorem RowP.grown {w w1 : World} {S : Nat → Prop} {a : Option Addr} {len cap : Nat} {zs : List Int} (h : RowP w S a len cap zs) {row : Option Nat} (hg : w.grownBy w1 row) (hS : ∀ b, S b → row ≠ some b) : RowP w1 S a len cap zs := by
  refine ⟨h.hlen, h.hcap, h.hmax, h.hcells.imp id ?_⟩
  rintro ⟨b, o, ha, hs, hl, hc⟩
  exact ⟨b, o, ha, hs, Nat.lt_of_lt_of_le hl hg.size, fun i z hz => (World.cell?_of_block (w := w) (a := ⟨b, o + i, none⟩) (hg.block b hl (fun e => hS b hs e.symm))).trans (hc i z hz)⟩
theorem tdiv_sg (x y : Int) : (if (decide (x < 0) != decide (y < 0)) = true then -((x.natAbs / y.natAbs : Nat) : Int) else ((x.natAbs / y.natAbs : Nat) : Int)) = x.tdiv y := by
  by_cases h1 : x < 0 <;> by_cases h2 : y < 0
  · obtain ⟨a, rfl⟩ : ∃ a : Nat, x = -(a : Int) := ⟨x.natAbs, by omega⟩
    obtain ⟨b, rfl⟩ : ∃ b : Nat, y = -(b : Int) := ⟨y.natAbs, by omega⟩
    rw [decide_eq_true h1, decide_eq_true h2, if_neg (by decide), Int.natAbs_neg, Int.natAbs_neg, Int.neg_tdiv, Int.tdiv_neg, Int.neg_neg]; rfl
  · obtain ⟨a, rfl⟩ : ∃ a : Nat, x = -(a : Int) := ⟨x.natAbs, by omega⟩
    obtain ⟨b, rfl⟩ : ∃ b : Nat, y = (b : Int) := ⟨y.natAbs, by omega⟩
    rw [decide_eq_true h1, decide_eq_false h2, if_pos (by decide), Int.natAbs_neg, Int.neg_tdiv]; rfl
  · obtain ⟨a, rfl⟩ : ∃ a : Nat, x = (a : Int) := ⟨x.natAbs, by omega⟩
    obtain ⟨b, rfl⟩ : ∃ b : Nat, y = -(b : Int) := ⟨y.natAbs, by omega⟩
    rw [decide_eq_false h1, decide_eq_true h2, if_pos (by decide), Int.natAbs_neg, Int.tdiv_neg]; rfl
  · obtain ⟨a, rfl⟩ : ∃ a : Nat, x = (a : Int) := ⟨x.natAbs, by omega⟩
    obtain ⟨b, rfl⟩ : ∃ b : Nat, y = (b : Int) := ⟨y.natAbs, by omega⟩
    rw [decide_eq_false h1, decide_eq_false h2, if_neg (by decide)]; rfl
theorem tmod_sg (x y : Int) : (if decide (x < 0) = true then -((x.natAbs % y.natAbs : Nat) : Int) else ((x.natAbs % y.natAbs : Nat) : Int)) = x.tmod y := by
  have hy : ∀ a : Int, a.tmod y = a.tmod (y.natAbs : Int) := fun a => by
    by_cases h2 : y < 0
    · obtain ⟨b, rfl⟩ : ∃ b : Nat, y = -(b : Int) := ⟨y.natAbs, by omega⟩
      rw [Int.tmod_neg, Int.natAbs_neg]; rfl
    · rw [show ((y.natAbs : Nat) : Int) = y by omega]
  rw [hy]
  by_cases h1 : x < 0
  · obtain ⟨a, rfl⟩ : ∃ a : Nat, x = -(a : Int) := ⟨x.natAbs, by omega⟩
    rw [decide_eq_true h1, if_pos rfl, Int.natAbs_neg, Int.neg_tmod]; rfl
  · obtain ⟨a, rfl⟩ : ∃ a : Nat, x = (a : Int) := ⟨x.natAbs, by omega⟩
    rw [decide_eq_false h1, if_neg (by decide)]; rfl
theorem RowP.take {w : World} {S : Nat → Prop} {a : Option Addr} {len cap : Nat} {zs : List Int} (h : RowP w S a len cap zs) (k : Nat) (hk : k ≤ len) : RowP w S a k cap (zs.take k) := by
  obtain ⟨h1, h2, h3, h4⟩ := h
  refine ⟨by rw [List.length_take]; omega, by omega, h3, ?_⟩
  rcases h4 with h4 | ⟨b, o, ha, hs, hl, hc⟩
  · left; rw [h4]; simp
  · right
    refine ⟨b, o, ha, hs, hl, fun i z hz => hc i z ?_⟩
    rw [List.getElem?_take] at hz
    split at hz
    · exact hz
    · cases hz
theorem trim_P (S : Nat → Prop) (neg : Bool) (a : Option Addr) (len cap : Nat) (zs : List Int) (n : Int) (w : World) (hr : RowP w S a len cap zs) (hd : Dg zs) (hn : vl zs = n) :
    Calls Tryd.prog 33 #[.agg #[.bool neg, .slice a len cap]] w fun e w' => ∃ v, e = .returned v ∧ NumP w' S v (if neg then -n else n) ∧ Below w.heap.size w w' := by
  refine (trim_any w.heap.size 0 neg a len cap zs w (hr.old 0)).mono ?_
  rintro e w' ⟨k, rfl, ht, hk, hb⟩
  have h0 : 0 ≤ n := hn ▸ vl_nonneg hd
  have hz : digs (if neg then -n else n).natAbs = tr zs := by
    rw [tr_digs hd, hn]
    congr 1
    split <;> omega
  refine ⟨_, rfl, ⟨a, k, cap, ?_, ?_⟩, hb⟩
  · congr 4
    by_cases e : n = 0
    · have : tr zs = [] := by rw [tr_digs hd, hn, e]; exact digs_zero
      rw [this, e]; simp
    · have : (tr zs).isEmpty = false := by
        rw [tr_digs hd, hn]
        cases h : digs n.toNat with
        | nil => have := digs_nil h; omega
        | cons _ _ => rfl
      rw [this]
      cases neg <;> simp <;> omega
  · rw [hz, ht]
    exact (hr.take k hk).keep hb
theorem zero_num (w : World) (S : Nat → Prop) : NumP w S (.agg #[.bool false, .slice none 0 0]) ((0 : Nat) : Int) := by
  refine ⟨none, 0, 0, rfl, ?_⟩
  rw [show ((0 : Nat) : Int).natAbs = 0 from rfl, digs_zero]
  exact ⟨rfl, Nat.le_refl _, Nat.zero_le _, .inl rfl⟩
/-- the rows of a row: doubled numbers -/
def RowsP (w : World) (v : Value) (B k : Nat) (xs : List Value) : Prop := ∀ i, i < k → ∃ a l c, xs[i]? = some (.slice a l c) ∧ RowP w (fun b => v.ownBlock ≠ some b) a l c (digs (B * 2 ^ i))
theorem RowsP.keep {w w' : World} {v : Value} {B k : Nat} {xs : List Value} (h : RowsP w v B k xs) (hb : Below w.heap.size w w') : RowsP w' v B k xs := fun i hi => by
  obtain ⟨a, l, c, h1, h2⟩ := h i hi
  exact ⟨a, l, c, h1, h2.keep hb⟩
/-- a row of digits behind an append to another row -/
theorem RowP.up {W w1 : World} {v v' : Value} {a : Option Addr} {l c : Nat} {zs : List Int} (h : RowP W (fun b => v.ownBlock ≠ some b) a l c zs) (hg : W.grownBy w1 v.ownBlock) (hat : v'.ownBlock = v.ownBlock ∨ v'.ownBlock = some W.heap.size) : RowP w1 (fun b => v'.ownBlock ≠ some b) a l c zs := by
  have h2 : RowP W (fun b => v.ownBlock ≠ some b ∧ v'.ownBlock ≠ some b) a l c zs := h.mono fun b hb hs => by
    refine ⟨hs, ?_⟩
    rcases hat with e | e
    · rw [e]; exact hs
    · rw [e]; intro e2; cases e2; omega
  exact (h2.grown hg fun b hs => hs.1).mono fun b _ hs => hs.2
/-- one row more -/
theorem RowsP.push {W w1 : World} {v v' : Value} {B k : Nat} {xs : List Value} {a : Option Addr} {l c : Nat} (h : RowsP W v B k xs) (hx : xs.length = k) (hd : RowP W (fun b => v.ownBlock ≠ some b) a l c (digs (B * 2 ^ k)))
    (hg : W.grownBy w1 v.ownBlock) (hat : v'.ownBlock = v.ownBlock ∨ v'.ownBlock = some W.heap.size) : RowsP w1 v' B (k + 1) (xs ++ [.slice a l c]) := fun i hi => by
  by_cases e : i = k
  · subst e
    exact ⟨a, l, c, by rw [List.getElem?_append_right (by omega), hx]; simp, hd.up hg hat⟩
  · obtain ⟨a', l', c', h1, h2⟩ := h i (by omega)
    exact ⟨a', l', c', by rw [List.getElem?_append_left (by omega)]; exact h1, h2.up hg hat⟩
theorem row_one (w : World) (v : Value) (T : TypeId) : ∀ (j : Nat) (u : Value), ([v] : List Value)[j]? = some u → (w.alloc (.cells #[v] T)).cell? ((⟨w.heap.size, 0, none⟩ : Addr).add j) = some u := by
  intro j u hj
  match j, hj with
  | 0, hj => simp at hj; subst hj; simp [Addr.add]
theorem ownsRow_keep {w w' : World} {base : Nat} {T : TypeId} {v : Value} {k : Nat} {xs : List Value} (h : w.ownsRow base T 1 v k xs) (hb : Below w.heap.size w w') : w'.ownsRow base T 1 v k xs := by
  refine ⟨h.1, h.2.imp id ?_⟩
  rintro ⟨g, cap, cur, h1, h2, h3, h4⟩
  have hg : g < w.heap.size := (h.lt g (by rw [h1]; rfl)).2
  exact ⟨g, cap, cur, h1, h2, (hb.block g hg).trans h3, h4⟩
theorem own_lt {w : World} {base : Nat} {T : TypeId} {v : Value} {k : Nat} {xs : List Value} (h : w.ownsRow base T 1 v k xs) {b : Nat} (hb : v.ownBlock = some b) : base ≤ b ∧ b < w.heap.size := h.lt b hb
/-- what stands in the row -/
theorem row_cell {w : World} {base : Nat} {T : TypeId} {v : Value} {k : Nat} {xs : List Value} (h : w.ownsRow base T 1 v k xs) {i : Nat} (hi : i < k) {u : Value} (hu : xs[i]? = some u) : ∃ g cap, v = .slice (some ⟨g, 0, none⟩) k cap ∧ w.cell? ⟨g, i, none⟩ = some u ∧ g < w.heap.size := by
  obtain ⟨hl, h | ⟨g, cap, cur, hv, _, hh, hn, hm, hs, ht⟩⟩ := h
  · omega
  · refine ⟨g, cap, hv, ?_, ?_⟩
    · rw [← ht] at hu
      rw [List.getElem?_take] at hu
      split at hu
      · simp [World.cell?, hh]
        simpa using hu
      · cases hu
    · by_cases e : g < w.heap.size
      · exact e
      · rw [Array.getElem?_eq_none (by omega)] at hh; cases hh

set_option maxHeartbeats 32000000 in
set_option maxRecDepth 20000 in
theorem div_num (S : Nat → Prop) (Ty Cy : Nat) (v v' : Value) (x y : Int) (w : World) (hx : NumP w S v x) (hy : Num w Ty Cy v' y) (hy0 : y ≠ 0) (hlx : x.natAbs < 65536 ^ 20) (hly : y.natAbs < 65536 ^ 20) :
    Calls Tryd.prog 35 #[v, v'] w fun e w' => ∃ v1 v2, e = .returned (.tuple #[v1, v2]) ∧ NumP w' (fun b => w.heap.size ≤ b) v1 (x.tdiv y) ∧ NumP w' (fun b => (S b ∧ b < w.heap.size) ∨ w.heap.size ≤ b) v2 (x.tmod y) ∧ Below w.heap.size w w' := by
  obtain ⟨xa, xl, xc, rfl, rx⟩ := hx
  obtain ⟨ya, yl, yc, rfl, ry⟩ := hy
  obtain ⟨A, hA⟩ : ∃ A, x.natAbs = A := ⟨_, rfl⟩
  obtain ⟨B, hB⟩ : ∃ B, y.natAbs = B := ⟨_, rfl⟩
  have hB0 : 0 < B := by omega
  rw [hA] at rx hlx
  rw [hB] at ry hly
  obtain ⟨sx, hsx⟩ : ∃ s, decide (x < 0) = s := ⟨_, rfl⟩
  obtain ⟨sy, hsy⟩ : ∃ s, decide (y < 0) = s := ⟨_, rfl⟩
  have HQ := Lib.hid (show (if (sx != sy) = true then -((A / B : Nat) : Int) else ((A / B : Nat) : Int)) = x.tdiv y by
    rw [← hsx, ← hsy, ← hA, ← hB]
    exact tdiv_sg x y)
  have HR := Lib.hid (show (if sx = true then -((A % B : Nat) : Int) else ((A % B : Nat) : Int)) = x.tmod y by
    rw [← hsx, ← hA, ← hB]
    exact tmod_sg x y)
  rw [hsx, hsy]
  have RX := Lib.hid (rx.mono (S' := fun b => S b ∧ b < w.heap.size) (fun b h h' => ⟨h', h⟩))
  have RY := Lib.hid ry
  clear hsx hsy hA hB rx ry hy0
  have HLX := Lib.hid hlx
  have HLY := Lib.hid hly
  clear hlx hly
  obtain ⟨i0, hi, hz0, hz1, hz2⟩ := info_parts info_row
  go_enter Tryd.func35, Tryd.ntmps35
  go_upto_region 1 with fail
  go_name_world W0 hW0
  have OA : Own W0 w.heap.size 42 #[.bool sx, .slice xa xl xc] := hW0 ▸ (by repeat' (first | (with_reducible assumption) | (with_reducible refine Own.drawnN ?_ _) | (with_reducible refine Own.drawn ?_) | (with_reducible refine Own.made_at ?_; first | rfl | (simp; done) | omega | (simp; omega)) | (with_reducible refine Own.more ?_ _) | (with_reducible refine Own.apart ?_ ?_ _ _; rotate_left; first | omega | (simp; done) | (simp; omega)) | (refine Own.put ?_ _ _)))
  have OB : Own W0 (w.heap.size + 1) 42 #[.bool sy, .slice ya yl yc] := hW0 ▸ (by repeat' (first | (with_reducible assumption) | (with_reducible refine Own.drawnN ?_ _) | (with_reducible refine Own.drawn ?_) | (with_reducible refine Own.made_at ?_; first | rfl | (simp; done) | omega | (simp; omega)) | (with_reducible refine Own.more ?_ _) | (with_reducible refine Own.apart ?_ ?_ _ _; rotate_left; first | omega | (simp; done) | (simp; omega)) | (refine Own.put ?_ _ _)))
  have OQ : Own W0 (w.heap.size + 2) 42 #[.bool false, .slice none 0 0] := hW0 ▸ (by repeat' (first | (with_reducible assumption) | (with_reducible refine Own.drawnN ?_ _) | (with_reducible refine Own.drawn ?_) | (with_reducible refine Own.made_at ?_; first | rfl | (simp; done) | omega | (simp; omega)) | (with_reducible refine Own.more ?_ _) | (with_reducible refine Own.apart ?_ ?_ _ _; rotate_left; first | omega | (simp; done) | (simp; omega)) | (refine Own.put ?_ _ _)))
  have OR : Own W0 (w.heap.size + 3) 42 #[.bool false, .slice none 0 0] := hW0 ▸ (by repeat' (first | (with_reducible assumption) | (with_reducible refine Own.drawnN ?_ _) | (with_reducible refine Own.drawn ?_) | (with_reducible refine Own.made_at ?_; first | rfl | (simp; done) | omega | (simp; omega)) | (with_reducible refine Own.more ?_ _) | (with_reducible refine Own.apart ?_ ?_ _ _; rotate_left; first | omega | (simp; done) | (simp; omega)) | (refine Own.put ?_ _ _)))
  have hB0' : Below w.heap.size w W0 := hW0 ▸ (by repeat' (first | (with_reducible exact Below.refl _ _) | (with_reducible assumption) | (with_reducible refine below_drewN ?_ _) | (with_reducible refine Below.drew ?_) | (with_reducible refine Below.alloc ?_ ?_ _) | (with_reducible refine Below.setCell ?_ ?_ _) | (with_reducible refine then_ ?_ (by with_reducible assumption) ?_) | (with_reducible exact Nat.le_refl _) | (with_reducible exact Nat.le_succ _) | (with_reducible exact Nat.le_succ_of_le (by with_reducible assumption)) | omega | (simp; done) | (simp; omega) | (exact Nat.le_succ _) | (exact Nat.le_succ_of_le (by with_reducible assumption))))
  clear hW0
  obtain ⟨P1, P2, P3⟩ := OB.at_
  have ND := num_digits
  have TR := Lib.hid (trim_num W0.heap.size W0.heap.size false ya yl yc (digs B) B W0 ((RowP.of (RY.out.keep hB0') (S := fun _ => True) (fun _ _ _ => trivial)).old _) (Dg.digs B) (vl_digs B))
  have e3 : ¬ w.heap.size = w.heap.size + 1 := by omega
  go_wp2_with (go_at_call 33; refine TR.out.mono ?_; rintro e w1 ⟨v1, rfl, ⟨da, dl, dc, rfl, hd⟩, hb1⟩)
  have ed : (if false = true then -(B : Int) else (B : Int)).natAbs = B := by simp
  rw [ed] at hd
  have OA1 := OA.keep hb1
  have OB1 := OB.keep hb1
  have OQ1 := OQ.keep hb1
  have OR1 := OR.keep hb1
  have hB1 := then_ hB0' hb1 hB0'.size
  have HD0 : RowP w1 (fun b => (Value.slice none 0 0).ownBlock ≠ some b) da dl dc (digs (B * 2 ^ 0)) := by
    rw [Nat.pow_zero, Nat.mul_one]
    exact RowP.of hd (fun b _ _ => by simp [Value.ownBlock])
  clear TR P1 P2 P3 OA OB OQ OR hB0' hd ed hb1 RY
  go_loopg [6, 7] (A + 1 - B) (fun g rv dv wr => ∃ (k : Nat) (xs : List Value) (da : Option Addr) (dl dc : Nat), g = A + 1 - B * 2 ^ k ∧ dv = .slice da dl dc ∧ Hid (∀ i, i < k → B * 2 ^ i ≤ A) ∧ RowP wr (fun b => rv.ownBlock ≠ some b) da dl dc (digs (B * 2 ^ k)) ∧ RowsP wr rv B k xs ∧ wr.ownsRow (w.heap.size + 4) 40 1 rv k xs ∧ Own wr w.heap.size 42 #[.bool sx, .slice xa xl xc] ∧ Own wr (w.heap.size + 1) 42 #[.bool sy, .slice ya yl yc] ∧ Own wr (w.heap.size + 2) 42 #[.bool false, .slice none 0 0] ∧ Own wr (w.heap.size + 3) 42 #[.bool false, .slice none 0 0] ∧ Below w.heap.size w wr)
  case atStart =>
    exact ⟨0, [], da, dl, dc, by simp, rfl, Lib.hid (fun i hi => by omega), HD0, fun i hi => by omega, World.ownsRow_nil _ _ _ _, OA1, OB1, OQ1, OR1, hB1⟩
  case round =>
    clear HD0 OA1 OB1 OQ1 OR1 hB1
    obtain ⟨k, xs, da, dl, dc, hg, rfl, HK, HD, HRS, hown, OA, OB, OQ, OR, hB⟩ := hrel
    replace hg := Lib.hid hg
    have hlen := hown.1
    obtain ⟨D, hD⟩ : ∃ D, B * 2 ^ k = D := ⟨_, rfl⟩
    have hD1 : 1 ≤ D := hD ▸ Nat.mul_pos hB0 (Nat.pow_pos (by decide))
    have hDb : D < 65536 * 65536 ^ 20 := by
      have h1 := HLX.out
      have h2 := HLY.out
      rcases Nat.eq_zero_or_pos k with e | e
      · rw [e, Nat.pow_zero, Nat.mul_one] at hD
        generalize 65536 ^ 20 = Z at *
        omega
      · obtain ⟨j, rfl⟩ : ∃ j, k = j + 1 := ⟨k - 1, by omega⟩
        have h3 := HK.out j (by omega)
        rw [Nat.pow_succ, ← Nat.mul_assoc] at hD
        generalize 65536 ^ 20 = Z at *
        omega
    have hDn : B * 2 ^ (k + 1) = D + D := by rw [Nat.pow_succ, ← Nat.mul_assoc, hD]; omega
    have hdl : dl ≤ 21 := by
      have := HD.hlen
      rw [hD] at this
      have := short_21 hDb
      omega
    have hk320 : k ≤ 320 := by
      rcases Nat.eq_zero_or_pos k with e | e
      · omega
      · have := rounds HLX.out hB0 (HK.out (k - 1) (by omega))
        omega
    have HKD : D ≤ A → Hid (∀ i, i < k + 1 → B * 2 ^ i ≤ A) := fun h => Lib.hid fun i hi => by
      by_cases e : i = k
      · rw [e, hD]; exact h
      · exact HK.out i (by omega)
    have HD' : Hid (B * 2 ^ k = D) := Lib.hid hD
    have HN := Lib.hid hDn
    rw [hD] at HD
    have hgd : Hid (gk = A + 1 - D) := Lib.hid (hD ▸ hg.out)
    have RXk := RX.out.keep hB
    have SZ := size_num D A wr.heap.size 0 wr.heap.size 0 da xa dl xl dc xc wr (HD.old 0) (RXk.old 0)
    obtain ⟨cz, hcz⟩ : ∃ c, cmpZ (D : Int) A = c := ⟨_, rfl⟩
    have hcl : cz ≤ 0 ↔ D ≤ A := hcz ▸ cmp_le
    have hcr := cmp_range (D : Int) A
    rw [hcz] at SZ hcr
    replace SZ := Lib.hid SZ
    replace HD := Lib.hid HD
    replace HRS := Lib.hid HRS
    replace RXk := Lib.hid RXk
    obtain ⟨P1, P2, P3⟩ := OA.at_
    have hs0 := OR.in_
    clear hcz hD hDn hDb hg
    by_cases hle : D ≤ A
    · have hc0 : cz ≤ 0 := hcl.2 hle
      have HK2 := HKD hle
      replace hle := Lib.hid hle
      clear hcl HKD HK
      replace hlen := Lib.hid hlen
      go_wp2_with fail
      go_at_call 37
      refine SZ.out.mono ?_
      rintro e w0 ⟨rfl, kd, rfl⟩
      obtain ⟨W1, hW1⟩ : ∃ W1, wr.drewN kd = W1 := ⟨_, rfl⟩
      have hbd : Below wr.heap.size wr W1 := hW1 ▸ below_drewN (Below.refl _ _) kd
      have hown1 : W1.ownsRow (w.heap.size + 4) 40 1 u6 k xs := hW1 ▸ hown
      have hB1 : Below w.heap.size w W1 := then_ hB hbd hB.size
      have HD1 := Lib.hid (HD.out.keep hbd)
      have HRS1 := Lib.hid (HRS.out.keep hbd)
      replace OA := OA.keep hbd
      replace OB := OB.keep hbd
      replace OQ := OQ.keep hbd
      replace OR := OR.keep hbd
      have hs1 := OR.in_
      rw [hW1]
      clear hW1 hown hB HD HRS hbd P1 P2 P3 SZ RXk hs0
      go_wp2_with (at_builtin; refine wpList_append_own_at _ rfl _ _ 85 rfl (w.heap.size + 4) 40 i0 (.slice none 0 0) 1 24 Tryd.underlying85 hi hz0 hz1 hz2 rfl (by decide) _ k xs rfl (hown1.alloc _) ⟨W1.heap.size, 0, none⟩ 1 1 [.slice da dl dc] (by rfl) rfl (row_one _ _ _) (by intro u hu; simp at hu; subst hu; rfl) (by unfold maxLen; omega) (by omega) (by simp; omega) ?_)
      intro v' w2 hown2 hgrow _ hat
      have hba : ∀ ob, Below W1.heap.size W1 (W1.alloc ob) := fun ob => (Below.refl _ _).alloc (Nat.le_refl _) _
      have HRS2 := Lib.hid (RowsP.push (HRS1.out.keep (hba _)) (by have := hlen.out; omega) (by rw [HD'.out]; exact HD1.out.keep (hba _)) hgrow (by simpa using hat))
      have HD2 := Lib.hid (RowP.up (HD1.out.keep (hba _)) hgrow (by simpa using hat))
      have OA2 := grow_own OA hgrow hown1 (by omega)
      have OB2 := grow_own OB hgrow hown1 (by omega)
      have OQ2 := grow_own OQ hgrow hown1 (by omega)
      have OR2 := grow_own OR hgrow hown1 (by omega)
      have hB2 : Below w.heap.size w w2 := (hB1.alloc hB1.size _).grown hgrow (by simp; omega) (fun q hq => by have := (own_lt hown1 hq).1; omega)
      have PL := Lib.hid (plus_num D D _ 0 _ _ _ da da dl dl dc dc w2 (by omega) (by omega) (HD2.out.old 0) (HD2.out.old 0))
      clear hown1 hgrow hat hba HRS1 HD1 HD2 hB1 OA OB OQ OR hs1
      go_wp2_with (go_at_call 36; refine PL.out.mono ?_; rintro e w3 ⟨a', l', c', rfl, hd3, hb3⟩)
      go_roundg (A + 1 - B * 2 ^ (k + 1))
      case measure =>
        have h1 := HN.out
        have h2 := hle.out
        have h3 := hgd.out
        omega
      case rel =>
        refine ⟨k + 1, xs ++ [.slice da dl dc], a', l', c', rfl, rfl, HK2, ?_, HRS2.out.keep hb3, ownsRow_keep hown2 hb3, OA2.keep hb3, OB2.keep hb3, OQ2.keep hb3, OR2.keep hb3, then_ hB2 hb3 hB2.size⟩
        rw [HN.out]
        exact RowP.of hd3 (fun b _ hb e => by have := (own_lt hown2 e).2; omega)
    · have hc0 : ¬ cz ≤ 0 := fun h => hle (hcl.1 h)
      have hlt := Lib.hid (show A < D by omega)
      clear hle hcl HKD hgd HD HN
      go_wp2_with fail
      go_at_call 37
      refine SZ.out.mono ?_
      rintro e w0 ⟨rfl, kd, rfl⟩
      obtain ⟨W1, hW1⟩ : ∃ W1, wr.drewN kd = W1 := ⟨_, rfl⟩
      have hbd : Below wr.heap.size wr W1 := hW1 ▸ below_drewN (Below.refl _ _) kd
      have hown1 : W1.ownsRow (w.heap.size + 4) 40 1 u6 k xs := hW1 ▸ hown
      have hB1 : Below w.heap.size w W1 := then_ hB hbd hB.size
      have HRS1 := Lib.hid (HRS.out.keep hbd)
      replace OA := OA.keep hbd
      replace OB := OB.keep hbd
      replace OQ := OQ.keep hbd
      replace OR := OR.keep hbd
      have hs1 := OR.in_
      have HX1 := Lib.hid (RXk.out.keep hbd)
      rw [hW1]
      clear hW1 hown hB HRS hbd P1 P2 P3 SZ RXk hs0
      obtain ⟨ra, rc, hu6⟩ : ∃ ra rc, u6 = .slice ra k rc := by
        rcases hown1.2 with ⟨h1, h2⟩ | ⟨g, cap, cur, h1, _⟩
        · exact ⟨none, 0, by rw [h1, h2]⟩
        · exact ⟨_, cap, h1⟩
      have hka : k ≤ 9223372036854775807 := by omega
      obtain ⟨P1, P2, P3⟩ := OA.at_
      go_upto_region 8 with fail
      go_name_world W2 hW2
      have OK2 : Own W2 W1.heap.size 42 #[.bool false, .slice none 0 0] := hW2 ▸ (by
        refine Own.as (cs := #[.bool false, .slice none 0 0]) ?_ rfl
        repeat' (first | (with_reducible assumption) | (with_reducible refine Own.drawnN ?_ _) | (with_reducible refine Own.drawn ?_) | (with_reducible refine Own.made_at ?_; first | rfl | (simp; done) | omega | (simp; omega)) | (with_reducible refine Own.more ?_ _) | (with_reducible refine Own.apart ?_ ?_ _ _; rotate_left; first | omega | (simp; done) | (simp; omega)) | (refine Own.put ?_ _ _)))
      have hb12 : Below W1.heap.size W1 W2 := hW2 ▸ (by repeat' (first | (with_reducible exact Below.refl _ _) | (with_reducible assumption) | (with_reducible refine below_drewN ?_ _) | (with_reducible refine Below.drew ?_) | (with_reducible refine Below.alloc ?_ ?_ _) | (with_reducible refine Below.setCell ?_ ?_ _) | (with_reducible refine then_ ?_ (by with_reducible assumption) ?_) | (with_reducible exact Nat.le_refl _) | (with_reducible exact Nat.le_succ _) | (with_reducible exact Nat.le_succ_of_le (by with_reducible assumption)) | omega | (simp; done) | (simp; omega) | (exact Nat.le_succ _) | (exact Nat.le_succ_of_le (by with_reducible assumption))))
      have HL2 : RowP W2 (fun b => ((S b ∧ b < w.heap.size) ∨ w.heap.size + 4 ≤ b) ∧ b ≠ W1.heap.size) xa xl xc (digs A) := (HX1.out.keep hb12).mono (fun b _ h => ⟨.inl h, by have := hB1.size; omega⟩)
      clear hW2 P1 P2 P3 HX1
      subst hu6
      replace hown1 := Lib.hid hown1
      go_wp2
      go_loopg [9, 10] k (fun g lv iv wr => ∃ (Q L : Nat) (s : Bool) (qa : Option Addr) (ql qc : Nat) (la : Option Addr) (ll lc : Nat), iv = .int .i64 ((g : Int) - 1) ∧ lv = .slice la ll lc ∧ g ≤ k ∧ Hid (A = B * 2 ^ g * Q + L ∧ L < B * 2 ^ g) ∧ Own wr W1.heap.size 42 #[.bool s, .slice qa ql qc] ∧ NumP wr (fun b => w.heap.size + 4 ≤ b ∧ b ≠ W1.heap.size) (.agg #[.bool s, .slice qa ql qc]) Q ∧ RowP wr (fun b => ((S b ∧ b < w.heap.size) ∨ w.heap.size + 4 ≤ b) ∧ b ≠ W1.heap.size) la ll lc (digs L) ∧ Below W1.heap.size W1 wr)
      case atStart =>
        exact ⟨0, A, false, none, 0, 0, xa, xl, xc, rfl, rfl, Nat.le_refl _, Lib.hid ⟨by omega, by rw [HD'.out]; exact hlt.out⟩, OK2, zero_num _ _, HL2, hb12⟩
      case round =>
        clear OK2 HL2 hb12 hlt
        obtain ⟨Q, L, s, qa, ql, qc, la, ll, lc, rfl, rfl, hgk, HAL, OK, HN, HLR, hB2⟩ := hrel
        replace HN := Lib.hid HN
        replace HLR := Lib.hid HLR
        cases gk with
        | zero =>
          have hAL := HAL.out
          rw [Nat.pow_zero, Nat.mul_one] at hAL
          have hq : A / B = Q := by rw [hAL.1, Nat.add_comm, Nat.add_mul_div_left _ _ hB0, Nat.div_eq_of_lt hAL.2, Nat.zero_add]
          have hr : A % B = L := by rw [hAL.1, Nat.add_comm, Nat.add_mul_mod_self_left, Nat.mod_eq_of_lt hAL.2]
          rw [hq] at HQ
          rw [hr] at HR
          have HRQ := Lib.hid (show RowP wr (fun b => w.heap.size + 4 ≤ b ∧ b ≠ W1.heap.size) qa ql qc (digs Q) by
            obtain ⟨a', l', c', e, r⟩ := HN.out
            obtain ⟨-, rfl, rfl, rfl⟩ : s = _ ∧ qa = a' ∧ ql = l' ∧ qc = c' := by simpa using e
            simpa using r)
          have OA3 := OA.keep hB2
          have OB3 := OB.keep hB2
          have OQ3 := OQ.keep hB2
          have OR3 := OR.keep hB2
          have hB3 : Below w.heap.size w wr := then_ hB1 hB2 hB1.size
          have hz : ((0 : Nat) : Int) - 1 = -1 := rfl
          have HQ2 := Lib.hid (show (if (!(sx == sy)) = true then -(Q : Int) else (Q : Int)) = x.tdiv y from HQ.out)
          have hs4 := hB1.size
          rw [hz]
          clear hz hAL HAL hq hr HN OA OB OQ OR hB2 hgk
          go_upto_region 15 with fail
          refine wp_region_seq (fun W => Own W w.heap.size 42 #[.bool sx, .slice xa xl xc] ∧ Own W (w.heap.size + 1) 42 #[.bool sy, .slice ya yl yc] ∧ Own W W1.heap.size 42 #[.bool s, .slice qa ql qc]) (0 :: 1 :: 2 :: 3 :: 4 :: 5 :: 6 :: 7 :: 9 :: 10 :: 11 :: 12 :: []) (1 :: 3 :: 6 :: 10 :: []) (0 :: 1 :: 2 :: 3 :: 4 :: 5 :: 6 :: 7 :: 9 :: 10 :: 11 :: 12 :: 8 :: 13 :: 14 :: 15 :: []) (by kernel_rfl) (by kernel_rfl) rfl (by kernel_rfl) rfl (⟨OA3.drawn, OB3.drawn, OK.drawn⟩) (by simp only [picked, List.filterMap_cons, List.filterMap_nil, List.getElem?_cons_zero, List.getElem?_cons_succ, Option.map_some]; exact rfl) ?_
          iterate 12
            refine seq_want (v := ?_) rfl rfl (fun W hS => ?_) ?_
            rotate_left
            · first
                | (conv => lhs; simp [go_sem]
                   first | done | exact rfl)
                | (have hS := hS rfl
                   obtain ⟨q1, q2, q3⟩ := hS
                   obtain ⟨q11, q12, q13⟩ := q1.at_
                   obtain ⟨q21, q22, q23⟩ := q2.at_
                   obtain ⟨q31, q32, q33⟩ := q3.at_
                   conv => lhs; simp [go_sem, *]
                   first | done | exact rfl)
            simp only [Act.put, List.setIfInBounds_toArray, List.set_cons_zero, List.set_cons_succ]
          refine seq_on rfl rfl fun K hK => ?_
          go_wp2_with (go_at_call 33; refine (trim_P (fun b => w.heap.size + 4 ≤ b ∧ b ≠ W1.heap.size) (!(sx == sy)) qa ql qc (digs Q) Q wr.drew (HRQ.out.keep ((Below.refl _ _).drew)) (Dg.digs Q) (vl_digs Q)).mono ?_; rintro e w5 ⟨v5, rfl, hn5, hb5⟩)
          have hb5' : Below wr.heap.size wr w5 := then_ ((Below.refl _ _).drew) hb5 (Nat.le_refl _)
          refine hK _ _ ⟨OA3.keep hb5', OB3.keep hb5', OK.keep hb5'⟩ ?_
          clear hK K
          refine seq_on rfl rfl fun K hK => ?_
          go_wp2_with (go_at_call 33; refine (trim_P (fun b => ((S b ∧ b < w.heap.size) ∨ w.heap.size + 4 ≤ b) ∧ b ≠ W1.heap.size) sx la ll lc (digs L) L w5 (HLR.out.keep hb5') (Dg.digs L) (vl_digs L)).mono ?_; rintro e w6 ⟨v6, rfl, hn6, hb6⟩)
          have hb6' : Below wr.heap.size wr w6 := then_ hb5' hb6 hb5'.size
          have OA6 := OA3.keep hb6'
          have OB6 := OB3.keep hb6'
          have OQ6 := OQ3.keep hb6'
          have OR6 := OR3.keep hb6'
          have OK6 := OK.keep hb6'
          have hB6 := then_ hB3 hb6' hB3.size
          refine hK _ _ ⟨OA6, OB6, OK6⟩ ?_
          clear hK K
          rw [HQ2.out] at hn5
          rw [HR.out] at hn6
          have HN5 := Lib.hid (hn5.keep hb6)
          have HN6 := Lib.hid hn6
          obtain ⟨s5, a5, l5, c5, rfl⟩ := hn5.shape
          obtain ⟨s6, a6, l6, c6, rfl⟩ := hn6.shape
          clear hn5 hn6 hb5 hb6 hb5' hb6' OA3 OB3 OQ3 OR3 OK HLR HRQ hB3
          obtain ⟨P1, P2, P3⟩ := OQ6.at_
          refine seq_on rfl rfl fun K hK => ?_
          go_wp2
          refine hK _ _ ⟨(OA6.apart (by omega) _ _).apart (by omega) _ _, (OB6.apart (by omega) _ _).apart (by omega) _ _, (OK6.apart (by omega) _ _).apart (by omega) _ _⟩ ?_
          clear hK K
          have OR7 : Own ((w6.setCell ⟨w.heap.size + 2, 0, none⟩ (.bool s5)).setCell ⟨w.heap.size + 2, 1, none⟩ (.slice a5 l5 c5)) (w.heap.size + 3) 42 #[.bool false, .slice none 0 0] := (OR6.apart (by omega) _ _).apart (by omega) _ _
          obtain ⟨R1, R2, R3⟩ := OR7.at_
          refine seq_last rfl rfl (by kernel_rfl) rfl fun K hK => ?_
          go_wp2
          refine hK _ _ ?_
          clear hK K
          refine seq_end ?_
          go_wp2
          refine bodyPost_ret (v := .tuple #[.agg #[.bool s5, .slice a5 l5 c5], .agg #[.bool s6, .slice a6 l6 c6]]) (by simp [results, Tryd.results35, go_sem, P1, R1]) rfl ⟨_, _, rfl, ?_, ?_, ?_⟩
          · exact ((((HN5.out.put (by omega) _).put (by omega) _).put (by omega) _).put (by omega) _).mono (fun b _ h => by omega)
          · exact ((((HN6.out.put (by omega) _).put (by omega) _).put (by omega) _).put (by omega) _).mono (fun b _ h => h.1.imp id (fun h => by omega))
          · repeat' (first | (with_reducible exact Below.refl _ _) | (with_reducible assumption) | (with_reducible refine below_drewN ?_ _) | (with_reducible refine Below.drew ?_) | (with_reducible refine Below.alloc ?_ ?_ _) | (with_reducible refine Below.setCell ?_ ?_ _) | (with_reducible refine then_ ?_ (by with_reducible assumption) ?_) | (with_reducible exact Nat.le_refl _) | (with_reducible exact Nat.le_succ _) | (with_reducible exact Nat.le_succ_of_le (by with_reducible assumption)) | omega | (simp; done) | (simp; omega) | (exact Nat.le_succ _) | (exact Nat.le_succ_of_le (by with_reducible assumption)))
        | succ j =>
          obtain ⟨ja, jl, jc, hxj, hrj⟩ := HRS1.out j (by omega)
          obtain ⟨g, cap, hv, hcell, hgl⟩ := row_cell hown1.out (show j < k by omega) hxj
          obtain ⟨rfl, rfl⟩ : ra = some ⟨g, 0, none⟩ ∧ rc = cap := by simpa using hv
          have HRJ := Lib.hid hrj
          obtain ⟨R, hR⟩ : ∃ R, B * 2 ^ j = R := ⟨_, rfl⟩
          have hR2 : B * 2 ^ (j + 1) = R + R := by rw [Nat.pow_succ, ← Nat.mul_assoc, hR]; omega
          have hAL := HAL.out
          rw [hR2] at hAL
          have hR0 : 1 ≤ R := hR ▸ Nat.mul_pos hB0 (Nat.pow_pos (by decide))
          have hQA : Q ≤ A := by
            have h1 := Nat.mul_le_mul_right Q (show 1 ≤ R + R by omega)
            rw [Nat.one_mul] at h1
            omega
          have hQ20 := Nat.le_trans (short_20 (Nat.lt_of_le_of_lt hQA HLX.out)) (show 20 ≤ 100000000 by decide)
          have AD := Lib.hid (add_num 0 _ _ _ _ _ _ (Q : Int) (Q : Int) wr (Nat.zero_le _) (HN.out.old 0) (HN.out.old 0) (by simpa using hQ20) (by simpa using hQ20))
          have hcj : wr.cell? ⟨g, j, none⟩ = some (.slice ja jl jc) := by rw [hB2.cell (cell_lt hcell)]; exact hcell
          have hj : ((j + 1 : Nat) : Int) - 1 = (j : Int) := by omega
          rw [hj]
          rw [hR] at HRJ
          have HR' := Lib.hid hR
          have HAL2 := Lib.hid hAL
          have HQA := Lib.hid hQA
          have hs2 := hB2.size
          obtain ⟨P1, P2, P3⟩ := OK.at_
          clear hj hR hR2 hAL hQA hQ20 hv hxj hrj hcell HAL
          go_upto_region 12 with (go_at_call 17; refine AD.out.mono ?_; rintro e w2 ⟨v2, rfl, hn2, hb2⟩; obtain ⟨sn, na, nl, nc, rfl⟩ := hn2.shape; replace hn2 := Lib.hid hn2; have OK1 := OK.keep hb2; obtain ⟨P1, P2, P3⟩ := OK1.at_)
          go_name_world V2 hV2
          have OK2 : Own V2 W1.heap.size 42 #[.bool sn, .slice na nl nc] := hV2 ▸ (((OK1.put 0 _).put 1 _).as rfl)
          have HN2 : NumP V2 (fun b => w.heap.size + 4 ≤ b ∧ b ≠ W1.heap.size) (.agg #[.bool sn, .slice na nl nc]) ((Q : Int) + Q) := hV2 ▸ (((NumP.of hn2.out (fun b _ h => by have := hB1.size; have := OK.in_; omega)).put (by omega) _).put (by omega) _)
          have HL2 : RowP V2 (fun b => ((S b ∧ b < w.heap.size) ∨ w.heap.size + 4 ≤ b) ∧ b ≠ W1.heap.size) la ll lc (digs L) := hV2 ▸ (((HLR.out.keep hb2).put (by omega) _).put (by omega) _)
          have hBV : Below W1.heap.size W1 V2 := hV2 ▸ (((then_ hB2 hb2 hB2.size).setCell (Nat.le_refl _) _).setCell (Nat.le_refl _) _)
          have hcv : V2.cell? ⟨g, j, none⟩ = some (.slice ja jl jc) := by rw [hBV.cell (by show g < _; omega), ← hB2.cell (by show g < _; omega)]; exact hcj
          clear hV2 P1 P2 P3 AD hn2 hb2 OK1 OK HN HLR hcj hB2
          have HRV := Lib.hid (HRJ.out.keep hBV)
          replace HL2 := Lib.hid HL2
          replace HN2 := Lib.hid HN2
          obtain ⟨cz, hcz⟩ : ∃ c, cmpZ (R : Int) L = c := ⟨_, rfl⟩
          have hcl : cz ≤ 0 ↔ R ≤ L := hcz ▸ cmp_le
          have hcr := cmp_range (R : Int) L
          rw [hcz] at hcr
          have HCZ := Lib.hid hcz
          have hj0 : (0 : Int) ≤ (j : Int) := by omega
          have hj1 : (j : Int) < (k : Int) := by omega
          clear hcz HRJ
          refine wp_region_seq (fun W => W.cell? ⟨g, j, none⟩ = some (.slice ja jl jc)) (0 :: 1 :: 2 :: 3 :: 4 :: 5 :: 7 :: 9 :: []) (3 :: []) (0 :: 1 :: 2 :: 3 :: 4 :: 5 :: 6 :: 7 :: 8 :: 9 :: []) (by kernel_rfl) (by kernel_rfl) rfl (by kernel_rfl) rfl (hcv) (by simp only [picked, List.filterMap_cons, List.filterMap_nil, List.getElem?_cons_zero, List.getElem?_cons_succ, Option.map_some]; exact rfl) ?_
          iterate 6
            refine seq_want (v := ?_) rfl rfl (fun W hS => ?_) ?_
            rotate_left
            · first
                | (conv => lhs; simp [go_sem, hj0, hj1]
                   first | done | exact rfl)
                | (have hS := hS rfl
                   have q1 := hS
                   conv => lhs; simp [go_sem, *, hj0, hj1]
                   first | done | exact rfl)
            simp only [Act.put, List.setIfInBounds_toArray, List.set_cons_zero, List.set_cons_succ]
          refine seq_on rfl rfl fun K hK => ?_
          go_wp2_with (go_at_call 33; refine (trim_P (fun b => ((S b ∧ b < w.heap.size) ∨ w.heap.size + 4 ≤ b) ∧ b ≠ W1.heap.size) false la ll lc (digs L) L V2.drew (HL2.out.keep ((Below.refl _ _).drew)) (Dg.digs L) (vl_digs L)).mono ?_; rintro e w3 ⟨v3, rfl, ⟨ta, tl, tc, rfl, hd3⟩, hb3⟩)
          have hbd3 : Below V2.heap.size V2 w3 := then_ ((Below.refl _ _).drew) hb3 (Nat.le_refl _)
          have hc3 := keep hbd3 hcv
          rw [show (if false = true then -(L : Int) else (L : Int)).natAbs = L by simp] at hd3
          refine hK _ _ hc3 ?_
          clear hK K
          iterate 1
            refine seq_want (v := ?_) rfl rfl (fun W hS => ?_) ?_
            rotate_left
            · conv => lhs; simp [go_sem, num_digits]
              first | done | exact rfl
            simp only [Act.put, List.setIfInBounds_toArray, List.set_cons_zero, List.set_cons_succ]
          refine seq_on rfl rfl fun K hK => ?_
          have SZ := size_num R L w3.heap.size 0 w3.heap.size 0 ja ta jl tl jc tc w3 ((HRV.out.keep hbd3).old 0) (hd3.old 0)
          rw [HCZ.out] at SZ
          go_wp2_with (go_at_call 37; refine SZ.mono ?_; rintro e w4 ⟨rfl, kd, rfl⟩)
          have hbd4 : Below V2.heap.size V2 (w3.drewN kd) := below_drewN hbd3 kd
          refine hK _ _ (keep hbd4 hcv) ?_
          clear hK K SZ hd3 hc3 hb3 hbd3
          iterate 1
            refine seq_want (v := ?_) rfl rfl (fun W hS => ?_) ?_
            rotate_left
            · conv => lhs; simp [go_sem]
              first | done | exact rfl
            simp only [Act.put, List.setIfInBounds_toArray, List.set_cons_zero, List.set_cons_succ]
          refine seq_end ?_
          obtain ⟨W3, hW3⟩ : ∃ W3, w3.drewN kd = W3 := ⟨_, rfl⟩
          rw [hW3] at hbd4 ⊢
          clear hW3
          have hc4 := keep hbd4 hcv
          have OK3 := OK2.keep hbd4
          have HN3 := Lib.hid (HN2.out.keep hbd4)
          have HL3 := Lib.hid (HL2.out.keep hbd4)
          have HR3 := Lib.hid (HRV.out.keep hbd4)
          have hB3 : Below W1.heap.size W1 W3 := then_ hBV hbd4 hBV.size
          clear hbd4 hcv OK2 HN2 HL2 HRV hBV
          by_cases hle : cz ≤ 0
          · have hRL : R ≤ L := hcl.1 hle
            have FIN := Lib.hid (show A = B * 2 ^ j * (Q + Q + 1) + (L - R) ∧ L - R < B * 2 ^ j by
              rw [HR'.out]
              have h1 := HAL2.out.1
              have h2 := HAL2.out.2
              rw [Nat.add_mul] at h1
              rw [Nat.mul_add, Nat.mul_add, Nat.mul_one]
              omega)
            have hll : ll ≤ 100000000 := by
              have h1 := HL3.out.hlen
              have h2 : L ≤ A := by have := HAL2.out.1; omega
              have h3 := short_20 (Nat.lt_of_le_of_lt h2 HLX.out)
              omega
            have MN := Lib.hid (minus_num L R hRL W3.heap.size 0 0 W3.heap.size 0 la ja ll jl lc jc W3 hll (HL3.out.old 0) (HR3.out.old 0))
            have hs3 := OK3.in_
            have hs4 := hB1.size
            replace hle := Lib.hid hle
            have hle2 : cz ≤ 0 := hle.out
            clear hcl hll
            go_upto_region 14 with (first
              | (go_at_call 38; refine MN.out.mono ?_; rintro e w5 ⟨a5, l5, c5, zs, rfl, hd5, hg5, hv5, hb5⟩; replace hd5 := Lib.hid hd5; replace hg5 := Lib.hid hg5; replace hv5 := Lib.hid hv5)
              | (go_at_call 33; refine (trim_P (fun b => ((S b ∧ b < w.heap.size) ∨ w.heap.size + 4 ≤ b) ∧ b ≠ W1.heap.size) false a5 l5 c5 zs ((L - R : Nat) : Int) w5 (RowP.of hd5.out (fun b _ hb => by omega)) hg5.out (by have := hv5.out; omega)).mono ?_; rintro e w6 ⟨v6, rfl, ⟨ta, tl, tc, rfl, hd6⟩, hb6⟩))
            rw [show (if false = true then -((L - R : Nat) : Int) else ((L - R : Nat) : Int)).natAbs = L - R by simp] at hd6
            have hb36 : Below W3.heap.size W3 w6 := then_ hb5 hb6 hb5.size
            have OK6 := OK3.keep hb36
            have HN6 := Lib.hid (HN3.out.keep hb36)
            have HL6 := Lib.hid hd6
            have hB6 : Below W1.heap.size W1 w6 := then_ hB3 hb36 hB3.size
            have h2Q : 2 * Q ≤ A := by
              have h1 := FIN.out.1
              have h3 : 1 ≤ B * 2 ^ j := Nat.mul_pos hB0 (Nat.pow_pos (by decide))
              have h4 := Nat.mul_le_mul_right (Q + Q + 1) h3
              omega
            have hql := Nat.le_trans (short_20 (Nat.lt_of_le_of_lt h2Q HLX.out)) (show 20 ≤ 100000000 by decide)
            have hl1 : (digs ((Q : Int) + Q).natAbs).length ≤ 100000000 := by
              rw [show ((Q : Int) + Q).natAbs = 2 * Q by omega]; exact hql
            have hl2 : (digs (1 : Int).natAbs).length ≤ 100000000 := by
              rw [show (1 : Int).natAbs = 1 from rfl, digs_pos (by decide)]
              simp [digs_zero]
            have AD1 : ∀ w', Below w6.heap.size w6 w' → Own w' w6.heap.size 3 #[.int .i64 1] → Calls Tryd.prog 17 #[.agg #[.bool sn, .slice na nl nc], .agg #[.bool false, .slice (some ⟨w6.heap.size, 0, none⟩) 1 1]] w' fun e w'' => ∃ v2, e = .returned v2 ∧ Num w'' 0 w'.heap.size v2 ((Q : Int) + Q + 1) ∧ Below w'.heap.size w' w'' := fun w' hb ho =>
              add_num 0 _ _ _ _ _ _ _ _ w' (Nat.zero_le _) ((HN6.out.keep hb).old 0) ((one_num ho (S := fun _ => True) trivial).old 0) hl1 hl2
            have AD2 := Lib.hid AD1
            obtain ⟨P1, P2, P3⟩ := OK6.at_
            clear AD1 hl1 hl2 hql hd6 hb5 hb6 hd5 hg5 hv5 MN OK3 HN3 HL3 HR3 hB3 h2Q hb36 hc4
            go_wp2_with (go_at_call 17; refine (AD2.out _ (by repeat' (first | (with_reducible exact Below.refl _ _) | (with_reducible assumption) | (with_reducible refine below_drewN ?_ _) | (with_reducible refine Below.drew ?_) | (with_reducible refine Below.alloc ?_ ?_ _) | (with_reducible refine Below.setCell ?_ ?_ _) | (with_reducible refine then_ ?_ (by with_reducible assumption) ?_) | (with_reducible exact Nat.le_refl _) | (with_reducible exact Nat.le_succ _) | (with_reducible exact Nat.le_succ_of_le (by with_reducible assumption)) | omega | (simp; done) | (simp; omega) | (exact Nat.le_succ _) | (exact Nat.le_succ_of_le (by with_reducible assumption)))) (by repeat' (first | (with_reducible assumption) | (with_reducible refine Own.drawnN ?_ _) | (with_reducible refine Own.drawn ?_) | (with_reducible refine Own.made_at ?_; first | rfl | (simp; done) | omega | (simp; omega)) | (with_reducible refine Own.more ?_ _) | (with_reducible refine Own.apart ?_ ?_ _ _; rotate_left; first | omega | (simp; done) | (simp; omega)) | (refine Own.put ?_ _ _)))).mono ?_; rintro e w7 ⟨v7, rfl, hn7, hb7⟩; obtain ⟨s7, a7, l7, c7, rfl⟩ := hn7.shape; replace hn7 := Lib.hid hn7; have hb7' : Below w6.heap.size w6 w7 := then_ (by repeat' (first | (with_reducible exact Below.refl _ _) | (with_reducible assumption) | (with_reducible refine below_drewN ?_ _) | (with_reducible refine Below.drew ?_) | (with_reducible refine Below.alloc ?_ ?_ _) | (with_reducible refine Below.setCell ?_ ?_ _) | (with_reducible refine then_ ?_ (by with_reducible assumption) ?_) | (with_reducible exact Nat.le_refl _) | (with_reducible exact Nat.le_succ _) | (with_reducible exact Nat.le_succ_of_le (by with_reducible assumption)) | omega | (simp; done) | (simp; omega) | (exact Nat.le_succ _) | (exact Nat.le_succ_of_le (by with_reducible assumption)))) hb7 (by simp); have OK7 := OK6.keep hb7'; have HL7 := Lib.hid (HL6.out.keep hb7'); have hB7 := then_ hB6 hb7' hB6.size; clear P1 P2 P3; obtain ⟨P1, P2, P3⟩ := OK7.at_)
            go_roundg j
            case measure => omega
            case rel =>
              refine ⟨Q + Q + 1, L - R, s7, a7, l7, c7, ta, tl, tc, by go_num, rfl, by omega, FIN, ((OK7.put 0 _).put 1 _).as rfl, ?_, (HL7.out.put (by omega) _).put (by omega) _, (hB7.setCell (Nat.le_refl _) _).setCell (Nat.le_refl _) _⟩
              have e : (((Q + Q + 1 : Nat)) : Int) = (Q : Int) + Q + 1 := by omega
              rw [e]
              exact ((NumP.of hn7.out (fun b _ h => by have := OK6.in_; simp at h; omega)).put (by omega) _).put (by omega) _
          · have hlt2 : L < R := by
              rcases Nat.lt_or_ge L R with h | h
              · exact h
              · exact absurd (hcl.2 h) hle
            have FIN := Lib.hid (show A = B * 2 ^ j * (Q + Q) + L ∧ L < B * 2 ^ j by
              rw [HR'.out]
              refine ⟨?_, hlt2⟩
              have h1 := HAL2.out.1
              rw [Nat.add_mul] at h1
              rw [Nat.mul_add]
              exact h1)
            clear hcl
            go_wp2
            go_roundg j
            case measure => omega
            case rel =>
              refine ⟨Q + Q, L, sn, na, nl, nc, la, ll, lc, by go_num, rfl, by omega, FIN, OK3, ?_, HL3.out, hB3⟩
              have := HN3.out
              rwa [← Int.natCast_add] at this
end Go.Proofs.YtjmojddnedngaaaDoor
