/- merged: Rows of digits whose block is told by a predicate; the contract of croftref03.Power: 2 to the k, k at most 300. The contract of croftref03.Floor: the greatest whole number not above a number through 2 to the n (n at most 300 counts). -/
import Derived.Test.YtdnjkminicmffaaDoorRefY
import Derived.Test.YtdnjkminicmffaaDoorMulA
section
namespace Go.Proofs.YtdnjkminicmffaaDoor
open Go.ChangeShapes Go.WideShapes Go.ChangeAt Go.RowKit
set_option linter.unusedVariables false

theorem digs_short {n k : Nat} (h : (n : Int) < 65536 ^ k) : (digs n).length ≤ k := by
  rcases Nat.lt_or_ge k (digs n).length with hk | hk
  · exfalso
    have hn : n ≠ 0 := by rintro rfl; rw [digs_zero] at hk; simp at hk
    obtain ⟨h1, _⟩ := digs_len hn
    have h2 : (65536 : Int) ^ k ≤ 65536 ^ ((digs n).length - 1) := by
      obtain ⟨t, ht⟩ : ∃ t, (digs n).length - 1 = k + t := ⟨(digs n).length - 1 - k, by omega⟩
      rw [ht, Int.pow_add]
      have h4 : (0 : Int) < 65536 ^ k := Int.pow_pos (by decide)
      have h5 : (0 : Int) < 65536 ^ t := Int.pow_pos (by decide)
      have := Int.mul_le_mul_of_nonneg_left (show (1 : Int) ≤ 65536 ^ t by omega) (show (0 : Int) ≤ 65536 ^ k by omega)
      omega
    omega
  · exact hk
theorem fit_short {z : Int} (h : Fit z) : (digs z.natAbs).length ≤ 16 := by
  refine digs_short ?_
  obtain ⟨h1, h2⟩ := h
  rw [show (65536 : Int) ^ 16 = 115792089237316195423570985008687907853269984665640564039457584007913129639936 by decide]
  omega
theorem two_lt {j m : Nat} (h : j < 16 * m) : (((2 : Nat) ^ j : Nat) : Int) < 65536 ^ m := by
  have h2 : (2 : Nat) ^ j < 2 ^ (16 * m) := Nat.pow_lt_pow_right (by decide) h
  rw [Nat.pow_mul, show (2 : Nat) ^ 16 = 65536 from rfl] at h2
  have h3 : (((2 : Nat) ^ j : Nat) : Int) < ((65536 ^ m : Nat) : Int) := Int.ofNat_lt.2 h2
  rwa [Int.natCast_pow 65536 m] at h3
theorem pow_short {j : Nat} (h : j ≤ 300) : (digs ((2 : Int) ^ j).natAbs).length ≤ 19 := by
  refine digs_short ?_
  have h1 : ((2 : Int) ^ j).natAbs = 2 ^ j := by rw [Int.natAbs_pow]; rfl
  rw [h1]
  exact two_lt (by omega)

/-- a slice of ints holds these digits, in a block of which S says true -/
structure RowP (w : World) (S : Nat → Prop) (a : Option Addr) (len cap : Nat) (zs : List Int) : Prop where
  hlen : zs.length = len
  hcap : len ≤ cap
  hmax : cap ≤ maxLen
  hcells : zs = [] ∨ ∃ b o, a = some ⟨b, o, none⟩ ∧ S b ∧ b < w.heap.size ∧ ∀ i z, zs[i]? = some z → w.cell? ⟨b, o + i, none⟩ = some (.int .i64 z)
theorem RowP.of {w : World} {T C : Nat} {a : Option Addr} {len cap : Nat} {zs : List Int} (h : DRow w T C a len cap zs) {S : Nat → Prop} (hS : ∀ b, b < w.heap.size → b < T ∨ C ≤ b → S b) : RowP w S a len cap zs := by
  refine ⟨h.hlen, h.hcap, h.hmax, ?_⟩
  by_cases e : zs = []
  · exact .inl e
  · rcases h.hcells with h' | ⟨b, o, ha, ht, hc⟩
    · exact .inl h'
    · obtain ⟨d, r, hd⟩ := List.exists_cons_of_ne_nil e
      have hb := cell_lt (hc 0 d (by rw [hd]; rfl))
      exact .inr ⟨b, o, ha, hS b hb ht, hb, hc⟩
theorem RowP.row {w : World} {S : Nat → Prop} {a : Option Addr} {len cap : Nat} {zs : List Int} (h : RowP w S a len cap zs) {T C : Nat} (hS : ∀ b, S b → b < w.heap.size → b < T ∨ C ≤ b) : DRow w T C a len cap zs :=
  ⟨h.hlen, h.hcap, h.hmax, h.hcells.imp id fun ⟨b, o, ha, hs, hb, hc⟩ => ⟨b, o, ha, hS b hs hb, hc⟩⟩
theorem RowP.old {w : World} {S : Nat → Prop} {a : Option Addr} {len cap : Nat} {zs : List Int} (h : RowP w S a len cap zs) (C : Nat) : DRow w w.heap.size C a len cap zs := h.row fun _ _ hb => .inl hb
theorem RowP.keep {w w' : World} {S : Nat → Prop} {a : Option Addr} {len cap : Nat} {zs : List Int} (h : RowP w S a len cap zs) (hb : Below w.heap.size w w') : RowP w' S a len cap zs :=
  ⟨h.hlen, h.hcap, h.hmax, h.hcells.imp id fun ⟨b, o, ha, hs, hl, hc⟩ => ⟨b, o, ha, hs, Nat.lt_of_lt_of_le hl hb.size, fun i z hz => Go.Proofs.YtdnjkminicmffaaDoor.keep hb (hc i z hz)⟩⟩
theorem RowP.put {w : World} {S : Nat → Prop} {a : Option Addr} {len cap : Nat} {zs : List Int} (h : RowP w S a len cap zs) {p i : Nat} (hp : ¬ S p) (u : Value) : RowP (w.setCell ⟨p, i, none⟩ u) S a len cap zs := by
  refine ⟨h.hlen, h.hcap, h.hmax, h.hcells.imp id ?_⟩
  rintro ⟨b, o, ha, hs, hl, hc⟩
  refine ⟨b, o, ha, hs, by simpa [World.setCell] using hl, fun i z hz => ?_⟩
  rw [World.cell?_of_block (w := w) (a := ⟨b, o + i, none⟩) (Below.heap_setCell w _ u b (show b ≠ p by rintro rfl; exact hp hs))]
  exact hc i z hz
theorem RowP.mono {w : World} {S S' : Nat → Prop} {a : Option Addr} {len cap : Nat} {zs : List Int} (h : RowP w S a len cap zs) (hS : ∀ b, b < w.heap.size → S b → S' b) : RowP w S' a len cap zs :=
  ⟨h.hlen, h.hcap, h.hmax, h.hcells.imp id fun ⟨b, o, ha, hs, hl, hc⟩ => ⟨b, o, ha, hS b hl hs, hl, hc⟩⟩
/-- the value of a croftref03.Num that is the number z -/
def NumP (w : World) (S : Nat → Prop) (v : Value) (z : Int) : Prop := ∃ a len cap, v = .agg #[.bool (decide (z < 0)), .slice a len cap] ∧ RowP w S a len cap (digs z.natAbs)
theorem NumP.of {w : World} {T C : Nat} {v : Value} {z : Int} (h : Num w T C v z) {S : Nat → Prop} (hS : ∀ b, b < w.heap.size → b < T ∨ C ≤ b → S b) : NumP w S v z := by
  obtain ⟨a, len, cap, h1, h2⟩ := h
  exact ⟨a, len, cap, h1, RowP.of h2 hS⟩
theorem NumP.num {w : World} {S : Nat → Prop} {v : Value} {z : Int} (h : NumP w S v z) {T C : Nat} (hS : ∀ b, S b → b < w.heap.size → b < T ∨ C ≤ b) : Num w T C v z := by
  obtain ⟨a, len, cap, h1, h2⟩ := h
  exact ⟨a, len, cap, h1, h2.row hS⟩
theorem NumP.old {w : World} {S : Nat → Prop} {v : Value} {z : Int} (h : NumP w S v z) (C : Nat) : Num w w.heap.size C v z := h.num fun _ _ hb => .inl hb
theorem NumP.keep {w w' : World} {S : Nat → Prop} {v : Value} {z : Int} (h : NumP w S v z) (hb : Below w.heap.size w w') : NumP w' S v z := by
  obtain ⟨a, len, cap, h1, h2⟩ := h
  exact ⟨a, len, cap, h1, h2.keep hb⟩
theorem NumP.put {w : World} {S : Nat → Prop} {v : Value} {z : Int} (h : NumP w S v z) {p i : Nat} (hp : ¬ S p) (u : Value) : NumP (w.setCell ⟨p, i, none⟩ u) S v z := by
  obtain ⟨a, len, cap, h1, h2⟩ := h
  exact ⟨a, len, cap, h1, h2.put hp u⟩
theorem NumP.mono {w : World} {S S' : Nat → Prop} {v : Value} {z : Int} (h : NumP w S v z) (hS : ∀ b, b < w.heap.size → S b → S' b) : NumP w S' v z := by
  obtain ⟨a, len, cap, h1, h2⟩ := h
  exact ⟨a, len, cap, h1, h2.mono hS⟩
theorem NumP.shape {w : World} {S : Nat → Prop} {v : Value} {z : Int} (h : NumP w S v z) : ∃ n a len cap, v = .agg #[.bool n, .slice a len cap] := by
  obtain ⟨a, len, cap, h1, _⟩ := h
  exact ⟨_, a, len, cap, h1⟩
/-- the number 1 in a block of its own -/
theorem one_num {w : World} {b : Nat} {ty : TypeId} (h : Own w b ty #[.int .i64 1]) {S : Nat → Prop} (hS : S b) : NumP w S (.agg #[.bool false, .slice (some ⟨b, 0, none⟩) 1 1]) 1 := by
  have e : digs (1 : Int).natAbs = [1] := by rw [show (1 : Int).natAbs = 1 from rfl, digs_pos (by decide)]; simp [digs_zero]
  refine ⟨some ⟨b, 0, none⟩, 1, 1, rfl, ?_⟩
  rw [e]
  refine ⟨rfl, Nat.le_refl _, by unfold maxLen; omega, .inr ⟨b, 0, rfl, hS, h.in_, fun i z hz => ?_⟩⟩
  match i, hz with
  | 0, hz =>
    simp at hz
    subst hz
    exact h.at_.1 0

set_option maxHeartbeats 8000000 in
set_option maxRecDepth 20000 in
theorem power_num (T k : Nat) (hk : k ≤ 300) (w : World) (hT : T ≤ w.heap.size) :
    Calls Tryd.prog 28 #[.int .i64 k] w fun e w' => ∃ v, e = .returned v ∧ Num w' T w.heap.size v (2 ^ k) ∧ Below w.heap.size w w' := by
  go_enter Tryd.func28, Tryd.ntmps28
  go_upto_region 2 with fail
  go_name_world W0 hW0
  have O1 : Own W0 (w.heap.size + 1) 3 #[.int .i64 1] := hW0 ▸ (by repeat' (first | (with_reducible assumption) | (with_reducible refine Own.drawnN ?_ _) | (with_reducible refine Own.drawn ?_) | (with_reducible refine Own.made_at ?_; first | rfl | (simp; done) | omega | (simp; omega)) | (with_reducible refine Own.more ?_ _) | (with_reducible refine Own.apart ?_ ?_ _ _; rotate_left; first | omega | (simp; done) | (simp; omega)) | (refine Own.put ?_ _ _)))
  have OA : Own W0 (w.heap.size + 2) 27 #[.bool false, .slice (some ⟨w.heap.size + 1, 0, none⟩) 1 1] := hW0 ▸ (by
    refine Own.as (cs := #[.bool false, .slice (some ⟨w.heap.size + 1, 0, none⟩) 1 1]) ?_ rfl
    repeat' (first | (with_reducible assumption) | (with_reducible refine Own.drawnN ?_ _) | (with_reducible refine Own.drawn ?_) | (with_reducible refine Own.made_at ?_; first | rfl | (simp; done) | omega | (simp; omega)) | (with_reducible refine Own.more ?_ _) | (with_reducible refine Own.apart ?_ ?_ _ _; rotate_left; first | omega | (simp; done) | (simp; omega)) | (refine Own.put ?_ _ _)))
  have OR : Own W0 w.heap.size 27 #[.bool false, .slice none 0 0] := hW0 ▸ (by repeat' (first | (with_reducible assumption) | (with_reducible refine Own.drawnN ?_ _) | (with_reducible refine Own.drawn ?_) | (with_reducible refine Own.made_at ?_; first | rfl | (simp; done) | omega | (simp; omega)) | (with_reducible refine Own.more ?_ _) | (with_reducible refine Own.apart ?_ ?_ _ _; rotate_left; first | omega | (simp; done) | (simp; omega)) | (refine Own.put ?_ _ _)))
  have hB0 : Below w.heap.size w W0 := hW0 ▸ (by repeat' (first | (with_reducible exact Below.refl _ _) | (with_reducible assumption) | (with_reducible refine below_drewN ?_ _) | (with_reducible refine Below.drew ?_) | (with_reducible refine Below.alloc ?_ ?_ _) | (with_reducible refine Below.setCell ?_ ?_ _) | (with_reducible refine then_ ?_ (by with_reducible assumption) ?_) | (with_reducible exact Nat.le_refl _) | (with_reducible exact Nat.le_succ _) | (with_reducible exact Nat.le_succ_of_le (by with_reducible assumption)) | omega | (simp; done) | (simp; omega) | (exact Nat.le_succ _) | (exact Nat.le_succ_of_le (by with_reducible assumption))))
  have HN0 : NumP W0 (fun b => w.heap.size ≤ b ∧ b ≠ w.heap.size ∧ b ≠ w.heap.size + 2) (.agg #[.bool false, .slice (some ⟨w.heap.size + 1, 0, none⟩) 1 1]) 1 := one_num O1 (by omega)
  clear hW0 O1
  go_wp2
  go_loopg [4] k (fun g i wr => ∃ (j : Nat) (s : Bool) (a : Option Addr) (l c : Nat), g + j = k ∧ i = .int .i64 j ∧ Own wr (w.heap.size + 2) 27 #[.bool s, .slice a l c] ∧ Own wr w.heap.size 27 #[.bool false, .slice none 0 0] ∧ NumP wr (fun b => w.heap.size ≤ b ∧ b ≠ w.heap.size ∧ b ≠ w.heap.size + 2) (.agg #[.bool s, .slice a l c]) (2 ^ j) ∧ Below w.heap.size w wr)
  case atStart => exact ⟨0, false, _, _, _, rfl, rfl, OA, OR, HN0, hB0⟩
  case round =>
    clear OA OR HN0 hB0
    obtain ⟨j, s, a, l, c, hj, rfl, OA, OR, HN, hB⟩ := hrel
    replace HN := Lib.hid HN
    obtain ⟨P1, P2, P3⟩ := OA.at_
    obtain ⟨R1, R2, R3⟩ := OR.at_
    by_cases h : j < k
    · have hl : (digs ((2 : Int) ^ j).natAbs).length ≤ 100000000 := Nat.le_trans (pow_short (by omega)) (by decide)
      have AD := Lib.hid (add_num 0 _ _ _ _ _ _ _ _ wr (Nat.zero_le _) (HN.out.old 0) (HN.out.old 0) hl hl)
      clear hl R1 R2 R3
      go_wp2_with (go_at_call 16; refine AD.out.mono ?_; rintro e w1 ⟨v2, rfl, hn, hb1⟩; obtain ⟨sn, na, nl, nc, rfl⟩ := hn.shape; have OA1 := OA.keep hb1; have OR1 := OR.keep hb1; obtain ⟨P1, P2, P3⟩ := OA1.at_; have hB1 := then_ hB hb1 hB.size; have HN1 := Lib.hid (NumP.of hn (S := fun b => w.heap.size ≤ b ∧ b ≠ w.heap.size ∧ b ≠ w.heap.size + 2) (fun b _ hb => by have := OA.in_; omega)); clear hn)
      go_roundg (gk - 1)
      case measure => omega
      case rel =>
        refine ⟨j + 1, sn, na, nl, nc, by omega, by go_num, ((OA1.put 0 _).put 1 _).as rfl, (OR1.apart (by omega) _ _).apart (by omega) _ _, ?_, (hB1.setCell (by show w.heap.size ≤ w.heap.size + 2; omega) _).setCell (by show w.heap.size ≤ w.heap.size + 2; omega) _⟩
        have e : (2 : Int) ^ (j + 1) = 2 ^ j + 2 ^ j := by rw [Int.pow_succ]; omega
        rw [e]
        exact (HN1.out.put (by omega) _).put (by omega) _
    · obtain rfl : j = k := by omega
      have e2 : ¬ w.heap.size = w.heap.size + 2 := by omega
      go_wp2
      refine bodyPost_ret (v := .agg #[.bool s, .slice a l c]) (by simp [results, Tryd.results28, go_sem, R1]) rfl ⟨_, rfl, ?_, ?_⟩
      · exact ((HN.out.put (by omega) _).put (by omega) _).num (fun b hs _ => by omega)
      · repeat' (first | (with_reducible exact Below.refl _ _) | (with_reducible assumption) | (with_reducible refine below_drewN ?_ _) | (with_reducible refine Below.drew ?_) | (with_reducible refine Below.alloc ?_ ?_ _) | (with_reducible refine Below.setCell ?_ ?_ _) | (with_reducible refine then_ ?_ (by with_reducible assumption) ?_) | (with_reducible exact Nat.le_refl _) | (with_reducible exact Nat.le_succ _) | (with_reducible exact Nat.le_succ_of_le (by with_reducible assumption)) | omega | (simp; done) | (simp; omega) | (exact Nat.le_succ _) | (exact Nat.le_succ_of_le (by with_reducible assumption)))
end Go.Proofs.YtdnjkminicmffaaDoor
end
section
namespace Go.Proofs.YtdnjkminicmffaaDoor
open Go.ChangeShapes Go.WideShapes Go.ChangeAt Go.RowKit
set_option linter.unusedVariables false

theorem rest_step (N k : Nat) : decide (N % 2 ^ (k + 1) ≠ 0) = (decide (N % 2 ^ k ≠ 0) || decide (N / 2 ^ k % 2 = 1)) := by
  have h := Nat.mod_mul (x := N) (a := 2 ^ k) (b := 2)
  rw [← Nat.pow_succ] at h
  have hp : 0 < 2 ^ k := Nat.pow_pos (by decide)
  rw [h]
  rcases (by omega : N / 2 ^ k % 2 = 0 ∨ N / 2 ^ k % 2 = 1) with e | e
  · rw [e]; simp
  · rw [e]
    have : N % 2 ^ k + 2 ^ k * 1 ≠ 0 := by omega
    rw [decide_eq_true this]
    simp
theorem floor_pos {z : Int} (h : ¬ z < 0) (k : Nat) : ((z.natAbs / 2 ^ k : Nat) : Int) = z / 2 ^ k := by
  rw [Int.natCast_ediv, Int.natCast_pow, show ((z.natAbs : Nat) : Int) = z by omega]; rfl
theorem floor_low {z : Int} (h : z < 0) (k : Nat) : -((z.natAbs / 2 ^ k : Nat) : Int) + (if z.natAbs % 2 ^ k = 0 then 0 else -1) = z / 2 ^ k := by
  obtain ⟨N, hN⟩ : ∃ N : Nat, z = -(N : Int) := ⟨z.natAbs, by omega⟩
  have e : z.natAbs = N := by omega
  rw [e, hN]
  have e2 : (2 : Int) ^ k = ((2 ^ k : Nat) : Int) := by push_cast; rfl
  rw [e2]
  have hp : 0 < 2 ^ k := Nat.pow_pos (by decide)
  generalize 2 ^ k = p at *
  have h1 := Nat.div_add_mod N p
  have h2 := Nat.mod_lt N hp
  generalize N / p = q at *
  generalize N % p = r at *
  have h3 : -(N : Int) = (p : Int) * (-(q : Int)) + -(r : Int) := by rw [← h1, Int.natCast_add, Int.natCast_mul, Int.mul_neg]; omega
  have h4 : ((p : Int) * (-(q : Int)) + -(r : Int)) / (p : Int) = -(r : Int) / (p : Int) + -(q : Int) := by
    rw [Int.add_comm, Int.add_mul_ediv_left _ _ (by omega)]
  rw [h3, h4]
  by_cases hr : r = 0
  · subst hr; simp
  · have : -(r : Int) / (p : Int) = -1 := by
      rw [Int.ediv_eq_iff_of_pos (by omega)]
      omega
    rw [this, if_neg hr]; omega
theorem DRow.mono {w : World} {T C C' : Nat} {a : Option Addr} {len cap : Nat} {zs : List Int} (h : DRow w T C a len cap zs) (hC : C' ≤ C) : DRow w T C' a len cap zs :=
  ⟨h.hlen, h.hcap, h.hmax, h.hcells.imp id fun ⟨b, o, ha, ht, hc⟩ => ⟨b, o, ha, by omega, hc⟩⟩
theorem nat_half (q : Nat) : (((q : Nat) : Int) / 2).toNat = q / 2 := by omega
/-- the number -1 with its digit in a block of its own -/
theorem mone_num {w : World} {b : Nat} {ty : TypeId} (h : Own w b ty #[.int .i64 1]) {S : Nat → Prop} (hS : S b) : NumP w S (.agg #[.bool true, .slice (some ⟨b, 0, none⟩) 1 1]) (-1) := by
  obtain ⟨a, l, c, e, r⟩ := one_num h hS
  obtain ⟨rfl, rfl, rfl⟩ : some ⟨b, 0, none⟩ = a ∧ 1 = l ∧ 1 = c := by simpa using e
  exact ⟨_, _, _, rfl, r⟩
theorem digs_first {m : Nat} (h : m ≠ 0) : (digs m)[0]? = some ((m : Int) % 65536) := by rw [digs_pos h]; simp

set_option maxHeartbeats 8000000 in
set_option maxRecDepth 20000 in
theorem floor_num (T n : Nat) (v : Value) (z : Int) (w : World) (hT : T ≤ w.heap.size) (hv : Num w T w.heap.size v z) (hl : (digs z.natAbs).length ≤ 100000) (hn : n ≤ 9223372036854775807) :
    Calls Tryd.prog 27 #[v, .int .i64 n] w fun e w' => ∃ v', e = .returned v' ∧ Num w' T w.heap.size v' (z / 2 ^ min n 300) ∧ Below w.heap.size w w' := by
  have hv' := hv.old (C' := w.heap.size + 2) rfl
  obtain ⟨a, len, cap, rfl, hr⟩ := hv'
  have HR := Lib.hid hr
  obtain ⟨N, hN⟩ : ∃ N, z.natAbs = N := ⟨_, rfl⟩
  obtain ⟨s, hs⟩ : ∃ s, decide (z < 0) = s := ⟨_, rfl⟩
  rw [hN] at HR hl
  rw [hs]
  have HF := Lib.hid (fun k => show (if s = true then -((N / 2 ^ k : Nat) : Int) + (if N % 2 ^ k = 0 then 0 else -1) else ((N / 2 ^ k : Nat) : Int)) = z / 2 ^ k by
    rw [← hN, ← hs]
    by_cases h : z < 0
    · rw [if_pos (by simpa using h)]; exact floor_low h k
    · rw [if_neg (by simpa using h)]; exact floor_pos h k)
  clear hv hr hN hs
  replace hl := Lib.hid hl
  have main : ∀ (m : Nat) (b : Bool), min n 300 = m → decide (300 < (n : Int)) = b → Calls Tryd.prog 27 #[.agg #[.bool s, .slice a len cap], .int .i64 n] w fun e w' => ∃ v', e = .returned v' ∧ Num w' T w.heap.size v' (z / 2 ^ m) ∧ Below w.heap.size w w' := by
    intro m b hm hb
    have hm3 : m ≤ 300 := by omega
    cases b with
    | true =>
      have hM : (300 : Int) = (m : Int) := by have : (300 : Int) < n := by simpa using hb
                                              omega
      clear hm
      replace hM := Lib.hid hM
      go_enter Tryd.func27, Tryd.ntmps27
      go_upto_region 3 with fail
      go_name_world W0 hW0
      have OA : Own W0 w.heap.size 27 #[.bool s, .slice a len cap] := hW0 ▸ (by repeat' (first | (with_reducible assumption) | (with_reducible refine Own.drawnN ?_ _) | (with_reducible refine Own.drawn ?_) | (with_reducible refine Own.made_at ?_; first | rfl | (simp; done) | omega | (simp; omega)) | (with_reducible refine Own.more ?_ _) | (with_reducible refine Own.apart ?_ ?_ _ _; rotate_left; first | omega | (simp; done) | (simp; omega)) | (refine Own.put ?_ _ _)))
      have OR : Own W0 (w.heap.size + 1) 27 #[.bool false, .slice none 0 0] := hW0 ▸ (by repeat' (first | (with_reducible assumption) | (with_reducible refine Own.drawnN ?_ _) | (with_reducible refine Own.drawn ?_) | (with_reducible refine Own.made_at ?_; first | rfl | (simp; done) | omega | (simp; omega)) | (with_reducible refine Own.more ?_ _) | (with_reducible refine Own.apart ?_ ?_ _ _; rotate_left; first | omega | (simp; done) | (simp; omega)) | (refine Own.put ?_ _ _)))
      have hB0 : Below w.heap.size w W0 := hW0 ▸ (by repeat' (first | (with_reducible exact Below.refl _ _) | (with_reducible assumption) | (with_reducible refine below_drewN ?_ _) | (with_reducible refine Below.drew ?_) | (with_reducible refine Below.alloc ?_ ?_ _) | (with_reducible refine Below.setCell ?_ ?_ _) | (with_reducible refine then_ ?_ (by with_reducible assumption) ?_) | (with_reducible exact Nat.le_refl _) | (with_reducible exact Nat.le_succ _) | (with_reducible exact Nat.le_succ_of_le (by with_reducible assumption)) | omega | (simp; done) | (simp; omega) | (exact Nat.le_succ _) | (exact Nat.le_succ_of_le (by with_reducible assumption))))
      have DR0 : DRow W0 T (w.heap.size + 2) a len cap (digs N) := hW0 ▸ (HR.out.keep (by repeat' (first | (with_reducible exact Below.refl _ _) | (with_reducible assumption) | (with_reducible refine below_drewN ?_ _) | (with_reducible refine Below.drew ?_) | (with_reducible refine Below.alloc ?_ ?_ _) | (with_reducible refine Below.setCell ?_ ?_ _) | (with_reducible refine then_ ?_ (by with_reducible assumption) ?_) | (with_reducible exact Nat.le_refl _) | (with_reducible exact Nat.le_succ _) | (with_reducible exact Nat.le_succ_of_le (by with_reducible assumption)) | omega | (simp; done) | (simp; omega) | (exact Nat.le_succ _) | (exact Nat.le_succ_of_le (by with_reducible assumption)))))
      clear hW0 HR
      obtain ⟨P1, P2, P3⟩ := OA.at_
      go_wp2
      clear P1 P2 P3
      go_loopg [5, 6, 7] m (fun g l r i wr => ∃ (k : Nat) (a' : Option Addr) (l' c' : Nat), g + k = m ∧ i = .int .i64 k ∧ r = .bool (decide (N % 2 ^ k ≠ 0)) ∧ l = .slice a' l' c' ∧ DRow wr T (w.heap.size + 2) a' l' c' (digs (N / 2 ^ k)) ∧ Own wr w.heap.size 27 #[.bool s, .slice a len cap] ∧ Own wr (w.heap.size + 1) 27 #[.bool false, .slice none 0 0] ∧ Below w.heap.size w wr)
      case atStart =>
        exact ⟨0, a, len, cap, rfl, rfl, by simp [Nat.mod_one], rfl, by simpa using DR0, OA, OR, hB0⟩
      case round =>
        clear OA OR DR0 hB0
        obtain ⟨k, a', l', c', hk, rfl, rfl, rfl, DR, OA, OR, hB⟩ := hrel
        have hlk := DR.hlen
        have hle : l' ≤ 100000 := by
          have h1 := hl.out
          have : (digs (N / 2 ^ k)).length ≤ (digs N).length := Nat.le_of_not_lt fun h => by have h2 := digs_longer h; have h3 := Nat.div_le_self N (2 ^ k); omega
          omega
        by_cases hkm : k < m
        · have hkM : (k : Int) < 300 := by have := hM.out; omega
          have RS := Lib.hid (rest_step N k)
          have HQ := Lib.hid (show N / 2 ^ (k + 1) = N / 2 ^ k / 2 by rw [Nat.pow_succ, Nat.div_div_eq_div_mul])
          have HH1 := half_any T _ _ a' l' c' _ wr DR (Dg.digs _) (by omega)
          rw [vl_digs, nat_half] at HH1
          replace HH1 := Lib.hid HH1
          obtain ⟨rb, hrb⟩ : ∃ rb, decide (N % 2 ^ k ≠ 0) = rb := ⟨_, rfl⟩
          obtain ⟨q, hq⟩ : ∃ q, N / 2 ^ k = q := ⟨_, rfl⟩
          rw [hrb, hq] at RS
          rw [hq] at HQ HH1 DR hlk
          rw [hrb]
          clear hrb hq
          cases rb with
          | true =>
            clear DR hlk
            go_wp2_with (go_at_call 48; refine HH1.out.mono ?_; rintro e w1 ⟨a2, l2, c2, rfl, hd, hb1⟩)
            go_roundg (gk - 1)
            case measure => omega
            case rel => exact ⟨k + 1, a2, l2, c2, by omega, by go_num, by rw [RS.out]; rfl, rfl, by rw [HQ.out]; exact hd.mono (by have := hB.size; have := OR.in_; omega), OA.keep hb1, OR.keep hb1, then_ hB hb1 hB.size⟩
          | false =>
            by_cases hq0 : q = 0
            · have hl0 : ¬ 0 < (l' : Int) := by rw [hq0, digs_zero] at hlk; simp at hlk; omega
              have RS2 := Lib.hid (show decide (N % 2 ^ (k + 1) ≠ 0) = false by rw [RS.out, hq0]; rfl)
              clear DR hlk RS hq0
              go_wp2_with (go_at_call 48; refine HH1.out.mono ?_; rintro e w1 ⟨a2, l2, c2, rfl, hd, hb1⟩)
              go_roundg (gk - 1)
              case measure => omega
              case rel => exact ⟨k + 1, a2, l2, c2, by omega, by go_num, by rw [RS2.out], rfl, by rw [HQ.out]; exact hd.mono (by have := hB.size; have := OR.in_; omega), OA.keep hb1, OR.keep hb1, then_ hB hb1 hB.size⟩
            · obtain ⟨b, o, rfl, hc⟩ : ∃ b o, a' = some ⟨b, o, none⟩ ∧ wr.cell? ⟨b, o, none⟩ = some (.int .i64 ((q : Int) % 65536)) := by
                rcases DR.hcells with h | ⟨b, o, h1, _, h2⟩
                · exact absurd (digs_nil h) hq0
                · exact ⟨b, o, h1, h2 0 _ (digs_first hq0)⟩
              have hl0 : 0 < (l' : Int) := by
                have := (digs_len hq0).2
                omega
              obtain ⟨tb, htb⟩ : ∃ tb, decide (q % 2 = 1) = tb := ⟨_, rfl⟩
              have ht : (((q : Int) % 65536) % 2 == 1) = tb := by rw [← htb, Bool.eq_iff_iff]; simp; omega
              have RS2 := Lib.hid (show decide (N % 2 ^ (k + 1) ≠ 0) = tb by rw [RS.out, htb]; rfl)
              clear DR hlk RS hq0 htb
              obtain ⟨d, hd⟩ : ∃ d, (q : Int) % 65536 = d := ⟨_, rfl⟩
              have hd0 : 0 ≤ d ∧ d ≤ 65535 := by omega
              obtain ⟨d0, d1⟩ := hd0
              rw [hd] at hc ht
              clear hd
              cases tb
              all_goals
                go_wp2_with (go_at_call 48; refine HH1.out.mono ?_; rintro e w1 ⟨a2, l2, c2, rfl, hd, hb1⟩)
                go_roundg (gk - 1)
                case measure => omega
                case rel => exact ⟨k + 1, a2, l2, c2, by omega, by go_num, by rw [RS2.out], rfl, by rw [HQ.out]; exact hd.mono (by have := hB.size; have := OR.in_; omega), OA.keep hb1, OR.keep hb1, then_ hB hb1 hB.size⟩
        · have hkM : ¬ (k : Int) < 300 := by have := hM.out; omega
          obtain rfl : k = m := by omega
          have TR1 := trim_num T (w.heap.size + 2) s a' l' c' _ _ wr DR (Dg.digs _) (vl_digs _)
          obtain ⟨q, hq⟩ : ∃ q, N / 2 ^ k = q := ⟨_, rfl⟩
          obtain ⟨rb, hrb⟩ : ∃ rb, decide (N % 2 ^ k ≠ 0) = rb := ⟨_, rfl⟩
          have HZ1 := HF.out k
          rw [hq] at TR1 HZ1
          have HZ2 := Lib.hid (show (if s = true then -(q : Int) else (q : Int)) + (if (s && rb) = true then -1 else 0) = z / 2 ^ k by
            rw [← HZ1, ← hrb]
            cases s
            · simp
            · by_cases h : N % 2 ^ k = 0 <;> simp [h])
          replace TR1 := Lib.hid TR1
          have hql := Lib.hid (show q ≤ N by rw [← hq]; exact Nat.div_le_self _ _)
          rw [hrb]
          clear hq HZ1 HF DR hlk hrb
          have hs3 := OR.in_
          obtain ⟨P1, P2, P3⟩ := OA.at_
          clear hk hkm
          go_upto_region 11 with (go_at_call 33; refine TR1.out.mono ?_; rintro e w1 ⟨v1, rfl, hn1, hb1⟩; obtain ⟨sn, na, nl, nc, rfl⟩ := hn1.shape; replace hn1 := Lib.hid hn1)
          go_name_world W2 hW2
          have OA2 : Own W2 w.heap.size 27 #[.bool s, .slice a len cap] := hW2 ▸ (by
            have := OA.keep hb1
            repeat' (first | (with_reducible assumption) | (with_reducible refine Own.drawnN ?_ _) | (with_reducible refine Own.drawn ?_) | (with_reducible refine Own.made_at ?_; first | rfl | (simp; done) | omega | (simp; omega)) | (with_reducible refine Own.more ?_ _) | (with_reducible refine Own.apart ?_ ?_ _ _; rotate_left; first | omega | (simp; done) | (simp; omega)) | (refine Own.put ?_ _ _)))
          have OR2 : Own W2 (w.heap.size + 1) 27 #[.bool false, .slice none 0 0] := hW2 ▸ (by
            have := OR.keep hb1
            repeat' (first | (with_reducible assumption) | (with_reducible refine Own.drawnN ?_ _) | (with_reducible refine Own.drawn ?_) | (with_reducible refine Own.made_at ?_; first | rfl | (simp; done) | omega | (simp; omega)) | (with_reducible refine Own.more ?_ _) | (with_reducible refine Own.apart ?_ ?_ _ _; rotate_left; first | omega | (simp; done) | (simp; omega)) | (refine Own.put ?_ _ _)))
          have OP2 : Own W2 w1.heap.size 27 #[.bool sn, .slice na nl nc] := hW2 ▸ (by
            refine Own.as (cs := #[.bool sn, .slice na nl nc]) ?_ rfl
            repeat' (first | (with_reducible assumption) | (with_reducible refine Own.drawnN ?_ _) | (with_reducible refine Own.drawn ?_) | (with_reducible refine Own.made_at ?_; first | rfl | (simp; done) | omega | (simp; omega)) | (with_reducible refine Own.more ?_ _) | (with_reducible refine Own.apart ?_ ?_ _ _; rotate_left; first | omega | (simp; done) | (simp; omega)) | (refine Own.put ?_ _ _)))
          have hb2 : Below w1.heap.size w1 W2 := hW2 ▸ (by repeat' (first | (with_reducible exact Below.refl _ _) | (with_reducible assumption) | (with_reducible refine below_drewN ?_ _) | (with_reducible refine Below.drew ?_) | (with_reducible refine Below.alloc ?_ ?_ _) | (with_reducible refine Below.setCell ?_ ?_ _) | (with_reducible refine then_ ?_ (by with_reducible assumption) ?_) | (with_reducible exact Nat.le_refl _) | (with_reducible exact Nat.le_succ _) | (with_reducible exact Nat.le_succ_of_le (by with_reducible assumption)) | omega | (simp; done) | (simp; omega) | (exact Nat.le_succ _) | (exact Nat.le_succ_of_le (by with_reducible assumption))))
          have hB2 : Below w.heap.size w W2 := then_ (then_ hB hb1 hB.size) hb2 (by have := hB.size; have := hb1.size; omega)
          have hs4 : w.heap.size + 1 < w1.heap.size := (OR.keep hb1).in_
          have HN2 := Lib.hid (NumP.of (hn1.out.keep hb2) (S := fun b => (b < T ∨ w.heap.size + 2 ≤ b)) (fun b _ h => h))
          clear hW2 OA OR hB hn1 hb1 TR1 P1 P2 P3
          obtain ⟨P1, P2, P3⟩ := OA2.at_
          obtain ⟨Q1, Q2, Q3⟩ := OR2.at_
          obtain ⟨R1, R2, R3⟩ := OP2.at_
          by_cases hsr : (s && rb) = true
          · obtain ⟨rfl, rfl⟩ : s = true ∧ rb = true := by simpa using hsr
            have hl2 : (digs (if true = true then -(q : Int) else (q : Int)).natAbs).length ≤ 100000000 := by
              have h1 := hl.out
              have h2 := hql.out
              have : (digs q).length ≤ (digs N).length := Nat.le_of_not_lt fun h => by have h3 := digs_longer h; omega
              have e : (if true = true then -(q : Int) else (q : Int)).natAbs = q := by simp
              rw [e]; omega
            have hl3 : (digs (-1 : Int).natAbs).length ≤ 100000000 := by
              rw [show (-1 : Int).natAbs = 1 from rfl, digs_pos (by decide)]
              simp [digs_zero]
            have AD1 : ∀ w', Below W2.heap.size W2 w' → Own w' W2.heap.size 3 #[.int .i64 1] → Calls Tryd.prog 16 #[.agg #[.bool sn, .slice na nl nc], .agg #[.bool true, .slice (some ⟨W2.heap.size, 0, none⟩) 1 1]] w' fun e w'' => ∃ v2, e = .returned v2 ∧ Num w'' T w'.heap.size v2 (z / 2 ^ k) ∧ Below w'.heap.size w' w'' := fun w' hb ho => by
              have h := add_num T _ _ _ _ _ _ _ _ w' (by have := hb.size; omega) ((HN2.out.keep hb).old 0) ((mone_num ho (S := fun _ => True) trivial).old 0) hl2 hl3
              have e : (if true = true then -(q : Int) else (q : Int)) + -1 = z / 2 ^ k := HZ2.out
              rwa [e] at h
            have AD := Lib.hid AD1
            clear AD1 hl2 hl3 HZ2 hsr
            go_wp2_with (go_at_call 16; refine (AD.out _ (by repeat' (first | (with_reducible exact Below.refl _ _) | (with_reducible assumption) | (with_reducible refine below_drewN ?_ _) | (with_reducible refine Below.drew ?_) | (with_reducible refine Below.alloc ?_ ?_ _) | (with_reducible refine Below.setCell ?_ ?_ _) | (with_reducible refine then_ ?_ (by with_reducible assumption) ?_) | (with_reducible exact Nat.le_refl _) | (with_reducible exact Nat.le_succ _) | (with_reducible exact Nat.le_succ_of_le (by with_reducible assumption)) | omega | (simp; done) | (simp; omega) | (exact Nat.le_succ _) | (exact Nat.le_succ_of_le (by with_reducible assumption)))) (by repeat' (first | (with_reducible assumption) | (with_reducible refine Own.drawnN ?_ _) | (with_reducible refine Own.drawn ?_) | (with_reducible refine Own.made_at ?_; first | rfl | (simp; done) | omega | (simp; omega)) | (with_reducible refine Own.more ?_ _) | (with_reducible refine Own.apart ?_ ?_ _ _; rotate_left; first | omega | (simp; done) | (simp; omega)) | (refine Own.put ?_ _ _)))).mono ?_; rintro e w3 ⟨v2, rfl, hn3, hb3⟩; obtain ⟨s3, a3, l3, c3, rfl⟩ := hn3.shape; replace hn3 := Lib.hid hn3; have hb3' : Below W2.heap.size W2 w3 := then_ (by repeat' (first | (with_reducible exact Below.refl _ _) | (with_reducible assumption) | (with_reducible refine below_drewN ?_ _) | (with_reducible refine Below.drew ?_) | (with_reducible refine Below.alloc ?_ ?_ _) | (with_reducible refine Below.setCell ?_ ?_ _) | (with_reducible refine then_ ?_ (by with_reducible assumption) ?_) | (with_reducible exact Nat.le_refl _) | (with_reducible exact Nat.le_succ _) | (with_reducible exact Nat.le_succ_of_le (by with_reducible assumption)) | omega | (simp; done) | (simp; omega) | (exact Nat.le_succ _) | (exact Nat.le_succ_of_le (by with_reducible assumption)))) hb3 (by simp); have OR3 := OR2.keep hb3'; obtain ⟨Q1, Q2, Q3⟩ := OR3.at_; have hB3 := then_ hB2 hb3' hB2.size; have hs5 := hb2.size; clear R1 R2 R3 P1 P2 P3)
            refine bodyPost_ret (v := .agg #[.bool s3, .slice a3 l3 c3]) (by simp [results, Tryd.results27, go_sem, Q1]) rfl ⟨_, rfl, ?_, ?_⟩
            · exact ((hn3.out.put (by omega) (by simp; omega) _).put (by omega) (by simp; omega) _).mono (Nat.le_refl _) (by simp; omega)
            · repeat' (first | (with_reducible exact Below.refl _ _) | (with_reducible assumption) | (with_reducible refine below_drewN ?_ _) | (with_reducible refine Below.drew ?_) | (with_reducible refine Below.alloc ?_ ?_ _) | (with_reducible refine Below.setCell ?_ ?_ _) | (with_reducible refine then_ ?_ (by with_reducible assumption) ?_) | (with_reducible exact Nat.le_refl _) | (with_reducible exact Nat.le_succ _) | (with_reducible exact Nat.le_succ_of_le (by with_reducible assumption)) | omega | (simp; done) | (simp; omega) | (exact Nat.le_succ _) | (exact Nat.le_succ_of_le (by with_reducible assumption)))
          · have hsr2 : (s && rb) = false := by simpa using hsr
            have HZ3 := Lib.hid (show (if s = true then -(q : Int) else (q : Int)) = z / 2 ^ k by have := HZ2.out; rw [hsr2] at this; simpa using this)
            have HN3 := HN2.out
            rw [HZ3.out] at HN3
            replace HN3 := Lib.hid HN3
            clear HZ2 HZ3 HN2 hsr hl hql
            have e2 : ¬ w.heap.size + 1 = w1.heap.size := by omega
            cases s <;> cases rb <;> (try exact absurd hsr2 (by decide))
            all_goals
              clear hsr2
              go_wp2
              refine bodyPost_ret (v := .agg #[.bool sn, .slice na nl nc]) (by simp [results, Tryd.results27, go_sem, Q1]) rfl ⟨_, rfl, ?_, ?_⟩
              · exact ((HN3.out.put (by omega) _).put (by omega) _).num (fun b hs _ => by omega)
              · repeat' (first | (with_reducible exact Below.refl _ _) | (with_reducible assumption) | (with_reducible refine below_drewN ?_ _) | (with_reducible refine Below.drew ?_) | (with_reducible refine Below.alloc ?_ ?_ _) | (with_reducible refine Below.setCell ?_ ?_ _) | (with_reducible refine then_ ?_ (by with_reducible assumption) ?_) | (with_reducible exact Nat.le_refl _) | (with_reducible exact Nat.le_succ _) | (with_reducible exact Nat.le_succ_of_le (by with_reducible assumption)) | omega | (simp; done) | (simp; omega) | (exact Nat.le_succ _) | (exact Nat.le_succ_of_le (by with_reducible assumption)))
    | false =>
      have hM : (n : Int) = (m : Int) := by have : ¬ (300 : Int) < n := by simpa using hb
                                            omega
      clear hm
      replace hM := Lib.hid hM
      go_enter Tryd.func27, Tryd.ntmps27
      go_upto_region 3 with fail
      go_name_world W0 hW0
      have OA : Own W0 w.heap.size 27 #[.bool s, .slice a len cap] := hW0 ▸ (by repeat' (first | (with_reducible assumption) | (with_reducible refine Own.drawnN ?_ _) | (with_reducible refine Own.drawn ?_) | (with_reducible refine Own.made_at ?_; first | rfl | (simp; done) | omega | (simp; omega)) | (with_reducible refine Own.more ?_ _) | (with_reducible refine Own.apart ?_ ?_ _ _; rotate_left; first | omega | (simp; done) | (simp; omega)) | (refine Own.put ?_ _ _)))
      have OR : Own W0 (w.heap.size + 1) 27 #[.bool false, .slice none 0 0] := hW0 ▸ (by repeat' (first | (with_reducible assumption) | (with_reducible refine Own.drawnN ?_ _) | (with_reducible refine Own.drawn ?_) | (with_reducible refine Own.made_at ?_; first | rfl | (simp; done) | omega | (simp; omega)) | (with_reducible refine Own.more ?_ _) | (with_reducible refine Own.apart ?_ ?_ _ _; rotate_left; first | omega | (simp; done) | (simp; omega)) | (refine Own.put ?_ _ _)))
      have hB0 : Below w.heap.size w W0 := hW0 ▸ (by repeat' (first | (with_reducible exact Below.refl _ _) | (with_reducible assumption) | (with_reducible refine below_drewN ?_ _) | (with_reducible refine Below.drew ?_) | (with_reducible refine Below.alloc ?_ ?_ _) | (with_reducible refine Below.setCell ?_ ?_ _) | (with_reducible refine then_ ?_ (by with_reducible assumption) ?_) | (with_reducible exact Nat.le_refl _) | (with_reducible exact Nat.le_succ _) | (with_reducible exact Nat.le_succ_of_le (by with_reducible assumption)) | omega | (simp; done) | (simp; omega) | (exact Nat.le_succ _) | (exact Nat.le_succ_of_le (by with_reducible assumption))))
      have DR0 : DRow W0 T (w.heap.size + 2) a len cap (digs N) := hW0 ▸ (HR.out.keep (by repeat' (first | (with_reducible exact Below.refl _ _) | (with_reducible assumption) | (with_reducible refine below_drewN ?_ _) | (with_reducible refine Below.drew ?_) | (with_reducible refine Below.alloc ?_ ?_ _) | (with_reducible refine Below.setCell ?_ ?_ _) | (with_reducible refine then_ ?_ (by with_reducible assumption) ?_) | (with_reducible exact Nat.le_refl _) | (with_reducible exact Nat.le_succ _) | (with_reducible exact Nat.le_succ_of_le (by with_reducible assumption)) | omega | (simp; done) | (simp; omega) | (exact Nat.le_succ _) | (exact Nat.le_succ_of_le (by with_reducible assumption)))))
      clear hW0 HR
      obtain ⟨P1, P2, P3⟩ := OA.at_
      go_wp2
      clear P1 P2 P3
      go_loopg [5, 6, 7] m (fun g l r i wr => ∃ (k : Nat) (a' : Option Addr) (l' c' : Nat), g + k = m ∧ i = .int .i64 k ∧ r = .bool (decide (N % 2 ^ k ≠ 0)) ∧ l = .slice a' l' c' ∧ DRow wr T (w.heap.size + 2) a' l' c' (digs (N / 2 ^ k)) ∧ Own wr w.heap.size 27 #[.bool s, .slice a len cap] ∧ Own wr (w.heap.size + 1) 27 #[.bool false, .slice none 0 0] ∧ Below w.heap.size w wr)
      case atStart =>
        exact ⟨0, a, len, cap, rfl, rfl, by simp [Nat.mod_one], rfl, by simpa using DR0, OA, OR, hB0⟩
      case round =>
        clear OA OR DR0 hB0
        obtain ⟨k, a', l', c', hk, rfl, rfl, rfl, DR, OA, OR, hB⟩ := hrel
        have hlk := DR.hlen
        have hle : l' ≤ 100000 := by
          have h1 := hl.out
          have : (digs (N / 2 ^ k)).length ≤ (digs N).length := Nat.le_of_not_lt fun h => by have h2 := digs_longer h; have h3 := Nat.div_le_self N (2 ^ k); omega
          omega
        by_cases hkm : k < m
        · have hkM : (k : Int) < (n : Int) := by have := hM.out; omega
          have RS := Lib.hid (rest_step N k)
          have HQ := Lib.hid (show N / 2 ^ (k + 1) = N / 2 ^ k / 2 by rw [Nat.pow_succ, Nat.div_div_eq_div_mul])
          have HH1 := half_any T _ _ a' l' c' _ wr DR (Dg.digs _) (by omega)
          rw [vl_digs, nat_half] at HH1
          replace HH1 := Lib.hid HH1
          obtain ⟨rb, hrb⟩ : ∃ rb, decide (N % 2 ^ k ≠ 0) = rb := ⟨_, rfl⟩
          obtain ⟨q, hq⟩ : ∃ q, N / 2 ^ k = q := ⟨_, rfl⟩
          rw [hrb, hq] at RS
          rw [hq] at HQ HH1 DR hlk
          rw [hrb]
          clear hrb hq
          cases rb with
          | true =>
            clear DR hlk
            go_wp2_with (go_at_call 48; refine HH1.out.mono ?_; rintro e w1 ⟨a2, l2, c2, rfl, hd, hb1⟩)
            go_roundg (gk - 1)
            case measure => omega
            case rel => exact ⟨k + 1, a2, l2, c2, by omega, by go_num, by rw [RS.out]; rfl, rfl, by rw [HQ.out]; exact hd.mono (by have := hB.size; have := OR.in_; omega), OA.keep hb1, OR.keep hb1, then_ hB hb1 hB.size⟩
          | false =>
            by_cases hq0 : q = 0
            · have hl0 : ¬ 0 < (l' : Int) := by rw [hq0, digs_zero] at hlk; simp at hlk; omega
              have RS2 := Lib.hid (show decide (N % 2 ^ (k + 1) ≠ 0) = false by rw [RS.out, hq0]; rfl)
              clear DR hlk RS hq0
              go_wp2_with (go_at_call 48; refine HH1.out.mono ?_; rintro e w1 ⟨a2, l2, c2, rfl, hd, hb1⟩)
              go_roundg (gk - 1)
              case measure => omega
              case rel => exact ⟨k + 1, a2, l2, c2, by omega, by go_num, by rw [RS2.out], rfl, by rw [HQ.out]; exact hd.mono (by have := hB.size; have := OR.in_; omega), OA.keep hb1, OR.keep hb1, then_ hB hb1 hB.size⟩
            · obtain ⟨b, o, rfl, hc⟩ : ∃ b o, a' = some ⟨b, o, none⟩ ∧ wr.cell? ⟨b, o, none⟩ = some (.int .i64 ((q : Int) % 65536)) := by
                rcases DR.hcells with h | ⟨b, o, h1, _, h2⟩
                · exact absurd (digs_nil h) hq0
                · exact ⟨b, o, h1, h2 0 _ (digs_first hq0)⟩
              have hl0 : 0 < (l' : Int) := by
                have := (digs_len hq0).2
                omega
              obtain ⟨tb, htb⟩ : ∃ tb, decide (q % 2 = 1) = tb := ⟨_, rfl⟩
              have ht : (((q : Int) % 65536) % 2 == 1) = tb := by rw [← htb, Bool.eq_iff_iff]; simp; omega
              have RS2 := Lib.hid (show decide (N % 2 ^ (k + 1) ≠ 0) = tb by rw [RS.out, htb]; rfl)
              clear DR hlk RS hq0 htb
              obtain ⟨d, hd⟩ : ∃ d, (q : Int) % 65536 = d := ⟨_, rfl⟩
              have hd0 : 0 ≤ d ∧ d ≤ 65535 := by omega
              obtain ⟨d0, d1⟩ := hd0
              rw [hd] at hc ht
              clear hd
              cases tb
              all_goals
                go_wp2_with (go_at_call 48; refine HH1.out.mono ?_; rintro e w1 ⟨a2, l2, c2, rfl, hd, hb1⟩)
                go_roundg (gk - 1)
                case measure => omega
                case rel => exact ⟨k + 1, a2, l2, c2, by omega, by go_num, by rw [RS2.out], rfl, by rw [HQ.out]; exact hd.mono (by have := hB.size; have := OR.in_; omega), OA.keep hb1, OR.keep hb1, then_ hB hb1 hB.size⟩
        · have hkM : ¬ (k : Int) < (n : Int) := by have := hM.out; omega
          obtain rfl : k = m := by omega
          have TR1 := trim_num T (w.heap.size + 2) s a' l' c' _ _ wr DR (Dg.digs _) (vl_digs _)
          obtain ⟨q, hq⟩ : ∃ q, N / 2 ^ k = q := ⟨_, rfl⟩
          obtain ⟨rb, hrb⟩ : ∃ rb, decide (N % 2 ^ k ≠ 0) = rb := ⟨_, rfl⟩
          have HZ1 := HF.out k
          rw [hq] at TR1 HZ1
          have HZ2 := Lib.hid (show (if s = true then -(q : Int) else (q : Int)) + (if (s && rb) = true then -1 else 0) = z / 2 ^ k by
            rw [← HZ1, ← hrb]
            cases s
            · simp
            · by_cases h : N % 2 ^ k = 0 <;> simp [h])
          replace TR1 := Lib.hid TR1
          have hql := Lib.hid (show q ≤ N by rw [← hq]; exact Nat.div_le_self _ _)
          rw [hrb]
          clear hq HZ1 HF DR hlk hrb
          have hs3 := OR.in_
          obtain ⟨P1, P2, P3⟩ := OA.at_
          clear hk hkm
          go_upto_region 11 with (go_at_call 33; refine TR1.out.mono ?_; rintro e w1 ⟨v1, rfl, hn1, hb1⟩; obtain ⟨sn, na, nl, nc, rfl⟩ := hn1.shape; replace hn1 := Lib.hid hn1)
          go_name_world W2 hW2
          have OA2 : Own W2 w.heap.size 27 #[.bool s, .slice a len cap] := hW2 ▸ (by
            have := OA.keep hb1
            repeat' (first | (with_reducible assumption) | (with_reducible refine Own.drawnN ?_ _) | (with_reducible refine Own.drawn ?_) | (with_reducible refine Own.made_at ?_; first | rfl | (simp; done) | omega | (simp; omega)) | (with_reducible refine Own.more ?_ _) | (with_reducible refine Own.apart ?_ ?_ _ _; rotate_left; first | omega | (simp; done) | (simp; omega)) | (refine Own.put ?_ _ _)))
          have OR2 : Own W2 (w.heap.size + 1) 27 #[.bool false, .slice none 0 0] := hW2 ▸ (by
            have := OR.keep hb1
            repeat' (first | (with_reducible assumption) | (with_reducible refine Own.drawnN ?_ _) | (with_reducible refine Own.drawn ?_) | (with_reducible refine Own.made_at ?_; first | rfl | (simp; done) | omega | (simp; omega)) | (with_reducible refine Own.more ?_ _) | (with_reducible refine Own.apart ?_ ?_ _ _; rotate_left; first | omega | (simp; done) | (simp; omega)) | (refine Own.put ?_ _ _)))
          have OP2 : Own W2 w1.heap.size 27 #[.bool sn, .slice na nl nc] := hW2 ▸ (by
            refine Own.as (cs := #[.bool sn, .slice na nl nc]) ?_ rfl
            repeat' (first | (with_reducible assumption) | (with_reducible refine Own.drawnN ?_ _) | (with_reducible refine Own.drawn ?_) | (with_reducible refine Own.made_at ?_; first | rfl | (simp; done) | omega | (simp; omega)) | (with_reducible refine Own.more ?_ _) | (with_reducible refine Own.apart ?_ ?_ _ _; rotate_left; first | omega | (simp; done) | (simp; omega)) | (refine Own.put ?_ _ _)))
          have hb2 : Below w1.heap.size w1 W2 := hW2 ▸ (by repeat' (first | (with_reducible exact Below.refl _ _) | (with_reducible assumption) | (with_reducible refine below_drewN ?_ _) | (with_reducible refine Below.drew ?_) | (with_reducible refine Below.alloc ?_ ?_ _) | (with_reducible refine Below.setCell ?_ ?_ _) | (with_reducible refine then_ ?_ (by with_reducible assumption) ?_) | (with_reducible exact Nat.le_refl _) | (with_reducible exact Nat.le_succ _) | (with_reducible exact Nat.le_succ_of_le (by with_reducible assumption)) | omega | (simp; done) | (simp; omega) | (exact Nat.le_succ _) | (exact Nat.le_succ_of_le (by with_reducible assumption))))
          have hB2 : Below w.heap.size w W2 := then_ (then_ hB hb1 hB.size) hb2 (by have := hB.size; have := hb1.size; omega)
          have hs4 : w.heap.size + 1 < w1.heap.size := (OR.keep hb1).in_
          have HN2 := Lib.hid (NumP.of (hn1.out.keep hb2) (S := fun b => (b < T ∨ w.heap.size + 2 ≤ b)) (fun b _ h => h))
          clear hW2 OA OR hB hn1 hb1 TR1 P1 P2 P3
          obtain ⟨P1, P2, P3⟩ := OA2.at_
          obtain ⟨Q1, Q2, Q3⟩ := OR2.at_
          obtain ⟨R1, R2, R3⟩ := OP2.at_
          by_cases hsr : (s && rb) = true
          · obtain ⟨rfl, rfl⟩ : s = true ∧ rb = true := by simpa using hsr
            have hl2 : (digs (if true = true then -(q : Int) else (q : Int)).natAbs).length ≤ 100000000 := by
              have h1 := hl.out
              have h2 := hql.out
              have : (digs q).length ≤ (digs N).length := Nat.le_of_not_lt fun h => by have h3 := digs_longer h; omega
              have e : (if true = true then -(q : Int) else (q : Int)).natAbs = q := by simp
              rw [e]; omega
            have hl3 : (digs (-1 : Int).natAbs).length ≤ 100000000 := by
              rw [show (-1 : Int).natAbs = 1 from rfl, digs_pos (by decide)]
              simp [digs_zero]
            have AD1 : ∀ w', Below W2.heap.size W2 w' → Own w' W2.heap.size 3 #[.int .i64 1] → Calls Tryd.prog 16 #[.agg #[.bool sn, .slice na nl nc], .agg #[.bool true, .slice (some ⟨W2.heap.size, 0, none⟩) 1 1]] w' fun e w'' => ∃ v2, e = .returned v2 ∧ Num w'' T w'.heap.size v2 (z / 2 ^ k) ∧ Below w'.heap.size w' w'' := fun w' hb ho => by
              have h := add_num T _ _ _ _ _ _ _ _ w' (by have := hb.size; omega) ((HN2.out.keep hb).old 0) ((mone_num ho (S := fun _ => True) trivial).old 0) hl2 hl3
              have e : (if true = true then -(q : Int) else (q : Int)) + -1 = z / 2 ^ k := HZ2.out
              rwa [e] at h
            have AD := Lib.hid AD1
            clear AD1 hl2 hl3 HZ2 hsr
            go_wp2_with (go_at_call 16; refine (AD.out _ (by repeat' (first | (with_reducible exact Below.refl _ _) | (with_reducible assumption) | (with_reducible refine below_drewN ?_ _) | (with_reducible refine Below.drew ?_) | (with_reducible refine Below.alloc ?_ ?_ _) | (with_reducible refine Below.setCell ?_ ?_ _) | (with_reducible refine then_ ?_ (by with_reducible assumption) ?_) | (with_reducible exact Nat.le_refl _) | (with_reducible exact Nat.le_succ _) | (with_reducible exact Nat.le_succ_of_le (by with_reducible assumption)) | omega | (simp; done) | (simp; omega) | (exact Nat.le_succ _) | (exact Nat.le_succ_of_le (by with_reducible assumption)))) (by repeat' (first | (with_reducible assumption) | (with_reducible refine Own.drawnN ?_ _) | (with_reducible refine Own.drawn ?_) | (with_reducible refine Own.made_at ?_; first | rfl | (simp; done) | omega | (simp; omega)) | (with_reducible refine Own.more ?_ _) | (with_reducible refine Own.apart ?_ ?_ _ _; rotate_left; first | omega | (simp; done) | (simp; omega)) | (refine Own.put ?_ _ _)))).mono ?_; rintro e w3 ⟨v2, rfl, hn3, hb3⟩; obtain ⟨s3, a3, l3, c3, rfl⟩ := hn3.shape; replace hn3 := Lib.hid hn3; have hb3' : Below W2.heap.size W2 w3 := then_ (by repeat' (first | (with_reducible exact Below.refl _ _) | (with_reducible assumption) | (with_reducible refine below_drewN ?_ _) | (with_reducible refine Below.drew ?_) | (with_reducible refine Below.alloc ?_ ?_ _) | (with_reducible refine Below.setCell ?_ ?_ _) | (with_reducible refine then_ ?_ (by with_reducible assumption) ?_) | (with_reducible exact Nat.le_refl _) | (with_reducible exact Nat.le_succ _) | (with_reducible exact Nat.le_succ_of_le (by with_reducible assumption)) | omega | (simp; done) | (simp; omega) | (exact Nat.le_succ _) | (exact Nat.le_succ_of_le (by with_reducible assumption)))) hb3 (by simp); have OR3 := OR2.keep hb3'; obtain ⟨Q1, Q2, Q3⟩ := OR3.at_; have hB3 := then_ hB2 hb3' hB2.size; have hs5 := hb2.size; clear R1 R2 R3 P1 P2 P3)
            refine bodyPost_ret (v := .agg #[.bool s3, .slice a3 l3 c3]) (by simp [results, Tryd.results27, go_sem, Q1]) rfl ⟨_, rfl, ?_, ?_⟩
            · exact ((hn3.out.put (by omega) (by simp; omega) _).put (by omega) (by simp; omega) _).mono (Nat.le_refl _) (by simp; omega)
            · repeat' (first | (with_reducible exact Below.refl _ _) | (with_reducible assumption) | (with_reducible refine below_drewN ?_ _) | (with_reducible refine Below.drew ?_) | (with_reducible refine Below.alloc ?_ ?_ _) | (with_reducible refine Below.setCell ?_ ?_ _) | (with_reducible refine then_ ?_ (by with_reducible assumption) ?_) | (with_reducible exact Nat.le_refl _) | (with_reducible exact Nat.le_succ _) | (with_reducible exact Nat.le_succ_of_le (by with_reducible assumption)) | omega | (simp; done) | (simp; omega) | (exact Nat.le_succ _) | (exact Nat.le_succ_of_le (by with_reducible assumption)))
          · have hsr2 : (s && rb) = false := by simpa using hsr
            have HZ3 := Lib.hid (show (if s = true then -(q : Int) else (q : Int)) = z / 2 ^ k by have := HZ2.out; rw [hsr2] at this; simpa using this)
            have HN3 := HN2.out
            rw [HZ3.out] at HN3
            replace HN3 := Lib.hid HN3
            clear HZ2 HZ3 HN2 hsr hl hql
            have e2 : ¬ w.heap.size + 1 = w1.heap.size := by omega
            cases s <;> cases rb <;> (try exact absurd hsr2 (by decide))
            all_goals
              clear hsr2
              go_wp2
              refine bodyPost_ret (v := .agg #[.bool sn, .slice na nl nc]) (by simp [results, Tryd.results27, go_sem, Q1]) rfl ⟨_, rfl, ?_, ?_⟩
              · exact ((HN3.out.put (by omega) _).put (by omega) _).num (fun b hs _ => by omega)
              · repeat' (first | (with_reducible exact Below.refl _ _) | (with_reducible assumption) | (with_reducible refine below_drewN ?_ _) | (with_reducible refine Below.drew ?_) | (with_reducible refine Below.alloc ?_ ?_ _) | (with_reducible refine Below.setCell ?_ ?_ _) | (with_reducible refine then_ ?_ (by with_reducible assumption) ?_) | (with_reducible exact Nat.le_refl _) | (with_reducible exact Nat.le_succ _) | (with_reducible exact Nat.le_succ_of_le (by with_reducible assumption)) | omega | (simp; done) | (simp; omega) | (exact Nat.le_succ _) | (exact Nat.le_succ_of_le (by with_reducible assumption)))
  exact main _ _ rfl rfl
end Go.Proofs.YtdnjkminicmffaaDoor
end
