/- merged: The contracts of croftref04.of, of croftref03.Neg and Words as the fractions want them. The contract of croftref04.fit, of two numbers: do both fit? The contracts of croftref04.one, Right, Sign: whether a fraction is right, and its sign. Conditions: numbers that a wide.Int can be. -/
import Derived.Test.YtjmojddnedngaaaDoorGcdA
import Derived.Test.YtjmojddnedngaaaDoorRefV
import Derived.Test.YtjmojddnedngaaaDoorFbA
import Derived.Test.YtjmojddnedngaaaDoorSeq
section
namespace Go.Proofs.YtjmojddnedngaaaDoor
open Go.ChangeShapes Go.WideShapes Go.ChangeAt Go.RowKit
set_option linter.unusedVariables false

set_option maxHeartbeats 4000000 in
set_option maxRecDepth 20000 in
theorem of_num (z : Int) (hz : Fit z) (w : World) :
    Calls Tryd.prog 13 #[.agg #[.int .u64 (L0 z), .int .u64 (L1 z), .int .u64 (L2 z), .int .u64 (L3 z)]] w fun e w' => ∃ v, e = .returned v ∧ NumP w' (fun b => w.heap.size ≤ b) v z ∧ Below w.heap.size w w' := by
  have F0 := Lib.hid (fun T w h => from_num T z hz w h)
  clear hz
  go_enter Tryd.func13, Tryd.ntmps13
  go_upto_region 1 with fail
  go_name_world W0 hW0
  have OA : Own W0 w.heap.size 23 #[.int .u64 (L0 z), .int .u64 (L1 z), .int .u64 (L2 z), .int .u64 (L3 z)] := hW0 ▸ (by repeat' (first | (with_reducible assumption) | (with_reducible refine Own.drawnN ?_ _) | (with_reducible refine Own.drawn ?_) | (with_reducible refine Own.made_at ?_; first | rfl | (simp; done) | omega | (simp; omega)) | (with_reducible refine Own.more ?_ _) | (with_reducible refine Own.apart ?_ ?_ _ _; rotate_left; first | omega | (simp; done) | (simp; omega)) | (refine Own.put ?_ _ _)))
  have OR : Own W0 (w.heap.size + 1) 42 #[.bool false, .slice none 0 0] := hW0 ▸ (by repeat' (first | (with_reducible assumption) | (with_reducible refine Own.drawnN ?_ _) | (with_reducible refine Own.drawn ?_) | (with_reducible refine Own.made_at ?_; first | rfl | (simp; done) | omega | (simp; omega)) | (with_reducible refine Own.more ?_ _) | (with_reducible refine Own.apart ?_ ?_ _ _; rotate_left; first | omega | (simp; done) | (simp; omega)) | (refine Own.put ?_ _ _)))
  have hB : Below w.heap.size w W0 := hW0 ▸ (by repeat' (first | (with_reducible exact Below.refl _ _) | (with_reducible assumption) | (with_reducible refine below_drewN ?_ _) | (with_reducible refine Below.drew ?_) | (with_reducible refine Below.alloc ?_ ?_ _) | (with_reducible refine Below.setCell ?_ ?_ _) | (with_reducible refine then_ ?_ (by with_reducible assumption) ?_) | (with_reducible exact Nat.le_refl _) | (with_reducible exact Nat.le_succ _) | (with_reducible exact Nat.le_succ_of_le (by with_reducible assumption)) | omega | (simp; done) | (simp; omega) | (exact Nat.le_succ _) | (exact Nat.le_succ_of_le (by with_reducible assumption))))
  clear hW0
  obtain ⟨P1, P2, P3⟩ := OA.at_
  go_wp2_with (go_at_call 32; refine (F0.out 0 W0 (Nat.zero_le _)).mono ?_; rintro e w1 ⟨v, rfl, hn, hb⟩; obtain ⟨s, a, l, c, rfl⟩ := hn.shape; have HN := Lib.hid (NumP.of hn (S := fun b => W0.heap.size ≤ b) (fun b _ h => by omega)); have OR1 := OR.keep hb; have hB1 := then_ hB hb hB.size; have hs := OR.in_; clear hn hb P1 P2 P3; obtain ⟨P1, P2, P3⟩ := OR1.at_)
  refine bodyPost_ret (v := .agg #[.bool s, .slice a l c]) (by simp [results, Tryd.results13, go_sem, P1]) rfl ⟨_, rfl, ?_, ?_⟩
  · exact ((HN.out.put (by omega) _).put (by omega) _).mono (fun b _ h => by omega)
  · repeat' (first | (with_reducible exact Below.refl _ _) | (with_reducible assumption) | (with_reducible refine below_drewN ?_ _) | (with_reducible refine Below.drew ?_) | (with_reducible refine Below.alloc ?_ ?_ _) | (with_reducible refine Below.setCell ?_ ?_ _) | (with_reducible refine then_ ?_ (by with_reducible assumption) ?_) | (with_reducible exact Nat.le_refl _) | (with_reducible exact Nat.le_succ _) | (with_reducible exact Nat.le_succ_of_le (by with_reducible assumption)) | omega | (simp; done) | (simp; omega) | (exact Nat.le_succ _) | (exact Nat.le_succ_of_le (by with_reducible assumption)))

set_option maxHeartbeats 4000000 in
set_option maxRecDepth 20000 in
theorem neg_P (S : Nat → Prop) (v : Value) (z : Int) (w : World) (hv : NumP w S v z) :
    Calls Tryd.prog 18 #[v] w fun e w' => ∃ v', e = .returned v' ∧ NumP w' (fun b => S b ∧ b < w.heap.size) v' (-z) ∧ Below w.heap.size w w' := by
  have hv' := hv.mono (S' := fun b => S b ∧ b < w.heap.size) (fun b h h' => ⟨h', h⟩)
  obtain ⟨a, len, cap, rfl, hr⟩ := hv'
  have TR1 : ∀ w', Below w.heap.size w w' → Calls Tryd.prog 33 #[.agg #[.bool (!decide (z < 0)), .slice a len cap]] w' fun e w'' => ∃ v, e = .returned v ∧ (∃ n a len cap, v = .agg #[.bool n, .slice a len cap]) ∧ NumP w'' (fun b => S b ∧ b < w.heap.size) v (-z) ∧ Below w'.heap.size w' w'' := fun w' hb => by
    refine (trim_P _ (!decide (z < 0)) a len cap (digs z.natAbs) z.natAbs w' (hr.keep hb) (Dg.digs _) (vl_digs _)).mono ?_
    rintro e w'' ⟨v, he, hn, hb'⟩
    have e1 : (if (!decide (z < 0)) = true then -(z.natAbs : Int) else z.natAbs) = -z := by
      by_cases h : z < 0
      · simp [h]; omega
      · simp [h]; omega
    rw [e1] at hn
    exact ⟨v, he, hn.shape, hn, hb'⟩
  have TR := Lib.hid TR1
  clear TR1 hr hv
  obtain ⟨s, hs⟩ : ∃ s, decide (z < 0) = s := ⟨_, rfl⟩
  rw [hs] at TR ⊢
  clear hs
  go_enter Tryd.func18, Tryd.ntmps18
  go_wp2_with fail
  go_at_call 33
  refine (TR.out _ (by repeat' (first | (with_reducible exact Below.refl _ _) | (with_reducible assumption) | (with_reducible refine below_drewN ?_ _) | (with_reducible refine Below.drew ?_) | (with_reducible refine Below.alloc ?_ ?_ _) | (with_reducible refine Below.setCell ?_ ?_ _) | (with_reducible refine then_ ?_ (by with_reducible assumption) ?_) | (with_reducible exact Nat.le_refl _) | (with_reducible exact Nat.le_succ _) | (with_reducible exact Nat.le_succ_of_le (by with_reducible assumption)) | omega | (simp; done) | (simp; omega) | (exact Nat.le_succ _) | (exact Nat.le_succ_of_le (by with_reducible assumption))))).mono ?_
  rintro e w1 ⟨v', rfl, ⟨n', a', l', c', rfl⟩, hn, hb⟩
  have O2 : Own w1 (w.heap.size + 1) 42 #[.bool false, .slice none 0 0] := by
    refine Own.keep ?_ hb
    repeat' (first | (with_reducible assumption) | (with_reducible refine Own.drawnN ?_ _) | (with_reducible refine Own.drawn ?_) | (with_reducible refine Own.made_at ?_; first | rfl | (simp; done) | omega | (simp; omega)) | (with_reducible refine Own.more ?_ _) | (with_reducible refine Own.apart ?_ ?_ _ _; rotate_left; first | omega | (simp; done) | (simp; omega)) | (refine Own.put ?_ _ _))
  obtain ⟨Q1, Q2, Q3⟩ := O2.at_
  have hB : Below w.heap.size w w1 := by
    refine then_ ?_ hb (by simp; omega)
    repeat' (first | (with_reducible exact Below.refl _ _) | (with_reducible assumption) | (with_reducible refine below_drewN ?_ _) | (with_reducible refine Below.drew ?_) | (with_reducible refine Below.alloc ?_ ?_ _) | (with_reducible refine Below.setCell ?_ ?_ _) | (with_reducible refine then_ ?_ (by with_reducible assumption) ?_) | (with_reducible exact Nat.le_refl _) | (with_reducible exact Nat.le_succ _) | (with_reducible exact Nat.le_succ_of_le (by with_reducible assumption)) | omega | (simp; done) | (simp; omega) | (exact Nat.le_succ _) | (exact Nat.le_succ_of_le (by with_reducible assumption)))
  clear hb O2
  have HN := Lib.hid hn
  clear hn TR
  go_wp2
  refine bodyPost_ret (v := .agg #[.bool n', .slice a' l' c']) (by simp [results, Tryd.results18, go_sem, Q1]) rfl ⟨_, rfl, ?_, ?_⟩
  · exact (HN.out.put (by rintro ⟨_, h⟩; omega) _).put (by rintro ⟨_, h⟩; omega) _
  · repeat' (first | (with_reducible exact Below.refl _ _) | (with_reducible assumption) | (with_reducible refine below_drewN ?_ _) | (with_reducible refine Below.drew ?_) | (with_reducible refine Below.alloc ?_ ?_ _) | (with_reducible refine Below.setCell ?_ ?_ _) | (with_reducible refine then_ ?_ (by with_reducible assumption) ?_) | (with_reducible exact Nat.le_refl _) | (with_reducible exact Nat.le_succ _) | (with_reducible exact Nat.le_succ_of_le (by with_reducible assumption)) | omega | (simp; done) | (simp; omega) | (exact Nat.le_succ _) | (exact Nat.le_succ_of_le (by with_reducible assumption)))

theorem words_fb (T C : Nat) (v : Value) (z : Int) (w : World) (hv : Num w T C v z) :
    Calls Tryd.prog 34 #[v] w fun e w' => e = .returned (.tuple #[.agg #[.int .u64 (L0 (fz z)), .int .u64 (L1 (fz z)), .int .u64 (L2 (fz z)), .int .u64 (L3 (fz z))], .bool (fb z)]) ∧ Below w.heap.size w w' := by
  refine (words_num T C v z w hv).mono ?_
  rintro e w' ⟨h | h, hb⟩
  · refine ⟨?_, hb⟩
    have h1 := (fb_fit z).2 h.1
    rw [h.2]; unfold fz; rw [h1]; rfl
  · refine ⟨?_, hb⟩
    have h1 : fb z = false := by
      cases e : fb z
      · rfl
      · exact absurd ((fb_fit z).1 e) h.1
    rw [h.2]; unfold fz; rw [h1]; rfl
end Go.Proofs.YtjmojddnedngaaaDoor
end
section
namespace Go.Proofs.YtjmojddnedngaaaDoor
open Go.ChangeShapes Go.WideShapes Go.ChangeAt Go.RowKit
set_option linter.unusedVariables false
set_option linter.unusedSimpArgs false

set_option maxHeartbeats 8000000 in
set_option maxRecDepth 20000 in
theorem fit_two {x y : Int} {S1 S2 : Nat → Prop} {s1 s2 : Bool} {a1 a2 : Option Addr} {l1 c1 l2 c2 g : Nat} (w : World) (ho : Own w g 42 #[.bool s1, .slice a1 l1 c1, .bool s2, .slice a2 l2 c2])
    (h1 : NumP w S1 (.agg #[.bool s1, .slice a1 l1 c1]) x) (h2 : NumP w S2 (.agg #[.bool s2, .slice a2 l2 c2]) y) :
    Calls Tryd.prog 15 #[.slice (some ⟨g, 0, none⟩) 2 2] w fun e w' => e = .returned (.bool (fb x && fb y)) ∧ Below w.heap.size w w' := by
  have W1 := Lib.hid (fun w1 (hb : Below w.heap.size w w1) => words_fb _ 0 _ x w1 ((h1.keep hb).old 0))
  have W2 := Lib.hid (fun w1 (hb : Below w.heap.size w w1) => words_fb _ 0 _ y w1 ((h2.keep hb).old 0))
  have HO := Lib.hid ho
  have hg := ho.in_
  clear h1 h2 ho
  obtain ⟨p, hp⟩ : ∃ p, fb x = p := ⟨_, rfl⟩
  obtain ⟨q, hq⟩ : ∃ q, fb y = q := ⟨_, rfl⟩
  obtain ⟨X, hX⟩ : ∃ X, fz x = X := ⟨_, rfl⟩
  obtain ⟨Y, hY⟩ : ∃ Y, fz y = Y := ⟨_, rfl⟩
  rw [hp, hX] at W1
  rw [hq, hY] at W2
  rw [hp, hq]
  clear hp hq hX hY
  go_enter Tryd.func15, Tryd.ntmps15
  go_wp2
  go_loopg [3] 2 (fun m i wr => ∃ k : Nat, m + k = 2 ∧ i = .int .i64 k ∧ (0 < k → p = true) ∧ (1 < k → q = true) ∧ Below w.heap.size w wr)
  case atStart => exact ⟨0, rfl, rfl, by simp, by simp, by repeat' (first | (with_reducible exact Below.refl _ _) | (with_reducible assumption) | (with_reducible refine below_drewN ?_ _) | (with_reducible refine Below.drew ?_) | (with_reducible refine Below.alloc ?_ ?_ _) | (with_reducible refine Below.setCell ?_ ?_ _) | (with_reducible refine then_ ?_ (by with_reducible assumption) ?_) | (with_reducible exact Nat.le_refl _) | (with_reducible exact Nat.le_succ _) | (with_reducible exact Nat.le_succ_of_le (by with_reducible assumption)) | omega | (simp; done) | (simp; omega) | (exact Nat.le_succ _) | (exact Nat.le_succ_of_le (by with_reducible assumption)))⟩
  case round =>
    obtain ⟨k, hk, rfl, hp, hq, hB⟩ := hrel
    obtain ⟨P1, P2, P3⟩ := (HO.out.keep hB).at_
    rcases (by omega : k = 0 ∨ k = 1 ∨ k = 2) with rfl | rfl | rfl
    · clear hp hq
      cases p with
      | true =>
        go_wp2_with (go_at_call 34; refine (W1.out _ (by repeat' (first | (with_reducible exact Below.refl _ _) | (with_reducible assumption) | (with_reducible refine below_drewN ?_ _) | (with_reducible refine Below.drew ?_) | (with_reducible refine Below.alloc ?_ ?_ _) | (with_reducible refine Below.setCell ?_ ?_ _) | (with_reducible refine then_ ?_ (by with_reducible assumption) ?_) | (with_reducible exact Nat.le_refl _) | (with_reducible exact Nat.le_succ _) | (with_reducible exact Nat.le_succ_of_le (by with_reducible assumption)) | omega | (simp; done) | (simp; omega) | (exact Nat.le_succ _) | (exact Nat.le_succ_of_le (by with_reducible assumption))))).mono ?_; rintro e w1 ⟨rfl, hb1⟩; have hB1 : Below w.heap.size w w1 := then_ hB hb1 hB.size; have hz1 := hB1.size)
        go_roundg 1
        case measure => omega
        case rel => exact ⟨1, by omega, by go_num, by simp, by simp, by repeat' (first | (with_reducible exact Below.refl _ _) | (with_reducible assumption) | (with_reducible refine below_drewN ?_ _) | (with_reducible refine Below.drew ?_) | (with_reducible refine Below.alloc ?_ ?_ _) | (with_reducible refine Below.setCell ?_ ?_ _) | (with_reducible refine then_ ?_ (by with_reducible assumption) ?_) | (with_reducible exact Nat.le_refl _) | (with_reducible exact Nat.le_succ _) | (with_reducible exact Nat.le_succ_of_le (by with_reducible assumption)) | omega | (simp; done) | (simp; omega) | (exact Nat.le_succ _) | (exact Nat.le_succ_of_le (by with_reducible assumption)))⟩
      | false =>
        go_wp2_with (go_at_call 34; refine (W1.out _ (by repeat' (first | (with_reducible exact Below.refl _ _) | (with_reducible assumption) | (with_reducible refine below_drewN ?_ _) | (with_reducible refine Below.drew ?_) | (with_reducible refine Below.alloc ?_ ?_ _) | (with_reducible refine Below.setCell ?_ ?_ _) | (with_reducible refine then_ ?_ (by with_reducible assumption) ?_) | (with_reducible exact Nat.le_refl _) | (with_reducible exact Nat.le_succ _) | (with_reducible exact Nat.le_succ_of_le (by with_reducible assumption)) | omega | (simp; done) | (simp; omega) | (exact Nat.le_succ _) | (exact Nat.le_succ_of_le (by with_reducible assumption))))).mono ?_; rintro e w1 ⟨rfl, hb1⟩; have hB1 : Below w.heap.size w w1 := then_ hB hb1 hB.size; have hz1 := hB1.size)
        go_ret
        exact ⟨rfl, by repeat' (first | (with_reducible exact Below.refl _ _) | (with_reducible assumption) | (with_reducible refine below_drewN ?_ _) | (with_reducible refine Below.drew ?_) | (with_reducible refine Below.alloc ?_ ?_ _) | (with_reducible refine Below.setCell ?_ ?_ _) | (with_reducible refine then_ ?_ (by with_reducible assumption) ?_) | (with_reducible exact Nat.le_refl _) | (with_reducible exact Nat.le_succ _) | (with_reducible exact Nat.le_succ_of_le (by with_reducible assumption)) | omega | (simp; done) | (simp; omega) | (exact Nat.le_succ _) | (exact Nat.le_succ_of_le (by with_reducible assumption)))⟩
    · obtain rfl : p = true := hp (by omega)
      clear hp hq
      cases q with
      | true =>
        go_wp2_with (go_at_call 34; refine (W2.out _ (by repeat' (first | (with_reducible exact Below.refl _ _) | (with_reducible assumption) | (with_reducible refine below_drewN ?_ _) | (with_reducible refine Below.drew ?_) | (with_reducible refine Below.alloc ?_ ?_ _) | (with_reducible refine Below.setCell ?_ ?_ _) | (with_reducible refine then_ ?_ (by with_reducible assumption) ?_) | (with_reducible exact Nat.le_refl _) | (with_reducible exact Nat.le_succ _) | (with_reducible exact Nat.le_succ_of_le (by with_reducible assumption)) | omega | (simp; done) | (simp; omega) | (exact Nat.le_succ _) | (exact Nat.le_succ_of_le (by with_reducible assumption))))).mono ?_; rintro e w1 ⟨rfl, hb1⟩; have hB1 : Below w.heap.size w w1 := then_ hB hb1 hB.size; have hz1 := hB1.size)
        go_roundg 0
        case measure => omega
        case rel => exact ⟨2, by omega, by go_num, by simp, by simp, by repeat' (first | (with_reducible exact Below.refl _ _) | (with_reducible assumption) | (with_reducible refine below_drewN ?_ _) | (with_reducible refine Below.drew ?_) | (with_reducible refine Below.alloc ?_ ?_ _) | (with_reducible refine Below.setCell ?_ ?_ _) | (with_reducible refine then_ ?_ (by with_reducible assumption) ?_) | (with_reducible exact Nat.le_refl _) | (with_reducible exact Nat.le_succ _) | (with_reducible exact Nat.le_succ_of_le (by with_reducible assumption)) | omega | (simp; done) | (simp; omega) | (exact Nat.le_succ _) | (exact Nat.le_succ_of_le (by with_reducible assumption)))⟩
      | false =>
        go_wp2_with (go_at_call 34; refine (W2.out _ (by repeat' (first | (with_reducible exact Below.refl _ _) | (with_reducible assumption) | (with_reducible refine below_drewN ?_ _) | (with_reducible refine Below.drew ?_) | (with_reducible refine Below.alloc ?_ ?_ _) | (with_reducible refine Below.setCell ?_ ?_ _) | (with_reducible refine then_ ?_ (by with_reducible assumption) ?_) | (with_reducible exact Nat.le_refl _) | (with_reducible exact Nat.le_succ _) | (with_reducible exact Nat.le_succ_of_le (by with_reducible assumption)) | omega | (simp; done) | (simp; omega) | (exact Nat.le_succ _) | (exact Nat.le_succ_of_le (by with_reducible assumption))))).mono ?_; rintro e w1 ⟨rfl, hb1⟩; have hB1 : Below w.heap.size w w1 := then_ hB hb1 hB.size; have hz1 := hB1.size)
        go_ret
        exact ⟨rfl, by repeat' (first | (with_reducible exact Below.refl _ _) | (with_reducible assumption) | (with_reducible refine below_drewN ?_ _) | (with_reducible refine Below.drew ?_) | (with_reducible refine Below.alloc ?_ ?_ _) | (with_reducible refine Below.setCell ?_ ?_ _) | (with_reducible refine then_ ?_ (by with_reducible assumption) ?_) | (with_reducible exact Nat.le_refl _) | (with_reducible exact Nat.le_succ _) | (with_reducible exact Nat.le_succ_of_le (by with_reducible assumption)) | omega | (simp; done) | (simp; omega) | (exact Nat.le_succ _) | (exact Nat.le_succ_of_le (by with_reducible assumption)))⟩
    · obtain rfl : p = true := hp (by omega)
      obtain rfl : q = true := hq (by omega)
      go_wp2
      go_ret
      exact ⟨rfl, by repeat' (first | (with_reducible exact Below.refl _ _) | (with_reducible assumption) | (with_reducible refine below_drewN ?_ _) | (with_reducible refine Below.drew ?_) | (with_reducible refine Below.alloc ?_ ?_ _) | (with_reducible refine Below.setCell ?_ ?_ _) | (with_reducible refine then_ ?_ (by with_reducible assumption) ?_) | (with_reducible exact Nat.le_refl _) | (with_reducible exact Nat.le_succ _) | (with_reducible exact Nat.le_succ_of_le (by with_reducible assumption)) | omega | (simp; done) | (simp; omega) | (exact Nat.le_succ _) | (exact Nat.le_succ_of_le (by with_reducible assumption)))⟩
end Go.Proofs.YtjmojddnedngaaaDoor
end
section
namespace Go.Proofs.YtjmojddnedngaaaDoor
open Go.ChangeShapes Go.WideShapes Go.ChangeAt Go.RowKit
set_option linter.unusedVariables false
set_option linter.unusedSimpArgs false

theorem fit20 {z : Int} (h : Fit z) : z.natAbs < 65536 ^ 20 := by
  have h1 := h.lo
  have h2 := h.hi
  have : (65536 : Nat) ^ 20 = 2135987035920910082395021706169552114602704522356652769947041607822219725780640550022962086936576 := by decide
  omega
set_option maxHeartbeats 4000000 in
set_option maxRecDepth 20000 in
theorem one_any (S : Nat → Prop) (v : Value) (z : Int) (w : World) (hv : NumP w S v z) : Calls Tryd.prog 30 #[v] w fun e w' => e = .returned (.bool (decide (z = 1))) ∧ Below w.heap.size w w' := by
  obtain ⟨a, len, cap, rfl, hr⟩ := hv
  have hl := hr.hlen
  have hcp := hr.hcap
  have hmx := hr.hmax
  unfold maxLen at hmx
  by_cases h1 : z < 0
  · have e1 : decide (z < 0) = true := decide_eq_true h1
    have e2 : decide (z = 1) = false := decide_eq_false (by omega)
    rw [e1, e2]
    clear hr hl e1 e2 h1
    go_enter Tryd.func30, Tryd.ntmps30
    go_wp2
    go_ret
    exact ⟨rfl, by repeat' (first | (with_reducible exact Below.refl _ _) | (with_reducible assumption) | (with_reducible refine below_drewN ?_ _) | (with_reducible refine Below.drew ?_) | (with_reducible refine Below.alloc ?_ ?_ _) | (with_reducible refine Below.setCell ?_ ?_ _) | (with_reducible refine then_ ?_ (by with_reducible assumption) ?_) | (with_reducible exact Nat.le_refl _) | (with_reducible exact Nat.le_succ _) | (with_reducible exact Nat.le_succ_of_le (by with_reducible assumption)) | omega | (simp; done) | (simp; omega) | (exact Nat.le_succ _) | (exact Nat.le_succ_of_le (by with_reducible assumption)))⟩
  · have e1 : decide (z < 0) = false := decide_eq_false h1
    rw [e1]
    by_cases h0 : z.natAbs = 0
    · have e2 : decide (z = 1) = false := decide_eq_false (by omega)
      rw [e2]
      have hl0 : len = 0 := by rw [← hl, h0, digs_zero]; rfl
      have t1 : ((len : Int) == 1) = false := by simp; omega
      clear hr hl e1 e2 h1 h0 hl0
      go_enter Tryd.func30, Tryd.ntmps30
      go_wp2
      go_ret
      exact ⟨rfl, by repeat' (first | (with_reducible exact Below.refl _ _) | (with_reducible assumption) | (with_reducible refine below_drewN ?_ _) | (with_reducible refine Below.drew ?_) | (with_reducible refine Below.alloc ?_ ?_ _) | (with_reducible refine Below.setCell ?_ ?_ _) | (with_reducible refine then_ ?_ (by with_reducible assumption) ?_) | (with_reducible exact Nat.le_refl _) | (with_reducible exact Nat.le_succ _) | (with_reducible exact Nat.le_succ_of_le (by with_reducible assumption)) | omega | (simp; done) | (simp; omega) | (exact Nat.le_succ _) | (exact Nat.le_succ_of_le (by with_reducible assumption)))⟩
    · have hd := digs_pos h0
      by_cases hr1 : digs (z.natAbs / 65536) = []
      · have hq := digs_nil hr1
        have hl1 : len = 1 := by rw [← hl, hd, hr1]; rfl
        obtain ⟨b, o, rfl, hS, hb, hc⟩ : ∃ b o, a = some ⟨b, o, none⟩ ∧ S b ∧ b < w.heap.size ∧ ∀ i z', (digs z.natAbs)[i]? = some z' → w.cell? ⟨b, o + i, none⟩ = some (.int .i64 z') := by
          rcases hr.hcells with h | h
          · rw [hd] at h; cases h
          · exact h
        have c0 := hc 0 z (by rw [hd]; simp; omega)
        have c1 : (w.alloc (.cells #[.bool false, .slice (some ⟨b, o, none⟩) len cap] 42)).cell? ⟨b, o, none⟩ = some (.int .i64 z) := (World.cell?_of_block (w := w) (a := ⟨b, o, none⟩) (Below.heap_alloc w _ b hb)).trans c0
        have c2 : w.cell? ⟨b, o, none⟩ = some (.int .i64 z) := c0
        have t1 : ((len : Int) == 1) = true := by simp; omega
        have e3 : decide (z = 1) = (z == 1) := rfl
        have hlp : 0 < len := by omega
        clear hr hl e1 h1 h0 hd hr1 hc c0 hq
        obtain ⟨t, ht⟩ : ∃ t, (z == 1) = t := ⟨_, rfl⟩
        rw [e3, ht]
        cases t
        · go_enter Tryd.func30, Tryd.ntmps30
          go_wp2
          go_ret
          exact ⟨rfl, by repeat' (first | (with_reducible exact Below.refl _ _) | (with_reducible assumption) | (with_reducible refine below_drewN ?_ _) | (with_reducible refine Below.drew ?_) | (with_reducible refine Below.alloc ?_ ?_ _) | (with_reducible refine Below.setCell ?_ ?_ _) | (with_reducible refine then_ ?_ (by with_reducible assumption) ?_) | (with_reducible exact Nat.le_refl _) | (with_reducible exact Nat.le_succ _) | (with_reducible exact Nat.le_succ_of_le (by with_reducible assumption)) | omega | (simp; done) | (simp; omega) | (exact Nat.le_succ _) | (exact Nat.le_succ_of_le (by with_reducible assumption)))⟩
        · go_enter Tryd.func30, Tryd.ntmps30
          go_wp2
          go_ret
          exact ⟨rfl, by repeat' (first | (with_reducible exact Below.refl _ _) | (with_reducible assumption) | (with_reducible refine below_drewN ?_ _) | (with_reducible refine Below.drew ?_) | (with_reducible refine Below.alloc ?_ ?_ _) | (with_reducible refine Below.setCell ?_ ?_ _) | (with_reducible refine then_ ?_ (by with_reducible assumption) ?_) | (with_reducible exact Nat.le_refl _) | (with_reducible exact Nat.le_succ _) | (with_reducible exact Nat.le_succ_of_le (by with_reducible assumption)) | omega | (simp; done) | (simp; omega) | (exact Nat.le_succ _) | (exact Nat.le_succ_of_le (by with_reducible assumption)))⟩
      · have e2 : decide (z = 1) = false := decide_eq_false (fun e => hr1 (by rw [e]; decide +kernel))
        rw [e2]
        have hl1 : 1 < len := by
          rw [← hl, hd]
          have := List.length_pos_iff.2 hr1
          simp only [List.length_cons]
          omega
        have t1 : ((len : Int) == 1) = false := by simp; omega
        clear hr hl e1 e2 h1 h0 hd hr1 hl1
        go_enter Tryd.func30, Tryd.ntmps30
        go_wp2
        go_ret
        exact ⟨rfl, by repeat' (first | (with_reducible exact Below.refl _ _) | (with_reducible assumption) | (with_reducible refine below_drewN ?_ _) | (with_reducible refine Below.drew ?_) | (with_reducible refine Below.alloc ?_ ?_ _) | (with_reducible refine Below.setCell ?_ ?_ _) | (with_reducible refine then_ ?_ (by with_reducible assumption) ?_) | (with_reducible exact Nat.le_refl _) | (with_reducible exact Nat.le_succ _) | (with_reducible exact Nat.le_succ_of_le (by with_reducible assumption)) | omega | (simp; done) | (simp; omega) | (exact Nat.le_succ _) | (exact Nat.le_succ_of_le (by with_reducible assumption)))⟩
set_option maxHeartbeats 8000000 in
set_option maxRecDepth 20000 in
theorem rright_any {n d : Int} (hn : Fit n) (hd : Fit d) (w : World) : Calls Tryd.prog 12 #[.agg #[.int .u64 (L0 n), .int .u64 (L1 n), .int .u64 (L2 n), .int .u64 (L3 n), .int .u64 (L0 d), .int .u64 (L1 d), .int .u64 (L2 d), .int .u64 (L3 d)]] w fun e w' => e = .returned (.bool (decide (Rgt n d))) ∧ Below w.heap.size w w' := by
  have FN := Lib.hid (fun w => of_num n hn w)
  have FD := Lib.hid (fun w => of_num d hd w)
  have LN := Lib.hid (fit20 hn)
  have LD := Lib.hid (fit20 hd)
  clear hn hd
  go_enter Tryd.func12, Tryd.ntmps12
  go_upto_region 1 with fail
  go_name_world W0 hW0
  have OA : Own W0 w.heap.size 31 #[.int .u64 (L0 n), .int .u64 (L1 n), .int .u64 (L2 n), .int .u64 (L3 n), .int .u64 (L0 d), .int .u64 (L1 d), .int .u64 (L2 d), .int .u64 (L3 d)] := hW0 ▸ (by repeat' (first | (with_reducible assumption) | (with_reducible refine Own.drawnN ?_ _) | (with_reducible refine Own.drawn ?_) | (with_reducible refine Own.made_at ?_; first | rfl | (simp; done) | omega | (simp; omega)) | (with_reducible refine Own.more ?_ _) | (with_reducible refine Own.apart ?_ ?_ _ _; rotate_left; first | omega | (simp; done) | (simp; omega)) | (refine Own.put ?_ _ _)))
  have hB : Below w.heap.size w W0 := hW0 ▸ (by repeat' (first | (with_reducible exact Below.refl _ _) | (with_reducible assumption) | (with_reducible refine below_drewN ?_ _) | (with_reducible refine Below.drew ?_) | (with_reducible refine Below.alloc ?_ ?_ _) | (with_reducible refine Below.setCell ?_ ?_ _) | (with_reducible refine then_ ?_ (by with_reducible assumption) ?_) | (with_reducible exact Nat.le_refl _) | (with_reducible exact Nat.le_succ _) | (with_reducible exact Nat.le_succ_of_le (by with_reducible assumption)) | omega | (simp; done) | (simp; omega) | (exact Nat.le_succ _) | (exact Nat.le_succ_of_le (by with_reducible assumption))))
  clear hW0
  obtain ⟨P1, P2, P3⟩ := OA.at_
  go_upto_region 2 with (go_at_call 13; refine (FD.out _).mono ?_; rintro e w1 ⟨v, rfl, hv, hb⟩; obtain ⟨a, l, c, rfl, hr⟩ := hv; have HR := Lib.hid hr; have HB1 := Lib.hid hb; clear hr hb P1 P2 P3)
  go_name_world W1 hW1
  have ON : Own W1 w1.heap.size 42 #[.bool (decide (d < 0)), .slice a l c] := hW1 ▸ (by repeat' (first | (with_reducible assumption) | (with_reducible refine Own.drawnN ?_ _) | (with_reducible refine Own.drawn ?_) | (with_reducible refine Own.made_at ?_; first | rfl | (simp; done) | omega | (simp; omega)) | (with_reducible refine Own.more ?_ _) | (with_reducible refine Own.apart ?_ ?_ _ _; rotate_left; first | omega | (simp; done) | (simp; omega)) | (refine Own.put ?_ _ _)))
  have b1 : Below w1.heap.size w1 W1 := hW1 ▸ (by repeat' (first | (with_reducible exact Below.refl _ _) | (with_reducible assumption) | (with_reducible refine below_drewN ?_ _) | (with_reducible refine Below.drew ?_) | (with_reducible refine Below.alloc ?_ ?_ _) | (with_reducible refine Below.setCell ?_ ?_ _) | (with_reducible refine then_ ?_ (by with_reducible assumption) ?_) | (with_reducible exact Nat.le_refl _) | (with_reducible exact Nat.le_succ _) | (with_reducible exact Nat.le_succ_of_le (by with_reducible assumption)) | omega | (simp; done) | (simp; omega) | (exact Nat.le_succ _) | (exact Nat.le_succ_of_le (by with_reducible assumption))))
  clear hW1
  have OA1 := (OA.keep HB1.out).keep b1
  have hBW : Below w.heap.size w W1 := then_ (then_ hB HB1.out hB.size) b1 (Nat.le_trans hB.size HB1.out.size)
  have ND : NumP W1 (fun _ => True) (.agg #[.bool (decide (d < 0)), .slice a l c]) d := ⟨a, l, c, rfl, (HR.out.keep b1).mono fun _ _ _ => trivial⟩
  have hll : (digs d.natAbs).length = l := HR.out.hlen
  by_cases h1 : d < 0
  · have e1 : decide (d < 0) = true := decide_eq_true h1
    have e2 : decide (Rgt n d) = false := decide_eq_false (fun h => by have := h.pos; omega)
    rw [e1] at ON
    have E2 := Lib.hid e2
    have hl0 : 0 < l := by
      rw [← hll, digs_pos (by omega)]
      simp
    obtain ⟨q1, q2, q3⟩ := ON.at_
    clear ND hll e1 e2 h1 HR OA OA1 hB b1 HB1
    go_quiet (fail)
    go_wp2
    go_ret
    exact ⟨by rw [E2.out] <;> rfl, below_drewN hBW _⟩
  · have e1 : decide (d < 0) = false := decide_eq_false h1
    rw [e1] at ON ND
    by_cases h0 : d.natAbs = 0
    · have e2 : decide (Rgt n d) = false := decide_eq_false (fun h => by have := h.pos; omega)
      have E2 := Lib.hid e2
      have hl0 : l = 0 := by rw [← hll, h0, digs_zero]; rfl
      have hl1 : ((0 : Int) < (l : Int)) = False := by simp; omega
      have hl2 : ¬ (0 < l) := by omega
      obtain ⟨q1, q2, q3⟩ := ON.at_
      clear ND hll e1 e2 h1 h0 HR OA OA1 hB b1 HB1 hl0
      go_quiet (fail)
      go_wp2
      go_ret
      exact ⟨by rw [E2.out] <;> rfl, below_drewN hBW _⟩
    · have hl0 : (0 : Int) < (l : Int) := by
        rw [← hll, digs_pos h0]
        simp only [List.length_cons]
        omega
      have e3 : decide (Rgt n d) = decide (gz n d = 1) := by
        rw [decide_eq_decide]
        exact ⟨fun h => h.2, fun h => ⟨by omega, h⟩⟩
      have E3 := Lib.hid e3
      have NDH := Lib.hid ND
      clear ND hll e1 h1 h0 HR OA hB b1 HB1 e3
      have hl0n : 0 < l := by omega
      refine wp_region_seq (fun W => Own W w.heap.size 31 #[.int .u64 (L0 n), .int .u64 (L1 n), .int .u64 (L2 n), .int .u64 (L3 n), .int .u64 (L0 d), .int .u64 (L1 d), .int .u64 (L2 d), .int .u64 (L3 d)] ∧ Own W w1.heap.size 42 #[.bool false, .slice a l c]) (0 :: 1 :: 2 :: 3 :: 4 :: 5 :: 6 :: 7 :: 8 :: 9 :: 10 :: 11 :: 13 :: 16 :: 17 :: []) (1 :: 6 :: 11 :: 13 :: []) (0 :: 1 :: 2 :: 3 :: 4 :: 5 :: 6 :: 7 :: 8 :: 9 :: 10 :: 11 :: 13 :: 12 :: 14 :: 15 :: 16 :: 17 :: []) (by kernel_rfl) (by kernel_rfl) rfl (by kernel_rfl) rfl (⟨OA1.drawn, ON.drawn⟩) (by simp only [picked, List.filterMap_cons, List.filterMap_nil, List.getElem?_cons_zero, List.getElem?_cons_succ, Option.map_some]; exact rfl) ?_
      iterate 13
        refine seq_want (v := ?_) rfl rfl (fun W hS => ?_) ?_
        rotate_left
        · first
            | (conv => lhs; simp [go_sem, hl0, hl0n]
               first | done | exact rfl)
            | (have hS := hS rfl
               obtain ⟨u1, u2⟩ := hS
               obtain ⟨u3, u4, u5⟩ := u1.at_
               obtain ⟨u6, u7, u8⟩ := u2.at_
               conv => lhs; simp [go_sem, *, hl0, hl0n]
               first | done | exact rfl)
        simp only [Act.put, List.setIfInBounds_toArray, List.set_cons_zero, List.set_cons_succ]
      refine seq_on rfl rfl fun K hK => ?_
      go_wp2_with (go_at_call 13; refine (FN.out _).mono ?_; rintro e w2 ⟨v2, rfl, hv2, hb2⟩)
      have OA2 := OA1.drawn.keep hb2
      have ON2 := ON.drawn.keep hb2
      have hB2 := then_ hBW.drew hb2 hBW.size
      have HG := Lib.hid (gcd_num (fun _ => True) _ _ n d w2 (hv2.mono fun _ _ _ => trivial) ((NDH.out.keep (Below.refl _ _).drew).keep hb2) LN.out LD.out)
      refine hK _ _ ⟨OA2, ON2⟩ ?_
      clear hK K
      refine seq_on rfl rfl fun K hK => ?_
      go_wp2_with (go_at_call 31; refine HG.out.mono ?_; rintro e w3 ⟨v3, rfl, hv3, hb3⟩)
      have OA3 := OA2.keep hb3
      have ON3 := ON2.keep hb3
      have hB3 := then_ hB2 hb3 hB2.size
      have HO := one_any _ _ _ w3 hv3
      change Calls _ _ _ _ (fun e w' => e = .returned (.bool (decide (gz n d = 1))) ∧ _) at HO
      obtain ⟨bb, hbb⟩ : ∃ bb, bb = decide (gz n d = 1) := ⟨_, rfl⟩
      rw [← hbb] at HO E3
      replace HO := Lib.hid HO
      refine hK _ _ ⟨OA3, ON3⟩ ?_
      clear hK K hbb HG hv3 hv2
      refine seq_on rfl rfl fun K hK => ?_
      go_wp2_with (go_at_call 30; refine HO.out.mono ?_; rintro e w4 ⟨rfl, hb4⟩)
      have hB4 := then_ hB3 hb4 hB3.size
      refine hK _ _ ⟨OA3.keep hb4, ON3.keep hb4⟩ ?_
      clear hK K
      iterate 2
        refine seq_want (v := ?_) rfl rfl (fun W hS => ?_) ?_
        rotate_left
        · conv => lhs; simp [go_sem]
          first | done | exact rfl
        simp only [Act.put, List.setIfInBounds_toArray, List.set_cons_zero, List.set_cons_succ]
      refine seq_end ?_
      go_wp2
      go_ret
      exact ⟨by rw [E3.out] <;> rfl, hB4⟩
end Go.Proofs.YtjmojddnedngaaaDoor
end
