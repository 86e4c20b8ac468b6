/- merged: The contract of croftref03.From: the number that four words in two's complement stand for. The mathematics of croftref03.Words: the words out of the digits. It speaks of no function. -/
import Derived.Test.YtjmojddnedngaaaDoorRefR
import Derived.Test.YtjmojddnedngaaaDoorRefT
import Derived.Test.YtjmojddnedngaaaDoorFbA
import Derived.Deep.LoopGhost
section
namespace Go.Proofs.YtjmojddnedngaaaDoor
open Go.ChangeShapes Go.WideShapes Go.ChangeAt Go.RowKit
set_option linter.unusedVariables false

/-- the array of words behind k rounds -/
def fw (z : Int) (k : Nat) : Array Value := #[.int .u64 (L0 z / 65536 ^ min k 4), .int .u64 (L1 z / 65536 ^ min (k - 4) 4), .int .u64 (L2 z / 65536 ^ min (k - 8) 4), .int .u64 (L3 z / 65536 ^ min (k - 12) 4)]
/-- the word that round k looks at -/
def fc (z : Int) (k : Nat) : Int := (if k < 4 then L0 z else if k < 8 then L1 z else if k < 12 then L2 z else L3 z) / 65536 ^ (k % 4)
theorem upto16 {k : Nat} (h : k < 16) : k = 0 ∨ k = 1 ∨ k = 2 ∨ k = 3 ∨ k = 4 ∨ k = 5 ∨ k = 6 ∨ k = 7 ∨ k = 8 ∨ k = 9 ∨ k = 10 ∨ k = 11 ∨ k = 12 ∨ k = 13 ∨ k = 14 ∨ k = 15 := by omega
theorem fw_zero (z : Int) : fw z 0 = #[.int .u64 (L0 z), .int .u64 (L1 z), .int .u64 (L2 z), .int .u64 (L3 z)] := by simp [fw]
theorem fw_get (z : Int) {k : Nat} (h : k < 16) : (fw z k)[k / 4]? = some (.int .u64 (fc z k)) := by
  rcases upto16 h with rfl | rfl | rfl | rfl | rfl | rfl | rfl | rfl | rfl | rfl | rfl | rfl | rfl | rfl | rfl | rfl <;> rfl
theorem fw_set (z : Int) {k : Nat} (h : k < 16) : (fw z k).setIfInBounds (k / 4) (.int .u64 (fc z k / 65536)) = fw z (k + 1) := by
  rcases upto16 h with rfl | rfl | rfl | rfl | rfl | rfl | rfl | rfl | rfl | rfl | rfl | rfl | rfl | rfl | rfl | rfl <;> (simp [fw, fc, L0, L1, L2, L3]; try omega)
theorem fc_range (z : Int) {k : Nat} (h : k < 16) : 0 ≤ fc z k ∧ fc z k ≤ 18446744073709551615 := by
  rcases upto16 h with rfl | rfl | rfl | rfl | rfl | rfl | rfl | rfl | rfl | rfl | rfl | rfl | rfl | rfl | rfl | rfl <;> (simp [fc, L0, L1, L2, L3]; omega)
theorem fc_mod (z : Int) {k : Nat} (h : k < 16) : fc z k % 65536 = frd (z % 115792089237316195423570985008687907853269984665640564039457584007913129639936) k := by
  rcases upto16 h with rfl | rfl | rfl | rfl | rfl | rfl | rfl | rfl | rfl | rfl | rfl | rfl | rfl | rfl | rfl | rfl <;> (simp [fc, frd, L0, L1, L2, L3]; try omega)

/-- what an append of another row leaves as it is -/
theorem grow_own {W w1 : World} {B k p : Nat} {v : Value} {T T' : TypeId} {xs : List Value} {cs : Array Value} {ob : Obj} (ho : Own W p T cs) (hg : (W.alloc ob).grownBy w1 v.ownBlock) (hr : W.ownsRow B T' 1 v k xs) (hp : p < B) : Own w1 p T cs :=
  (hg.block p (by have := ho.in_; simp; omega) (fun e => by have := (hr.lt p e.symm).1; omega)).trans (ho.more ob)
theorem row_snoc {w : World} {B : Nat} {T : TypeId} {v : Value} {k : Nat} {o : List Int} {d : Int} (h : w.ownsRow B T 1 v (k + 1) (o.map (Value.int .i64) ++ [.int .i64 d])) : w.ownsRow B T 1 v (k + 1) ((o ++ [d]).map (Value.int .i64)) := by
  rw [List.map_append]; exact h

theorem row_shape {w : World} {B : Nat} {T : TypeId} {v : Value} {k : Nat} {xs : List Value} (h : w.ownsRow B T 1 v (k + 1) xs) : ∃ g cap, v = .slice (some ⟨g, 0, none⟩) (k + 1) cap := by
  rcases h.2 with ⟨_, h⟩ | ⟨g, cap, _, h, _⟩
  · omega
  · exact ⟨g, cap, h⟩

-- WALK
set_option maxHeartbeats 8000000 in
set_option maxRecDepth 20000 in
theorem from_num (T : Nat) (z : Int) (hz : Fit z) (w : World) (hT : T ≤ w.heap.size) :
    Calls Tryd.prog 32 #[.agg #[.int .u64 (L0 z), .int .u64 (L1 z), .int .u64 (L2 z), .int .u64 (L3 z)]] w fun e w' => ∃ v, e = .returned v ∧ Num w' T w.heap.size v z ∧ Below w.heap.size w w' := by
  have TR1 : ∀ (w' : World) (v : Value), w.heap.size ≤ w'.heap.size → w'.ownsRow (w.heap.size + 3) 3 1 v 16 ((fr (z % 115792089237316195423570985008687907853269984665640564039457584007913129639936) (ngB z) 16).1.map (Value.int .i64)) → Calls Tryd.prog 33 #[.agg #[.bool (ngB z), v]] w' fun e w'' => ∃ v, e = .returned v ∧ (∃ n a len cap, v = .agg #[.bool n, .slice a len cap]) ∧ Num w'' T (w.heap.size + 3) v z ∧ Below w'.heap.size w' w'' := fun w' v hs ho => by
    obtain ⟨a, c, rfl, hr⟩ := own_row (T := T) ho
    obtain ⟨hl, hh⟩ := hz
    obtain ⟨_, hd, _⟩ := fr_ok (z % 115792089237316195423570985008687907853269984665640564039457584007913129639936) (ngB z) 16
    have hf := fr_16 z hl hh
    rw [← ngB_fit ⟨hl, hh⟩] at hf
    refine (trim_num T (w.heap.size + 3) (ngB z) a 16 c _ z.natAbs w' hr hd hf).mono ?_
    rintro e w'' ⟨v, he, hn, hb'⟩
    have e1 : (if ngB z = true then -(z.natAbs : Int) else z.natAbs) = z := by
      rw [ngB_fit ⟨hl, hh⟩]
      by_cases h : z < 0
      · simp [h]; omega
      · simp [h]; omega
    rw [e1] at hn
    exact ⟨v, he, hn.shape, hn, hb'⟩
  have TR := Lib.hid TR1
  clear TR1 hz
  have W4z := W4.of z
  obtain ⟨_, _, _, _, _, _, _, _⟩ := W4z
  obtain ⟨s, hs⟩ : ∃ s, ngB z = s := ⟨_, rfl⟩
  rw [hs] at TR
  have hs1 : decide (9223372036854775808 ≤ L3 z) = s := hs
  have hs2 : decide (L3 z ≥ 9223372036854775808) = s := hs
  clear hs
  obtain ⟨u, hu⟩ : ∃ u, z % 115792089237316195423570985008687907853269984665640564039457584007913129639936 = u := ⟨_, rfl⟩
  rw [hu] at TR
  have FM : ∀ k, k < 16 → fc z k % 65536 = frd u k := fun k h => hu ▸ fc_mod z h
  have HFM := Lib.hid FM
  clear hu FM
  obtain ⟨i0, hi, hz0, hz1, hz2⟩ := info_parts info_int
  go_enter Tryd.func32, Tryd.ntmps32
  go_upto_region 2 with fail
  go_name_world W0 hW0
  have OA : Own W0 w.heap.size 23 (fw z 0) := hW0 ▸ (by rw [fw_zero]; repeat' (first | (with_reducible assumption) | (with_reducible refine Own.drawnN ?_ _) | (with_reducible refine Own.drawn ?_) | (with_reducible refine Own.made_at ?_; first | rfl | (simp; done) | omega | (simp; omega)) | (with_reducible refine Own.more ?_ _) | (with_reducible refine Own.apart ?_ ?_ _ _; rotate_left; first | omega | (simp; done) | (simp; omega)) | (refine Own.put ?_ _ _)))
  have OB : Own W0 (w.heap.size + 2) 42 #[.bool s, .slice none 0 0] := hW0 ▸ (by
    refine Own.as (cs := #[.bool s, .slice none 0 0]) ?_ rfl
    repeat' (first | (with_reducible assumption) | (with_reducible refine Own.drawnN ?_ _) | (with_reducible refine Own.drawn ?_) | (with_reducible refine Own.made_at ?_; first | rfl | (simp; done) | omega | (simp; omega)) | (with_reducible refine Own.more ?_ _) | (with_reducible refine Own.apart ?_ ?_ _ _; rotate_left; first | omega | (simp; done) | (simp; omega)) | (refine Own.put ?_ _ _)))
  have OR : Own W0 (w.heap.size + 1) 42 #[.bool false, .slice none 0 0] := hW0 ▸ (by repeat' (first | (with_reducible assumption) | (with_reducible refine Own.drawnN ?_ _) | (with_reducible refine Own.drawn ?_) | (with_reducible refine Own.made_at ?_; first | rfl | (simp; done) | omega | (simp; omega)) | (with_reducible refine Own.more ?_ _) | (with_reducible refine Own.apart ?_ ?_ _ _; rotate_left; first | omega | (simp; done) | (simp; omega)) | (refine Own.put ?_ _ _)))
  have hB0 : Below w.heap.size w W0 := hW0 ▸ (by repeat' (first | (with_reducible exact Below.refl _ _) | (with_reducible assumption) | (with_reducible refine below_drewN ?_ _) | (with_reducible refine Below.drew ?_) | (with_reducible refine Below.alloc ?_ ?_ _) | (with_reducible refine Below.setCell ?_ ?_ _) | (with_reducible refine then_ ?_ (by with_reducible assumption) ?_) | (with_reducible exact Nat.le_refl _) | (with_reducible exact Nat.le_succ _) | (with_reducible exact Nat.le_succ_of_le (by with_reducible assumption)) | omega | (simp; done) | (simp; omega) | (exact Nat.le_succ _) | (exact Nat.le_succ_of_le (by with_reducible assumption))))
  clear hW0 hs1 hs2
  go_wp2
  go_loopg [4, 5] 16 (fun g c i wr => ∃ (k : Nat) (v : Value), g + k = 16 ∧ i = .int .i64 k ∧ c = .int .i64 (fr u s k).2 ∧ Own wr w.heap.size 23 (fw z k) ∧ Own wr (w.heap.size + 2) 42 #[.bool s, v] ∧ Own wr (w.heap.size + 1) 42 #[.bool false, .slice none 0 0] ∧ wr.ownsRow (w.heap.size + 3) 3 1 v k ((fr u s k).1.map (Value.int .i64)) ∧ Below w.heap.size w wr)
  case atStart =>
    exact ⟨0, _, rfl, rfl, rfl, OA, OB, OR, World.ownsRow_nil _ _ _ _, hB0⟩
  case round =>
    clear OA OB OR hB0
    obtain ⟨k, v, hk, rfl, rfl, OA, OB, OR, hown, hB⟩ := hrel
    by_cases h16 : k < 16
    · obtain ⟨r1, r2⟩ := fc_range z h16
      have hm := HFM.out k h16
      have GET := fw_get z h16
      have SET := fw_set z h16
      obtain ⟨_, _, c1, c2, _⟩ := fr_ok u s k
      have FS : fr u s (k + 1) = _ := fr.eq_2 u s k
      obtain ⟨q, hq⟩ : ∃ q : Nat, k / 4 = q := ⟨_, rfl⟩
      obtain ⟨x, hx⟩ : ∃ x, fc z k = x := ⟨_, rfl⟩
      obtain ⟨D, hD⟩ : ∃ D, frd u k = D := ⟨_, rfl⟩
      obtain ⟨c, hc⟩ : ∃ c, (fr u s k).2 = c := ⟨_, rfl⟩
      obtain ⟨o, ho⟩ : ∃ o, (fr u s k).1 = o := ⟨_, rfl⟩
      rw [hD, hc, ho] at FS
      rw [hx] at r1 r2 hm GET SET
      rw [hD] at hm
      rw [hq] at GET SET
      rw [hc] at c1 c2 ⊢
      rw [ho] at hown
      have hq2 : (k : Int) / 4 = (q : Int) := by omega
      have hq4 : q < 4 := by omega
      have FSH := Lib.hid FS
      have SETH := Lib.hid SET
      obtain ⟨P1, P2, P3⟩ := OA.at_
      obtain ⟨Q1, Q2, Q3⟩ := OB.at_
      have P4 : wr.cell? ⟨w.heap.size, q, none⟩ = some (.int .u64 x) := (P1 q).trans GET
      have e2 : ¬ w.heap.size = w.heap.size + 2 := by omega
      have e3 : ¬ w.heap.size + 2 = w.heap.size := by omega
      have hD0 : 0 ≤ D ∧ D ≤ 65535 := hD ▸ frd_range u k
      obtain ⟨d1, d2⟩ := hD0
      clear FS SET GET hx hD hc ho P1 HFM TR hq
      cases s with
      | false =>
        go_upto_region 12 with fail
        go_name_world W1 hW1
        have OA1 : Own W1 w.heap.size 23 (fw z (k + 1)) := hW1 ▸ ((OA.put q _).as SETH.out)
        have OB1 : Own W1 (w.heap.size + 2) 42 #[.bool false, v] := hW1 ▸ (OB.apart (by omega) _ _)
        have OR1 : Own W1 (w.heap.size + 1) 42 #[.bool false, .slice none 0 0] := hW1 ▸ (OR.apart (by omega) _ _)
        have hown1 : W1.ownsRow (w.heap.size + 3) 3 1 v k (o.map (Value.int .i64)) := hW1 ▸ (ownsRow_setCell_below hown (by show w.heap.size < _; omega) _)
        have hB1 : Below w.heap.size w W1 := hW1 ▸ (hB.setCell (Nat.le_refl _) _)
        have hs1 := OB1.in_
        clear hW1 OA OB OR hown hB P2 P3 P4 Q1 Q2 Q3 SETH
        obtain ⟨Q1, Q2, Q3⟩ := OB1.at_
        go_wp2_with (at_builtin; refine wpList_append_own _ rfl _ _ 40 rfl (w.heap.size + 3) 3 i0 (.int .i64 0) 1 8 Tryd.underlying40 hi hz0 hz1 hz2 rfl (by decide) _ _ _ rfl (hown1.alloc _) ⟨W1.heap.size, 0, none⟩ 1 1 [.int .i64 (D)] (by rfl) rfl (one_at _ _ _) (by intro u hu; simp at hu; subst hu; rfl) (by unfold maxLen; omega) (by omega) (by simp; omega) ?_)
        intro v' w1 hown' hgrow _
        obtain ⟨vg, vc, rfl⟩ := row_shape hown'
        have OA2 := grow_own OA1 hgrow hown1 (by omega)
        have OB2 := grow_own OB1 hgrow hown1 (by omega)
        have OR2 := grow_own OR1 hgrow hown1 (by omega)
        have hB2 : Below w.heap.size w w1 := (hB1.alloc hB1.size _).grown hgrow (by simp; omega) (fun k hk => by have := (hown1.lt k hk).1; omega)
        have hown2 := row_snoc hown'
        clear hown' hgrow hown1 hB1 OA1 OB1 OR1 Q1 Q2 Q3
        obtain ⟨Q1, Q2, Q3⟩ := OB2.at_
        go_wp2
        go_roundg (gk - 1)
        case measure => omega
        case rel =>
          exact ⟨k + 1, _, by omega, by go_num, by rw [FSH.out]; rfl, OA2.apart (by omega) _ _, (OB2.put 1 _).as rfl, OR2.apart (by omega) _ _, by rw [FSH.out]; exact ownsRow_setCell_below hown2 (by show w.heap.size + 2 < _; omega) _, hB2.setCell (by show w.heap.size ≤ w.heap.size + 2; omega) _⟩
      | true =>
        go_upto_region 12 with fail
        go_name_world W1 hW1
        have OA1 : Own W1 w.heap.size 23 (fw z (k + 1)) := hW1 ▸ ((OA.put q _).as SETH.out)
        have OB1 : Own W1 (w.heap.size + 2) 42 #[.bool true, v] := hW1 ▸ (OB.apart (by omega) _ _)
        have OR1 : Own W1 (w.heap.size + 1) 42 #[.bool false, .slice none 0 0] := hW1 ▸ (OR.apart (by omega) _ _)
        have hown1 : W1.ownsRow (w.heap.size + 3) 3 1 v k (o.map (Value.int .i64)) := hW1 ▸ (ownsRow_setCell_below hown (by show w.heap.size < _; omega) _)
        have hB1 : Below w.heap.size w W1 := hW1 ▸ (hB.setCell (Nat.le_refl _) _)
        have hs1 := OB1.in_
        clear hW1 OA OB OR hown hB P2 P3 P4 Q1 Q2 Q3 SETH
        obtain ⟨Q1, Q2, Q3⟩ := OB1.at_
        go_wp2_with (at_builtin; refine wpList_append_own _ rfl _ _ 40 rfl (w.heap.size + 3) 3 i0 (.int .i64 0) 1 8 Tryd.underlying40 hi hz0 hz1 hz2 rfl (by decide) _ _ _ rfl (hown1.alloc _) ⟨W1.heap.size, 0, none⟩ 1 1 [.int .i64 ((65535 - D + c) % 65536)] (by rfl) rfl (one_at _ _ _) (by intro u hu; simp at hu; subst hu; rfl) (by unfold maxLen; omega) (by omega) (by simp; omega) ?_)
        intro v' w1 hown' hgrow _
        obtain ⟨vg, vc, rfl⟩ := row_shape hown'
        have OA2 := grow_own OA1 hgrow hown1 (by omega)
        have OB2 := grow_own OB1 hgrow hown1 (by omega)
        have OR2 := grow_own OR1 hgrow hown1 (by omega)
        have hB2 : Below w.heap.size w w1 := (hB1.alloc hB1.size _).grown hgrow (by simp; omega) (fun k hk => by have := (hown1.lt k hk).1; omega)
        have hown2 := row_snoc hown'
        clear hown' hgrow hown1 hB1 OA1 OB1 OR1 Q1 Q2 Q3
        obtain ⟨Q1, Q2, Q3⟩ := OB2.at_
        go_wp2
        go_roundg (gk - 1)
        case measure => omega
        case rel =>
          exact ⟨k + 1, _, by omega, by go_num, by rw [FSH.out]; rfl, OA2.apart (by omega) _ _, (OB2.put 1 _).as rfl, OR2.apart (by omega) _ _, by rw [FSH.out]; exact ownsRow_setCell_below hown2 (by show w.heap.size + 2 < _; omega) _, hB2.setCell (by show w.heap.size ≤ w.heap.size + 2; omega) _⟩
    · obtain rfl : k = 16 := by omega
      have hs1 := OB.in_
      have HN := TR.out wr v (by omega) hown
      obtain ⟨Q1, Q2, Q3⟩ := OB.at_
      obtain ⟨R1, R2, R3⟩ := OR.at_
      have HNH := Lib.hid HN
      clear HN TR hown HFM OA
      obtain ⟨c, hc⟩ : ∃ c, (fr u s 16).2 = c := ⟨_, rfl⟩
      rw [hc]
      clear hc
      go_wp2_with fail
      go_at_call 33
      refine HNH.out.mono ?_
      rintro e w1 ⟨v', rfl, ⟨n', a', l', c', rfl⟩, hn, hb⟩
      have O2 := OR.keep hb
      obtain ⟨Q1, Q2, Q3⟩ := O2.at_
      have hB2 : Below w.heap.size w w1 := then_ hB hb hB.size
      clear hb O2 OR OB hB R1 R2 R3 HNH
      have HN := Lib.hid hn
      clear hn
      go_wp2
      refine bodyPost_ret (v := .agg #[.bool n', .slice a' l' c']) (by simp [results, Tryd.results32, go_sem, Q1]) rfl ⟨_, rfl, ?_, ?_⟩
      · exact ((HN.out.put (by omega) (by omega) _).put (by omega) (by omega) _).mono (Nat.le_refl _) (by omega)
      · repeat' (first | (with_reducible exact Below.refl _ _) | (with_reducible assumption) | (with_reducible refine below_drewN ?_ _) | (with_reducible refine Below.drew ?_) | (with_reducible refine Below.alloc ?_ ?_ _) | (with_reducible refine Below.setCell ?_ ?_ _) | (with_reducible refine then_ ?_ (by with_reducible assumption) ?_) | (with_reducible exact Nat.le_refl _) | (with_reducible exact Nat.le_succ _) | (with_reducible exact Nat.le_succ_of_le (by with_reducible assumption)) | omega | (simp; done) | (simp; omega) | (exact Nat.le_succ _) | (exact Nat.le_succ_of_le (by with_reducible assumption)))
end Go.Proofs.YtjmojddnedngaaaDoor
end
section
namespace Go.Proofs.YtjmojddnedngaaaDoor
open Go.ChangeShapes Go.WideShapes Go.ChangeAt Go.RowKit
set_option linter.unusedVariables false

/-- a digit is a quotient's rest -/
theorem dg_digs : ∀ (i n : Nat), dg (digs n) i = frd (n : Int) i
  | 0, n => by
    by_cases h : n = 0
    · subst h; rw [digs_zero]; rfl
    · rw [digs_pos h]; simp [dg, frd]
  | i + 1, n => by
    by_cases h : n = 0
    · subst h
      rw [digs_zero]
      unfold frd
      rw [show ((0 : Nat) : Int) = 0 from rfl, Int.zero_ediv]
      rfl
    · have ih := dg_digs i (n / 65536)
      rw [digs_pos h]
      show (digs (n / 65536)).getD i 0 = _
      have e : frd (n : Int) (i + 1) = frd ((n / 65536 : Nat) : Int) i := by
        unfold frd
        rw [Int.pow_succ, Int.mul_comm, ← Int.ediv_ediv_of_nonneg (by decide)]
        rw [show ((n / 65536 : Nat) : Int) = (n : Int) / 65536 by omega]
      rw [e, ← ih]; rfl
/-- nothing below digit k -/
theorem low_zero (n : Nat) : ∀ k, (∀ j, j < k → frd (n : Int) j = 0) → (n : Int) % 65536 ^ k = 0
  | 0, _ => by simp [Int.emod_one]
  | k + 1, h => by
    have hP : (0 : Int) < 65536 ^ k := Int.pow_pos (by decide)
    have ih := low_zero n k (fun j hj => h j (by omega))
    have hm := mod_step (n : Int) (65536 ^ k) hP
    rw [Int.pow_succ, hm, ih, show (n : Int) / 65536 ^ k % 65536 = 0 from h k (by omega)]
    simp
theorem p15 : (65536 : Int) ^ 15 = 1766847064778384329583297500742918515827483896875618958121606201292619776 := by decide
theorem p16 : (65536 : Int) ^ 16 = 115792089237316195423570985008687907853269984665640564039457584007913129639936 := by decide
/-- more than 16 digits: it doesn't fit -/
theorem long_no {z : Int} (h : 16 < (digs z.natAbs).length) : ¬ Fit z := by
  have hn : z.natAbs ≠ 0 := fun e => by rw [e, digs_zero] at h; simp at h
  have h1 := (digs_len hn).1
  have h2 : (65536 : Int) ^ 16 ≤ 65536 ^ ((digs z.natAbs).length - 1) := by
    obtain ⟨t, ht⟩ : ∃ t, (digs z.natAbs).length - 1 = 16 + t := ⟨(digs z.natAbs).length - 1 - 16, by omega⟩
    rw [ht, Int.pow_add]
    have h5 : (0 : Int) < 65536 ^ t := Int.pow_pos (by decide)
    have := Int.mul_le_mul_of_nonneg_left (show (1 : Int) ≤ 65536 ^ t by omega) (show (0 : Int) ≤ 65536 ^ 16 by decide)
    omega
  rw [p16] at h2
  rintro ⟨a, b⟩
  omega
theorem short_lt {z : Int} (h : (digs z.natAbs).length ≤ 16) : (z.natAbs : Int) < 115792089237316195423570985008687907853269984665640564039457584007913129639936 := by
  have h1 := digs_lt z.natAbs
  have h2 : (65536 : Int) ^ (digs z.natAbs).length ≤ 65536 ^ 16 := by
    obtain ⟨t, ht⟩ : ∃ t, 16 = (digs z.natAbs).length + t := ⟨16 - (digs z.natAbs).length, by omega⟩
    rw [ht, Int.pow_add]
    have h5 : (0 : Int) < 65536 ^ t := Int.pow_pos (by decide)
    have h6 : (0 : Int) < 65536 ^ (digs z.natAbs).length := Int.pow_pos (by decide)
    have := Int.mul_le_mul_of_nonneg_left (show (1 : Int) ≤ 65536 ^ t by omega) (show (0 : Int) ≤ 65536 ^ (digs z.natAbs).length by omega)
    omega
  rw [p16] at h2
  omega
theorem less_16 {z : Int} (h : (digs z.natAbs).length < 16) : (z.natAbs : Int) < 1766847064778384329583297500742918515827483896875618958121606201292619776 := by
  have h1 := digs_lt z.natAbs
  have h2 : (65536 : Int) ^ (digs z.natAbs).length ≤ 65536 ^ 15 := by
    obtain ⟨t, ht⟩ : ∃ t, 15 = (digs z.natAbs).length + t := ⟨15 - (digs z.natAbs).length, by omega⟩
    rw [ht, Int.pow_add]
    have h5 : (0 : Int) < 65536 ^ t := Int.pow_pos (by decide)
    have h6 : (0 : Int) < 65536 ^ (digs z.natAbs).length := Int.pow_pos (by decide)
    have := Int.mul_le_mul_of_nonneg_left (show (1 : Int) ≤ 65536 ^ t by omega) (show (0 : Int) ≤ 65536 ^ (digs z.natAbs).length by omega)
    omega
  rw [p15] at h2
  omega
/-- the top digit tells, and what lies below it -/
theorem top_eq {z : Int} (h : (digs z.natAbs).length ≤ 16) : dg (digs z.natAbs) 15 = (z.natAbs : Int) / 1766847064778384329583297500742918515827483896875618958121606201292619776 := by
  have h1 := short_lt h
  rw [dg_digs]
  unfold frd
  rw [p15]
  omega
theorem fit_small {z : Int} (h : (digs z.natAbs).length ≤ 16) (k : ¬ ((digs z.natAbs).length = 16 ∧ 32768 ≤ dg (digs z.natAbs) 15)) : Fit z := by
  have h1 := top_eq h
  rw [h1] at k
  have h3 := short_lt h
  by_cases e : (digs z.natAbs).length = 16
  · have : ¬ 32768 ≤ (z.natAbs : Int) / 1766847064778384329583297500742918515827483896875618958121606201292619776 := fun h => k ⟨e, h⟩
    exact ⟨by omega, by omega⟩
  · have := less_16 (z := z) (by omega)
    exact ⟨by omega, by omega⟩
theorem fit_least {z : Int} (h : (digs z.natAbs).length ≤ 16) (k : 32768 ≤ dg (digs z.natAbs) 15) : Fit z ↔ (decide (z < 0) = true ∧ dg (digs z.natAbs) 15 = 32768 ∧ ∀ j, j < 15 → dg (digs z.natAbs) j = 0) := by
  have h1 := top_eq h
  have h3 := short_lt h
  rw [h1] at k ⊢
  constructor
  · rintro ⟨a, b⟩
    have hz : z = -57896044618658097711785492504343953926634992332820282019728792003956564819968 := by omega
    refine ⟨by simp; omega, by omega, fun j hj => ?_⟩
    rw [dg_digs]
    have hn : (z.natAbs : Int) = 57896044618658097711785492504343953926634992332820282019728792003956564819968 := by omega
    rw [hn]
    rcases upto16 (show j < 16 by omega) with rfl | rfl | rfl | rfl | rfl | rfl | rfl | rfl | rfl | rfl | rfl | rfl | rfl | rfl | rfl | rfl <;> first | rfl | decide | omega
  · rintro ⟨a, b, c⟩
    have h4 := low_zero z.natAbs 15 (fun j hj => by rw [← dg_digs]; exact c j hj)
    rw [p15] at h4
    have : z < 0 := by simpa using a
    exact ⟨by omega, by omega⟩

/-- the word of the number that round k adds to -/
def lw (V : Int) (k : Nat) : Int := if k < 4 then L0 V else if k < 8 then L1 V else if k < 12 then L2 V else L3 V
def wcs (V : Int) : Array Value := #[.int .u64 (L0 V), .int .u64 (L1 V), .int .u64 (L2 V), .int .u64 (L3 V)]
theorem wcs_get (V : Int) {k : Nat} (h : k < 16) : (wcs V)[k / 4]? = some (.int .u64 (lw V k)) := by
  rcases upto16 h with rfl | rfl | rfl | rfl | rfl | rfl | rfl | rfl | rfl | rfl | rfl | rfl | rfl | rfl | rfl | rfl <;> rfl
theorem wcs_set {V d : Int} {k : Nat} (h : k < 16) (h0 : 0 ≤ V) (h1 : V < 65536 ^ k) (h2 : 0 ≤ d) (h3 : d ≤ 65535) :
    (wcs V).setIfInBounds (k / 4) (.int .u64 (lw V k + d * 65536 ^ (k % 4))) = wcs (V + 65536 ^ k * d) ∧ 0 ≤ lw V k ∧ 0 ≤ d * 65536 ^ (k % 4) ∧ lw V k + d * 65536 ^ (k % 4) ≤ 18446744073709551615 := by
  rcases upto16 h with rfl | rfl | rfl | rfl | rfl | rfl | rfl | rfl | rfl | rfl | rfl | rfl | rfl | rfl | rfl | rfl <;> (simp at h1; simp [wcs, lw, L0, L1, L2, L3]; omega)
theorem words_16 {z : Int} (hz : Fit z) : wcs (vl (fr (z.natAbs : Int) (decide (z < 0)) 16).1) = wcs z := by
  obtain ⟨h1, h2, h3, h4, h5, h6⟩ := fr_ok (z.natAbs : Int) (decide (z < 0)) 16
  have hv := vl_nonneg h2
  have hl := vl_lt h2
  rw [h1] at hl
  rw [p16] at hl h5 h6
  obtain ⟨a, b⟩ := hz
  have e : vl (fr (z.natAbs : Int) (decide (z < 0)) 16).1 = z % 115792089237316195423570985008687907853269984665640564039457584007913129639936 := by
    by_cases hz : z < 0
    · have := h6 (by simpa using hz)
      omega
    · have := h5 (by simpa using hz)
      omega
  rw [e, ← num4_L]
  obtain ⟨a, b, c, d⟩ := L_num4 (W4.of z)
  unfold wcs
  rw [a, b, c, d]

theorem wcs_zero : wcs 0 = #[.int .u64 0, .int .u64 0, .int .u64 0, .int .u64 0] := by simp [wcs, L0, L1, L2, L3]
/-- a round's digit, and what is carried -/
theorem fr_key (u : Int) (s : Bool) (k : Nat) : ∃ dd cc, fr u s (k + 1) = ((fr u s k).1 ++ [dd], cc) ∧ 0 ≤ dd ∧ dd ≤ 65535 ∧ ((s = false ∧ frd u k = dd ∧ (fr u s k).2 = cc) ∨ (s = true ∧ (65535 - frd u k + (fr u s k).2) % 65536 = dd ∧ (65535 - frd u k + (fr u s k).2) / 65536 = cc)) := by
  obtain ⟨d0, d1⟩ := frd_range u k
  cases s with
  | false => exact ⟨_, _, rfl, d0, d1, .inl ⟨rfl, rfl, rfl⟩⟩
  | true => exact ⟨_, _, rfl, by omega, by omega, .inr ⟨rfl, rfl, rfl⟩⟩
theorem pow_small {m : Nat} (h : m < 3) : 0 < (65536 : Int) ^ m ∧ (65536 : Int) ^ m ≤ 4294967296 := by
  rcases (by omega : m = 0 ∨ m = 1 ∨ m = 2) with rfl | rfl | rfl <;> decide
end Go.Proofs.YtjmojddnedngaaaDoor
end
