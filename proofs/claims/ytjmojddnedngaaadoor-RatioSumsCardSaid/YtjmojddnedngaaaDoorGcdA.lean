
/- The contract of croftref03.Gcd: the greatest number that divides both. -/
import Derived.Test.YtjmojddnedngaaaDoorDivA
namespace Go.Proofs.YtjmojddnedngaaaDoor
open Go.ChangeShapes Go.WideShapes Go.ChangeAt Go.RowKit
set_option linter.unusedVariables false

theorem NumP.abs {w : World} {S : Nat → Prop} {s : Bool} {a : Option Addr} {l c : Nat} {z : Int} (h : NumP w S (.agg #[.bool s, .slice a l c]) z) : NumP w S (.agg #[.bool false, .slice a l c]) ((z.natAbs : Nat) : Int) := by
  obtain ⟨a', l', c', e, r⟩ := h
  obtain ⟨-, rfl, rfl, rfl⟩ : s = _ ∧ a = a' ∧ l = l' ∧ c = c' := by simpa using e
  refine ⟨a, l, c, ?_, by simpa using r⟩
  congr 4
theorem num_lenP {w : World} {S : Nat → Prop} {s : Bool} {a : Option Addr} {l c : Nat} {z : Int} (h : NumP w S (.agg #[.bool s, .slice a l c]) z) : l = (digs z.natAbs).length := by
  obtain ⟨a', l', c', e, r⟩ := h
  obtain ⟨-, -, rfl, -⟩ : s = _ ∧ a = a' ∧ l = l' ∧ c = c' := by simpa using e
  exact r.hlen.symm

set_option maxHeartbeats 16000000 in
set_option maxRecDepth 20000 in
theorem gcd_num (S : Nat → Prop) (v v' : Value) (x y : Int) (w : World) (hx : NumP w S v x) (hy : NumP w S v' y) (hlx : x.natAbs < 65536 ^ 20) (hly : y.natAbs < 65536 ^ 20) :
    Calls Tryd.prog 31 #[v, v'] w fun e w' => ∃ v1, e = .returned v1 ∧ NumP w' (fun b => (S b ∧ b < w.heap.size) ∨ w.heap.size ≤ b) v1 ((Nat.gcd x.natAbs y.natAbs : Nat) : Int) ∧ Below w.heap.size w w' := by
  obtain ⟨xs, xa, xl, xc, rfl⟩ := hx.shape
  obtain ⟨ys, ya, yl, yc, rfl⟩ := hy.shape
  have HX := Lib.hid (hx.abs.mono (S' := fun b => (S b ∧ b < w.heap.size) ∨ w.heap.size + 3 ≤ b) (fun b h h' => .inl ⟨h', h⟩))
  have HY := Lib.hid (hy.abs.mono (S' := fun b => (S b ∧ b < w.heap.size) ∨ w.heap.size + 3 ≤ b) (fun b h h' => .inl ⟨h', h⟩))
  obtain ⟨A, hA⟩ : ∃ A, x.natAbs = A := ⟨_, rfl⟩
  obtain ⟨B, hB⟩ : ∃ B, y.natAbs = B := ⟨_, rfl⟩
  rw [hA] at HX hlx ⊢
  rw [hB] at HY hly ⊢
  have HLX := Lib.hid hlx
  have HLY := Lib.hid hly
  clear hA hB hx hy hlx hly
  go_enter Tryd.func31, Tryd.ntmps31
  go_upto_region 1 with fail
  go_wp2_with fail
  go_loopg [] B (fun g wr => ∃ (X Y : Nat) (s1 : Bool) (a1 : Option Addr) (l1 c1 : Nat) (s2 : Bool) (a2 : Option Addr) (l2 c2 : Nat), g = Y ∧ Hid (Nat.gcd X Y = Nat.gcd A B ∧ X < 65536 ^ 20 ∧ Y < 65536 ^ 20) ∧ Own wr w.heap.size 42 #[.bool s1, .slice a1 l1 c1] ∧ Own wr (w.heap.size + 1) 42 #[.bool s2, .slice a2 l2 c2] ∧ Own wr (w.heap.size + 2) 42 #[.bool false, .slice none 0 0] ∧ NumP wr (fun b => (S b ∧ b < w.heap.size) ∨ w.heap.size + 3 ≤ b) (.agg #[.bool s1, .slice a1 l1 c1]) X ∧ NumP wr (fun b => (S b ∧ b < w.heap.size) ∨ w.heap.size + 3 ≤ b) (.agg #[.bool s2, .slice a2 l2 c2]) Y ∧ Below w.heap.size w wr)
  case atStart =>
    refine ⟨A, B, false, xa, xl, xc, false, ya, yl, yc, rfl, Lib.hid ⟨rfl, HLX.out, HLY.out⟩, ?_, ?_, ?_, HX.out.keep ?_, HY.out.keep ?_, ?_⟩
    · repeat' (first | (with_reducible assumption) | (with_reducible refine Own.drawnN ?_ _) | (with_reducible refine Own.drawn ?_) | (with_reducible refine Own.made_at ?_; first | rfl | (simp; done) | omega | (simp; omega)) | (with_reducible refine Own.more ?_ _) | (with_reducible refine Own.apart ?_ ?_ _ _; rotate_left; first | omega | (simp; done) | (simp; omega)) | (refine Own.put ?_ _ _))
    · repeat' (first | (with_reducible assumption) | (with_reducible refine Own.drawnN ?_ _) | (with_reducible refine Own.drawn ?_) | (with_reducible refine Own.made_at ?_; first | rfl | (simp; done) | omega | (simp; omega)) | (with_reducible refine Own.more ?_ _) | (with_reducible refine Own.apart ?_ ?_ _ _; rotate_left; first | omega | (simp; done) | (simp; omega)) | (refine Own.put ?_ _ _))
    · repeat' (first | (with_reducible assumption) | (with_reducible refine Own.drawnN ?_ _) | (with_reducible refine Own.drawn ?_) | (with_reducible refine Own.made_at ?_; first | rfl | (simp; done) | omega | (simp; omega)) | (with_reducible refine Own.more ?_ _) | (with_reducible refine Own.apart ?_ ?_ _ _; rotate_left; first | omega | (simp; done) | (simp; omega)) | (refine Own.put ?_ _ _))
    · repeat' (first | (with_reducible exact Below.refl _ _) | (with_reducible assumption) | (with_reducible refine below_drewN ?_ _) | (with_reducible refine Below.drew ?_) | (with_reducible refine Below.alloc ?_ ?_ _) | (with_reducible refine Below.setCell ?_ ?_ _) | (with_reducible refine then_ ?_ (by with_reducible assumption) ?_) | (with_reducible exact Nat.le_refl _) | (with_reducible exact Nat.le_succ _) | (with_reducible exact Nat.le_succ_of_le (by with_reducible assumption)) | omega | (simp; done) | (simp; omega) | (exact Nat.le_succ _) | (exact Nat.le_succ_of_le (by with_reducible assumption)))
    · repeat' (first | (with_reducible exact Below.refl _ _) | (with_reducible assumption) | (with_reducible refine below_drewN ?_ _) | (with_reducible refine Below.drew ?_) | (with_reducible refine Below.alloc ?_ ?_ _) | (with_reducible refine Below.setCell ?_ ?_ _) | (with_reducible refine then_ ?_ (by with_reducible assumption) ?_) | (with_reducible exact Nat.le_refl _) | (with_reducible exact Nat.le_succ _) | (with_reducible exact Nat.le_succ_of_le (by with_reducible assumption)) | omega | (simp; done) | (simp; omega) | (exact Nat.le_succ _) | (exact Nat.le_succ_of_le (by with_reducible assumption)))
    · repeat' (first | (with_reducible exact Below.refl _ _) | (with_reducible assumption) | (with_reducible refine below_drewN ?_ _) | (with_reducible refine Below.drew ?_) | (with_reducible refine Below.alloc ?_ ?_ _) | (with_reducible refine Below.setCell ?_ ?_ _) | (with_reducible refine then_ ?_ (by with_reducible assumption) ?_) | (with_reducible exact Nat.le_refl _) | (with_reducible exact Nat.le_succ _) | (with_reducible exact Nat.le_succ_of_le (by with_reducible assumption)) | omega | (simp; done) | (simp; omega) | (exact Nat.le_succ _) | (exact Nat.le_succ_of_le (by with_reducible assumption)))
  case round =>
    clear HX HY HLX HLY
    obtain ⟨X, Y, s1, a1, l1, c1, s2, a2, l2, c2, hg, HG, OA, OB, OR, HNX, HNY, hB⟩ := hrel
    have hl2 := num_lenP HNY
    have HX := Lib.hid HNX
    have HY := Lib.hid HNY
    obtain ⟨P1, P2, P3⟩ := OA.at_
    obtain ⟨Q1, Q2, Q3⟩ := OB.at_
    obtain ⟨R1, R2, R3⟩ := OR.at_
    clear HNX HNY
    by_cases hY : Y = 0
    · have hl0 : ¬ 0 < (l2 : Int) := by
        rw [hY, show ((0 : Nat) : Int).natAbs = 0 from rfl, digs_zero] at hl2
        simp at hl2; omega
      have HGX := Lib.hid (show X = Nat.gcd A B by have := HG.out.1; rw [hY, Nat.gcd_zero_right] at this; exact this)
      clear HG hg hl2 HY hY
      go_wp2
      refine bodyPost_ret (v := .agg #[.bool s1, .slice a1 l1 c1]) (by simp [results, Tryd.results31, go_sem, R1]) rfl ⟨_, rfl, ?_, ?_⟩
      · rw [← HGX.out]
        exact ((HX.out.put (by omega) _).put (by omega) _).mono (fun b _ h => h.imp id (fun h => by omega))
      · repeat' (first | (with_reducible exact Below.refl _ _) | (with_reducible assumption) | (with_reducible refine below_drewN ?_ _) | (with_reducible refine Below.drew ?_) | (with_reducible refine Below.alloc ?_ ?_ _) | (with_reducible refine Below.setCell ?_ ?_ _) | (with_reducible refine then_ ?_ (by with_reducible assumption) ?_) | (with_reducible exact Nat.le_refl _) | (with_reducible exact Nat.le_succ _) | (with_reducible exact Nat.le_succ_of_le (by with_reducible assumption)) | omega | (simp; done) | (simp; omega) | (exact Nat.le_succ _) | (exact Nat.le_succ_of_le (by with_reducible assumption)))
    · have hl0 : 0 < (l2 : Int) := by
        have := (digs_len (n := ((Y : Nat) : Int).natAbs) (by omega)).2
        omega
      have DV := div_num (fun b => (S b ∧ b < w.heap.size) ∨ w.heap.size + 3 ≤ b) 0 0 (.agg #[.bool s1, .slice a1 l1 c1]) (.agg #[.bool s2, .slice a2 l2 c2]) X Y wr HX.out (HY.out.num (T := 0) (C := 0) (fun b _ _ => .inr (Nat.zero_le _))) (by omega) (by simpa using HG.out.2.1) (by simpa using HG.out.2.2)
      have em : (X : Int).tmod Y = ((X % Y : Nat) : Int) := rfl
      rw [em] at DV
      replace DV := Lib.hid DV
      have HG2 := Lib.hid (show Nat.gcd Y (X % Y) = Nat.gcd A B ∧ Y < 65536 ^ 20 ∧ X % Y < 65536 ^ 20 by
        refine ⟨?_, HG.out.2.2, Nat.lt_of_le_of_lt (Nat.mod_le X Y) HG.out.2.1⟩
        rw [← HG.out.1, Nat.gcd_comm X Y, Nat.gcd_rec Y X, Nat.gcd_comm])
      have hmod := Lib.hid (show X % Y < Y from Nat.mod_lt _ (by omega))
      replace hg := Lib.hid hg
      have hs0 := OR.in_
      clear em HG hl2 hY R1 R2 R3
      go_upto_region 5 with (go_at_call 35; refine DV.out.mono ?_; rintro e w1 ⟨v1, v2, rfl, hn1, hn2, hb1⟩; obtain ⟨sq, aq, lq, cq, rfl⟩ := hn1.shape; obtain ⟨sr, ar, lr, cr, rfl⟩ := hn2.shape; replace hn2 := Lib.hid hn2; clear hn1 P1 P2 P3 Q1 Q2 Q3)
      go_name_world W2 hW2
      have hb2 : Below w1.heap.size w1 W2 := hW2 ▸ (by repeat' (first | (with_reducible exact Below.refl _ _) | (with_reducible assumption) | (with_reducible refine below_drewN ?_ _) | (with_reducible refine Below.drew ?_) | (with_reducible refine Below.alloc ?_ ?_ _) | (with_reducible refine Below.setCell ?_ ?_ _) | (with_reducible refine then_ ?_ (by with_reducible assumption) ?_) | (with_reducible exact Nat.le_refl _) | (with_reducible exact Nat.le_succ _) | (with_reducible exact Nat.le_succ_of_le (by with_reducible assumption)) | omega | (simp; done) | (simp; omega) | (exact Nat.le_succ _) | (exact Nat.le_succ_of_le (by with_reducible assumption))))
      have OT : Own W2 (w1.heap.size + 1) 42 #[.bool sr, .slice ar lr cr] := hW2 ▸ (by
        refine Own.as (cs := #[.bool sr, .slice ar lr cr]) ?_ rfl
        repeat' (first | (with_reducible assumption) | (with_reducible refine Own.drawnN ?_ _) | (with_reducible refine Own.drawn ?_) | (with_reducible refine Own.made_at ?_; first | rfl | (simp; done) | omega | (simp; omega)) | (with_reducible refine Own.more ?_ _) | (with_reducible refine Own.apart ?_ ?_ _ _; rotate_left; first | omega | (simp; done) | (simp; omega)) | (refine Own.put ?_ _ _)))
      have hb12 : Below wr.heap.size wr W2 := then_ hb1 hb2 hb1.size
      have OA2 := OA.keep hb12
      have OB2 := OB.keep hb12
      have OR2 := OR.keep hb12
      have HY2 := Lib.hid (HY.out.keep hb12)
      have HR2 := Lib.hid ((hn2.out.keep hb2).mono (S' := (fun b => (S b ∧ b < w.heap.size) ∨ w.heap.size + 3 ≤ b)) (fun b _ h => h.elim (fun h => h.1) (fun h => .inr (by omega))))
      have hB2 := then_ hB hb12 hB.size
      have hs1 := hb1.size
      have e1 : ¬ w1.heap.size + 1 = w.heap.size := by omega
      have e2 : ¬ w.heap.size = w.heap.size + 1 := by omega
      clear hW2 hb2 hb12 hb1 OA OB OR HX HY hn2 hB DV
      obtain ⟨P1, P2, P3⟩ := OA2.at_
      obtain ⟨Q1, Q2, Q3⟩ := OB2.at_
      obtain ⟨T1, T2, T3⟩ := OT.at_
      go_wp2
      go_roundg (X % Y)
      case measure => have := hmod.out; have := hg.out; omega
      case rel =>
        refine ⟨Y, X % Y, s2, a2, l2, c2, sr, ar, lr, cr, rfl, HG2, (((((OA2.put 0 _).put 1 _).as rfl).apart (by omega) _ _).apart (by omega) _ _), ((((OB2.apart (by omega) _ _).apart (by omega) _ _).put 0 _).put 1 _).as rfl, (((OR2.apart (by omega) _ _).apart (by omega) _ _).apart (by omega) _ _).apart (by omega) _ _, ?_, ?_, ?_⟩
        · exact (((HY2.out.put (by omega) _).put (by omega) _).put (by omega) _).put (by omega) _
        · exact (((HR2.out.put (by omega) _).put (by omega) _).put (by omega) _).put (by omega) _
        · repeat' (first | (with_reducible exact Below.refl _ _) | (with_reducible assumption) | (with_reducible refine below_drewN ?_ _) | (with_reducible refine Below.drew ?_) | (with_reducible refine Below.alloc ?_ ?_ _) | (with_reducible refine Below.setCell ?_ ?_ _) | (with_reducible refine then_ ?_ (by with_reducible assumption) ?_) | (with_reducible exact Nat.le_refl _) | (with_reducible exact Nat.le_succ _) | (with_reducible exact Nat.le_succ_of_le (by with_reducible assumption)) | omega | (simp; done) | (simp; omega) | (exact Nat.le_succ _) | (exact Nat.le_succ_of_le (by with_reducible assumption)))
end Go.Proofs.YtjmojddnedngaaaDoor
