
/- The contracts of croftref04.of and croftref04.made: a number of four words; the reduced fraction of two numbers, where it fits. -/
import Derived.Test.YtjmojddnedngaaaDoorGcdA
import Derived.Test.YtjmojddnedngaaaDoorRefV
import Derived.Test.YtjmojddnedngaaaDoorOpsQ
import Derived.Test.YtjmojddnedngaaaDoorFbA
import Derived.Test.YtjmojddnedngaaaDoorAskA
namespace Go.Proofs.YtjmojddnedngaaaDoor
open Go.ChangeShapes Go.WideShapes Go.ChangeAt Go.RowKit
set_option linter.unusedVariables false

theorem made_ret (tmps : Array Value) (w : World) (p : Nat) (x0 x1 x2 x3 x4 x5 x6 x7 v : Value) (h4 : tmps[4]? = some (.pointer (some ⟨p, 0, none⟩))) (h5 : tmps[5]? = some v) (hO : Own w p 31 #[x0, x1, x2, x3, x4, x5, x6, x7]) :
    (results Tryd.f16 tmps).run Tryd.prog w = .ok (.tuple #[.agg #[x0, x1, x2, x3, x4, x5, x6, x7], v]) w := by
  obtain ⟨c, _, _⟩ := hO.at_
  have _ := h5
  simp [results, Tryd.results16, go_sem, h4, h5, c]

set_option maxHeartbeats 32000000 in
set_option maxRecDepth 20000 in
theorem made_aux (S : Nat → Prop) (v v' : Value) (n d : Int) (w : World) (hn : NumP w S v n) (hd : NumP w S v' d) (hd0 : d ≠ 0) (hln : n.natAbs < 65536 ^ 20) (hld : d.natAbs < 65536 ^ 20) (g n1 d1 n2 d2 : Int) (hg : ((Nat.gcd n.natAbs d.natAbs : Nat) : Int) = g) (h1 : n.tdiv g = n1) (h2 : d.tdiv g = d1) (h3 : (if d1 < 0 then -n1 else n1) = n2) (h4 : (if d1 < 0 then -d1 else d1) = d2) (r : Value) (hr : RowKit.Hid ((if fb g && fb n2 && fb d2 then .tuple #[.agg #[.int .u64 (L0 n2), .int .u64 (L1 n2), .int .u64 (L2 n2), .int .u64 (L3 n2), .int .u64 (L0 d2), .int .u64 (L1 d2), .int .u64 (L2 d2), .int .u64 (L3 d2)], .int .i64 0] else .tuple #[.agg #[.int .u64 (L0 0), .int .u64 (L1 0), .int .u64 (L2 0), .int .u64 (L3 0), .int .u64 (L0 0), .int .u64 (L1 0), .int .u64 (L2 0), .int .u64 (L3 0)], .int .i64 3]) = r)) :
    Calls Tryd.prog 16 #[v, v'] w fun e w' => e = .returned r ∧ Below w.heap.size w w' := by
  have hg0 : g ≠ 0 := by
    have : 0 < Nat.gcd n.natAbs d.natAbs := Nat.gcd_pos_of_pos_right _ (by omega)
    omega
  have hgl : g.natAbs < 65536 ^ 20 := by
    have h5 : Nat.gcd n.natAbs d.natAbs ≤ d.natAbs := Nat.gcd_le_right _ (by omega)
    have : g.natAbs = Nat.gcd n.natAbs d.natAbs := by omega
    rw [this]
    exact Nat.lt_of_le_of_lt h5 hld
  obtain ⟨xs, xa, xl, xc, rfl⟩ := hn.shape
  obtain ⟨ys, ya, yl, yc, rfl⟩ := hd.shape
  have HN := Lib.hid (hn.mono (S' := (fun b => (S b ∧ b < w.heap.size) ∨ w.heap.size + 3 ≤ b)) (fun b h h' => .inl ⟨h', h⟩))
  have HD := Lib.hid (hd.mono (S' := (fun b => (S b ∧ b < w.heap.size) ∨ w.heap.size + 3 ≤ b)) (fun b h h' => .inl ⟨h', h⟩))
  have GC := Lib.hid (fun w' (hb : Below w.heap.size w w') => gcd_num (fun b => (S b ∧ b < w.heap.size) ∨ w.heap.size + 3 ≤ b) _ _ n d w' (HN.out.keep hb) (HD.out.keep hb) hln hld)
  rw [hg] at GC
  obtain ⟨sd, hsd⟩ : ∃ b, decide (d1 < 0) = b := ⟨_, rfl⟩
  have H3 := Lib.hid (show (bif sd then -n1 else n1) = n2 by rw [← h3, ← hsd]; by_cases h : d1 < 0 <;> simp [h])
  have H4 := Lib.hid (show (bif sd then -d1 else d1) = d2 by rw [← h4, ← hsd]; by_cases h : d1 < 0 <;> simp [h])
  have HSD := Lib.hid hsd
  have HLN := Lib.hid hln
  have HLD := Lib.hid hld
  have HGL := Lib.hid hgl
  have HG0 := Lib.hid hg0
  have H1 := Lib.hid h1
  have H2 := Lib.hid h2
  clear hn hd hd0 hg h1 h2 h3 h4 hsd hln hld hgl hg0
  go_enter Tryd.func16, Tryd.ntmps16
  go_upto_region 1 with fail
  go_name_world W0 hW0
  have OA : Own W0 w.heap.size 42 #[.bool xs, .slice xa xl xc] := hW0 ▸ (by repeat' (first | (with_reducible assumption) | (with_reducible refine Own.drawnN ?_ _) | (with_reducible refine Own.drawn ?_) | (with_reducible refine Own.made_at ?_; first | rfl | (simp; done) | omega | (simp; omega)) | (with_reducible refine Own.more ?_ _) | (with_reducible refine Own.apart ?_ ?_ _ _; rotate_left; first | omega | (simp; done) | (simp; omega)) | (refine Own.put ?_ _ _)))
  have OB : Own W0 (w.heap.size + 1) 42 #[.bool ys, .slice ya yl yc] := hW0 ▸ (by repeat' (first | (with_reducible assumption) | (with_reducible refine Own.drawnN ?_ _) | (with_reducible refine Own.drawn ?_) | (with_reducible refine Own.made_at ?_; first | rfl | (simp; done) | omega | (simp; omega)) | (with_reducible refine Own.more ?_ _) | (with_reducible refine Own.apart ?_ ?_ _ _; rotate_left; first | omega | (simp; done) | (simp; omega)) | (refine Own.put ?_ _ _)))
  have OR : Own W0 (w.heap.size + 2) 31 #[.int .u64 0, .int .u64 0, .int .u64 0, .int .u64 0, .int .u64 0, .int .u64 0, .int .u64 0, .int .u64 0] := hW0 ▸ (by
    refine Own.as (cs := #[.int .u64 0, .int .u64 0, .int .u64 0, .int .u64 0, .int .u64 0, .int .u64 0, .int .u64 0, .int .u64 0]) ?_ rfl
    repeat' (first | (with_reducible assumption) | (with_reducible refine Own.drawnN ?_ _) | (with_reducible refine Own.drawn ?_) | (with_reducible refine Own.made_at ?_; first | rfl | (simp; done) | omega | (simp; omega)) | (with_reducible refine Own.more ?_ _) | (with_reducible refine Own.apart ?_ ?_ _ _; rotate_left; first | omega | (simp; done) | (simp; omega)) | (refine Own.put ?_ _ _)))
  have hB : Below w.heap.size w W0 := hW0 ▸ (by repeat' (first | (with_reducible exact Below.refl _ _) | (with_reducible assumption) | (with_reducible refine below_drewN ?_ _) | (with_reducible refine Below.drew ?_) | (with_reducible refine Below.alloc ?_ ?_ _) | (with_reducible refine Below.setCell ?_ ?_ _) | (with_reducible refine then_ ?_ (by with_reducible assumption) ?_) | (with_reducible exact Nat.le_refl _) | (with_reducible exact Nat.le_succ _) | (with_reducible exact Nat.le_succ_of_le (by with_reducible assumption)) | omega | (simp; done) | (simp; omega) | (exact Nat.le_succ _) | (exact Nat.le_succ_of_le (by with_reducible assumption))))
  have HA := Lib.hid (HN.out.keep hB)
  have HB := Lib.hid (HD.out.keep hB)
  clear hW0 HN HD
  -- WALK
  have GC0 := Lib.hid (GC.out W0 hB)
  obtain ⟨OAp, OAq, OAr⟩ := OA.at_
  obtain ⟨OBp, OBq, OBr⟩ := OB.at_
  obtain ⟨ORp, ORq, ORr⟩ := OR.at_
  have sz1 : w.heap.size + 2 < W0.heap.size := OR.in_
  go_upto_region 2 with (go_at_call 31; refine GC0.out.mono ?_; rintro e w1 ⟨gv, rfl, hq, hb1⟩; obtain ⟨gs, ga, gl, gc, rfl⟩ := hq.shape; replace hq := Lib.hid hq)
  go_name_world W1 hW
  have sy1 := hb1.size
  clear OAp OAq OAr OBp OBq OBr ORp ORq ORr
  have hb2 : Below w1.heap.size w1 W1 := hW ▸ (by repeat' (first | (with_reducible exact Below.refl _ _) | (with_reducible assumption) | (with_reducible refine below_drewN ?_ _) | (with_reducible refine Below.drew ?_) | (with_reducible refine Below.alloc ?_ ?_ _) | (with_reducible refine Below.setCell ?_ ?_ _) | (with_reducible refine then_ ?_ (by with_reducible assumption) ?_) | (with_reducible exact Nat.le_refl _) | (with_reducible exact Nat.le_succ _) | (with_reducible exact Nat.le_succ_of_le (by with_reducible assumption)) | omega | (simp; done) | (simp; omega) | (exact Nat.le_succ _) | (exact Nat.le_succ_of_le (by with_reducible assumption))))
  have hb12 : Below W0.heap.size W0 W1 := then_ hb1 hb2 hb1.size
  have OA_ := OA.keep hb12
  have OB_ := OB.keep hb12
  have OR_ := OR.keep hb12
  have HA_ := HA.out.keep hb12
  have HB_ := HB.out.keep hb12
  have HG_ : NumP W1 (fun b => (S b ∧ b < w.heap.size) ∨ w.heap.size + 3 ≤ b) (.agg #[.bool gs, .slice ga gl gc]) (g) := (hq.out.mono (fun b h h' => h'.elim (fun h' => h'.1) (fun h' => .inr (by omega)))).keep hb2
  have hB_ := then_ hB hb12 hB.size
  have OG_ : Own W1 w1.heap.size 42 #[.bool gs, .slice ga gl gc] := hW ▸ (by
    refine Own.as (cs := #[.bool gs, .slice ga gl gc]) ?_ rfl
    repeat' (first | (with_reducible assumption) | (with_reducible refine Own.drawnN ?_ _) | (with_reducible refine Own.drawn ?_) | (with_reducible refine Own.made_at ?_; first | rfl | (simp; done) | omega | (simp; omega)) | (with_reducible refine Own.more ?_ _) | (with_reducible refine Own.apart ?_ ?_ _ _; rotate_left; first | omega | (simp; done) | (simp; omega)) | (refine Own.put ?_ _ _)))
  replace OA := OA_
  clear OA_
  replace OB := OB_
  clear OB_
  replace OR := OR_
  clear OR_
  replace HA := Lib.hid HA_
  clear HA_
  replace HB := Lib.hid HB_
  clear HB_
  have HG := Lib.hid HG_
  clear HG_
  replace hB := hB_
  clear hB_
  have OG := OG_
  clear OG_
  clear hW hb1 hb2 hb12
  clear GC0 GC hq
  have WF := Lib.hid (words_fb _ _ _ (g) W1 (HG.out.old 0))
  obtain ⟨OAp, OAq, OAr⟩ := OA.at_
  obtain ⟨OBp, OBq, OBr⟩ := OB.at_
  obtain ⟨ORp, ORq, ORr⟩ := OR.at_
  obtain ⟨OGp, OGq, OGr⟩ := OG.at_
  have sz2 : w.heap.size + 2 < W1.heap.size := OR.in_
  go_upto_region 3 with (go_at_call 34; refine WF.out.mono ?_; rintro e w2 ⟨rfl, hb1⟩)
  go_name_world W2 hW
  have sy2 := hb1.size
  clear OAp OAq OAr OBp OBq OBr ORp ORq ORr OGp OGq OGr
  have hb2 : Below w2.heap.size w2 W2 := hW ▸ (by repeat' (first | (with_reducible exact Below.refl _ _) | (with_reducible assumption) | (with_reducible refine below_drewN ?_ _) | (with_reducible refine Below.drew ?_) | (with_reducible refine Below.alloc ?_ ?_ _) | (with_reducible refine Below.setCell ?_ ?_ _) | (with_reducible refine then_ ?_ (by with_reducible assumption) ?_) | (with_reducible exact Nat.le_refl _) | (with_reducible exact Nat.le_succ _) | (with_reducible exact Nat.le_succ_of_le (by with_reducible assumption)) | omega | (simp; done) | (simp; omega) | (exact Nat.le_succ _) | (exact Nat.le_succ_of_le (by with_reducible assumption))))
  have hb12 : Below W1.heap.size W1 W2 := then_ hb1 hb2 hb1.size
  have OA_ := OA.keep hb12
  have OB_ := OB.keep hb12
  have OR_ := OR.keep hb12
  have OG_ := OG.keep hb12
  have HA_ := HA.out.keep hb12
  have HB_ := HB.out.keep hb12
  have HG_ := HG.out.keep hb12
  have hB_ := then_ hB hb12 hB.size
  have OW_ : Own W2 w2.heap.size 23 #[.int .u64 (L0 (fz (g))), .int .u64 (L1 (fz (g))), .int .u64 (L2 (fz (g))), .int .u64 (L3 (fz (g)))] := hW ▸ (by
    refine Own.as (cs := #[.int .u64 (L0 (fz (g))), .int .u64 (L1 (fz (g))), .int .u64 (L2 (fz (g))), .int .u64 (L3 (fz (g)))]) ?_ rfl
    repeat' (first | (with_reducible assumption) | (with_reducible refine Own.drawnN ?_ _) | (with_reducible refine Own.drawn ?_) | (with_reducible refine Own.made_at ?_; first | rfl | (simp; done) | omega | (simp; omega)) | (with_reducible refine Own.more ?_ _) | (with_reducible refine Own.apart ?_ ?_ _ _; rotate_left; first | omega | (simp; done) | (simp; omega)) | (refine Own.put ?_ _ _)))
  replace OA := OA_
  clear OA_
  replace OB := OB_
  clear OB_
  replace OR := OR_
  clear OR_
  replace OG := OG_
  clear OG_
  replace HA := Lib.hid HA_
  clear HA_
  replace HB := Lib.hid HB_
  clear HB_
  replace HG := Lib.hid HG_
  clear HG_
  replace hB := hB_
  clear hB_
  have OW := OW_
  clear OW_
  clear hW hb1 hb2 hb12
  clear WF
  have DV1 := div_num (fun b => (S b ∧ b < w.heap.size) ∨ w.heap.size + 3 ≤ b) 0 0 _ _ n g W2 HA.out (HG.out.num (T := 0) (C := 0) (fun b _ _ => .inr (Nat.zero_le _))) HG0.out HLN.out HGL.out
  rw [H1.out] at DV1
  have DV := Lib.hid DV1
  clear DV1
  obtain ⟨OAp, OAq, OAr⟩ := OA.at_
  obtain ⟨OBp, OBq, OBr⟩ := OB.at_
  obtain ⟨ORp, ORq, ORr⟩ := OR.at_
  obtain ⟨OGp, OGq, OGr⟩ := OG.at_
  obtain ⟨OWp, OWq, OWr⟩ := OW.at_
  have sz3 : w.heap.size + 2 < W2.heap.size := OR.in_
  go_upto_region 4 with (go_at_call 35; refine DV.out.mono ?_; rintro e w3 ⟨qv, rv, rfl, hq, hr, hb1⟩; obtain ⟨us, ua, ul, uc, rfl⟩ := hq.shape; replace hq := Lib.hid hq; obtain ⟨rs, ra, rl, rc, rfl⟩ := hr.shape; clear hr; have OKk := OA.keep hb1; obtain ⟨k1, k2, k3⟩ := OKk.at_)
  go_name_world W3 hW
  have sy3 := hb1.size
  clear OAp OAq OAr OBp OBq OBr ORp ORq ORr OGp OGq OGr OWp OWq OWr
  clear OKk k1 k2 k3
  have OA_ : Own W3 w.heap.size 42 #[.bool us, .slice ua ul uc] := hW ▸ ((((OA.keep hb1).put 0 _).put 1 _).as rfl)
  have OB_ : Own W3 (w.heap.size + 1) 42 #[.bool ys, .slice ya yl yc] := hW ▸ (((OB.keep hb1).apart (by omega) _ _).apart (by omega) _ _)
  have OR_ : Own W3 (w.heap.size + 2) 31 #[.int .u64 0, .int .u64 0, .int .u64 0, .int .u64 0, .int .u64 0, .int .u64 0, .int .u64 0, .int .u64 0] := hW ▸ (((OR.keep hb1).apart (by omega) _ _).apart (by omega) _ _)
  have OG_ : Own W3 w1.heap.size 42 #[.bool gs, .slice ga gl gc] := hW ▸ (((OG.keep hb1).apart (by omega) _ _).apart (by omega) _ _)
  have OW_ : Own W3 w2.heap.size 23 #[.int .u64 (L0 (fz (g))), .int .u64 (L1 (fz (g))), .int .u64 (L2 (fz (g))), .int .u64 (L3 (fz (g)))] := hW ▸ (((OW.keep hb1).apart (by omega) _ _).apart (by omega) _ _)
  have HA_ : NumP W3 (fun b => (S b ∧ b < w.heap.size) ∨ w.heap.size + 3 ≤ b) (.agg #[.bool us, .slice ua ul uc]) (n1) := hW ▸ (((hq.out.mono (fun b h h' => .inr (by omega))).put (by omega) _).put (by omega) _)
  have HB_ : NumP W3 (fun b => (S b ∧ b < w.heap.size) ∨ w.heap.size + 3 ≤ b) (.agg #[.bool ys, .slice ya yl yc]) (d) := hW ▸ (((HB.out.keep hb1).put (by omega) _).put (by omega) _)
  have HG_ : NumP W3 (fun b => (S b ∧ b < w.heap.size) ∨ w.heap.size + 3 ≤ b) (.agg #[.bool gs, .slice ga gl gc]) (g) := hW ▸ (((HG.out.keep hb1).put (by omega) _).put (by omega) _)
  have hB_ : Below w.heap.size w W3 := hW ▸ (((then_ hB hb1 hB.size).setCell (by show w.heap.size ≤ w.heap.size; omega) _).setCell (by show w.heap.size ≤ w.heap.size; omega) _)
  replace OA := OA_
  clear OA_
  replace OB := OB_
  clear OB_
  replace OR := OR_
  clear OR_
  replace OG := OG_
  clear OG_
  replace OW := OW_
  clear OW_
  replace HA := Lib.hid HA_
  clear HA_
  replace HB := Lib.hid HB_
  clear HB_
  replace HG := Lib.hid HG_
  clear HG_
  replace hB := hB_
  clear hB_
  clear hW hb1
  clear DV hq
  have DV1 := div_num (fun b => (S b ∧ b < w.heap.size) ∨ w.heap.size + 3 ≤ b) 0 0 _ _ d g W3 HB.out (HG.out.num (T := 0) (C := 0) (fun b _ _ => .inr (Nat.zero_le _))) HG0.out HLD.out HGL.out
  rw [H2.out] at DV1
  have DV := Lib.hid DV1
  clear DV1
  obtain ⟨OAp, OAq, OAr⟩ := OA.at_
  obtain ⟨OBp, OBq, OBr⟩ := OB.at_
  obtain ⟨ORp, ORq, ORr⟩ := OR.at_
  obtain ⟨OGp, OGq, OGr⟩ := OG.at_
  obtain ⟨OWp, OWq, OWr⟩ := OW.at_
  have sz4 : w.heap.size + 2 < W3.heap.size := OR.in_
  go_upto_region 5 with (go_at_call 35; refine DV.out.mono ?_; rintro e w4 ⟨qv, rv, rfl, hq, hr, hb1⟩; obtain ⟨vs, va, vl, vc, rfl⟩ := hq.shape; replace hq := Lib.hid hq; obtain ⟨rs, ra, rl, rc, rfl⟩ := hr.shape; clear hr; have OKk := OB.keep hb1; obtain ⟨k1, k2, k3⟩ := OKk.at_)
  go_name_world W4 hW
  have sy4 := hb1.size
  clear OAp OAq OAr OBp OBq OBr ORp ORq ORr OGp OGq OGr OWp OWq OWr
  clear OKk k1 k2 k3
  have OA_ : Own W4 w.heap.size 42 #[.bool us, .slice ua ul uc] := hW ▸ (((OA.keep hb1).apart (by omega) _ _).apart (by omega) _ _)
  have OB_ : Own W4 (w.heap.size + 1) 42 #[.bool vs, .slice va vl vc] := hW ▸ ((((OB.keep hb1).put 0 _).put 1 _).as rfl)
  have OR_ : Own W4 (w.heap.size + 2) 31 #[.int .u64 0, .int .u64 0, .int .u64 0, .int .u64 0, .int .u64 0, .int .u64 0, .int .u64 0, .int .u64 0] := hW ▸ (((OR.keep hb1).apart (by omega) _ _).apart (by omega) _ _)
  have OG_ : Own W4 w1.heap.size 42 #[.bool gs, .slice ga gl gc] := hW ▸ (((OG.keep hb1).apart (by omega) _ _).apart (by omega) _ _)
  have OW_ : Own W4 w2.heap.size 23 #[.int .u64 (L0 (fz (g))), .int .u64 (L1 (fz (g))), .int .u64 (L2 (fz (g))), .int .u64 (L3 (fz (g)))] := hW ▸ (((OW.keep hb1).apart (by omega) _ _).apart (by omega) _ _)
  have HA_ : NumP W4 (fun b => (S b ∧ b < w.heap.size) ∨ w.heap.size + 3 ≤ b) (.agg #[.bool us, .slice ua ul uc]) (n1) := hW ▸ (((HA.out.keep hb1).put (by omega) _).put (by omega) _)
  have HB_ : NumP W4 (fun b => (S b ∧ b < w.heap.size) ∨ w.heap.size + 3 ≤ b) (.agg #[.bool vs, .slice va vl vc]) (d1) := hW ▸ (((hq.out.mono (fun b h h' => .inr (by omega))).put (by omega) _).put (by omega) _)
  have HG_ : NumP W4 (fun b => (S b ∧ b < w.heap.size) ∨ w.heap.size + 3 ≤ b) (.agg #[.bool gs, .slice ga gl gc]) (g) := hW ▸ (((HG.out.keep hb1).put (by omega) _).put (by omega) _)
  have hB_ : Below w.heap.size w W4 := hW ▸ (((then_ hB hb1 hB.size).setCell (by show w.heap.size ≤ (w.heap.size + 1); omega) _).setCell (by show w.heap.size ≤ (w.heap.size + 1); omega) _)
  replace OA := OA_
  clear OA_
  replace OB := OB_
  clear OB_
  replace OR := OR_
  clear OR_
  replace OG := OG_
  clear OG_
  replace OW := OW_
  clear OW_
  replace HA := Lib.hid HA_
  clear HA_
  replace HB := Lib.hid HB_
  clear HB_
  replace HG := Lib.hid HG_
  clear HG_
  replace hB := hB_
  clear hB_
  clear hW hb1
  clear DV hq
  have hvs : vs = sd := by
    obtain ⟨a', l', c', e, _⟩ := HB.out
    obtain ⟨rfl, -⟩ : vs = decide (d1 < 0) ∧ va = a' ∧ vl = l' ∧ vc = c' := by simpa using e
    exact HSD.out
  subst hvs
  clear HLN HLD HGL HG0 H1 H2 HSD
  cases vs with
  | true =>
    have NG := Lib.hid (neg_P (fun b => (S b ∧ b < w.heap.size) ∨ w.heap.size + 3 ≤ b) _ (n1) W4 HA.out)
    obtain ⟨OAp, OAq, OAr⟩ := OA.at_
    obtain ⟨OBp, OBq, OBr⟩ := OB.at_
    obtain ⟨ORp, ORq, ORr⟩ := OR.at_
    obtain ⟨OGp, OGq, OGr⟩ := OG.at_
    obtain ⟨OWp, OWq, OWr⟩ := OW.at_
    have sz5 : w.heap.size + 2 < W4.heap.size := OR.in_
    go_upto_region 7 with (go_at_call 18; refine NG.out.mono ?_; rintro e w5 ⟨qv, rfl, hq, hb1⟩; obtain ⟨ps, pa, pl, pc, rfl⟩ := hq.shape; replace hq := Lib.hid hq; have OKk := OA.keep hb1; obtain ⟨k1, k2, k3⟩ := OKk.at_)
    go_name_world W5 hW
    have sy5 := hb1.size
    clear OAp OAq OAr OBp OBq OBr ORp ORq ORr OGp OGq OGr OWp OWq OWr
    clear OKk k1 k2 k3
    have OA_ : Own W5 w.heap.size 42 #[.bool ps, .slice pa pl pc] := hW ▸ ((((OA.keep hb1).put 0 _).put 1 _).as rfl)
    have OB_ : Own W5 (w.heap.size + 1) 42 #[.bool true, .slice va vl vc] := hW ▸ (((OB.keep hb1).apart (by omega) _ _).apart (by omega) _ _)
    have OR_ : Own W5 (w.heap.size + 2) 31 #[.int .u64 0, .int .u64 0, .int .u64 0, .int .u64 0, .int .u64 0, .int .u64 0, .int .u64 0, .int .u64 0] := hW ▸ (((OR.keep hb1).apart (by omega) _ _).apart (by omega) _ _)
    have OG_ : Own W5 w1.heap.size 42 #[.bool gs, .slice ga gl gc] := hW ▸ (((OG.keep hb1).apart (by omega) _ _).apart (by omega) _ _)
    have OW_ : Own W5 w2.heap.size 23 #[.int .u64 (L0 (fz (g))), .int .u64 (L1 (fz (g))), .int .u64 (L2 (fz (g))), .int .u64 (L3 (fz (g)))] := hW ▸ (((OW.keep hb1).apart (by omega) _ _).apart (by omega) _ _)
    have HA_ : NumP W5 (fun b => (S b ∧ b < w.heap.size) ∨ w.heap.size + 3 ≤ b) (.agg #[.bool ps, .slice pa pl pc]) (-n1) := hW ▸ (((hq.out.mono (fun b h h' => h'.1)).put (by omega) _).put (by omega) _)
    have HB_ : NumP W5 (fun b => (S b ∧ b < w.heap.size) ∨ w.heap.size + 3 ≤ b) (.agg #[.bool true, .slice va vl vc]) (d1) := hW ▸ (((HB.out.keep hb1).put (by omega) _).put (by omega) _)
    have HG_ : NumP W5 (fun b => (S b ∧ b < w.heap.size) ∨ w.heap.size + 3 ≤ b) (.agg #[.bool gs, .slice ga gl gc]) (g) := hW ▸ (((HG.out.keep hb1).put (by omega) _).put (by omega) _)
    have hB_ : Below w.heap.size w W5 := hW ▸ (((then_ hB hb1 hB.size).setCell (by show w.heap.size ≤ w.heap.size; omega) _).setCell (by show w.heap.size ≤ w.heap.size; omega) _)
    replace OA := OA_
    clear OA_
    replace OB := OB_
    clear OB_
    replace OR := OR_
    clear OR_
    replace OG := OG_
    clear OG_
    replace OW := OW_
    clear OW_
    replace HA := Lib.hid HA_
    clear HA_
    replace HB := Lib.hid HB_
    clear HB_
    replace HG := Lib.hid HG_
    clear HG_
    replace hB := hB_
    clear hB_
    clear hW hb1
    clear NG hq
    have NG := Lib.hid (neg_P (fun b => (S b ∧ b < w.heap.size) ∨ w.heap.size + 3 ≤ b) _ (d1) W5 HB.out)
    obtain ⟨OAp, OAq, OAr⟩ := OA.at_
    obtain ⟨OBp, OBq, OBr⟩ := OB.at_
    obtain ⟨ORp, ORq, ORr⟩ := OR.at_
    obtain ⟨OGp, OGq, OGr⟩ := OG.at_
    obtain ⟨OWp, OWq, OWr⟩ := OW.at_
    have sz6 : w.heap.size + 2 < W5.heap.size := OR.in_
    go_upto_region 8 with (go_at_call 18; refine NG.out.mono ?_; rintro e w6 ⟨qv, rfl, hq, hb1⟩; obtain ⟨qs, qa, ql, qc, rfl⟩ := hq.shape; replace hq := Lib.hid hq; have OKk := OB.keep hb1; obtain ⟨k1, k2, k3⟩ := OKk.at_)
    go_name_world W6 hW
    have sy6 := hb1.size
    clear OAp OAq OAr OBp OBq OBr ORp ORq ORr OGp OGq OGr OWp OWq OWr
    clear OKk k1 k2 k3
    have OA_ : Own W6 w.heap.size 42 #[.bool ps, .slice pa pl pc] := hW ▸ (((OA.keep hb1).apart (by omega) _ _).apart (by omega) _ _)
    have OB_ : Own W6 (w.heap.size + 1) 42 #[.bool qs, .slice qa ql qc] := hW ▸ ((((OB.keep hb1).put 0 _).put 1 _).as rfl)
    have OR_ : Own W6 (w.heap.size + 2) 31 #[.int .u64 0, .int .u64 0, .int .u64 0, .int .u64 0, .int .u64 0, .int .u64 0, .int .u64 0, .int .u64 0] := hW ▸ (((OR.keep hb1).apart (by omega) _ _).apart (by omega) _ _)
    have OG_ : Own W6 w1.heap.size 42 #[.bool gs, .slice ga gl gc] := hW ▸ (((OG.keep hb1).apart (by omega) _ _).apart (by omega) _ _)
    have OW_ : Own W6 w2.heap.size 23 #[.int .u64 (L0 (fz (g))), .int .u64 (L1 (fz (g))), .int .u64 (L2 (fz (g))), .int .u64 (L3 (fz (g)))] := hW ▸ (((OW.keep hb1).apart (by omega) _ _).apart (by omega) _ _)
    have HA_ : NumP W6 (fun b => (S b ∧ b < w.heap.size) ∨ w.heap.size + 3 ≤ b) (.agg #[.bool ps, .slice pa pl pc]) (-n1) := hW ▸ (((HA.out.keep hb1).put (by omega) _).put (by omega) _)
    have HB_ : NumP W6 (fun b => (S b ∧ b < w.heap.size) ∨ w.heap.size + 3 ≤ b) (.agg #[.bool qs, .slice qa ql qc]) (-d1) := hW ▸ (((hq.out.mono (fun b h h' => h'.1)).put (by omega) _).put (by omega) _)
    have HG_ : NumP W6 (fun b => (S b ∧ b < w.heap.size) ∨ w.heap.size + 3 ≤ b) (.agg #[.bool gs, .slice ga gl gc]) (g) := hW ▸ (((HG.out.keep hb1).put (by omega) _).put (by omega) _)
    have hB_ : Below w.heap.size w W6 := hW ▸ (((then_ hB hb1 hB.size).setCell (by show w.heap.size ≤ (w.heap.size + 1); omega) _).setCell (by show w.heap.size ≤ (w.heap.size + 1); omega) _)
    replace OA := OA_
    clear OA_
    replace OB := OB_
    clear OB_
    replace OR := OR_
    clear OR_
    replace OG := OG_
    clear OG_
    replace OW := OW_
    clear OW_
    replace HA := Lib.hid HA_
    clear HA_
    replace HB := Lib.hid HB_
    clear HB_
    replace HG := Lib.hid HG_
    clear HG_
    replace hB := hB_
    clear hB_
    clear hW hb1
    clear NG hq
    have WF := Lib.hid (words_fb _ _ _ (-n1) W6 (HA.out.old 0))
    obtain ⟨OAp, OAq, OAr⟩ := OA.at_
    obtain ⟨OBp, OBq, OBr⟩ := OB.at_
    obtain ⟨ORp, ORq, ORr⟩ := OR.at_
    obtain ⟨OGp, OGq, OGr⟩ := OG.at_
    obtain ⟨OWp, OWq, OWr⟩ := OW.at_
    have sz7 : w.heap.size + 2 < W6.heap.size := OR.in_
    go_upto_region 9 with (go_at_call 34; refine WF.out.mono ?_; rintro e w7 ⟨rfl, hb1⟩)
    go_name_world W7 hW
    have sy7 := hb1.size
    clear OAp OAq OAr OBp OBq OBr ORp ORq ORr OGp OGq OGr OWp OWq OWr
    have hb2 : Below w7.heap.size w7 W7 := hW ▸ (by repeat' (first | (with_reducible exact Below.refl _ _) | (with_reducible assumption) | (with_reducible refine below_drewN ?_ _) | (with_reducible refine Below.drew ?_) | (with_reducible refine Below.alloc ?_ ?_ _) | (with_reducible refine Below.setCell ?_ ?_ _) | (with_reducible refine then_ ?_ (by with_reducible assumption) ?_) | (with_reducible exact Nat.le_refl _) | (with_reducible exact Nat.le_succ _) | (with_reducible exact Nat.le_succ_of_le (by with_reducible assumption)) | omega | (simp; done) | (simp; omega) | (exact Nat.le_succ _) | (exact Nat.le_succ_of_le (by with_reducible assumption))))
    have hb12 : Below W6.heap.size W6 W7 := then_ hb1 hb2 hb1.size
    have OA_ := OA.keep hb12
    have OB_ := OB.keep hb12
    have OR_ := OR.keep hb12
    have OG_ := OG.keep hb12
    have OW_ := OW.keep hb12
    have HA_ := HA.out.keep hb12
    have HB_ := HB.out.keep hb12
    have HG_ := HG.out.keep hb12
    have hB_ := then_ hB hb12 hB.size
    have OV_ : Own W7 w7.heap.size 23 #[.int .u64 (L0 (fz (-n1))), .int .u64 (L1 (fz (-n1))), .int .u64 (L2 (fz (-n1))), .int .u64 (L3 (fz (-n1)))] := hW ▸ (by
      refine Own.as (cs := #[.int .u64 (L0 (fz (-n1))), .int .u64 (L1 (fz (-n1))), .int .u64 (L2 (fz (-n1))), .int .u64 (L3 (fz (-n1)))]) ?_ rfl
      repeat' (first | (with_reducible assumption) | (with_reducible refine Own.drawnN ?_ _) | (with_reducible refine Own.drawn ?_) | (with_reducible refine Own.made_at ?_; first | rfl | (simp; done) | omega | (simp; omega)) | (with_reducible refine Own.more ?_ _) | (with_reducible refine Own.apart ?_ ?_ _ _; rotate_left; first | omega | (simp; done) | (simp; omega)) | (refine Own.put ?_ _ _)))
    replace OA := OA_
    clear OA_
    replace OB := OB_
    clear OB_
    replace OR := OR_
    clear OR_
    replace OG := OG_
    clear OG_
    replace OW := OW_
    clear OW_
    replace HA := Lib.hid HA_
    clear HA_
    replace HB := Lib.hid HB_
    clear HB_
    replace HG := Lib.hid HG_
    clear HG_
    replace hB := hB_
    clear hB_
    have OV := OV_
    clear OV_
    clear hW hb1 hb2 hb12
    clear WF
    have WF := Lib.hid (words_fb _ _ _ (-d1) W7 (HB.out.old 0))
    obtain ⟨OAp, OAq, OAr⟩ := OA.at_
    obtain ⟨OBp, OBq, OBr⟩ := OB.at_
    obtain ⟨ORp, ORq, ORr⟩ := OR.at_
    obtain ⟨OGp, OGq, OGr⟩ := OG.at_
    obtain ⟨OWp, OWq, OWr⟩ := OW.at_
    obtain ⟨OVp, OVq, OVr⟩ := OV.at_
    have sz8 : w.heap.size + 2 < W7.heap.size := OR.in_
    go_upto_region 10 with (go_at_call 34; refine WF.out.mono ?_; rintro e w8 ⟨rfl, hb1⟩)
    go_name_world W8 hW
    have sy8 := hb1.size
    clear OAp OAq OAr OBp OBq OBr ORp ORq ORr OGp OGq OGr OWp OWq OWr OVp OVq OVr
    have hb2 : Below w8.heap.size w8 W8 := hW ▸ (by repeat' (first | (with_reducible exact Below.refl _ _) | (with_reducible assumption) | (with_reducible refine below_drewN ?_ _) | (with_reducible refine Below.drew ?_) | (with_reducible refine Below.alloc ?_ ?_ _) | (with_reducible refine Below.setCell ?_ ?_ _) | (with_reducible refine then_ ?_ (by with_reducible assumption) ?_) | (with_reducible exact Nat.le_refl _) | (with_reducible exact Nat.le_succ _) | (with_reducible exact Nat.le_succ_of_le (by with_reducible assumption)) | omega | (simp; done) | (simp; omega) | (exact Nat.le_succ _) | (exact Nat.le_succ_of_le (by with_reducible assumption))))
    have hb12 : Below W7.heap.size W7 W8 := then_ hb1 hb2 hb1.size
    have OA_ := OA.keep hb12
    have OB_ := OB.keep hb12
    have OR_ := OR.keep hb12
    have OG_ := OG.keep hb12
    have OW_ := OW.keep hb12
    have OV_ := OV.keep hb12
    have HA_ := HA.out.keep hb12
    have HB_ := HB.out.keep hb12
    have HG_ := HG.out.keep hb12
    have hB_ := then_ hB hb12 hB.size
    have OT_ : Own W8 w8.heap.size 23 #[.int .u64 (L0 (fz (-d1))), .int .u64 (L1 (fz (-d1))), .int .u64 (L2 (fz (-d1))), .int .u64 (L3 (fz (-d1)))] := hW ▸ (by
      refine Own.as (cs := #[.int .u64 (L0 (fz (-d1))), .int .u64 (L1 (fz (-d1))), .int .u64 (L2 (fz (-d1))), .int .u64 (L3 (fz (-d1)))]) ?_ rfl
      repeat' (first | (with_reducible assumption) | (with_reducible refine Own.drawnN ?_ _) | (with_reducible refine Own.drawn ?_) | (with_reducible refine Own.made_at ?_; first | rfl | (simp; done) | omega | (simp; omega)) | (with_reducible refine Own.more ?_ _) | (with_reducible refine Own.apart ?_ ?_ _ _; rotate_left; first | omega | (simp; done) | (simp; omega)) | (refine Own.put ?_ _ _)))
    replace OA := OA_
    clear OA_
    replace OB := OB_
    clear OB_
    replace OR := OR_
    clear OR_
    replace OG := OG_
    clear OG_
    replace OW := OW_
    clear OW_
    replace OV := OV_
    clear OV_
    replace HA := Lib.hid HA_
    clear HA_
    replace HB := Lib.hid HB_
    clear HB_
    replace HG := Lib.hid HG_
    clear HG_
    replace hB := hB_
    clear hB_
    have OT := OT_
    clear OT_
    clear hW hb1 hb2 hb12
    clear WF
    have E3 : -n1 = n2 := H3.out
    have E4 : -d1 = d2 := H4.out
    rw [E3] at OV
    rw [E4] at OT
    obtain ⟨b1, hb1⟩ : ∃ b, fb g = b := ⟨_, rfl⟩
    obtain ⟨b2, hb2⟩ : ∃ b, fb n2 = b := ⟨_, rfl⟩
    obtain ⟨b3, hb3⟩ : ∃ b, fb d2 = b := ⟨_, rfl⟩
    have hz2 : b2 = true → fz n2 = n2 := fun h => by unfold fz; rw [hb2, h]; rfl
    have hz3 : b3 = true → fz d2 = d2 := fun h => by unfold fz; rw [hb3, h]; rfl
    have HB1 := Lib.hid hb1
    have HB2 := Lib.hid hb2
    have HB3 := Lib.hid hb3
    rw [E3, E4, hb1, hb2, hb3]
    clear E3 E4 H3 H4 HA HB HG hb1 hb2 hb3
    have szr := OR.in_
    have oldv := OV.in_
    have oldt := OT.in_
    cases b1 with
    | false =>
      clear hz2 hz3
      go_upto_region 11 with fail
      refine region_memo_f (B := w.heap.size) (L := .val (.agg #[.int .u64 0, .int .u64 0, .int .u64 0, .int .u64 0, .int .u64 0, .int .u64 0, .int .u64 0, .int .u64 0]) :: .sto (w.heap.size + 2) 31 #[.int .u64 0, .int .u64 0, .int .u64 0, .int .u64 0, .int .u64 0, .int .u64 0, .int .u64 0, .int .u64 0] :: .val (.int .i64 3) :: []) (by kernel_rfl) hB.size (Olds.v (Olds.s (by omega) OR.in_ (by repeat' (first | exact trivial | refine Off.v ?_ | refine Off.k ?_ | refine Off.b ?_ | refine Off.n ?_ | refine Off.p ?_ | refine Off.s ?_ ?_ | omega)) (Olds.v trivial)))
        ⟨fun a w R => bd0_Q, fun a w R => so_Q (R.slot 4 rfl) (R.own rfl OR) rfl (R.val 0), fun a w R => asc, trivial⟩ (fun act_ WZ I => ?_)
      rw [I.act [(59, .agg #[.int .u64 0, .int .u64 0, .int .u64 0, .int .u64 0, .int .u64 0, .int .u64 0, .int .u64 0, .int .u64 0]), (5, .int .i64 3)]
        ⟨I.val 0, I.val 2, trivial⟩ rfl]
      replace OR := I.sto 1 rfl rfl
      have hWZ : Below w.heap.size w WZ := hB.trans I.below
      clear I
      simp only [List.foldl_cons, List.foldl_nil, List.setIfInBounds_toArray, List.set_cons_zero, List.set_cons_succ]
      clear OA OB OG OW OV OT
      clear szr oldv oldt sz1 sy1 sz2 sy2 sz3 sy3 sz4 sy4 sz5 sy5 sz6 sy6 sz7 sy7 sz8 sy8
      go_wp2
      refine bodyPost_ret (v := .tuple #[.agg #[.int .u64 0, .int .u64 0, .int .u64 0, .int .u64 0, .int .u64 0, .int .u64 0, .int .u64 0, .int .u64 0], .int .i64 3]) (made_ret _ _ _ _ _ _ _ _ _ _ _ _ rfl rfl OR) rfl ⟨?_, hWZ⟩
      rw [← hr.out]
      simp only [HB1.out, HB2.out, HB3.out]
      rfl
    | true =>
      cases b2 with
      | false =>
        clear hz2 hz3
        go_upto_region 11 with fail
        refine region_memo_f (B := w.heap.size) (L := .val (.agg #[.int .u64 0, .int .u64 0, .int .u64 0, .int .u64 0, .int .u64 0, .int .u64 0, .int .u64 0, .int .u64 0]) :: .sto (w.heap.size + 2) 31 #[.int .u64 0, .int .u64 0, .int .u64 0, .int .u64 0, .int .u64 0, .int .u64 0, .int .u64 0, .int .u64 0] :: .val (.int .i64 3) :: []) (by kernel_rfl) hB.size (Olds.v (Olds.s (by omega) OR.in_ (by repeat' (first | exact trivial | refine Off.v ?_ | refine Off.k ?_ | refine Off.b ?_ | refine Off.n ?_ | refine Off.p ?_ | refine Off.s ?_ ?_ | omega)) (Olds.v trivial)))
          ⟨fun a w R => bd0_Q, fun a w R => so_Q (R.slot 4 rfl) (R.own rfl OR) rfl (R.val 0), fun a w R => asc, trivial⟩ (fun act_ WZ I => ?_)
        rw [I.act [(59, .agg #[.int .u64 0, .int .u64 0, .int .u64 0, .int .u64 0, .int .u64 0, .int .u64 0, .int .u64 0, .int .u64 0]), (5, .int .i64 3)]
          ⟨I.val 0, I.val 2, trivial⟩ rfl]
        replace OR := I.sto 1 rfl rfl
        have hWZ : Below w.heap.size w WZ := hB.trans I.below
        clear I
        simp only [List.foldl_cons, List.foldl_nil, List.setIfInBounds_toArray, List.set_cons_zero, List.set_cons_succ]
        clear OA OB OG OW OV OT
        clear szr oldv oldt sz1 sy1 sz2 sy2 sz3 sy3 sz4 sy4 sz5 sy5 sz6 sy6 sz7 sy7 sz8 sy8
        go_wp2
        refine bodyPost_ret (v := .tuple #[.agg #[.int .u64 0, .int .u64 0, .int .u64 0, .int .u64 0, .int .u64 0, .int .u64 0, .int .u64 0, .int .u64 0], .int .i64 3]) (made_ret _ _ _ _ _ _ _ _ _ _ _ _ rfl rfl OR) rfl ⟨?_, hWZ⟩
        rw [← hr.out]
        simp only [HB1.out, HB2.out, HB3.out]
        rfl
      | true =>
        cases b3 with
        | false =>
          clear hz2 hz3
          go_upto_region 11 with fail
          refine region_memo_f (B := w.heap.size) (L := .val (.agg #[.int .u64 0, .int .u64 0, .int .u64 0, .int .u64 0, .int .u64 0, .int .u64 0, .int .u64 0, .int .u64 0]) :: .sto (w.heap.size + 2) 31 #[.int .u64 0, .int .u64 0, .int .u64 0, .int .u64 0, .int .u64 0, .int .u64 0, .int .u64 0, .int .u64 0] :: .val (.int .i64 3) :: []) (by kernel_rfl) hB.size (Olds.v (Olds.s (by omega) OR.in_ (by repeat' (first | exact trivial | refine Off.v ?_ | refine Off.k ?_ | refine Off.b ?_ | refine Off.n ?_ | refine Off.p ?_ | refine Off.s ?_ ?_ | omega)) (Olds.v trivial)))
            ⟨fun a w R => bd0_Q, fun a w R => so_Q (R.slot 4 rfl) (R.own rfl OR) rfl (R.val 0), fun a w R => asc, trivial⟩ (fun act_ WZ I => ?_)
          rw [I.act [(59, .agg #[.int .u64 0, .int .u64 0, .int .u64 0, .int .u64 0, .int .u64 0, .int .u64 0, .int .u64 0, .int .u64 0]), (5, .int .i64 3)]
            ⟨I.val 0, I.val 2, trivial⟩ rfl]
          replace OR := I.sto 1 rfl rfl
          have hWZ : Below w.heap.size w WZ := hB.trans I.below
          clear I
          simp only [List.foldl_cons, List.foldl_nil, List.setIfInBounds_toArray, List.set_cons_zero, List.set_cons_succ]
          clear OA OB OG OW OV OT
          clear szr oldv oldt sz1 sy1 sz2 sy2 sz3 sy3 sz4 sy4 sz5 sy5 sz6 sy6 sz7 sy7 sz8 sy8
          go_wp2
          refine bodyPost_ret (v := .tuple #[.agg #[.int .u64 0, .int .u64 0, .int .u64 0, .int .u64 0, .int .u64 0, .int .u64 0, .int .u64 0, .int .u64 0], .int .i64 3]) (made_ret _ _ _ _ _ _ _ _ _ _ _ _ rfl rfl OR) rfl ⟨?_, hWZ⟩
          rw [← hr.out]
          simp only [HB1.out, HB2.out, HB3.out]
          rfl
        | true =>
          have e2 := hz2 rfl
          have e3 := hz3 rfl
          rw [e2] at OV
          rw [e3] at OT
          clear e2 e3 hz2 hz3
          go_upto_region 12 with fail
          refine region_memo_f (B := w.heap.size) (L := .val (.agg #[.int .u64 (L0 n2), .int .u64 (L1 n2), .int .u64 (L2 n2), .int .u64 (L3 n2)]) :: .val (.agg #[.int .u64 (L0 d2), .int .u64 (L1 d2), .int .u64 (L2 d2), .int .u64 (L3 d2)]) :: .val (.agg #[.int .u64 (L0 n2), .int .u64 (L1 n2), .int .u64 (L2 n2), .int .u64 (L3 n2), .int .u64 (L0 d2), .int .u64 (L1 d2), .int .u64 (L2 d2), .int .u64 (L3 d2)]) :: .sto (w.heap.size + 2) 31 #[.int .u64 (L0 n2), .int .u64 (L1 n2), .int .u64 (L2 n2), .int .u64 (L3 n2), .int .u64 (L0 d2), .int .u64 (L1 d2), .int .u64 (L2 d2), .int .u64 (L3 d2)] :: .val (.int .i64 0) :: []) (by kernel_rfl) hB.size (Olds.v (Olds.v (Olds.v (Olds.s (by omega) OR.in_ (by repeat' (first | exact trivial | refine Off.v ?_ | refine Off.k ?_ | refine Off.b ?_ | refine Off.n ?_ | refine Off.p ?_ | refine Off.s ?_ ?_ | omega)) (Olds.v trivial)))))
            ⟨fun a w R => ld_A (R.slot 9 rfl) (R.keep OV (by repeat' (first | exact trivial | refine Off.v ?_ | refine Off.k ?_ | refine Off.b ?_ | refine Off.n ?_ | refine Off.p ?_ | refine Off.s ?_ ?_ | omega))) rfl rfl rfl rfl, fun a w R => ld_A (R.slot 11 rfl) (R.keep OT (by repeat' (first | exact trivial | refine Off.v ?_ | refine Off.k ?_ | refine Off.b ?_ | refine Off.n ?_ | refine Off.p ?_ | refine Off.s ?_ ?_ | omega))) rfl rfl rfl rfl, fun a w R => bdQ_tt (R.val 0) (R.val 1), fun a w R => so_Q (R.slot 4 rfl) (R.own rfl OR) rfl (R.val 2), fun a w R => asc, trivial⟩ (fun act_ WZ I => ?_)
          rw [I.act [(60, .agg #[.int .u64 (L0 n2), .int .u64 (L1 n2), .int .u64 (L2 n2), .int .u64 (L3 n2)]), (61, .agg #[.int .u64 (L0 d2), .int .u64 (L1 d2), .int .u64 (L2 d2), .int .u64 (L3 d2)]), (62, .agg #[.int .u64 (L0 n2), .int .u64 (L1 n2), .int .u64 (L2 n2), .int .u64 (L3 n2), .int .u64 (L0 d2), .int .u64 (L1 d2), .int .u64 (L2 d2), .int .u64 (L3 d2)]), (5, .int .i64 0)]
            ⟨I.val 0, I.val 1, I.val 2, I.val 4, trivial⟩ rfl]
          replace OR := I.sto 3 rfl rfl
          have hWZ : Below w.heap.size w WZ := hB.trans I.below
          clear I
          simp only [List.foldl_cons, List.foldl_nil, List.setIfInBounds_toArray, List.set_cons_zero, List.set_cons_succ]
          clear OA OB OG OW OV OT
          clear szr oldv oldt sz1 sy1 sz2 sy2 sz3 sy3 sz4 sy4 sz5 sy5 sz6 sy6 sz7 sy7 sz8 sy8
          go_wp2
          refine bodyPost_ret (v := .tuple #[.agg #[.int .u64 (L0 n2), .int .u64 (L1 n2), .int .u64 (L2 n2), .int .u64 (L3 n2), .int .u64 (L0 d2), .int .u64 (L1 d2), .int .u64 (L2 d2), .int .u64 (L3 d2)], .int .i64 0]) (made_ret _ _ _ _ _ _ _ _ _ _ _ _ rfl rfl OR) rfl ⟨?_, hWZ⟩
          rw [← hr.out]
          simp only [HB1.out, HB2.out, HB3.out]
          rfl
  | false =>
    have WF := Lib.hid (words_fb _ _ _ (n1) W4 (HA.out.old 0))
    obtain ⟨OAp, OAq, OAr⟩ := OA.at_
    obtain ⟨OBp, OBq, OBr⟩ := OB.at_
    obtain ⟨ORp, ORq, ORr⟩ := OR.at_
    obtain ⟨OGp, OGq, OGr⟩ := OG.at_
    obtain ⟨OWp, OWq, OWr⟩ := OW.at_
    have sz5 : w.heap.size + 2 < W4.heap.size := OR.in_
    go_upto_region 9 with (go_at_call 34; refine WF.out.mono ?_; rintro e w5 ⟨rfl, hb1⟩)
    go_name_world W5 hW
    have sy5 := hb1.size
    clear OAp OAq OAr OBp OBq OBr ORp ORq ORr OGp OGq OGr OWp OWq OWr
    have hb2 : Below w5.heap.size w5 W5 := hW ▸ (by repeat' (first | (with_reducible exact Below.refl _ _) | (with_reducible assumption) | (with_reducible refine below_drewN ?_ _) | (with_reducible refine Below.drew ?_) | (with_reducible refine Below.alloc ?_ ?_ _) | (with_reducible refine Below.setCell ?_ ?_ _) | (with_reducible refine then_ ?_ (by with_reducible assumption) ?_) | (with_reducible exact Nat.le_refl _) | (with_reducible exact Nat.le_succ _) | (with_reducible exact Nat.le_succ_of_le (by with_reducible assumption)) | omega | (simp; done) | (simp; omega) | (exact Nat.le_succ _) | (exact Nat.le_succ_of_le (by with_reducible assumption))))
    have hb12 : Below W4.heap.size W4 W5 := then_ hb1 hb2 hb1.size
    have OA_ := OA.keep hb12
    have OB_ := OB.keep hb12
    have OR_ := OR.keep hb12
    have OG_ := OG.keep hb12
    have OW_ := OW.keep hb12
    have HA_ := HA.out.keep hb12
    have HB_ := HB.out.keep hb12
    have HG_ := HG.out.keep hb12
    have hB_ := then_ hB hb12 hB.size
    have OV_ : Own W5 w5.heap.size 23 #[.int .u64 (L0 (fz (n1))), .int .u64 (L1 (fz (n1))), .int .u64 (L2 (fz (n1))), .int .u64 (L3 (fz (n1)))] := hW ▸ (by
      refine Own.as (cs := #[.int .u64 (L0 (fz (n1))), .int .u64 (L1 (fz (n1))), .int .u64 (L2 (fz (n1))), .int .u64 (L3 (fz (n1)))]) ?_ rfl
      repeat' (first | (with_reducible assumption) | (with_reducible refine Own.drawnN ?_ _) | (with_reducible refine Own.drawn ?_) | (with_reducible refine Own.made_at ?_; first | rfl | (simp; done) | omega | (simp; omega)) | (with_reducible refine Own.more ?_ _) | (with_reducible refine Own.apart ?_ ?_ _ _; rotate_left; first | omega | (simp; done) | (simp; omega)) | (refine Own.put ?_ _ _)))
    replace OA := OA_
    clear OA_
    replace OB := OB_
    clear OB_
    replace OR := OR_
    clear OR_
    replace OG := OG_
    clear OG_
    replace OW := OW_
    clear OW_
    replace HA := Lib.hid HA_
    clear HA_
    replace HB := Lib.hid HB_
    clear HB_
    replace HG := Lib.hid HG_
    clear HG_
    replace hB := hB_
    clear hB_
    have OV := OV_
    clear OV_
    clear hW hb1 hb2 hb12
    clear WF
    have WF := Lib.hid (words_fb _ _ _ (d1) W5 (HB.out.old 0))
    obtain ⟨OAp, OAq, OAr⟩ := OA.at_
    obtain ⟨OBp, OBq, OBr⟩ := OB.at_
    obtain ⟨ORp, ORq, ORr⟩ := OR.at_
    obtain ⟨OGp, OGq, OGr⟩ := OG.at_
    obtain ⟨OWp, OWq, OWr⟩ := OW.at_
    obtain ⟨OVp, OVq, OVr⟩ := OV.at_
    have sz6 : w.heap.size + 2 < W5.heap.size := OR.in_
    go_upto_region 10 with (go_at_call 34; refine WF.out.mono ?_; rintro e w6 ⟨rfl, hb1⟩)
    go_name_world W6 hW
    have sy6 := hb1.size
    clear OAp OAq OAr OBp OBq OBr ORp ORq ORr OGp OGq OGr OWp OWq OWr OVp OVq OVr
    have hb2 : Below w6.heap.size w6 W6 := hW ▸ (by repeat' (first | (with_reducible exact Below.refl _ _) | (with_reducible assumption) | (with_reducible refine below_drewN ?_ _) | (with_reducible refine Below.drew ?_) | (with_reducible refine Below.alloc ?_ ?_ _) | (with_reducible refine Below.setCell ?_ ?_ _) | (with_reducible refine then_ ?_ (by with_reducible assumption) ?_) | (with_reducible exact Nat.le_refl _) | (with_reducible exact Nat.le_succ _) | (with_reducible exact Nat.le_succ_of_le (by with_reducible assumption)) | omega | (simp; done) | (simp; omega) | (exact Nat.le_succ _) | (exact Nat.le_succ_of_le (by with_reducible assumption))))
    have hb12 : Below W5.heap.size W5 W6 := then_ hb1 hb2 hb1.size
    have OA_ := OA.keep hb12
    have OB_ := OB.keep hb12
    have OR_ := OR.keep hb12
    have OG_ := OG.keep hb12
    have OW_ := OW.keep hb12
    have OV_ := OV.keep hb12
    have HA_ := HA.out.keep hb12
    have HB_ := HB.out.keep hb12
    have HG_ := HG.out.keep hb12
    have hB_ := then_ hB hb12 hB.size
    have OT_ : Own W6 w6.heap.size 23 #[.int .u64 (L0 (fz (d1))), .int .u64 (L1 (fz (d1))), .int .u64 (L2 (fz (d1))), .int .u64 (L3 (fz (d1)))] := hW ▸ (by
      refine Own.as (cs := #[.int .u64 (L0 (fz (d1))), .int .u64 (L1 (fz (d1))), .int .u64 (L2 (fz (d1))), .int .u64 (L3 (fz (d1)))]) ?_ rfl
      repeat' (first | (with_reducible assumption) | (with_reducible refine Own.drawnN ?_ _) | (with_reducible refine Own.drawn ?_) | (with_reducible refine Own.made_at ?_; first | rfl | (simp; done) | omega | (simp; omega)) | (with_reducible refine Own.more ?_ _) | (with_reducible refine Own.apart ?_ ?_ _ _; rotate_left; first | omega | (simp; done) | (simp; omega)) | (refine Own.put ?_ _ _)))
    replace OA := OA_
    clear OA_
    replace OB := OB_
    clear OB_
    replace OR := OR_
    clear OR_
    replace OG := OG_
    clear OG_
    replace OW := OW_
    clear OW_
    replace OV := OV_
    clear OV_
    replace HA := Lib.hid HA_
    clear HA_
    replace HB := Lib.hid HB_
    clear HB_
    replace HG := Lib.hid HG_
    clear HG_
    replace hB := hB_
    clear hB_
    have OT := OT_
    clear OT_
    clear hW hb1 hb2 hb12
    clear WF
    have E3 : n1 = n2 := H3.out
    have E4 : d1 = d2 := H4.out
    rw [E3] at OV
    rw [E4] at OT
    obtain ⟨b1, hb1⟩ : ∃ b, fb g = b := ⟨_, rfl⟩
    obtain ⟨b2, hb2⟩ : ∃ b, fb n2 = b := ⟨_, rfl⟩
    obtain ⟨b3, hb3⟩ : ∃ b, fb d2 = b := ⟨_, rfl⟩
    have hz2 : b2 = true → fz n2 = n2 := fun h => by unfold fz; rw [hb2, h]; rfl
    have hz3 : b3 = true → fz d2 = d2 := fun h => by unfold fz; rw [hb3, h]; rfl
    have HB1 := Lib.hid hb1
    have HB2 := Lib.hid hb2
    have HB3 := Lib.hid hb3
    rw [E3, E4, hb1, hb2, hb3]
    clear E3 E4 H3 H4 HA HB HG hb1 hb2 hb3
    have szr := OR.in_
    have oldv := OV.in_
    have oldt := OT.in_
    cases b1 with
    | false =>
      clear hz2 hz3
      go_upto_region 11 with fail
      refine region_memo_f (B := w.heap.size) (L := .val (.agg #[.int .u64 0, .int .u64 0, .int .u64 0, .int .u64 0, .int .u64 0, .int .u64 0, .int .u64 0, .int .u64 0]) :: .sto (w.heap.size + 2) 31 #[.int .u64 0, .int .u64 0, .int .u64 0, .int .u64 0, .int .u64 0, .int .u64 0, .int .u64 0, .int .u64 0] :: .val (.int .i64 3) :: []) (by kernel_rfl) hB.size (Olds.v (Olds.s (by omega) OR.in_ (by repeat' (first | exact trivial | refine Off.v ?_ | refine Off.k ?_ | refine Off.b ?_ | refine Off.n ?_ | refine Off.p ?_ | refine Off.s ?_ ?_ | omega)) (Olds.v trivial)))
        ⟨fun a w R => bd0_Q, fun a w R => so_Q (R.slot 4 rfl) (R.own rfl OR) rfl (R.val 0), fun a w R => asc, trivial⟩ (fun act_ WZ I => ?_)
      rw [I.act [(59, .agg #[.int .u64 0, .int .u64 0, .int .u64 0, .int .u64 0, .int .u64 0, .int .u64 0, .int .u64 0, .int .u64 0]), (5, .int .i64 3)]
        ⟨I.val 0, I.val 2, trivial⟩ rfl]
      replace OR := I.sto 1 rfl rfl
      have hWZ : Below w.heap.size w WZ := hB.trans I.below
      clear I
      simp only [List.foldl_cons, List.foldl_nil, List.setIfInBounds_toArray, List.set_cons_zero, List.set_cons_succ]
      clear OA OB OG OW OV OT
      clear szr oldv oldt sz1 sy1 sz2 sy2 sz3 sy3 sz4 sy4 sz5 sy5 sz6 sy6
      go_wp2
      refine bodyPost_ret (v := .tuple #[.agg #[.int .u64 0, .int .u64 0, .int .u64 0, .int .u64 0, .int .u64 0, .int .u64 0, .int .u64 0, .int .u64 0], .int .i64 3]) (made_ret _ _ _ _ _ _ _ _ _ _ _ _ rfl rfl OR) rfl ⟨?_, hWZ⟩
      rw [← hr.out]
      simp only [HB1.out, HB2.out, HB3.out]
      rfl
    | true =>
      cases b2 with
      | false =>
        clear hz2 hz3
        go_upto_region 11 with fail
        refine region_memo_f (B := w.heap.size) (L := .val (.agg #[.int .u64 0, .int .u64 0, .int .u64 0, .int .u64 0, .int .u64 0, .int .u64 0, .int .u64 0, .int .u64 0]) :: .sto (w.heap.size + 2) 31 #[.int .u64 0, .int .u64 0, .int .u64 0, .int .u64 0, .int .u64 0, .int .u64 0, .int .u64 0, .int .u64 0] :: .val (.int .i64 3) :: []) (by kernel_rfl) hB.size (Olds.v (Olds.s (by omega) OR.in_ (by repeat' (first | exact trivial | refine Off.v ?_ | refine Off.k ?_ | refine Off.b ?_ | refine Off.n ?_ | refine Off.p ?_ | refine Off.s ?_ ?_ | omega)) (Olds.v trivial)))
          ⟨fun a w R => bd0_Q, fun a w R => so_Q (R.slot 4 rfl) (R.own rfl OR) rfl (R.val 0), fun a w R => asc, trivial⟩ (fun act_ WZ I => ?_)
        rw [I.act [(59, .agg #[.int .u64 0, .int .u64 0, .int .u64 0, .int .u64 0, .int .u64 0, .int .u64 0, .int .u64 0, .int .u64 0]), (5, .int .i64 3)]
          ⟨I.val 0, I.val 2, trivial⟩ rfl]
        replace OR := I.sto 1 rfl rfl
        have hWZ : Below w.heap.size w WZ := hB.trans I.below
        clear I
        simp only [List.foldl_cons, List.foldl_nil, List.setIfInBounds_toArray, List.set_cons_zero, List.set_cons_succ]
        clear OA OB OG OW OV OT
        clear szr oldv oldt sz1 sy1 sz2 sy2 sz3 sy3 sz4 sy4 sz5 sy5 sz6 sy6
        go_wp2
        refine bodyPost_ret (v := .tuple #[.agg #[.int .u64 0, .int .u64 0, .int .u64 0, .int .u64 0, .int .u64 0, .int .u64 0, .int .u64 0, .int .u64 0], .int .i64 3]) (made_ret _ _ _ _ _ _ _ _ _ _ _ _ rfl rfl OR) rfl ⟨?_, hWZ⟩
        rw [← hr.out]
        simp only [HB1.out, HB2.out, HB3.out]
        rfl
      | true =>
        cases b3 with
        | false =>
          clear hz2 hz3
          go_upto_region 11 with fail
          refine region_memo_f (B := w.heap.size) (L := .val (.agg #[.int .u64 0, .int .u64 0, .int .u64 0, .int .u64 0, .int .u64 0, .int .u64 0, .int .u64 0, .int .u64 0]) :: .sto (w.heap.size + 2) 31 #[.int .u64 0, .int .u64 0, .int .u64 0, .int .u64 0, .int .u64 0, .int .u64 0, .int .u64 0, .int .u64 0] :: .val (.int .i64 3) :: []) (by kernel_rfl) hB.size (Olds.v (Olds.s (by omega) OR.in_ (by repeat' (first | exact trivial | refine Off.v ?_ | refine Off.k ?_ | refine Off.b ?_ | refine Off.n ?_ | refine Off.p ?_ | refine Off.s ?_ ?_ | omega)) (Olds.v trivial)))
            ⟨fun a w R => bd0_Q, fun a w R => so_Q (R.slot 4 rfl) (R.own rfl OR) rfl (R.val 0), fun a w R => asc, trivial⟩ (fun act_ WZ I => ?_)
          rw [I.act [(59, .agg #[.int .u64 0, .int .u64 0, .int .u64 0, .int .u64 0, .int .u64 0, .int .u64 0, .int .u64 0, .int .u64 0]), (5, .int .i64 3)]
            ⟨I.val 0, I.val 2, trivial⟩ rfl]
          replace OR := I.sto 1 rfl rfl
          have hWZ : Below w.heap.size w WZ := hB.trans I.below
          clear I
          simp only [List.foldl_cons, List.foldl_nil, List.setIfInBounds_toArray, List.set_cons_zero, List.set_cons_succ]
          clear OA OB OG OW OV OT
          clear szr oldv oldt sz1 sy1 sz2 sy2 sz3 sy3 sz4 sy4 sz5 sy5 sz6 sy6
          go_wp2
          refine bodyPost_ret (v := .tuple #[.agg #[.int .u64 0, .int .u64 0, .int .u64 0, .int .u64 0, .int .u64 0, .int .u64 0, .int .u64 0, .int .u64 0], .int .i64 3]) (made_ret _ _ _ _ _ _ _ _ _ _ _ _ rfl rfl OR) rfl ⟨?_, hWZ⟩
          rw [← hr.out]
          simp only [HB1.out, HB2.out, HB3.out]
          rfl
        | true =>
          have e2 := hz2 rfl
          have e3 := hz3 rfl
          rw [e2] at OV
          rw [e3] at OT
          clear e2 e3 hz2 hz3
          go_upto_region 12 with fail
          refine region_memo_f (B := w.heap.size) (L := .val (.agg #[.int .u64 (L0 n2), .int .u64 (L1 n2), .int .u64 (L2 n2), .int .u64 (L3 n2)]) :: .val (.agg #[.int .u64 (L0 d2), .int .u64 (L1 d2), .int .u64 (L2 d2), .int .u64 (L3 d2)]) :: .val (.agg #[.int .u64 (L0 n2), .int .u64 (L1 n2), .int .u64 (L2 n2), .int .u64 (L3 n2), .int .u64 (L0 d2), .int .u64 (L1 d2), .int .u64 (L2 d2), .int .u64 (L3 d2)]) :: .sto (w.heap.size + 2) 31 #[.int .u64 (L0 n2), .int .u64 (L1 n2), .int .u64 (L2 n2), .int .u64 (L3 n2), .int .u64 (L0 d2), .int .u64 (L1 d2), .int .u64 (L2 d2), .int .u64 (L3 d2)] :: .val (.int .i64 0) :: []) (by kernel_rfl) hB.size (Olds.v (Olds.v (Olds.v (Olds.s (by omega) OR.in_ (by repeat' (first | exact trivial | refine Off.v ?_ | refine Off.k ?_ | refine Off.b ?_ | refine Off.n ?_ | refine Off.p ?_ | refine Off.s ?_ ?_ | omega)) (Olds.v trivial)))))
            ⟨fun a w R => ld_A (R.slot 9 rfl) (R.keep OV (by repeat' (first | exact trivial | refine Off.v ?_ | refine Off.k ?_ | refine Off.b ?_ | refine Off.n ?_ | refine Off.p ?_ | refine Off.s ?_ ?_ | omega))) rfl rfl rfl rfl, fun a w R => ld_A (R.slot 11 rfl) (R.keep OT (by repeat' (first | exact trivial | refine Off.v ?_ | refine Off.k ?_ | refine Off.b ?_ | refine Off.n ?_ | refine Off.p ?_ | refine Off.s ?_ ?_ | omega))) rfl rfl rfl rfl, fun a w R => bdQ_tt (R.val 0) (R.val 1), fun a w R => so_Q (R.slot 4 rfl) (R.own rfl OR) rfl (R.val 2), fun a w R => asc, trivial⟩ (fun act_ WZ I => ?_)
          rw [I.act [(60, .agg #[.int .u64 (L0 n2), .int .u64 (L1 n2), .int .u64 (L2 n2), .int .u64 (L3 n2)]), (61, .agg #[.int .u64 (L0 d2), .int .u64 (L1 d2), .int .u64 (L2 d2), .int .u64 (L3 d2)]), (62, .agg #[.int .u64 (L0 n2), .int .u64 (L1 n2), .int .u64 (L2 n2), .int .u64 (L3 n2), .int .u64 (L0 d2), .int .u64 (L1 d2), .int .u64 (L2 d2), .int .u64 (L3 d2)]), (5, .int .i64 0)]
            ⟨I.val 0, I.val 1, I.val 2, I.val 4, trivial⟩ rfl]
          replace OR := I.sto 3 rfl rfl
          have hWZ : Below w.heap.size w WZ := hB.trans I.below
          clear I
          simp only [List.foldl_cons, List.foldl_nil, List.setIfInBounds_toArray, List.set_cons_zero, List.set_cons_succ]
          clear OA OB OG OW OV OT
          clear szr oldv oldt sz1 sy1 sz2 sy2 sz3 sy3 sz4 sy4 sz5 sy5 sz6 sy6
          go_wp2
          refine bodyPost_ret (v := .tuple #[.agg #[.int .u64 (L0 n2), .int .u64 (L1 n2), .int .u64 (L2 n2), .int .u64 (L3 n2), .int .u64 (L0 d2), .int .u64 (L1 d2), .int .u64 (L2 d2), .int .u64 (L3 d2)], .int .i64 0]) (made_ret _ _ _ _ _ _ _ _ _ _ _ _ rfl rfl OR) rfl ⟨?_, hWZ⟩
          rw [← hr.out]
          simp only [HB1.out, HB2.out, HB3.out]
          rfl

end Go.Proofs.YtjmojddnedngaaaDoor
