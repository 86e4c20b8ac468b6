/- GeomOn: whether any point is on the inside of a line is the document's; for any three points. -/
import Derived.Test.YtlifghecgpibfaaRows
import Derived.Test.YtlifghecgpibfaaBase
import Derived.Test.YtlifghecgpibfaaGeoH
import Derived.Test.YtlifghecgpibfaaPts
import Derived.Test.YtlifghecgpibfaaGeoGo
import Derived.WalkKit
import Derived.ProofKit
import Derived.OpenShut
import Derived.ShutString
import Derived.ChangeOld
import Derived.Below
import Derived.SliceStrings
namespace Go.Proofs.Ytlifghecgpibfaa.geomOn
open Go.ChangeShapes Go.WideShapes Go.ChangeAt Go.RowKit
open Go.ChangeMaps (open_string shut_string)
set_option linter.unusedVariables false

theorem own : ownKnob Try.prog.godebug = none := by kernel_rfl
theorem laidOut : laidOutB Try.prog = true := by kernel_rfl

set_option maxHeartbeats 16000000 in
set_option maxRecDepth 20000 in
theorem walk (p1 p2 : Int) (a1 a2 : Int) (b1 b2 : Int) (w : World) (fp1 : (Lit.int .i64 p1).wf = true) (fp2 : (Lit.int .i64 p2).wf = true) (fa1 : (Lit.int .i64 a1).wf = true) (fa2 : (Lit.int .i64 a2).wf = true) (fb1 : (Lit.int .i64 b1).wf = true) (fb2 : (Lit.int .i64 b2).wf = true) :
    Calls Try.prog 7 #[.agg #[.int .i64 p1, .int .i64 p2], .agg #[.int .i64 a1, .int .i64 a2], .agg #[.int .i64 b1, .int .i64 b2]] w fun e w' => e = .returned (.bool true) ∧ Below w.heap.size w w' := by
  go_enter Try.func7, Try.ntmps7
  go_upto_region 1 with fail
  go_name_world W0 hW0e
  have ow3 : Own W0 w.heap.size 23 #[.int .i64 p1, .int .i64 p2] := hW0e ▸ (by repeat' (first | (with_reducible assumption) | (with_reducible refine Own.drawnN ?_ _) | (with_reducible refine Own.drawn ?_) | (with_reducible refine Own.made_at ?_; first | rfl | (simp; done) | omega | (simp; omega)) | (with_reducible refine Own.more ?_ _) | (with_reducible refine Own.apart ?_ ?_ _ _; rotate_left; first | omega | (simp; done) | (simp; omega)) | (refine Own.put ?_ _ _)))
  have ow4 : Own W0 (w.heap.size + 1) 23 #[.int .i64 a1, .int .i64 a2] := hW0e ▸ (by repeat' (first | (with_reducible assumption) | (with_reducible refine Own.drawnN ?_ _) | (with_reducible refine Own.drawn ?_) | (with_reducible refine Own.made_at ?_; first | rfl | (simp; done) | omega | (simp; omega)) | (with_reducible refine Own.more ?_ _) | (with_reducible refine Own.apart ?_ ?_ _ _; rotate_left; first | omega | (simp; done) | (simp; omega)) | (refine Own.put ?_ _ _)))
  have ow5 : Own W0 (w.heap.size + 1 + 1) 23 #[.int .i64 b1, .int .i64 b2] := hW0e ▸ (by repeat' (first | (with_reducible assumption) | (with_reducible refine Own.drawnN ?_ _) | (with_reducible refine Own.drawn ?_) | (with_reducible refine Own.made_at ?_; first | rfl | (simp; done) | omega | (simp; omega)) | (with_reducible refine Own.more ?_ _) | (with_reducible refine Own.apart ?_ ?_ _ _; rotate_left; first | omega | (simp; done) | (simp; omega)) | (refine Own.put ?_ _ _)))
  have hW0 : Below w.heap.size w W0 := hW0e ▸ (by repeat' (first | (with_reducible exact Below.refl _ _) | (with_reducible assumption) | (with_reducible refine below_drewN ?_ _) | (with_reducible refine Below.drew ?_) | (with_reducible refine Below.alloc ?_ ?_ _) | (with_reducible refine Below.setCell ?_ ?_ _) | (with_reducible refine then_ ?_ (by with_reducible assumption) ?_) | (with_reducible exact Nat.le_refl _) | (with_reducible exact Nat.le_succ _) | (with_reducible exact Nat.le_succ_of_le (by with_reducible assumption)) | omega | (simp; done) | (simp; omega) | (exact Nat.le_succ _) | (exact Nat.le_succ_of_le (by with_reducible assumption))))
  clear hW0e
  have z0 := ow5.in_
  rcases Bool.eq_false_or_eq_true (in3 p1 p2 a1 a2 b1 b2) with t1 | t1
  · have t1_ := Lib.hid t1
    clear t1
    rcases Bool.eq_false_or_eq_true (roB p1 p2 a1 a2 b1 b2) with t2 | t2
    · have t2_ := Lib.hid t2
      clear t2
      go_upto_region 1 with fail
      refine region_memo (B := W0.heap.size) (L := .val (.bool true) :: .val (.bool true) :: .val (.agg #[.int .i64 p1, .int .i64 p2]) :: .val (.agg #[.int .i64 a1, .int .i64 a2]) :: .val (.agg #[.int .i64 b1, .int .i64 b2]) :: .val (.bool true) :: .val (.agg #[.int .i64 p1, .int .i64 p2]) :: .val (.agg #[.int .i64 a1, .int .i64 a2]) :: .val (.agg #[.int .i64 b1, .int .i64 b2]) :: .new 23 #[.int .i64 p1, .int .i64 p2, .int .i64 a1, .int .i64 a2, .int .i64 b1, .int .i64 b2] (some (3, 3)) :: .val (.bool true) :: .val (.bool true) :: .val (.agg #[.int .i64 p1, .int .i64 p2]) :: .val (.agg #[.int .i64 a1, .int .i64 a2]) :: .val (.agg #[.int .i64 b1, .int .i64 b2]) :: .val (.bool true) :: .val (.bool true) :: .val (.bool true) :: .val (.bool true) :: .val (.bool true) :: []) (by kernel_rfl) (by kernel_rfl) (Nat.le_refl _) ((by exact trivial))
        ⟨fun a w R => cl_0 (enter_at Try.func12)  (awake_any _), fun a w R => mv (R.val 0), fun a w R => ld_P (R.slot 3 rfl) (R.keep ow3.drawn trivial) rfl rfl, fun a w R => ld_P (R.slot 4 rfl) (R.keep ow4.drawn trivial) rfl rfl, fun a w R => ld_P (R.slot 5 rfl) (R.keep ow5.drawn trivial) rfl rfl, fun a w R => cl_ttt (enter_at Try.func16) (R.val 2) (R.val 3) (R.val 4) (On_is ((on_in t1_.out).trans t2_.out) _), fun a w R => ld_P (R.slot 3 rfl) (R.keep ow3.drawn trivial) rfl rfl, fun a w R => ld_P (R.slot 4 rfl) (R.keep ow4.drawn trivial) rfl rfl, fun a w R => ld_P (R.slot 5 rfl) (R.keep ow5.drawn trivial) rfl rfl, fun a w R => bsP_3 (R.val 6) (R.val 7) (R.val 8), fun a w R => cl_n (enter_at Try.func11) (R.dep 9) (fun g hg => lawin3 t1_.out hg), fun a w R => mv (R.val 10), fun a w R => ld_P (R.slot 3 rfl) (R.keep ow3.drawn trivial) rfl rfl, fun a w R => ld_P (R.slot 4 rfl) (R.keep ow4.drawn trivial) rfl rfl, fun a w R => ld_P (R.slot 5 rfl) (R.keep ow5.drawn trivial) rfl rfl, fun a w R => cl_ttt (enter_at Try.func26) (R.val 12) (R.val 13) (R.val 14) (ROn_is (in3_iff.1 t1_.out).1 (in3_iff.1 t1_.out).2.1 (in3_iff.1 t1_.out).2.2 t2_.out _), fun a w R => pickt (R.val 11) (R.val 15), fun a w R => cb_eql_tt (R.val 5) (R.val 16) rfl, fun a w R => pickt (R.val 1) (R.val 17), fun a w R => asg (R.val 18), trivial⟩ (fun act_ W1 I => ?_)
      obtain ⟨gb16, ew16, lw16, ow16⟩ := I.new 9 rfl rfl rfl
      rw [I.act [(7, .bool true), (8, .bool true), (9, .agg #[.int .i64 p1, .int .i64 p2]), (10, .agg #[.int .i64 a1, .int .i64 a2]), (11, .agg #[.int .i64 b1, .int .i64 b2]), (12, .bool true), (13, .agg #[.int .i64 p1, .int .i64 p2]), (14, .agg #[.int .i64 a1, .int .i64 a2]), (15, .agg #[.int .i64 b1, .int .i64 b2]), (16, .slice (some ⟨gb16, 0, none⟩) 3 3), (17, .bool true), (18, .bool true), (19, .agg #[.int .i64 p1, .int .i64 p2]), (20, .agg #[.int .i64 a1, .int .i64 a2]), (21, .agg #[.int .i64 b1, .int .i64 b2]), (22, .bool true), (23, .bool true), (24, .bool true), (25, .bool true), (6, .bool true)]
        ⟨I.val 0, I.val 1, I.val 2, I.val 3, I.val 4, I.val 5, I.val 6, I.val 7, I.val 8, ew16, I.val 10, I.val 11, I.val 12, I.val 13, I.val 14, I.val 15, I.val 16, I.val 17, I.val 18, I.val 19, trivial⟩ rfl]
      change W0.heap.size ≤ gb16 at lw16
      have sW1 : W0.heap.size ≤ W1.heap.size := I.below.size
      replace ow3 := I.keep ow3.drawn trivial
      replace ow4 := I.keep ow4.drawn trivial
      replace ow5 := I.keep ow5.drawn trivial
      have hW1 : Below w.heap.size w W1 := then_ hW0.drew I.below hW0.size
      clear ew16
      clear I
      simp only [List.foldl_cons, List.foldl_nil, List.setIfInBounds_toArray, List.set_cons_zero, List.set_cons_succ]
      clear ow3 ow4 ow5 ow16
      go_wp2
      try simp only [setCell_drawn]
      refine bodyPost_ret (by first | (simp [results, Try.results7, go_sem]; done) | (simp [results, Try.results7, go_sem]; rfl)) rfl ⟨?_, hW1⟩
      rfl
    · have t2_ := Lib.hid t2
      clear t2
      go_upto_region 1 with fail
      refine region_memo (B := W0.heap.size) (L := .val (.bool true) :: .val (.bool true) :: .val (.agg #[.int .i64 p1, .int .i64 p2]) :: .val (.agg #[.int .i64 a1, .int .i64 a2]) :: .val (.agg #[.int .i64 b1, .int .i64 b2]) :: .val (.bool false) :: .val (.agg #[.int .i64 p1, .int .i64 p2]) :: .val (.agg #[.int .i64 a1, .int .i64 a2]) :: .val (.agg #[.int .i64 b1, .int .i64 b2]) :: .new 23 #[.int .i64 p1, .int .i64 p2, .int .i64 a1, .int .i64 a2, .int .i64 b1, .int .i64 b2] (some (3, 3)) :: .val (.bool true) :: .val (.bool true) :: .val (.agg #[.int .i64 p1, .int .i64 p2]) :: .val (.agg #[.int .i64 a1, .int .i64 a2]) :: .val (.agg #[.int .i64 b1, .int .i64 b2]) :: .val (.bool false) :: .val (.bool false) :: .val (.bool true) :: .val (.bool true) :: .val (.bool true) :: []) (by kernel_rfl) (by kernel_rfl) (Nat.le_refl _) ((by exact trivial))
        ⟨fun a w R => cl_0 (enter_at Try.func12)  (awake_any _), fun a w R => mv (R.val 0), fun a w R => ld_P (R.slot 3 rfl) (R.keep ow3.drawn trivial) rfl rfl, fun a w R => ld_P (R.slot 4 rfl) (R.keep ow4.drawn trivial) rfl rfl, fun a w R => ld_P (R.slot 5 rfl) (R.keep ow5.drawn trivial) rfl rfl, fun a w R => cl_ttt (enter_at Try.func16) (R.val 2) (R.val 3) (R.val 4) (On_is ((on_in t1_.out).trans t2_.out) _), fun a w R => ld_P (R.slot 3 rfl) (R.keep ow3.drawn trivial) rfl rfl, fun a w R => ld_P (R.slot 4 rfl) (R.keep ow4.drawn trivial) rfl rfl, fun a w R => ld_P (R.slot 5 rfl) (R.keep ow5.drawn trivial) rfl rfl, fun a w R => bsP_3 (R.val 6) (R.val 7) (R.val 8), fun a w R => cl_n (enter_at Try.func11) (R.dep 9) (fun g hg => lawin3 t1_.out hg), fun a w R => mv (R.val 10), fun a w R => ld_P (R.slot 3 rfl) (R.keep ow3.drawn trivial) rfl rfl, fun a w R => ld_P (R.slot 4 rfl) (R.keep ow4.drawn trivial) rfl rfl, fun a w R => ld_P (R.slot 5 rfl) (R.keep ow5.drawn trivial) rfl rfl, fun a w R => cl_ttt (enter_at Try.func26) (R.val 12) (R.val 13) (R.val 14) (ROn_is (in3_iff.1 t1_.out).1 (in3_iff.1 t1_.out).2.1 (in3_iff.1 t1_.out).2.2 t2_.out _), fun a w R => pickt (R.val 11) (R.val 15), fun a w R => cb_eql_tt (R.val 5) (R.val 16) rfl, fun a w R => pickt (R.val 1) (R.val 17), fun a w R => asg (R.val 18), trivial⟩ (fun act_ W1 I => ?_)
      obtain ⟨gb16, ew16, lw16, ow16⟩ := I.new 9 rfl rfl rfl
      rw [I.act [(7, .bool true), (8, .bool true), (9, .agg #[.int .i64 p1, .int .i64 p2]), (10, .agg #[.int .i64 a1, .int .i64 a2]), (11, .agg #[.int .i64 b1, .int .i64 b2]), (12, .bool false), (13, .agg #[.int .i64 p1, .int .i64 p2]), (14, .agg #[.int .i64 a1, .int .i64 a2]), (15, .agg #[.int .i64 b1, .int .i64 b2]), (16, .slice (some ⟨gb16, 0, none⟩) 3 3), (17, .bool true), (18, .bool true), (19, .agg #[.int .i64 p1, .int .i64 p2]), (20, .agg #[.int .i64 a1, .int .i64 a2]), (21, .agg #[.int .i64 b1, .int .i64 b2]), (22, .bool false), (23, .bool false), (24, .bool true), (25, .bool true), (6, .bool true)]
        ⟨I.val 0, I.val 1, I.val 2, I.val 3, I.val 4, I.val 5, I.val 6, I.val 7, I.val 8, ew16, I.val 10, I.val 11, I.val 12, I.val 13, I.val 14, I.val 15, I.val 16, I.val 17, I.val 18, I.val 19, trivial⟩ rfl]
      change W0.heap.size ≤ gb16 at lw16
      have sW1 : W0.heap.size ≤ W1.heap.size := I.below.size
      replace ow3 := I.keep ow3.drawn trivial
      replace ow4 := I.keep ow4.drawn trivial
      replace ow5 := I.keep ow5.drawn trivial
      have hW1 : Below w.heap.size w W1 := then_ hW0.drew I.below hW0.size
      clear ew16
      clear I
      simp only [List.foldl_cons, List.foldl_nil, List.setIfInBounds_toArray, List.set_cons_zero, List.set_cons_succ]
      clear ow3 ow4 ow5 ow16
      go_wp2
      try simp only [setCell_drawn]
      refine bodyPost_ret (by first | (simp [results, Try.results7, go_sem]; done) | (simp [results, Try.results7, go_sem]; rfl)) rfl ⟨?_, hW1⟩
      rfl
  · have t1_ := Lib.hid t1
    clear t1
    go_upto_region 1 with fail
    refine region_memo (B := W0.heap.size) (L := .val (.bool true) :: .val (.bool true) :: .val (.agg #[.int .i64 p1, .int .i64 p2]) :: .val (.agg #[.int .i64 a1, .int .i64 a2]) :: .val (.agg #[.int .i64 b1, .int .i64 b2]) :: .val (.bool false) :: .val (.agg #[.int .i64 p1, .int .i64 p2]) :: .val (.agg #[.int .i64 a1, .int .i64 a2]) :: .val (.agg #[.int .i64 b1, .int .i64 b2]) :: .new 23 #[.int .i64 p1, .int .i64 p2, .int .i64 a1, .int .i64 a2, .int .i64 b1, .int .i64 b2] (some (3, 3)) :: .val (.bool false) :: .val (.bool false) :: .skip :: .skip :: .skip :: .skip :: .val (.bool false) :: .val (.bool true) :: .val (.bool true) :: .val (.bool true) :: []) (by kernel_rfl) (by kernel_rfl) (Nat.le_refl _) ((by exact trivial))
      ⟨fun a w R => cl_0 (enter_at Try.func12)  (awake_any _), fun a w R => mv (R.val 0), fun a w R => ld_P (R.slot 3 rfl) (R.keep ow3.drawn trivial) rfl rfl, fun a w R => ld_P (R.slot 4 rfl) (R.keep ow4.drawn trivial) rfl rfl, fun a w R => ld_P (R.slot 5 rfl) (R.keep ow5.drawn trivial) rfl rfl, fun a w R => cl_ttt (enter_at Try.func16) (R.val 2) (R.val 3) (R.val 4) (On_is (on_out t1_.out) _), fun a w R => ld_P (R.slot 3 rfl) (R.keep ow3.drawn trivial) rfl rfl, fun a w R => ld_P (R.slot 4 rfl) (R.keep ow4.drawn trivial) rfl rfl, fun a w R => ld_P (R.slot 5 rfl) (R.keep ow5.drawn trivial) rfl rfl, fun a w R => bsP_3 (R.val 6) (R.val 7) (R.val 8), fun a w R => cl_n (enter_at Try.func11) (R.dep 9) (fun g hg => lawin3 t1_.out hg), fun a w R => mv (R.val 10), fun a w R => True.intro, fun a w R => True.intro, fun a w R => True.intro, fun a w R => True.intro, fun a w R => pickf (R.val 11) (R.goneS 15), fun a w R => cb_eql_tt (R.val 5) (R.val 16) rfl, fun a w R => pickt (R.val 1) (R.val 17), fun a w R => asg (R.val 18), trivial⟩ (fun act_ W1 I => ?_)
    obtain ⟨gb16, ew16, lw16, ow16⟩ := I.new 9 rfl rfl rfl
    rw [I.act [(7, .bool true), (8, .bool true), (9, .agg #[.int .i64 p1, .int .i64 p2]), (10, .agg #[.int .i64 a1, .int .i64 a2]), (11, .agg #[.int .i64 b1, .int .i64 b2]), (12, .bool false), (13, .agg #[.int .i64 p1, .int .i64 p2]), (14, .agg #[.int .i64 a1, .int .i64 a2]), (15, .agg #[.int .i64 b1, .int .i64 b2]), (16, .slice (some ⟨gb16, 0, none⟩) 3 3), (17, .bool false), (18, .bool false), (19, undef), (20, undef), (21, undef), (22, undef), (23, .bool false), (24, .bool true), (25, .bool true), (6, .bool true)]
      ⟨I.val 0, I.val 1, I.val 2, I.val 3, I.val 4, I.val 5, I.val 6, I.val 7, I.val 8, ew16, I.val 10, I.val 11, I.gone 12, I.gone 13, I.gone 14, I.gone 15, I.val 16, I.val 17, I.val 18, I.val 19, trivial⟩ rfl]
    change W0.heap.size ≤ gb16 at lw16
    have sW1 : W0.heap.size ≤ W1.heap.size := I.below.size
    replace ow3 := I.keep ow3.drawn trivial
    replace ow4 := I.keep ow4.drawn trivial
    replace ow5 := I.keep ow5.drawn trivial
    have hW1 : Below w.heap.size w W1 := then_ hW0.drew I.below hW0.size
    clear ew16
    clear I
    simp only [List.foldl_cons, List.foldl_nil, List.setIfInBounds_toArray, List.set_cons_zero, List.set_cons_succ]
    clear ow3 ow4 ow5 ow16
    go_wp2
    try simp only [setCell_drawn]
    refine bodyPost_ret (by first | (simp [results, Try.results7, go_sem]; done) | (simp [results, Try.results7, go_sem]; rfl)) rfl ⟨?_, hW1⟩
    rfl

set_option maxRecDepth 100000 in
theorem lifted (os : Os) (started : os.Started) (H : Type) (enc : TypeId × Value → H) :
    ReturnsInHanded {} Try.checked os 7 .any (Rows.geomOnSpec.pre6 enc Try.prog Try.f7 Rows.geomOnRow.domain false) (Rows.geomOnSpec.post enc Try.prog Try.f7 false true false false) := by
  refine returnsInHanded_of_change (C := Try.checked) own started (by kernel_rfl) Try.func7
    (ChangeSpec.witness6 (enc := enc) (C := Try.checked) false ⟨#[], #[.agg #[.int .i64 0, .int .i64 0], .agg #[.int .i64 0, .int .i64 0], .agg #[.int .i64 0, .int .i64 0]], []⟩ 8 (by kernel_rfl) (by kernel_rfl) (by kernel_rfl) (by kernel_rfl)) ?_
  intro W base args ds gs before hval0 hW hcnd _
  have hval : ∀ (j : Nat) t v, Try.f7.params[j]? = some t → args[j]? = some v → Value.okWide Try.prog W .any base t v := hval0
  have hW' := hW
  obtain ⟨p, q, hA0, hV, rfl, hfz, hnd⟩ := hW
  have hA : DataW.TrodAll enc Try.prog W 0 (fun _ => true) true Try.f7.params.toList args.toList ds p := hA0
  rw [Try.params7] at hA hval
  obtain ⟨v0, vs0, d0, ds0, p0, q0, hargs, rfl, rfl, h0, r0⟩ := trodAll_cons hA
  obtain ⟨v1, vs1, d1, ds1, p1, q1, rfl, rfl, rfl, h1, r1⟩ := trodAll_cons r0
  obtain ⟨v2, vs2, d2, ds2, p2, q2, rfl, rfl, rfl, h2, r2⟩ := trodAll_cons r1
  obtain ⟨rfl, rfl, rfl⟩ := trodAll_nil r2
  obtain rfl : args = #[v0, v1, v2] := by cases args; simp_all
  obtain ⟨rfl, rfl⟩ := trodVars_none hV
  obtain ⟨p1, p2, rfl, rfl, fp1, fp2⟩ := open_pt (hval 0 23 v0 rfl rfl) h0
  obtain ⟨a1, a2, rfl, rfl, fa1, fa2⟩ := open_pt (hval 1 23 v1 rfl rfl) h1
  obtain ⟨b1, b2, rfl, rfl, fb1, fb2⟩ := open_pt (hval 2 23 v2 rfl rfl) h2
  clear hA0 hval0
  refine (walk p1 p2 a1 a2 b1 b2 W fp1 fp2 fa1 fa2 fb1 fb2).mono fun e W' ⟨he, bel⟩ => ?_
  subst he
  exact ⟨_, rfl, _, _, _, [], _, [], hW', trodAll_mk1 (shut_bool Try.underlying4 _), (trodAll_cons_mk (Below.trod laidOut (by kernel_rfl) (of_decide_eq_true (by kernel_rfl)) h0 bel (fun x hx => by cases hx)) (trodAll_cons_mk (Below.trod laidOut (by kernel_rfl) (of_decide_eq_true (by kernel_rfl)) h1 bel (fun x hx => by cases hx)) (trodAll_cons_mk (Below.trod laidOut (by kernel_rfl) (of_decide_eq_true (by kernel_rfl)) h2 bel (fun x hx => by cases hx)) trodAll_mk0))), rfl, bel.frame _, fun h => by cases h⟩

theorem over : Rows.geomOnRow.holds Try.pinned (OpenSpec.ofChange Rows.geomOnSpec) :=
  OpenClaim.holds_of_wide 7 Try.f7 rfl rfl rfl rfl rfl rfl rfl ⟨rfl, rfl, rfl, rfl, rfl⟩ rfl rfl rfl rfl rfl (by kernel_rfl) Try.func7 (by kernel_rfl)
    (of_decide_eq_true (by kernel_rfl)) (by unfold Func.isWrapper; first | (rw [if_pos (by decide +kernel)]; kernel_rfl) | (rw [if_neg (by decide +kernel)]; exact ⟨rfl, rfl⟩))
    (fun os started H enc _ => lifted os started H enc)

/-- THE STATEMENT -/
theorem proved : Rows.GeomOnSaid := over
#print axioms proved
end Go.Proofs.Ytlifghecgpibfaa.geomOn
