
/- The contract of the reference's copied. Conditions: none of their own. -/
import Derived.Test.YtndhmidgnpobjaaGreatDoorPguD
import Derived.Laws.AppendOwnNone
namespace Go.Proofs.YtndhmidgnpobjaaGreatDoor
open Go.ChangeShapes Go.WideShapes Go.ChangeAt Go.RowKit
set_option linter.unusedVariables false
set_option linter.unusedSimpArgs false

theorem row_nil (w : World) (B : Nat) (T : TypeId) : w.ownsRow B T 1 (.slice none 0 0) 0 [] := World.ownsRow_nil _ _ _ _
section
variable {w w' : World} {B : Nat} {vk vr vf : Value} {s : RSt}
/-- a source of append -/
theorem row_src {T : TypeId} {v : Value} {l : List Value} {n : Nat} (h : w.ownsRow B T 1 v n l) : (v = .slice none 0 0 ∧ n = 0 ∧ l = []) ∨ ∃ g cp, v = .slice (some ⟨g, 0, none⟩) n cp ∧ g < w.heap.size ∧ ∀ W, Below w.heap.size w W → ∀ j u, l[j]? = some u → W.cell? ((⟨g, 0, none⟩ : Addr).add j) = some u := by
  have h0 := h.1
  rcases h.2 with ⟨rfl, h2⟩ | ⟨g, cap, cur, rfl, h1, h2, h3, h4, h5, h6⟩
  · refine .inl ⟨rfl, h2, ?_⟩
    rw [h2] at h0
    exact List.eq_nil_of_length_eq_zero (by simpa using h0)
  · refine .inr ⟨g, cap, rfl, (h.lt g rfl).2, fun W hW j u hu => ?_⟩
    have hj : j < l.length := (List.getElem?_eq_some_iff.1 hu).1
    have := World.ownsRow.cellAt h j (by omega)
    have e : ((⟨g, 0, none⟩ : Addr).add j) = ⟨g, j, none⟩ := by
      unfold Addr.add
      split
      · rename_i c
        rw [c]
      · rw [Nat.zero_add]
    rw [e, World.cell?_of_block (a := ⟨g, j, none⟩) (hW.block g (h.lt g rfl).2), this, hu]
theorem nil_grown {a b : World} (h : a.grownBy b (Value.slice none 0 0).ownBlock) : Below a.heap.size a b :=
  ((Chg.refl (fun _ => False) a).grown h fun q e => by cases e).below (Nat.le_refl _) fun q e => e.elim
theorem row_cells {q : Nat} {T : TypeId} {v : Value} {l : List Value} {n : Nat} (hq : v.ownBlock ≠ some q) : ∀ (vs : List Value) (i : Nat) (w : World), w.ownsRow B T 1 v n l → (w.setCells q i vs).ownsRow B T 1 v n l
  | [], _, _, h => h
  | u :: vs, i, w, h => row_cells hq vs (i + 1) _ (ownsRow_setCell_other (a := ⟨q, i, none⟩) h hq u)
theorem natV_one (l : List Nat) : ∀ u ∈ natV l, u.oneCell' = true := fun u hu => by
  obtain ⟨x, -, rfl⟩ := List.mem_map.1 hu
  rfl
theorem strV_one (l : List ByteArray) : ∀ u ∈ strV l, u.oneCell' = true := fun u hu => by
  obtain ⟨x, -, rfl⟩ := List.mem_map.1 hu
  rfl
set_option maxRecDepth 10000 in
set_option maxHeartbeats 1000000 in
theorem copied_any (h : StAt w B vk vr vf s) (hk : 1 ≤ s.kinds.length ∧ s.kinds.length ≤ 1000000) (hr : 1 ≤ s.rooms.length ∧ s.rooms.length ≤ 1000000) (hf : s.free.length ≤ 1000000) :
    Calls Tryz.prog 92 #[.agg (stC vk vr vf s.roots)] w fun e w' => ∃ vk' vr' vf', e = .returned (.agg (stC vk' vr' vf' s.roots)) ∧ StAt w' w.heap.size vk' vr' vf' s ∧ Below w.heap.size w w' := by
  obtain ⟨i0, hi0, hz0, hz1, hz2⟩ := info_parts Po.info_in
  obtain ⟨i1, hi1, hy0, hy1, hy2⟩ := info_parts Pg.info_str
  have hkv : (natV s.kinds).length = s.kinds.length * 1 := by simp [natV]
  have hrv : (strV s.rooms).length = s.rooms.length * 1 := by simp [strV]
  have hfv : (natV s.free).length = s.free.length * 1 := by simp [natV]
  rcases row_src h.k with ⟨-, e, -⟩ | ⟨gk, kc, rfl, hgk, KS⟩
  · omega
  rcases row_src h.r with ⟨-, e, -⟩ | ⟨gr, rc, rfl, hgr, RS_⟩
  · omega
  obtain ⟨r, hr2⟩ : ∃ r, r = s.roots := ⟨_, rfl⟩
  rw [← hr2]
  have HKS := Lib.hid KS
  have HRS := Lib.hid RS_
  have FS := Lib.hid (row_src h.f)
  obtain ⟨fa, fc, rfl, -, -⟩ := row_slice h.f
  obtain ⟨n, hn⟩ : ∃ n, n = s.kinds.length := ⟨_, rfl⟩
  obtain ⟨m, hm⟩ : ∃ m, m = s.rooms.length := ⟨_, rfl⟩
  obtain ⟨q, hq⟩ : ∃ q, q = s.free.length := ⟨_, rfl⟩
  rw [← hn] at hk hkv ⊢
  rw [← hm] at hr hrv ⊢
  rw [← hq] at hf hfv FS ⊢
  have HN := Lib.hid (And.intro hn (And.intro hm (And.intro hq hr2)))
  have O1 := Own.made w 38 (stC (.slice (some ⟨gk, 0, none⟩) n kc) (.slice (some ⟨gr, 0, none⟩) m rc) (.slice fa q fc) r)
  clear h KS RS_ hr2 hn hm hq
  unfold stC at O1 ⊢
  go_enter Tryz.func92, Tryz.ntmps92
  go_upto_region 2 with fail
  have O1 : Own (((w.alloc (.cells #[.slice (some ⟨gk, 0, none⟩) n kc, .slice (some ⟨gr, 0, none⟩) m rc, .slice fa q fc, .int .u64 (r 0 : Int), .int .u64 (r 1 : Int), .int .u64 (r 2 : Int), .int .u64 (r 3 : Int), .int .u64 (r 4 : Int), .int .u64 (r 5 : Int), .int .u64 (r 6 : Int), .int .u64 (r 7 : Int)] 38)).alloc (.cells #[.slice none 0 0, .slice none 0 0, .slice none 0 0, .int .u64 0, .int .u64 0, .int .u64 0, .int .u64 0, .int .u64 0, .int .u64 0, .int .u64 0, .int .u64 0] 38)).alloc (.cells #[.slice none 0 0, .slice none 0 0, .slice none 0 0, .int .u64 (r 0 : Int), .int .u64 (r 1 : Int), .int .u64 (r 2 : Int), .int .u64 (r 3 : Int), .int .u64 (r 4 : Int), .int .u64 (r 5 : Int), .int .u64 (r 6 : Int), .int .u64 (r 7 : Int)] 38)) w.heap.size 38 #[.slice (some ⟨gk, 0, none⟩) n kc, .slice (some ⟨gr, 0, none⟩) m rc, .slice fa q fc, .int .u64 (r 0 : Int), .int .u64 (r 1 : Int), .int .u64 (r 2 : Int), .int .u64 (r 3 : Int), .int .u64 (r 4 : Int), .int .u64 (r 5 : Int), .int .u64 (r 6 : Int), .int .u64 (r 7 : Int)] := (O1.more _).more _
  have O2 : Own (((w.alloc (.cells #[.slice (some ⟨gk, 0, none⟩) n kc, .slice (some ⟨gr, 0, none⟩) m rc, .slice fa q fc, .int .u64 (r 0 : Int), .int .u64 (r 1 : Int), .int .u64 (r 2 : Int), .int .u64 (r 3 : Int), .int .u64 (r 4 : Int), .int .u64 (r 5 : Int), .int .u64 (r 6 : Int), .int .u64 (r 7 : Int)] 38)).alloc (.cells #[.slice none 0 0, .slice none 0 0, .slice none 0 0, .int .u64 0, .int .u64 0, .int .u64 0, .int .u64 0, .int .u64 0, .int .u64 0, .int .u64 0, .int .u64 0] 38)).alloc (.cells #[.slice none 0 0, .slice none 0 0, .slice none 0 0, .int .u64 (r 0 : Int), .int .u64 (r 1 : Int), .int .u64 (r 2 : Int), .int .u64 (r 3 : Int), .int .u64 (r 4 : Int), .int .u64 (r 5 : Int), .int .u64 (r 6 : Int), .int .u64 (r 7 : Int)] 38)) (w.heap.size + 1) 38 #[.slice none 0 0, .slice none 0 0, .slice none 0 0, .int .u64 0, .int .u64 0, .int .u64 0, .int .u64 0, .int .u64 0, .int .u64 0, .int .u64 0, .int .u64 0] := (Own.made_at (by simp)).more _
  have O3 : Own (((w.alloc (.cells #[.slice (some ⟨gk, 0, none⟩) n kc, .slice (some ⟨gr, 0, none⟩) m rc, .slice fa q fc, .int .u64 (r 0 : Int), .int .u64 (r 1 : Int), .int .u64 (r 2 : Int), .int .u64 (r 3 : Int), .int .u64 (r 4 : Int), .int .u64 (r 5 : Int), .int .u64 (r 6 : Int), .int .u64 (r 7 : Int)] 38)).alloc (.cells #[.slice none 0 0, .slice none 0 0, .slice none 0 0, .int .u64 0, .int .u64 0, .int .u64 0, .int .u64 0, .int .u64 0, .int .u64 0, .int .u64 0, .int .u64 0] 38)).alloc (.cells #[.slice none 0 0, .slice none 0 0, .slice none 0 0, .int .u64 (r 0 : Int), .int .u64 (r 1 : Int), .int .u64 (r 2 : Int), .int .u64 (r 3 : Int), .int .u64 (r 4 : Int), .int .u64 (r 5 : Int), .int .u64 (r 6 : Int), .int .u64 (r 7 : Int)] 38)) (w.heap.size + 1 + 1) 38 #[.slice none 0 0, .slice none 0 0, .slice none 0 0, .int .u64 (r 0 : Int), .int .u64 (r 1 : Int), .int .u64 (r 2 : Int), .int .u64 (r 3 : Int), .int .u64 (r 4 : Int), .int .u64 (r 5 : Int), .int .u64 (r 6 : Int), .int .u64 (r 7 : Int)] := Own.made_at (by simp)
  go_name_world W0 hW0
  rw [hW0] at O1 O2 O3
  have B0 : Below w.heap.size w W0 := hW0 ▸ ((box_one _ _ _).alloc (by simp) _).alloc (by simp; omega) _
  clear hW0
  have HO1 := Lib.hid O1
  have HO2 := Lib.hid O2
  have HO3 := Lib.hid O3
  have HB0 := Lib.hid B0
  have zz := O3.in_
  obtain ⟨q1, q2, q3⟩ := O1.at_
  obtain ⟨p1, p2, p3⟩ := O3.at_
  clear O1 O2 O3 B0
  go_upto_region 3 with (at_builtin; refine wpList_append_own_at _ rfl _ _ 33 rfl w.heap.size 3 i0 (.int .i64 0) 1 8 Tryz.underlying33 hi0 hz0 hz1 hz2 rfl (by decide) (.slice none 0 0) 0 [] rfl (row_nil _ _ _) ⟨gk, 0, none⟩ n kc (natV s.kinds) rfl hkv (HKS.out _ HB0.out) (natV_one _) (by unfold maxLen; omega) (by omega) (by omega) ?_; intro v1 y1 hown1 hgr1 _ _; rw [Nat.zero_add, List.nil_append] at hown1; have G1 := Lib.hid (nil_grown hgr1); clear hgr1; have R1 := Lib.hid hown1; obtain ⟨a1, c1, rfl, -, -⟩ := row_slice hown1; clear hown1; obtain ⟨q1, q2, q3⟩ := (HO1.out.keep G1.out).at_; obtain ⟨p1, p2, p3⟩ := (HO3.out.keep G1.out).at_)
  have s1 := HO3.out.keep G1.out
  have s2 := (HO1.out.keep G1.out).apart (q := w.heap.size + 1 + 1) (by omega) 0 (.slice a1 n c1)
  have s3 := (HO2.out.keep G1.out).apart (q := w.heap.size + 1 + 1) (by omega) 0 (.slice a1 n c1)
  have s5 : Below w.heap.size w (y1.setCell ⟨w.heap.size + 1 + 1, 0, none⟩ (.slice a1 n c1)) := ((Chg.of (S := fun _ => False) (then_ HB0.out G1.out HB0.out.size)).set ⟨w.heap.size + 1 + 1, 0, none⟩ (.inr (by show w.heap.size ≤ w.heap.size + 1 + 1; omega)) _).below (Nat.le_refl _) fun q e => e.elim
  have n1 := ownsRow_setCell_other (a := ⟨w.heap.size + 1 + 1, 0, none⟩) R1.out (row_own R1.out s1 (by decide)) (.slice a1 n c1)
  have s4 : Own (y1.setCell ⟨w.heap.size + 1 + 1, 0, none⟩ (.slice a1 n c1)) (w.heap.size + 1 + 1) 38 #[.slice a1 n c1, .slice none 0 0, .slice none 0 0, .int .u64 (r 0 : Int), .int .u64 (r 1 : Int), .int .u64 (r 2 : Int), .int .u64 (r 3 : Int), .int .u64 (r 4 : Int), .int .u64 (r 5 : Int), .int .u64 (r 6 : Int), .int .u64 (r 7 : Int)] := s1.put 0 _
  go_name_world W1 hW1
  rw [hW1] at s2 s3 s4 s5 n1 
  clear hW1 s1  q1 q2 q3 p1 p2 p3
  have U1 := Lib.hid s2
  have V1 := Lib.hid s3
  have X1 := Lib.hid s4
  have Y1 := Lib.hid s5
  replace n1 := Lib.hid n1
  have z1 : w.heap.size + 1 + 1 < W1.heap.size := s4.in_
  obtain ⟨q1, q2, q3⟩ := s2.at_
  obtain ⟨p1, p2, p3⟩ := s4.at_
  clear s2 s3 s4 s5
  go_upto_region 4 with (at_builtin; refine wpList_append_own_at _ rfl _ _ 34 rfl w.heap.size 9 i1 (.string ⟨#[]⟩) 1 16 Tryz.underlying34 hi1 hy0 hy1 hy2 rfl (by decide) (.slice none 0 0) 0 [] rfl (row_nil _ _ _) ⟨gr, 0, none⟩ m rc (strV s.rooms) rfl hrv (HRS.out _ Y1.out) (strV_one _) (by unfold maxLen; omega) (by omega) (by omega) ?_; intro v1 y2 hown1 hgr1 _ _; rw [Nat.zero_add, List.nil_append] at hown1; have G2 := Lib.hid (nil_grown hgr1); clear hgr1; have R2 := Lib.hid hown1; obtain ⟨a2, c2, rfl, -, -⟩ := row_slice hown1; clear hown1; obtain ⟨q1, q2, q3⟩ := (U1.out.keep G2.out).at_; obtain ⟨p1, p2, p3⟩ := (X1.out.keep G2.out).at_)
  have s1 := X1.out.keep G2.out
  have s2 := (U1.out.keep G2.out).apart (q := w.heap.size + 1 + 1) (by omega) 1 (.slice a2 m c2)
  have s3 := (V1.out.keep G2.out).apart (q := w.heap.size + 1 + 1) (by omega) 1 (.slice a2 m c2)
  have s5 : Below w.heap.size w (y2.setCell ⟨w.heap.size + 1 + 1, 1, none⟩ (.slice a2 m c2)) := ((Chg.of (S := fun _ => False) (then_ Y1.out G2.out Y1.out.size)).set ⟨w.heap.size + 1 + 1, 1, none⟩ (.inr (by show w.heap.size ≤ w.heap.size + 1 + 1; omega)) _).below (Nat.le_refl _) fun q e => e.elim
  have n2 := ownsRow_setCell_other (a := ⟨w.heap.size + 1 + 1, 1, none⟩) R2.out (row_own R2.out s1 (by decide)) (.slice a2 m c2)
  have m1 := Po.ownsRow_keepB n1.out fun g hg => G2.out.block g (n1.out.lt g hg).2
  have t1 := ownsRow_setCell_other (a := ⟨w.heap.size + 1 + 1, 1, none⟩) m1 (row_own m1 s1 (by decide)) (.slice a2 m c2)
  have s4 : Own (y2.setCell ⟨w.heap.size + 1 + 1, 1, none⟩ (.slice a2 m c2)) (w.heap.size + 1 + 1) 38 #[.slice a1 n c1, .slice a2 m c2, .slice none 0 0, .int .u64 (r 0 : Int), .int .u64 (r 1 : Int), .int .u64 (r 2 : Int), .int .u64 (r 3 : Int), .int .u64 (r 4 : Int), .int .u64 (r 5 : Int), .int .u64 (r 6 : Int), .int .u64 (r 7 : Int)] := s1.put 1 _
  go_name_world W2 hW2
  rw [hW2] at s2 s3 s4 s5 n2 t1
  clear hW2 s1 m1 q1 q2 q3 p1 p2 p3
  have U2 := Lib.hid s2
  have V2 := Lib.hid s3
  have X2 := Lib.hid s4
  have Y2 := Lib.hid s5
  replace n2 := Lib.hid n2
  replace n1 := Lib.hid t1
  clear t1
  have z2 : w.heap.size + 1 + 1 < W2.heap.size := s4.in_
  obtain ⟨q1, q2, q3⟩ := s2.at_
  obtain ⟨p1, p2, p3⟩ := s4.at_
  clear s2 s3 s4 s5
  rcases FS.out with ⟨e1, e2, e3⟩ | ⟨g9, c9, e1, hg9, KS9⟩
  · obtain ⟨rfl, rfl, rfl⟩ := Value.slice.inj e1
    clear e1
    go_upto_region 5 with (at_builtin; refine wpList_append_own_none _ rfl _ _ 33 rfl w.heap.size 3 i0 1 Tryz.underlying33 hi0 (.slice none 0 0) 0 [] rfl (row_nil _ _ _) rfl ?_)
    have s4 := X2.out.put 2 (.slice none 0 0)
    have s2 := U2.out.apart (q := w.heap.size + 1 + 1) (by omega) 2 (.slice none 0 0)
    have s3 := V2.out.apart (q := w.heap.size + 1 + 1) (by omega) 2 (.slice none 0 0)
    have s5 : Below w.heap.size w (W2.setCell ⟨w.heap.size + 1 + 1, 2, none⟩ (.slice none 0 0)) := ((Chg.of (S := fun _ => False) Y2.out).set ⟨w.heap.size + 1 + 1, 2, none⟩ (.inr (by show w.heap.size ≤ w.heap.size + 1 + 1; omega)) _).below (Nat.le_refl _) fun q e => e.elim
    have t1 := ownsRow_setCell_other (a := ⟨w.heap.size + 1 + 1, 2, none⟩) n1.out (row_own n1.out X2.out (by decide)) (.slice none 0 0)
    have t2 := ownsRow_setCell_other (a := ⟨w.heap.size + 1 + 1, 2, none⟩) n2.out (row_own n2.out X2.out (by decide)) (.slice none 0 0)
    replace s4 : Own (W2.setCell ⟨w.heap.size + 1 + 1, 2, none⟩ (.slice none 0 0)) (w.heap.size + 1 + 1) 38 #[.slice a1 n c1, .slice a2 m c2, .slice none 0 0, .int .u64 (r 0 : Int), .int .u64 (r 1 : Int), .int .u64 (r 2 : Int), .int .u64 (r 3 : Int), .int .u64 (r 4 : Int), .int .u64 (r 5 : Int), .int .u64 (r 6 : Int), .int .u64 (r 7 : Int)] := s4
    go_name_world W3 hW3
    rw [hW3] at s2 s3 s4 s5 t1 t2
    clear hW3 q1 q2 q3 p1 p2 p3
    obtain ⟨p1, p2, p3⟩ := s4.at_
    obtain ⟨v1, v2, v3⟩ := s3.at_
    have T1 := Lib.hid t1
    have T2 := Lib.hid t2
    have B5 := Lib.hid s5
    have S3 := Lib.hid s3
    clear s2 s4 s5 t1 t2 s3
    go_wp2
    refine bodyPost_ret (by simp [results, Tryz.results92, go_sem, *]) rfl ⟨.slice a1 n c1, .slice a2 m c2, .slice none 0 0, rfl, ?_, ?_⟩
    · have NN := HN.out
      have x1 := row_cells (row_own T1.out S3.out (by decide)) [.slice a1 n c1, .slice a2 m c2, .slice none 0 0, .int .u64 (r 0 : Int), .int .u64 (r 1 : Int), .int .u64 (r 2 : Int), .int .u64 (r 3 : Int), .int .u64 (r 4 : Int), .int .u64 (r 5 : Int), .int .u64 (r 6 : Int), .int .u64 (r 7 : Int)] 0 _ T1.out
      have x2 := row_cells (row_own T2.out S3.out (by decide)) [.slice a1 n c1, .slice a2 m c2, .slice none 0 0, .int .u64 (r 0 : Int), .int .u64 (r 1 : Int), .int .u64 (r 2 : Int), .int .u64 (r 3 : Int), .int .u64 (r 4 : Int), .int .u64 (r 5 : Int), .int .u64 (r 6 : Int), .int .u64 (r 7 : Int)] 0 _ T2.out
      rw [NN.1] at x1
      rw [NN.2.1] at x2
      refine ⟨by rw [NN.1]; exact x1, by rw [NN.2.1]; exact x2, ?_, fun g _ e => by cases e⟩
      rw [e3, ← NN.2.2.1]
      exact row_nil _ _ _
    · exact (chg_setCells (S := fun _ => False) (b := w.heap.size + 1) (.inr (by omega)) [.slice a1 n c1, .slice a2 m c2, .slice none 0 0, .int .u64 (r 0 : Int), .int .u64 (r 1 : Int), .int .u64 (r 2 : Int), .int .u64 (r 3 : Int), .int .u64 (r 4 : Int), .int .u64 (r 5 : Int), .int .u64 (r 6 : Int), .int .u64 (r 7 : Int)] W3 0 (Chg.of B5.out)).below (Nat.le_refl _) fun q e => e.elim
  · obtain ⟨rfl, -, rfl⟩ := Value.slice.inj e1
    have HKS9 := Lib.hid KS9
    have LT1 := Lib.hid (fun g hg => (n1.out.lt g hg).2)
    clear e1 KS9
    go_upto_region 5 with (at_builtin; refine wpList_append_own_at _ rfl _ _ 33 rfl w.heap.size 3 i0 (.int .i64 0) 1 8 Tryz.underlying33 hi0 hz0 hz1 hz2 rfl (by decide) (.slice none 0 0) 0 [] rfl (row_nil _ _ _) ⟨g9, 0, none⟩ q fc (natV s.free) rfl hfv (HKS9.out _ Y2.out) (natV_one _) (by unfold maxLen; omega) (by omega) (by omega) ?_; intro v1 y3 hown1 hgr1 _ hloc; have L3 := Lib.hid hloc; clear hloc; rw [Nat.zero_add, List.nil_append] at hown1; have G3 := Lib.hid (nil_grown hgr1); clear hgr1; have R3 := Lib.hid hown1; obtain ⟨a3, c3, rfl, -, -⟩ := row_slice hown1; clear hown1; obtain ⟨q1, q2, q3⟩ := (U2.out.keep G3.out).at_; obtain ⟨p1, p2, p3⟩ := (X2.out.keep G3.out).at_)
    have s1 := X2.out.keep G3.out
    have s2 := (U2.out.keep G3.out).apart (q := w.heap.size + 1 + 1) (by omega) 2 (.slice a3 q c3)
    have s3 := (V2.out.keep G3.out).apart (q := w.heap.size + 1 + 1) (by omega) 2 (.slice a3 q c3)
    have s5 : Below w.heap.size w (y3.setCell ⟨w.heap.size + 1 + 1, 2, none⟩ (.slice a3 q c3)) := ((Chg.of (S := fun _ => False) (then_ Y2.out G3.out Y2.out.size)).set ⟨w.heap.size + 1 + 1, 2, none⟩ (.inr (by show w.heap.size ≤ w.heap.size + 1 + 1; omega)) _).below (Nat.le_refl _) fun q e => e.elim
    have n3 := ownsRow_setCell_other (a := ⟨w.heap.size + 1 + 1, 2, none⟩) R3.out (row_own R3.out s1 (by decide)) (.slice a3 q c3)
    have m1 := Po.ownsRow_keepB n1.out fun g hg => G3.out.block g (n1.out.lt g hg).2
    have t1 := ownsRow_setCell_other (a := ⟨w.heap.size + 1 + 1, 2, none⟩) m1 (row_own m1 s1 (by decide)) (.slice a3 q c3)
    have m2 := Po.ownsRow_keepB n2.out fun g hg => G3.out.block g (n2.out.lt g hg).2
    have t2 := ownsRow_setCell_other (a := ⟨w.heap.size + 1 + 1, 2, none⟩) m2 (row_own m2 s1 (by decide)) (.slice a3 q c3)
    have s4 : Own (y3.setCell ⟨w.heap.size + 1 + 1, 2, none⟩ (.slice a3 q c3)) (w.heap.size + 1 + 1) 38 #[.slice a1 n c1, .slice a2 m c2, .slice a3 q c3, .int .u64 (r 0 : Int), .int .u64 (r 1 : Int), .int .u64 (r 2 : Int), .int .u64 (r 3 : Int), .int .u64 (r 4 : Int), .int .u64 (r 5 : Int), .int .u64 (r 6 : Int), .int .u64 (r 7 : Int)] := s1.put 2 _
    go_name_world W3 hW3
    rw [hW3] at s2 s3 s4 s5 n3 t1 t2
    clear hW3 s1 m1 m2 q1 q2 q3 p1 p2 p3
    have U3 := Lib.hid s2
    have V3 := Lib.hid s3
    have X3 := Lib.hid s4
    have Y3 := Lib.hid s5
    replace n3 := Lib.hid n3
    replace n1 := Lib.hid t1
    clear t1
    replace n2 := Lib.hid t2
    clear t2
    have z3 : w.heap.size + 1 + 1 < W3.heap.size := s4.in_
    obtain ⟨q1, q2, q3⟩ := s2.at_
    obtain ⟨p1, p2, p3⟩ := s4.at_
    clear s2 s3 s4 s5
    obtain ⟨v1, v2, v3⟩ := V3.out.at_
    go_wp2
    refine bodyPost_ret (by simp [results, Tryz.results92, go_sem, *]) rfl ⟨.slice a1 n c1, .slice a2 m c2, .slice a3 q c3, rfl, ?_, ?_⟩
    · have NN := HN.out
      have x1 := row_cells (row_own n1.out V3.out (by decide)) [.slice a1 n c1, .slice a2 m c2, .slice a3 q c3, .int .u64 (r 0 : Int), .int .u64 (r 1 : Int), .int .u64 (r 2 : Int), .int .u64 (r 3 : Int), .int .u64 (r 4 : Int), .int .u64 (r 5 : Int), .int .u64 (r 6 : Int), .int .u64 (r 7 : Int)] 0 _ n1.out
      have x2 := row_cells (row_own n2.out V3.out (by decide)) [.slice a1 n c1, .slice a2 m c2, .slice a3 q c3, .int .u64 (r 0 : Int), .int .u64 (r 1 : Int), .int .u64 (r 2 : Int), .int .u64 (r 3 : Int), .int .u64 (r 4 : Int), .int .u64 (r 5 : Int), .int .u64 (r 6 : Int), .int .u64 (r 7 : Int)] 0 _ n2.out
      have x3 := row_cells (row_own n3.out V3.out (by decide)) [.slice a1 n c1, .slice a2 m c2, .slice a3 q c3, .int .u64 (r 0 : Int), .int .u64 (r 1 : Int), .int .u64 (r 2 : Int), .int .u64 (r 3 : Int), .int .u64 (r 4 : Int), .int .u64 (r 5 : Int), .int .u64 (r 6 : Int), .int .u64 (r 7 : Int)] 0 _ n3.out
      rw [NN.1] at x1
      rw [NN.2.1] at x2
      rw [NN.2.2.1] at x3
      refine ⟨by rw [NN.1]; exact x1, by rw [NN.2.1]; exact x2, by rw [NN.2.2.1]; exact x3, fun g hg hg3 => ?_⟩
      have h1 := LT1.out g hg
      rcases L3.out with e | e
      · rw [e] at hg3; cases hg3
      · rw [e] at hg3; injection hg3 with hg3; omega
    · exact (chg_setCells (S := fun _ => False) (b := w.heap.size + 1) (.inr (by omega)) [.slice a1 n c1, .slice a2 m c2, .slice a3 q c3, .int .u64 (r 0 : Int), .int .u64 (r 1 : Int), .int .u64 (r 2 : Int), .int .u64 (r 3 : Int), .int .u64 (r 4 : Int), .int .u64 (r 5 : Int), .int .u64 (r 6 : Int), .int .u64 (r 7 : Int)] W3 0 (Chg.of Y3.out)).below (Nat.le_refl _) fun q e => e.elim
end
end Go.Proofs.YtndhmidgnpobjaaGreatDoor
