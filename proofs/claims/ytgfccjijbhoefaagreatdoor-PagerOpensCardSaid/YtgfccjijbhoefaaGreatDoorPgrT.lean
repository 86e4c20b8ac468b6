/- merged: The contracts of a pager's asking calls: head, Pages, Most, Read, Root. Conditions: those that each theorem names. The contracts of a pager's Read, Root and Dirty. Conditions: those that each theorem names. -/
import Derived.Test.YtgfccjijbhoefaaGreatDoorPgrR
section
namespace Go.Proofs.YtgfccjijbhoefaaGreatDoor
open Go.ChangeShapes Go.WideShapes Go.ChangeAt Go.RowKit
set_option linter.unusedVariables false
set_option linter.unusedSimpArgs false

def PS.used (P : PS) : Nat := rdU (P.view 0).1.2
def PS.free (P : PS) : Nat := rdF (P.view 0).1.2
def PS.root (P : PS) : Nat → Nat := rdR (P.view 0).1.2
theorem PS.Ok.used {P : PS} (h : P.Ok) : 1 ≤ P.used ∧ P.used ≤ P.most ∧ P.free < P.used := ⟨h.hd.lo, h.hd.hi, h.hd.free⟩
section
variable {w w' : World} {B Bp d p c : Nat} {P : PS}
/-- behind a call that only asks -/
def Ask (w w' : World) (B Bp d p c : Nat) (P : PS) : Prop := PagerAt w' B Bp d p c P ∧ Chg (Po.PT w Bp) w w'
theorem Ask.same (h : PagerAt w B Bp d p c P) : Ask w w B Bp d p c P := ⟨h, Chg.refl _ _⟩
theorem Ask.then_ {w2 : World} {c2 : Nat} (h : Ask w w' B Bp d p c P) (k : Ask w' w2 B Bp d p c2 P) : Ask w w2 B Bp d p c2 P := ⟨k.1, pt_trans h.2 k.2⟩
theorem Ask.below {w2 : World} (h : Ask w w' B Bp d p c P) (hb : Below w'.heap.size w' w2) : Ask w w2 B Bp d p c P := ⟨h.1.below hb, pt_then h.2 hb⟩
theorem Ask.from_ {w1 : World} (hb : Below w.heap.size w w1) (h : Ask w1 w' B Bp d p c P) : Ask w w' B Bp d p c P := ⟨h.1, pt_trans (Chg.of hb) h.2⟩
theorem Ask.more (h : Ask w w' B Bp d p c P) {c' : Nat} (hc : c ≤ c') : Ask w w' B Bp d p c' P := ⟨h.1.more hc, h.2⟩
theorem PagerAt.cells (h : PagerAt w B Bp d p c P) : ∃ lg lm pl, Own w p 106 #[.pointer (some ⟨d, 0, none⟩), .int .i64 (P.ll : Int), .int .u64 (P.seq : Int), .pointer (some ⟨lg, 0, none⟩), .map (some lm), .int .i64 (P.room : Int), .pointer (some ⟨pl, 0, none⟩), .bool P.failed] := by
  obtain ⟨sb, mb, sc, wv, lg, lm, pl, R, h⟩ := h
  exact ⟨lg, lm, pl, h.own⟩
theorem PagerAt.cell (h : PagerAt w B Bp d p c P) {q : Nat} {T : TypeId} {cs : Array Value} (ho : Own w q T cs) (hT : PgT T) (h0 : ∀ x, cs[0]? ≠ some (.int .u8 x)) (i : Nat) (v : Value) : PagerAt (w.setCell ⟨q, i, none⟩ v) B Bp d p c P := by
  obtain ⟨sb, mb, sc, wv, lg, lm, pl, R, h⟩ := h
  exact ⟨sb, mb, sc, wv, lg, lm, pl, R, h.cell ho hT h0 i v⟩
/-- cells of a block of one's own, of another type, are laid anew -/
theorem pager_cells {q : Nat} {T : TypeId} (hT : PgT T) : ∀ (vs : List Value) (i : Nat) (w : World) (cs : Array Value), PagerAt w B Bp d p c P → Own w q T cs → (∀ x, cs[0]? ≠ some (.int .u8 x)) → (∀ v ∈ vs, ∀ x, v ≠ .int .u8 x) → PagerAt (w.setCells q i vs) B Bp d p c P
  | [], _, _, _, h, _, _, _ => h
  | v :: vs, i, w, cs, h, ho, h0, h1 => by
    refine pager_cells hT vs (i + 1) _ _ (h.cell ho hT h0 i v) (ho.put i v) (fun x => ?_) (fun u hu => h1 u (by simp [hu]))
    rw [Array.getElem?_setIfInBounds]
    split
    · split
      · intro e; exact h1 v (by simp) x (Option.some.inj e)
      · simp
    · exact h0 x
theorem Ask.cells {q : Nat} {T : TypeId} {cs : Array Value} (h : Ask w w' B Bp d p c P) (ho : Own w' q T cs) (hT : PgT T) (h0 : ∀ x, cs[0]? ≠ some (.int .u8 x)) (hq : w.heap.size ≤ q) (vs : List Value) (h1 : ∀ v ∈ vs, ∀ x, v ≠ .int .u8 x) : Ask w (w'.setCells q 0 vs) B Bp d p c P :=
  ⟨pager_cells hT vs 0 w' cs h.1 ho h0 h1, chg_setCells (.inr hq) vs w' 0 h.2⟩
theorem pdown_any (h : PagerAt w B Bp d p c P) : Calls Tryz.prog 52 #[.pointer (some ⟨d, 0, none⟩)] w fun e w' => e = .returned (.bool P.s.down) ∧ w = w' := by
  obtain ⟨sb, mb, sc, wv, lg, lm, pl, R, h⟩ := h
  exact down_any h.disk
theorem pfind_any (h : PagerAt w B Bp d p c P) (hd : P.s.down = false) (no : Nat) (hno : no < P.most) (hc : c + 2 < 1000000) : Calls Tryz.prog 58 #[.pointer (some ⟨p, 0, none⟩), .int .i64 (no : Int)] w fun e w' => e = .returned (fndV no (P.view no)) ∧ Ask w w' B Bp d p (c + 2) P := by
  obtain ⟨sb, mb, sc, wv, lg, lm, pl, R, h⟩ := h
  refine (find_any h hd no hno hc).mono ?_
  rintro e w2 ⟨rfl, ⟨R', h2⟩, hc2⟩
  exact ⟨rfl, ⟨sb, mb, sc, wv, lg, lm, pl, R', h2⟩, hc2⟩
theorem pmost_any (h : PagerAt w B Bp d p c P) : Calls Tryz.prog 35 #[.pointer (some ⟨p, 0, none⟩)] w fun e w' => e = .returned (.int .i64 (P.most : Int)) ∧ Below w.heap.size w w' := by
  obtain ⟨sb, mb, sc, wv, lg, lm, pl, R, h⟩ := h
  have HM := Lib.hid (most_any h.disk P.ll h.ok.fit)
  have HE := Lib.hid (show P.most = (P.N - 2 - P.ll) / 8 from rfl)
  have ho : Own w p 106 #[.pointer (some ⟨d, 0, none⟩), .int .i64 (P.ll : Int), .int .u64 (P.seq : Int), .pointer (some ⟨lg, 0, none⟩), .map (some lm), .int .i64 (P.room : Int), .pointer (some ⟨pl, 0, none⟩), .bool P.failed] := h.own
  obtain ⟨q1, q2, q3⟩ := ho.at_
  unfold layV at HM
  rw [HE.out]
  clear h ho
  go_enter Tryz.func35, Tryz.ntmps35
  go_wp2_with (go_at_call 56; refine HM.out.mono ?_; rintro e w2 ⟨rfl, hb2⟩)
  go_ret
  exact ⟨rfl, hb2⟩
set_option maxRecDepth 10000 in
theorem phead_any (h : PagerAt w B Bp d p c P) (hd : P.s.down = false) (hc : c + 2 < 1000000) : Calls Tryz.prog 61 #[.pointer (some ⟨p, 0, none⟩)] w fun e w' => e = .returned (.tuple #[hV P.used P.free P.root, .int .i64 0]) ∧ Ask w w' B Bp d p (c + 2) P := by
  have hok := h.ok
  have hx := hok.hd.ok
  have B0 := box_one w 89 #[.int .i64 0, .int .i64 0, .int .u64 0, .int .u64 0, .int .u64 0, .int .u64 0, .int .u64 0, .int .u64 0, .int .u64 0, .int .u64 0]
  have O0 := Own.made w 89 #[.int .i64 0, .int .i64 0, .int .u64 0, .int .u64 0, .int .u64 0, .int .u64 0, .int .u64 0, .int .u64 0, .int .u64 0, .int .u64 0]
  have FD := pfind_any (h.below B0) hd 0 (by have := hok.most; omega) hc
  have HH := Lib.hid (fun w => head_any 0 (P.view 0).1 w hx.size)
  have e0 := hok.hd0
  have EU := Lib.hid (show hV P.used P.free P.root = hV (rdU (P.view 0).1.2) (rdF (P.view 0).1.2) (rdR (P.view 0).1.2) from rfl)
  unfold fndV at FD
  rw [e0, if_pos rfl] at FD
  rw [EU.out]
  obtain ⟨x, hxx⟩ : ∃ x, x = (P.view 0).1 := ⟨_, rfl⟩
  rw [← hxx] at FD HH ⊢
  unfold shV at FD HH
  obtain ⟨u, hu⟩ : ∃ u, u = rdU x.2 := ⟨_, rfl⟩
  obtain ⟨f, hf⟩ : ∃ f, f = rdF x.2 := ⟨_, rfl⟩
  obtain ⟨r, hr⟩ : ∃ r, r = rdR x.2 := ⟨_, rfl⟩
  rw [← hu, ← hf, ← hr] at HH ⊢
  unfold hV hC at HH ⊢
  have FDh := Lib.hid FD
  have HB0 := Lib.hid B0
  have HO0 := Lib.hid O0
  clear h hok hx FD e0 EU hxx hu hf hr B0 O0
  go_enter Tryz.func61, Tryz.ntmps61
  go_wp2_with (first
    | (go_at_call 58; refine FDh.out.mono ?_; rintro e w2 ⟨rfl, hA2⟩; have A2 := Lib.hid hA2; have O2 := Lib.hid (pt_own hA2.2 HO0.out (by decide) (by decide)); clear hA2)
    | (go_at_call 117; refine (HH.out _).mono ?_; rintro e w3 ⟨rfl, hb3⟩; have A3 := Lib.hid ((A2.out.below (box_one w2 87 #[.int .i64 0, .int .i64 (x.1 : Int), .string x.2])).below hb3); have O3 := Lib.hid ((O2.out.more (.cells #[.int .i64 0, .int .i64 (x.1 : Int), .string x.2] 87)).keep hb3); clear hb3; obtain ⟨o1, o2, o3⟩ := O3.out.at_))
  refine bodyPost_ret (by simp [results, Tryz.results61, go_sem, *]) rfl ⟨rfl, ?_⟩
  exact (Ask.from_ HB0.out A3.out).cells O3.out (by unfold PgT; decide) (by simp) (Nat.le_refl _) [.int .i64 (u : Int), .int .i64 (f : Int), .int .u64 (r 0 : Int), .int .u64 (r 1 : Int), .int .u64 (r 2 : Int), .int .u64 (r 3 : Int), .int .u64 (r 4 : Int), .int .u64 (r 5 : Int), .int .u64 (r 6 : Int), .int .u64 (r 7 : Int)] (by simp)
theorem pages_down (h : PagerAt w B Bp d p c P) (hd : P.s.down = true) : Calls Tryz.prog 34 #[.pointer (some ⟨p, 0, none⟩)] w fun e w' => e = .returned (.int .i64 0) ∧ w = w' := by
  have HD := Lib.hid (pdown_any h)
  rw [hd] at HD
  obtain ⟨lg, lm, pl, ho⟩ := h.cells
  obtain ⟨q1, q2, q3⟩ := ho.at_
  clear h hd ho
  go_enter Tryz.func34, Tryz.ntmps34
  go_wp2_with (go_at_call 52; refine HD.out.mono ?_; rintro e w2 ⟨rfl, rfl⟩)
  go_ret
  exact ⟨rfl, rfl⟩
theorem pages_up (h : PagerAt w B Bp d p c P) (hd : P.s.down = false) (hc : c + 2 < 1000000) : Calls Tryz.prog 34 #[.pointer (some ⟨p, 0, none⟩)] w fun e w' => e = .returned (.int .i64 (P.used : Int)) ∧ Ask w w' B Bp d p (c + 2) P := by
  have HD := Lib.hid (pdown_any h)
  rw [hd] at HD
  have HH := phead_any h hd hc
  unfold hV hC at HH
  replace HH := Lib.hid HH
  obtain ⟨lg, lm, pl, ho⟩ := h.cells
  obtain ⟨q1, q2, q3⟩ := ho.at_
  clear h hd ho
  go_enter Tryz.func34, Tryz.ntmps34
  go_wp2_with (first
    | (go_at_call 52; refine HD.out.mono ?_; rintro e w2 ⟨rfl, rfl⟩)
    | (go_at_call 61; refine HH.out.mono ?_; rintro e w3 ⟨rfl, hA3⟩))
  go_ret
  exact ⟨rfl, hA3.below (box_one _ _ _)⟩
theorem pages_nil (w : World) : Calls Tryz.prog 34 #[.pointer none] w fun e w' => e = .returned (.int .i64 0) ∧ w = w' := by
  go_enter Tryz.func34, Tryz.ntmps34
  go_wp2
  go_ret
  exact ⟨rfl, rfl⟩
theorem most_nil (w : World) : Calls Tryz.prog 35 #[.pointer none] w fun e w' => e = .returned (.int .i64 0) ∧ w = w' := by
  go_enter Tryz.func35, Tryz.ntmps35
  go_wp2
  go_ret
  exact ⟨rfl, rfl⟩
def PS.pages (P : PS) : Nat := if P.s.down then 0 else P.used
end
end Go.Proofs.YtgfccjijbhoefaaGreatDoor
end
section
namespace Go.Proofs.YtgfccjijbhoefaaGreatDoor
open Go.ChangeShapes Go.WideShapes Go.ChangeAt Go.RowKit
set_option linter.unusedVariables false
set_option linter.unusedSimpArgs false

/-- what Read answers of a page -/
def rdV (r : Pag × Nat) : Value := .tuple #[.int .i64 (if r.2 = 0 then r.1.1 else 0 : Nat), .string (if r.2 = 0 then r.1.2 else ⟨#[]⟩), .int .i64 (r.2 : Int)]
def noV (e : Int) : Value := .tuple #[.int .i64 0, .string ⟨#[]⟩, .int .i64 e]
section
variable {w w' : World} {B Bp d p c : Nat} {P : PS}
theorem read_nil (no : Int) (w : World) : Calls Tryz.prog 36 #[.pointer none, .int .i64 no] w fun e w' => e = .returned (noV 1) ∧ w = w' := by
  unfold noV
  go_enter Tryz.func36, Tryz.ntmps36
  go_wp2
  go_ret3
  exact ⟨rfl, rfl⟩
theorem read_neg (p : Nat) (no : Int) (hn : no < 0) (w : World) : Calls Tryz.prog 36 #[.pointer (some ⟨p, 0, none⟩), .int .i64 no] w fun e w' => e = .returned (noV 1) ∧ w = w' := by
  unfold noV
  go_enter Tryz.func36, Tryz.ntmps36
  go_wp2
  go_ret3
  exact ⟨rfl, rfl⟩
theorem read_down (h : PagerAt w B Bp d p c P) (hd : P.s.down = true) (no : Int) (hn : 0 ≤ no) : Calls Tryz.prog 36 #[.pointer (some ⟨p, 0, none⟩), .int .i64 no] w fun e w' => e = .returned (noV 11) ∧ w = w' := by
  have HD := Lib.hid (pdown_any h)
  rw [hd] at HD
  obtain ⟨lg, lm, pl, ho⟩ := h.cells
  obtain ⟨q1, q2, q3⟩ := ho.at_
  clear h hd ho
  unfold noV
  go_enter Tryz.func36, Tryz.ntmps36
  go_wp2_with (go_at_call 52; refine HD.out.mono ?_; rintro e w2 ⟨rfl, rfl⟩)
  go_ret3
  exact ⟨rfl, rfl⟩
theorem read_out (h : PagerAt w B Bp d p c P) (hd : P.s.down = false) (no : Int) (hn : (P.used : Int) ≤ no) (hc : c + 2 < 1000000) : Calls Tryz.prog 36 #[.pointer (some ⟨p, 0, none⟩), .int .i64 no] w fun e w' => e = .returned (noV 1) ∧ Ask w w' B Bp d p (c + 2) P := by
  have HD := Lib.hid (pdown_any h)
  rw [hd] at HD
  have HP := Lib.hid (pages_up h hd hc)
  obtain ⟨lg, lm, pl, ho⟩ := h.cells
  obtain ⟨q1, q2, q3⟩ := ho.at_
  have h0 : 0 ≤ no := by omega
  clear h hd ho
  unfold noV
  go_enter Tryz.func36, Tryz.ntmps36
  go_wp2_with (first | (go_at_call 52; refine HD.out.mono ?_; rintro e w2 ⟨rfl, rfl⟩) | (go_at_call 34; refine HP.out.mono ?_; rintro e w3 ⟨rfl, hA⟩))
  go_ret3
  exact ⟨rfl, hA⟩
set_option maxRecDepth 10000 in
theorem read_in (h : PagerAt w B Bp d p c P) (hd : P.s.down = false) (no : Nat) (hn : no < P.used) (hc : c + 4 < 1000000) : Calls Tryz.prog 36 #[.pointer (some ⟨p, 0, none⟩), .int .i64 (no : Int)] w fun e w' => e = .returned (rdV (P.view no)) ∧ Ask w w' B Bp d p (c + 4) P := by
  have hok := h.ok
  have HD := Lib.hid (pdown_any h)
  rw [hd] at HD
  have HP := Lib.hid (pages_up h hd (by omega))
  have FD : Hid (∀ w1, Ask w w1 B Bp d p (c + 2) P → Calls Tryz.prog 58 #[.pointer (some ⟨p, 0, none⟩), .int .i64 (no : Int)] w1 fun e w' => e = .returned (fndV no (P.view no)) ∧ Ask w1 w' B Bp d p (c + 4) P) := Lib.hid fun w1 h1 => pfind_any h1.1 hd no (by have := hok.used; omega) (by omega)
  obtain ⟨lg, lm, pl, ho⟩ := h.cells
  obtain ⟨q1, q2, q3⟩ := ho.at_
  obtain ⟨r, hr⟩ : ∃ r, r = P.view no := ⟨_, rfl⟩
  rw [← hr] at FD ⊢
  unfold fndV at FD
  unfold rdV
  clear h hd ho hok hr
  by_cases c0 : r.2 = 0
  · rw [if_pos c0] at FD ⊢
    rw [if_pos c0]
    unfold shV at FD
    obtain ⟨⟨k, t⟩, E⟩ := r
    simp only at c0 FD ⊢
    subst c0
    go_enter Tryz.func36, Tryz.ntmps36
    go_upto_region 9 with (first
      | (go_at_call 52; refine HD.out.mono ?_; rintro e w2 ⟨rfl, rfl⟩)
      | (go_at_call 34; refine HP.out.mono ?_; rintro e w3 ⟨rfl, hA⟩; have A3 := Lib.hid hA; clear hA)
      | (go_at_call 58; refine (FD.out _ A3.out).mono ?_; rintro e w4 ⟨rfl, hA⟩; have A4 := Lib.hid (A3.out.then_ hA); clear hA))
    have O5 := (Own.made w4 87 #[.int .i64 (no : Int), .int .i64 (k : Int), .string t])
    have A5 := Lib.hid (A4.out.below (box_one w4 87 #[.int .i64 (no : Int), .int .i64 (k : Int), .string t]))
    refine wp_region_seq (fun W => Own W w4.heap.size 87 #[.int .i64 (no : Int), .int .i64 (k : Int), .string t]) (0 :: 1 :: 2 :: 3 :: 4 :: 5 :: 6 :: 7 :: []) (1 :: 3 :: []) (0 :: 1 :: 2 :: 3 :: 4 :: 5 :: 6 :: 7 :: []) (by kernel_rfl) (by kernel_rfl) rfl (by kernel_rfl) rfl (O5.drawn) (by simp only [picked, List.filterMap_cons, List.filterMap_nil, List.getElem?_cons_zero, List.getElem?_cons_succ, Option.map_some]; exact rfl) ?_
    iterate 8
      refine seq_want (v := ?_) rfl rfl (fun W hS => ?_) ?_
      rotate_left
      · first
          | (conv => lhs; simp [go_sem]
             first | done | exact rfl)
          | (have hS := hS rfl
             obtain ⟨q1, q2, q3⟩ := Own.at_ hS
             conv => lhs; simp [go_sem, *]
             first | done | exact rfl)
      simp only [Act.put, List.setIfInBounds_toArray, List.set_cons_zero, List.set_cons_succ]
    refine seq_end ?_
    go_wp2
    go_ret3
    exact ⟨rfl, A5.out.below ((Below.refl _ _).drew)⟩
  · rw [if_neg c0] at FD ⊢
    rw [if_neg c0]
    unfold zerS at FD
    clear c0
    obtain ⟨⟨k, t⟩, E⟩ := r
    simp only at FD ⊢
    go_enter Tryz.func36, Tryz.ntmps36
    go_upto_region 9 with (first
      | (go_at_call 52; refine HD.out.mono ?_; rintro e w2 ⟨rfl, rfl⟩)
      | (go_at_call 34; refine HP.out.mono ?_; rintro e w3 ⟨rfl, hA⟩; have A3 := Lib.hid hA; clear hA)
      | (go_at_call 58; refine (FD.out _ A3.out).mono ?_; rintro e w4 ⟨rfl, hA⟩; have A4 := Lib.hid (A3.out.then_ hA); clear hA))
    have O5 := (Own.made w4 87 #[.int .i64 0, .int .i64 0, .string ⟨#[]⟩])
    have A5 := Lib.hid (A4.out.below (box_one w4 87 #[.int .i64 0, .int .i64 0, .string ⟨#[]⟩]))
    refine wp_region_seq (fun W => Own W w4.heap.size 87 #[.int .i64 0, .int .i64 0, .string ⟨#[]⟩]) (0 :: 1 :: 2 :: 3 :: 4 :: 5 :: 6 :: 7 :: []) (1 :: 3 :: []) (0 :: 1 :: 2 :: 3 :: 4 :: 5 :: 6 :: 7 :: []) (by kernel_rfl) (by kernel_rfl) rfl (by kernel_rfl) rfl (O5.drawn) (by simp only [picked, List.filterMap_cons, List.filterMap_nil, List.getElem?_cons_zero, List.getElem?_cons_succ, Option.map_some]; exact rfl) ?_
    iterate 8
      refine seq_want (v := ?_) rfl rfl (fun W hS => ?_) ?_
      rotate_left
      · first
          | (conv => lhs; simp [go_sem]
             first | done | exact rfl)
          | (have hS := hS rfl
             obtain ⟨q1, q2, q3⟩ := Own.at_ hS
             conv => lhs; simp [go_sem, *]
             first | done | exact rfl)
      simp only [Act.put, List.setIfInBounds_toArray, List.set_cons_zero, List.set_cons_succ]
    refine seq_end ?_
    go_wp2
    go_ret3
    exact ⟨rfl, A5.out.below ((Below.refl _ _).drew)⟩
end
end Go.Proofs.YtgfccjijbhoefaaGreatDoor
end
