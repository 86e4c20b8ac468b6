/- merged: The contracts of a pager's asking calls: head, Pages, Most, Read, Root. Conditions: those that each theorem names. The contracts of a pager's Read, Root and Dirty. Conditions: those that each theorem names. The contracts of a pager's roots, of isOthers. Conditions: those that each theorem names. The contracts of a pager's Dirty, Abort and isOthers. Conditions: those that each theorem names. Mathematics of a pager's change: compact of a rising list, how many are dirty behind it, frames that are set. It speaks of no function but the pool's, as mathematics. -/
import Derived.Test.YtndhmidgnpobjaaGreatDoorPgrR
import Derived.Lib.SlicesCompact
section
namespace Go.Proofs.YtndhmidgnpobjaaGreatDoor
open Go.ChangeShapes Go.WideShapes Go.ChangeAt Go.RowKit
set_option linter.unusedVariables false
set_option linter.unusedSimpArgs false

def PS.used (P : PS) : Nat := rdU (P.view 0).1.2
def PS.free (P : PS) : Nat := rdF (P.view 0).1.2
def PS.root (P : PS) : Nat → Nat := rdR (P.view 0).1.2
theorem PS.Ok.used {P : PS} (h : P.Ok) : 1 ≤ P.used ∧ P.used ≤ P.most ∧ P.free < P.used := ⟨h.hd.lo, h.hd.hi, h.hd.free⟩
section
variable {w w' : World} {B Bp d p c : Nat} {P : PS}
/-- behind a call that only asks -/
def Ask (w w' : World) (B Bp d p c : Nat) (P : PS) : Prop := PagerAt w' B Bp d p c P ∧ Chg (Po.PT w Bp) w w'
theorem Ask.same (h : PagerAt w B Bp d p c P) : Ask w w B Bp d p c P := ⟨h, Chg.refl _ _⟩
theorem Ask.then_ {w2 : World} {c2 : Nat} (h : Ask w w' B Bp d p c P) (k : Ask w' w2 B Bp d p c2 P) : Ask w w2 B Bp d p c2 P := ⟨k.1, pt_trans h.2 k.2⟩
theorem Ask.below {w2 : World} (h : Ask w w' B Bp d p c P) (hb : Below w'.heap.size w' w2) : Ask w w2 B Bp d p c P := ⟨h.1.below hb, pt_then h.2 hb⟩
theorem Ask.from_ {w1 : World} (hb : Below w.heap.size w w1) (h : Ask w1 w' B Bp d p c P) : Ask w w' B Bp d p c P := ⟨h.1, pt_trans (Chg.of hb) h.2⟩
theorem Ask.more (h : Ask w w' B Bp d p c P) {c' : Nat} (hc : c ≤ c') : Ask w w' B Bp d p c' P := ⟨h.1.more hc, h.2⟩
theorem PagerAt.cells (h : PagerAt w B Bp d p c P) : ∃ lg lm pl, Own w p 131 #[.pointer (some ⟨d, 0, none⟩), .int .i64 (P.ll : Int), .int .u64 (P.seq : Int), .pointer (some ⟨lg, 0, none⟩), .map (some lm), .int .i64 (P.room : Int), .pointer (some ⟨pl, 0, none⟩), .bool P.failed] := by
  obtain ⟨sb, mb, sc, wv, lg, lm, pl, R, h⟩ := h
  exact ⟨lg, lm, pl, h.own⟩
theorem PagerAt.cell (h : PagerAt w B Bp d p c P) {q : Nat} {T : TypeId} {cs : Array Value} (ho : Own w q T cs) (hT : PgT T) (h0 : ∀ x, cs[0]? ≠ some (.int .u8 x)) (i : Nat) (v : Value) : PagerAt (w.setCell ⟨q, i, none⟩ v) B Bp d p c P := by
  obtain ⟨sb, mb, sc, wv, lg, lm, pl, R, h⟩ := h
  exact ⟨sb, mb, sc, wv, lg, lm, pl, R, h.cell ho hT h0 i v⟩
/-- cells of a block of one's own, of another type, are laid anew -/
theorem pager_cells {q : Nat} {T : TypeId} (hT : PgT T) : ∀ (vs : List Value) (i : Nat) (w : World) (cs : Array Value), PagerAt w B Bp d p c P → Own w q T cs → (∀ x, cs[0]? ≠ some (.int .u8 x)) → (∀ v ∈ vs, ∀ x, v ≠ .int .u8 x) → PagerAt (w.setCells q i vs) B Bp d p c P
  | [], _, _, _, h, _, _, _ => h
  | v :: vs, i, w, cs, h, ho, h0, h1 => by
    refine pager_cells hT vs (i + 1) _ _ (h.cell ho hT h0 i v) (ho.put i v) (fun x => ?_) (fun u hu => h1 u (by simp [hu]))
    rw [Array.getElem?_setIfInBounds]
    split
    · split
      · intro e; exact h1 v (by simp) x (Option.some.inj e)
      · simp
    · exact h0 x
theorem Ask.cells {q : Nat} {T : TypeId} {cs : Array Value} (h : Ask w w' B Bp d p c P) (ho : Own w' q T cs) (hT : PgT T) (h0 : ∀ x, cs[0]? ≠ some (.int .u8 x)) (hq : w.heap.size ≤ q) (vs : List Value) (h1 : ∀ v ∈ vs, ∀ x, v ≠ .int .u8 x) : Ask w (w'.setCells q 0 vs) B Bp d p c P :=
  ⟨pager_cells hT vs 0 w' cs h.1 ho h0 h1, chg_setCells (.inr hq) vs w' 0 h.2⟩
theorem pdown_any (h : PagerAt w B Bp d p c P) : Calls Tryz.prog 67 #[.pointer (some ⟨d, 0, none⟩)] w fun e w' => e = .returned (.bool P.s.down) ∧ w = w' := by
  obtain ⟨sb, mb, sc, wv, lg, lm, pl, R, h⟩ := h
  exact down_any h.disk
theorem pfind_any (h : PagerAt w B Bp d p c P) (hd : P.s.down = false) (no : Nat) (hno : no < P.most) (hc : c + 2 < 1000000) : Calls Tryz.prog 73 #[.pointer (some ⟨p, 0, none⟩), .int .i64 (no : Int)] w fun e w' => e = .returned (fndV no (P.view no)) ∧ Ask w w' B Bp d p (c + 2) P := by
  obtain ⟨sb, mb, sc, wv, lg, lm, pl, R, h⟩ := h
  refine (find_any h hd no hno hc).mono ?_
  rintro e w2 ⟨rfl, ⟨R', h2⟩, hc2⟩
  exact ⟨rfl, ⟨sb, mb, sc, wv, lg, lm, pl, R', h2⟩, hc2⟩
theorem pmost_any (h : PagerAt w B Bp d p c P) : Calls Tryz.prog 38 #[.pointer (some ⟨p, 0, none⟩)] w fun e w' => e = .returned (.int .i64 (P.most : Int)) ∧ Below w.heap.size w w' := by
  obtain ⟨sb, mb, sc, wv, lg, lm, pl, R, h⟩ := h
  have HM := Lib.hid (most_any h.disk P.ll h.ok.fit)
  have HE := Lib.hid (show P.most = (P.N - 2 - P.ll) / 8 from rfl)
  have ho : Own w p 131 #[.pointer (some ⟨d, 0, none⟩), .int .i64 (P.ll : Int), .int .u64 (P.seq : Int), .pointer (some ⟨lg, 0, none⟩), .map (some lm), .int .i64 (P.room : Int), .pointer (some ⟨pl, 0, none⟩), .bool P.failed] := h.own
  obtain ⟨q1, q2, q3⟩ := ho.at_
  unfold layV at HM
  rw [HE.out]
  clear h ho
  go_enter Tryz.func38, Tryz.ntmps38
  go_wp2_with (go_at_call 71; refine HM.out.mono ?_; rintro e w2 ⟨rfl, hb2⟩)
  go_ret
  exact ⟨rfl, hb2⟩
set_option maxRecDepth 10000 in
theorem phead_any (h : PagerAt w B Bp d p c P) (hd : P.s.down = false) (hc : c + 2 < 1000000) : Calls Tryz.prog 76 #[.pointer (some ⟨p, 0, none⟩)] w fun e w' => e = .returned (.tuple #[hV P.used P.free P.root, .int .i64 0]) ∧ Ask w w' B Bp d p (c + 2) P := by
  have hok := h.ok
  have hx := hok.hd.ok
  have B0 := box_one w 114 #[.int .i64 0, .int .i64 0, .int .u64 0, .int .u64 0, .int .u64 0, .int .u64 0, .int .u64 0, .int .u64 0, .int .u64 0, .int .u64 0]
  have O0 := Own.made w 114 #[.int .i64 0, .int .i64 0, .int .u64 0, .int .u64 0, .int .u64 0, .int .u64 0, .int .u64 0, .int .u64 0, .int .u64 0, .int .u64 0]
  have FD := pfind_any (h.below B0) hd 0 (by have := hok.most; omega) hc
  have HH := Lib.hid (fun w => head_any 0 (P.view 0).1 w hx.size)
  have e0 := hok.hd0
  have EU := Lib.hid (show hV P.used P.free P.root = hV (rdU (P.view 0).1.2) (rdF (P.view 0).1.2) (rdR (P.view 0).1.2) from rfl)
  unfold fndV at FD
  rw [e0, if_pos rfl] at FD
  rw [EU.out]
  obtain ⟨x, hxx⟩ : ∃ x, x = (P.view 0).1 := ⟨_, rfl⟩
  rw [← hxx] at FD HH ⊢
  unfold shV at FD HH
  obtain ⟨u, hu⟩ : ∃ u, u = rdU x.2 := ⟨_, rfl⟩
  obtain ⟨f, hf⟩ : ∃ f, f = rdF x.2 := ⟨_, rfl⟩
  obtain ⟨r, hr⟩ : ∃ r, r = rdR x.2 := ⟨_, rfl⟩
  rw [← hu, ← hf, ← hr] at HH ⊢
  unfold hV hC at HH ⊢
  have FDh := Lib.hid FD
  have HB0 := Lib.hid B0
  have HO0 := Lib.hid O0
  clear h hok hx FD e0 EU hxx hu hf hr B0 O0
  go_enter Tryz.func76, Tryz.ntmps76
  go_wp2_with (first
    | (go_at_call 73; refine FDh.out.mono ?_; rintro e w2 ⟨rfl, hA2⟩; have A2 := Lib.hid hA2; have O2 := Lib.hid (pt_own hA2.2 HO0.out (by decide) (by decide)); clear hA2)
    | (go_at_call 144; refine (HH.out _).mono ?_; rintro e w3 ⟨rfl, hb3⟩; have A3 := Lib.hid ((A2.out.below (box_one w2 112 #[.int .i64 0, .int .i64 (x.1 : Int), .string x.2])).below hb3); have O3 := Lib.hid ((O2.out.more (.cells #[.int .i64 0, .int .i64 (x.1 : Int), .string x.2] 112)).keep hb3); clear hb3; obtain ⟨o1, o2, o3⟩ := O3.out.at_))
  refine bodyPost_ret (by simp [results, Tryz.results76, go_sem, *]) rfl ⟨rfl, ?_⟩
  exact (Ask.from_ HB0.out A3.out).cells O3.out (by unfold PgT; decide) (by simp) (Nat.le_refl _) [.int .i64 (u : Int), .int .i64 (f : Int), .int .u64 (r 0 : Int), .int .u64 (r 1 : Int), .int .u64 (r 2 : Int), .int .u64 (r 3 : Int), .int .u64 (r 4 : Int), .int .u64 (r 5 : Int), .int .u64 (r 6 : Int), .int .u64 (r 7 : Int)] (by simp)
theorem pages_up (h : PagerAt w B Bp d p c P) (hd : P.s.down = false) (hc : c + 2 < 1000000) : Calls Tryz.prog 37 #[.pointer (some ⟨p, 0, none⟩)] w fun e w' => e = .returned (.int .i64 (P.used : Int)) ∧ Ask w w' B Bp d p (c + 2) P := by
  have HD := Lib.hid (pdown_any h)
  rw [hd] at HD
  have HH := phead_any h hd hc
  unfold hV hC at HH
  replace HH := Lib.hid HH
  obtain ⟨lg, lm, pl, ho⟩ := h.cells
  obtain ⟨q1, q2, q3⟩ := ho.at_
  clear h hd ho
  go_enter Tryz.func37, Tryz.ntmps37
  go_wp2_with (first
    | (go_at_call 67; refine HD.out.mono ?_; rintro e w2 ⟨rfl, rfl⟩)
    | (go_at_call 76; refine HH.out.mono ?_; rintro e w3 ⟨rfl, hA3⟩))
  go_ret
  exact ⟨rfl, hA3.below (box_one _ _ _)⟩
def PS.pages (P : PS) : Nat := if P.s.down then 0 else P.used
end
end Go.Proofs.YtndhmidgnpobjaaGreatDoor
end
section
namespace Go.Proofs.YtndhmidgnpobjaaGreatDoor
open Go.ChangeShapes Go.WideShapes Go.ChangeAt Go.RowKit
set_option linter.unusedVariables false
set_option linter.unusedSimpArgs false

/-- what Read answers of a page -/
def rdV (r : Pag × Nat) : Value := .tuple #[.int .i64 (if r.2 = 0 then r.1.1 else 0 : Nat), .string (if r.2 = 0 then r.1.2 else ⟨#[]⟩), .int .i64 (r.2 : Int)]
section
variable {w w' : World} {B Bp d p c : Nat} {P : PS}
set_option maxRecDepth 10000 in
theorem read_in (h : PagerAt w B Bp d p c P) (hd : P.s.down = false) (no : Nat) (hn : no < P.used) (hc : c + 4 < 1000000) : Calls Tryz.prog 39 #[.pointer (some ⟨p, 0, none⟩), .int .i64 (no : Int)] w fun e w' => e = .returned (rdV (P.view no)) ∧ Ask w w' B Bp d p (c + 4) P := by
  have hok := h.ok
  have HD := Lib.hid (pdown_any h)
  rw [hd] at HD
  have HP := Lib.hid (pages_up h hd (by omega))
  have FD : Hid (∀ w1, Ask w w1 B Bp d p (c + 2) P → Calls Tryz.prog 73 #[.pointer (some ⟨p, 0, none⟩), .int .i64 (no : Int)] w1 fun e w' => e = .returned (fndV no (P.view no)) ∧ Ask w1 w' B Bp d p (c + 4) P) := Lib.hid fun w1 h1 => pfind_any h1.1 hd no (by have := hok.used; omega) (by omega)
  obtain ⟨lg, lm, pl, ho⟩ := h.cells
  obtain ⟨q1, q2, q3⟩ := ho.at_
  obtain ⟨r, hr⟩ : ∃ r, r = P.view no := ⟨_, rfl⟩
  rw [← hr] at FD ⊢
  unfold fndV at FD
  unfold rdV
  clear h hd ho hok hr
  by_cases c0 : r.2 = 0
  · rw [if_pos c0] at FD ⊢
    rw [if_pos c0]
    unfold shV at FD
    obtain ⟨⟨k, t⟩, E⟩ := r
    simp only at c0 FD ⊢
    subst c0
    go_enter Tryz.func39, Tryz.ntmps39
    go_upto_region 9 with (first
      | (go_at_call 67; refine HD.out.mono ?_; rintro e w2 ⟨rfl, rfl⟩)
      | (go_at_call 37; refine HP.out.mono ?_; rintro e w3 ⟨rfl, hA⟩; have A3 := Lib.hid hA; clear hA)
      | (go_at_call 73; refine (FD.out _ A3.out).mono ?_; rintro e w4 ⟨rfl, hA⟩; have A4 := Lib.hid (A3.out.then_ hA); clear hA))
    have O5 := (Own.made w4 112 #[.int .i64 (no : Int), .int .i64 (k : Int), .string t])
    have A5 := Lib.hid (A4.out.below (box_one w4 112 #[.int .i64 (no : Int), .int .i64 (k : Int), .string t]))
    refine wp_region_seq (fun W => Own W w4.heap.size 112 #[.int .i64 (no : Int), .int .i64 (k : Int), .string t]) (0 :: 1 :: 2 :: 3 :: 4 :: 5 :: 6 :: 7 :: []) (1 :: 3 :: []) (0 :: 1 :: 2 :: 3 :: 4 :: 5 :: 6 :: 7 :: []) (by kernel_rfl) (by kernel_rfl) rfl (by kernel_rfl) rfl (O5.drawn) (by simp only [picked, List.filterMap_cons, List.filterMap_nil, List.getElem?_cons_zero, List.getElem?_cons_succ, Option.map_some]; exact rfl) ?_
    iterate 8
      refine seq_want (v := ?_) rfl rfl (fun W hS => ?_) ?_
      rotate_left
      · first
          | (conv => lhs; simp [go_sem]
             first | done | exact rfl)
          | (have hS := hS rfl
             obtain ⟨q1, q2, q3⟩ := Own.at_ hS
             conv => lhs; simp [go_sem, *]
             first | done | exact rfl)
      simp only [Act.put, List.setIfInBounds_toArray, List.set_cons_zero, List.set_cons_succ]
    refine seq_end ?_
    go_wp2
    go_ret3
    exact ⟨rfl, A5.out.below ((Below.refl _ _).drew)⟩
  · rw [if_neg c0] at FD ⊢
    rw [if_neg c0]
    unfold zerS at FD
    clear c0
    obtain ⟨⟨k, t⟩, E⟩ := r
    simp only at FD ⊢
    go_enter Tryz.func39, Tryz.ntmps39
    go_upto_region 9 with (first
      | (go_at_call 67; refine HD.out.mono ?_; rintro e w2 ⟨rfl, rfl⟩)
      | (go_at_call 37; refine HP.out.mono ?_; rintro e w3 ⟨rfl, hA⟩; have A3 := Lib.hid hA; clear hA)
      | (go_at_call 73; refine (FD.out _ A3.out).mono ?_; rintro e w4 ⟨rfl, hA⟩; have A4 := Lib.hid (A3.out.then_ hA); clear hA))
    have O5 := (Own.made w4 112 #[.int .i64 0, .int .i64 0, .string ⟨#[]⟩])
    have A5 := Lib.hid (A4.out.below (box_one w4 112 #[.int .i64 0, .int .i64 0, .string ⟨#[]⟩]))
    refine wp_region_seq (fun W => Own W w4.heap.size 112 #[.int .i64 0, .int .i64 0, .string ⟨#[]⟩]) (0 :: 1 :: 2 :: 3 :: 4 :: 5 :: 6 :: 7 :: []) (1 :: 3 :: []) (0 :: 1 :: 2 :: 3 :: 4 :: 5 :: 6 :: 7 :: []) (by kernel_rfl) (by kernel_rfl) rfl (by kernel_rfl) rfl (O5.drawn) (by simp only [picked, List.filterMap_cons, List.filterMap_nil, List.getElem?_cons_zero, List.getElem?_cons_succ, Option.map_some]; exact rfl) ?_
    iterate 8
      refine seq_want (v := ?_) rfl rfl (fun W hS => ?_) ?_
      rotate_left
      · first
          | (conv => lhs; simp [go_sem]
             first | done | exact rfl)
          | (have hS := hS rfl
             obtain ⟨q1, q2, q3⟩ := Own.at_ hS
             conv => lhs; simp [go_sem, *]
             first | done | exact rfl)
      simp only [Act.put, List.setIfInBounds_toArray, List.set_cons_zero, List.set_cons_succ]
    refine seq_end ?_
    go_wp2
    go_ret3
    exact ⟨rfl, A5.out.below ((Below.refl _ _).drew)⟩
end
end Go.Proofs.YtndhmidgnpobjaaGreatDoor
end
section
namespace Go.Proofs.YtndhmidgnpobjaaGreatDoor
open Go.ChangeShapes Go.WideShapes Go.ChangeAt Go.RowKit
set_option linter.unusedVariables false
set_option linter.unusedSimpArgs false

section
variable {w w' : World} {B Bp d p c : Nat} {P : PS}
set_option maxRecDepth 10000 in
theorem rooted_in (h : PagerAt w B Bp d p c P) (hd : P.s.down = false) (i : Nat) (hi : i < 8) (hc : c + 2 < 1000000) : Calls Tryz.prog 81 #[.pointer (some ⟨p, 0, none⟩), .int .i64 (i : Int)] w fun e w' => e = .returned (.tuple #[hV P.used P.free P.root, .int .i64 0]) ∧ Ask w w' B Bp d p (c + 2) P := by
  have O0 := Own.made w 114 #[.int .i64 0, .int .i64 0, .int .u64 0, .int .u64 0, .int .u64 0, .int .u64 0, .int .u64 0, .int .u64 0, .int .u64 0, .int .u64 0]
  have B0 := box_one w 114 #[.int .i64 0, .int .i64 0, .int .u64 0, .int .u64 0, .int .u64 0, .int .u64 0, .int .u64 0, .int .u64 0, .int .u64 0, .int .u64 0]
  have HD := pdown_any (h.below B0)
  rw [hd] at HD
  replace HD := Lib.hid HD
  have HH := phead_any (h.below B0) hd hc
  obtain ⟨u, hu⟩ : ∃ u, u = P.used := ⟨_, rfl⟩
  obtain ⟨f, hf⟩ : ∃ f, f = P.free := ⟨_, rfl⟩
  obtain ⟨r, hr⟩ : ∃ r, r = P.root := ⟨_, rfl⟩
  rw [← hu, ← hf, ← hr] at HH ⊢
  unfold hV hC at HH ⊢
  replace HH := Lib.hid HH
  have HO0 := Lib.hid O0
  have HB0 := Lib.hid B0
  obtain ⟨o1, o2, o3⟩ := O0.at_
  obtain ⟨lg, lm, pl, ho⟩ := (h.below B0).cells
  obtain ⟨q1, q2, q3⟩ := ho.at_
  clear h hd ho B0 O0 hu hf hr
  go_enter Tryz.func81, Tryz.ntmps81
  go_wp2_with (first
    | (go_at_call 67; refine HD.out.mono ?_; rintro e w2 ⟨rfl, rfl⟩)
    | (go_at_call 76; refine HH.out.mono ?_; rintro e w3 ⟨rfl, hA⟩; have A3 := Lib.hid hA; have O3 := Lib.hid (pt_own hA.2 HO0.out (by decide) (by decide)); clear hA; obtain ⟨o1, o2, o3⟩ := O3.out.at_))
  refine bodyPost_ret (by simp [results, Tryz.results81, go_sem, *]) rfl ⟨rfl, ?_⟩
  exact (Ask.from_ HB0.out A3.out).cells O3.out (by unfold PgT; decide) (by simp) (Nat.le_refl _) [.int .i64 (u : Int), .int .i64 (f : Int), .int .u64 (r 0 : Int), .int .u64 (r 1 : Int), .int .u64 (r 2 : Int), .int .u64 (r 3 : Int), .int .u64 (r 4 : Int), .int .u64 (r 5 : Int), .int .u64 (r 6 : Int), .int .u64 (r 7 : Int)] (by simp)
set_option maxRecDepth 10000 in
theorem root_in (h : PagerAt w B Bp d p c P) (hd : P.s.down = false) (i : Nat) (hi : i < 8) (hc : c + 2 < 1000000) : Calls Tryz.prog 56 #[.pointer (some ⟨p, 0, none⟩), .int .i64 (i : Int)] w fun e w' => e = .returned (.tuple #[.int .u64 (P.root i : Int), .int .i64 0]) ∧ Ask w w' B Bp d p (c + 2) P := by
  have HR := rooted_in h hd i hi hc
  obtain ⟨u, hu⟩ : ∃ u, u = P.used := ⟨_, rfl⟩
  obtain ⟨f, hf⟩ : ∃ f, f = P.free := ⟨_, rfl⟩
  obtain ⟨r, hr⟩ : ∃ r, r = P.root := ⟨_, rfl⟩
  rw [← hu, ← hf, ← hr] at HR
  rw [← hr]
  have HX : Hid (∀ w2 : World, (w2.alloc (.cells (hC u f r) 114)).cell? ⟨w2.heap.size, 2 + i, none⟩ = some (.int .u64 (r i : Int))) := Lib.hid fun w2 => by
    rw [(Own.made w2 114 (hC u f r)).at_.1 (2 + i), hC_at u f r hi]
  have HE := Lib.hid (show hC u f r = #[.int .i64 (u : Int), .int .i64 (f : Int), .int .u64 (r 0 : Int), .int .u64 (r 1 : Int), .int .u64 (r 2 : Int), .int .u64 (r 3 : Int), .int .u64 (r 4 : Int), .int .u64 (r 5 : Int), .int .u64 (r 6 : Int), .int .u64 (r 7 : Int)] from rfl)
  unfold hV at HR
  replace HR := Lib.hid HR
  rw [HE.out] at HR HX
  clear h hd hu hf hr
  go_enter Tryz.func56, Tryz.ntmps56
  go_wp2_with (go_at_call 81; refine HR.out.mono ?_; rintro e w2 ⟨rfl, hA⟩; have A2 := Lib.hid hA; clear hA; have hx := HX.out w2)
  go_ret2
  exact ⟨rfl, A2.out.below (box_one _ _ _)⟩
end
end Go.Proofs.YtndhmidgnpobjaaGreatDoor
end
section
namespace Go.Proofs.YtndhmidgnpobjaaGreatDoor
open Go.ChangeShapes Go.WideShapes Go.ChangeAt Go.RowKit
set_option linter.unusedVariables false
set_option linter.unusedSimpArgs false

def nosI (T : List (Nat × Pag)) : List Int := T.map fun p => ((p.1 : Nat) : Int)
theorem nosI_len (T : List (Nat × Pag)) : (nosI T).length = T.length := by simp [nosI]
/-- the numbers of the dirty frames -/
theorem Coh.dirty {P : PS} {R : List Po.RF} {n c : Nat} (h : Coh P R) (hk : Po.OkR R n c) (hT : asc P.T) : Po.dirtyR R = nosI P.T := by
  have n1 : ((R.filter (·.dirty)).map (·.no)).Nodup := ((List.filter_sublist (l := R) (p := (·.dirty))).map (·.no)).nodup hk.nos
  have hr : (nosI P.T).Pairwise (· < ·) := by
    unfold nosI
    rw [List.pairwise_map]
    exact hT.imp fun h => by omega
  have n2 : (nosI P.T).Nodup := by
    rw [List.nodup_iff_pairwise_ne]
    exact hr.imp fun h => by omega
  have hp : ((R.filter (·.dirty)).map (·.no)).Perm (nosI P.T) := by
    rw [List.perm_ext_iff_of_nodup n1 n2]
    intro x
    constructor
    · intro hx
      obtain ⟨f, hf, rfl⟩ := List.mem_map.1 hx
      obtain ⟨hf, hd⟩ := List.mem_filter.1 hf
      obtain ⟨no, y, e, -, -, -, -, ht, -⟩ := h.good f hf
      rw [e]
      exact List.mem_map.2 ⟨(no, y), lk_mem (ht hd), rfl⟩
    · intro hx
      obtain ⟨q, hq, rfl⟩ := List.mem_map.1 hx
      obtain ⟨f, hf, e, hd⟩ := h.all q hq
      exact List.mem_map.2 ⟨f, List.mem_filter.2 ⟨hf, hd⟩, e⟩
  unfold Po.dirtyR
  rw [Po.sortI_perm hp]
  unfold Po.sortI
  exact List.mergeSort_of_pairwise (hr.imp fun h => by simp; omega)
section
variable {w w' : World} {B Bp d p c : Nat} {P : PS}
theorem pdirty_any (h : PagerAt w B Bp d p c P) : Calls Tryz.prog 36 #[.pointer (some ⟨p, 0, none⟩)] w fun e w' => e = .returned (.int .i64 (P.T.length : Int)) ∧ Below w.heap.size w w' := by
  obtain ⟨sb, mb, sc, wv, lg, lm, pl, R, h⟩ := h
  have HD := Po.dirty_any h.pool
  rw [h.coh.dirty h.pool.ok h.ok.T.1, nosI_len] at HD
  replace HD := Lib.hid HD
  have ho : Own w p 131 #[.pointer (some ⟨d, 0, none⟩), .int .i64 (P.ll : Int), .int .u64 (P.seq : Int), .pointer (some ⟨lg, 0, none⟩), .map (some lm), .int .i64 (P.room : Int), .pointer (some ⟨pl, 0, none⟩), .bool P.failed] := h.own
  obtain ⟨q1, q2, q3⟩ := ho.at_
  clear h ho
  go_enter Tryz.func36, Tryz.ntmps36
  go_wp2_with (go_at_call 97; refine HD.out.mono ?_; rintro e w2 ⟨v, rfl, hrow, hb⟩; obtain ⟨a, cp, rfl⟩ : ∃ a cp, v = .slice a P.T.length cp := (by rcases hrow.2 with ⟨e1, e2⟩ | ⟨g, cap, cur, e1, _⟩; exact ⟨none, 0, by rw [e1, e2]⟩; exact ⟨_, cap, e1⟩); clear hrow)
  go_ret
  exact ⟨rfl, hb⟩
end
end Go.Proofs.YtndhmidgnpobjaaGreatDoor
end
section
namespace Go.Proofs.YtndhmidgnpobjaaGreatDoor
open Go.ChangeShapes Go.WideShapes Go.ChangeAt Go.RowKit
set_option linter.unusedVariables false
set_option linter.unusedSimpArgs false

theorem compact_rise (d : Array Int) (hs : ∀ i j, i ≤ j → j < d.size → d[i]! ≤ d[j]!) : ∀ m, m ≤ d.size → (Lib.compactUpTo d m).Pairwise (· < ·) ∧ (∀ x ∈ Lib.compactUpTo d m, ∃ j, j < m ∧ d[j]! = x) ∧ ∀ j, j < m → d[j]! ∈ Lib.compactUpTo d m
  | 0, _ => by simp [Lib.compactUpTo]
  | m + 1, hm => by
    obtain ⟨h1, h2, h3⟩ := compact_rise d hs m (by omega)
    rw [Lib.compactUpTo_succ]
    by_cases hk : m = 0 ∨ d[m]! ≠ d[m - 1]!
    · have e : Lib.keeps d m = true := by unfold Lib.keeps; exact decide_eq_true hk
      rw [if_pos e]
      refine ⟨?_, fun x hx => ?_, fun j hj => ?_⟩
      · rw [List.pairwise_append]
        refine ⟨h1, by simp, fun x hx y hy => ?_⟩
        obtain ⟨j, hj, rfl⟩ := h2 x hx
        obtain rfl : y = d[m]! := by simpa using hy
        rcases hk with hk | hk
        · omega
        · have a := hs j (m - 1) (by omega) (by omega)
          have b := hs (m - 1) m (by omega) (by omega)
          omega
      · rcases List.mem_append.1 hx with hx | hx
        · obtain ⟨j, hj, e⟩ := h2 x hx; exact ⟨j, by omega, e⟩
        · exact ⟨m, by omega, (by simpa using hx : x = d[m]!).symm⟩
      · by_cases e : j = m
        · subst e; simp
        · exact List.mem_append.2 (.inl (h3 j (by omega)))
    · have e : Lib.keeps d m = false := by unfold Lib.keeps; exact decide_eq_false hk
      rw [e]
      simp only [Bool.false_eq_true, if_false, List.append_nil]
      refine ⟨h1, fun x hx => ?_, fun j hj => ?_⟩
      · obtain ⟨j, hj, e⟩ := h2 x hx; exact ⟨j, by omega, e⟩
      · by_cases e : j = m
        · subst e
          have : j ≠ 0 ∧ d[j]! = d[j - 1]! := by
            refine ⟨fun c => hk (.inl c), ?_⟩
            by_cases c : d[j]! = d[j - 1]!
            · exact c
            · exact absurd (.inr c) hk
          rw [this.2]
          exact h3 (j - 1) (by omega)
        · exact h3 j (by omega)
theorem sortI_rise (l : List Int) : ∀ i j, i ≤ j → j < (Po.sortI l).toArray.size → (Po.sortI l).toArray[i]! ≤ (Po.sortI l).toArray[j]! := fun i j hij hj => by
  have hp : (Po.sortI l).Pairwise fun x y => decide (x ≤ y) = true := List.pairwise_mergeSort (fun a b c h1 h2 => by simp at h1 h2 ⊢; omega) (fun a b => by simp; omega) l
  have hj' : j < (Po.sortI l).length := by simpa using hj
  rw [getElem!_pos _ i (by simp; omega), getElem!_pos _ j (by simpa using hj')]
  by_cases e : i = j
  · subst e; exact Int.le_refl _
  · have := List.pairwise_iff_getElem.1 hp i j (by omega) hj' (by omega)
    simpa using this
/-- how many numbers there are, each counted once -/
theorem compact_len (l m : List Int) (hm : m.Pairwise (· < ·)) (h : ∀ x, x ∈ l ↔ x ∈ m) : (Lib.compact (Po.sortI l)).length = m.length := by
  obtain ⟨h1, h2, h3⟩ := compact_rise (Po.sortI l).toArray (sortI_rise l) (Po.sortI l).length (by simp)
  have n1 : (Lib.compact (Po.sortI l)).Nodup := by
    rw [List.nodup_iff_pairwise_ne]
    exact h1.imp fun h => by omega
  have n2 : m.Nodup := by
    rw [List.nodup_iff_pairwise_ne]
    exact hm.imp fun h => by omega
  have hmem : ∀ x, x ∈ Lib.compact (Po.sortI l) ↔ x ∈ m := fun x => by
    rw [← h x]
    have hs : x ∈ l ↔ x ∈ Po.sortI l := ((List.mergeSort_perm l _).mem_iff).symm
    rw [hs]
    constructor
    · intro hx
      obtain ⟨j, hj, e⟩ := h2 x hx
      rw [← e, getElem!_pos _ j (by simpa using hj)]
      simp
    · intro hx
      obtain ⟨j, hj, e⟩ := List.getElem_of_mem hx
      have := h3 j hj
      rw [getElem!_pos _ j (by simpa using hj)] at this
      simp only [List.getElem_toArray] at this
      rw [e] at this
      exact this
  have hp : (Lib.compact (Po.sortI l)).Perm m := by
    rw [List.perm_ext_iff_of_nodup n1 n2]
    exact hmem
  exact hp.length_eq
theorem nosI_rise {T : List (Nat × Pag)} (h : asc T) : (nosI T).Pairwise (· < ·) := by
  unfold nosI
  rw [List.pairwise_map]
  exact h.imp fun h => by omega
/-- a page whose room is whole -/
def wh (p : Nat × Pag) : Nat × Pag := (p.1, (p.2.1, fl p.2.2))
theorem ins_nos (n : Nat) (v : Pag) : ∀ (T : List (Nat × Pag)) (x : Int), x ∈ nosI (ins n v T) ↔ x = (n : Int) ∨ x ∈ nosI T
  | [], x => by simp [ins, nosI]
  | y :: T, x => by
    unfold ins
    split
    · simp [nosI]
    · split
      · rename_i e
        subst e
        simp [nosI]
      · have := ins_nos n v T x
        have e : ∀ L, x ∈ nosI (y :: L) ↔ x = (y.1 : Int) ∨ x ∈ nosI L := fun L => by simp [nosI]
        rw [e, e, this]
        constructor
        · rintro (h | h | h)
          · exact .inr (.inl h)
          · exact .inl h
          · exact .inr (.inr h)
        · rintro (h | h | h)
          · exact .inr (.inl h)
          · exact .inl h
          · exact .inr (.inr h)
theorem insAll_nos : ∀ (L T : List (Nat × Pag)) (x : Int), x ∈ nosI (insAll T L) ↔ x ∈ nosI T ++ nosI L
  | [], T, x => by simp [insAll, nosI]
  | p :: L, T, x => by
    have := insAll_nos L (ins p.1 p.2 T) x
    unfold insAll at this ⊢
    rw [List.foldl_cons, this]
    simp only [List.mem_append, ins_nos]
    have e : x ∈ nosI (p :: L) ↔ x = (p.1 : Int) ∨ x ∈ nosI L := by simp [nosI]
    rw [e]
    constructor
    · rintro ((h | h) | h)
      · exact .inr (.inl h)
      · exact .inl h
      · exact .inr (.inr h)
    · rintro (h | h | h)
      · exact .inl (.inr h)
      · exact .inl (.inl h)
      · exact .inr h
theorem ins_le (n : Nat) (v : Pag) {T : List (Nat × Pag)} (h : asc T) : T.length ≤ (ins n v T).length := by
  rw [ins_len n v T h]
  split <;> omega
theorem insAll_le : ∀ (L : List (Nat × Pag)) {T : List (Nat × Pag)}, asc T → T.length ≤ (insAll T L).length
  | [], _, _ => Nat.le_refl _
  | p :: L, T, h => Nat.le_trans (ins_le p.1 p.2 h) (insAll_le L (asc_ins p.1 p.2 h))
theorem change_len {T L : List (Nat × Pag)} (h : asc T) : (Lib.compact (Po.sortI (nosI T ++ nosI L))).length = (insAll T (L.map wh)).length := by
  have e : nosI (L.map wh) = nosI L := by simp [nosI, wh, Function.comp_def]
  rw [compact_len _ (nosI (insAll T (L.map wh))) (nosI_rise (asc_insAll _ h)) fun x => by rw [insAll_nos, e], nosI_len]
/-- pages are changed -/
def PS.put (P : PS) (L : List (Nat × Pag)) : PS := { P with T := insAll P.T (L.map wh) }
theorem PS.put_snoc (P : PS) (L : List (Nat × Pag)) (p : Nat × Pag) : P.put (L ++ [p]) = { P with T := ins p.1 (p.2.1, fl p.2.2) (P.put L).T } := by
  unfold PS.put insAll
  simp only [List.map_append, List.foldl_append, List.map_cons, List.map_nil, List.foldl_cons, List.foldl_nil]
  rfl
/-- a frame is set -/
theorem Coh.set {P : PS} {R : List Po.RF} {n c : Nat} (h : Coh P R) (hk : Po.OkR R n c) (hT : asc P.T) {no : Nat} {x : Pag} (hno : no < P.most) (hx : PagOk x) (hl : (ins no x P.T).length ≤ n) :
    (Po.setR R n (no : Int) (fr x)).1 = 0 ∧ Coh { P with T := ins no x P.T } (Po.setR R n (no : Int) (fr x)).2 := by
  have key : ∀ R' : List Po.RF, (∀ f ∈ R', f ∈ R ∧ f.no ≠ (no : Int)) → (∀ f ∈ R, f.no ≠ (no : Int) → f.dirty = true → f ∈ R') → Coh { P with T := ins no x P.T } (R' ++ [⟨(no : Int), fr x, true, 0⟩]) := fun R' h1 h2 => by
    refine ⟨fun f hf => ?_, fun p hp => ?_⟩
    · rcases List.mem_append.1 hf with hf | hf
      · obtain ⟨hf, hne⟩ := h1 f hf
        obtain ⟨k, y, e, hn, hy, hs, hp, ht, hc⟩ := h.good f hf
        have hkn : ¬ no = k := fun c => hne (by rw [e, c])
        refine ⟨k, y, e, hn, hy, hs, hp, fun hd => ?_, fun hd => ?_⟩
        · show lk (ins no x P.T) k = some y
          rw [lk_ins no x P.T k hT, if_neg hkn]; exact ht hd
        · refine ⟨?_, (hc hd).2⟩
          show lk (ins no x P.T) k = none
          rw [lk_ins no x P.T k hT, if_neg hkn]; exact (hc hd).1
      · simp at hf
        subst hf
        refine ⟨no, x, rfl, hno, hx, rfl, rfl, fun _ => ?_, fun hd => by cases hd⟩
        show lk (ins no x P.T) no = some x
        rw [lk_ins no x P.T no hT, if_pos rfl]
    · by_cases e : p.1 = no
      · exact ⟨⟨(no : Int), fr x, true, 0⟩, by simp, by rw [e], rfl⟩
      · rcases mem_ins hp with hp | hp
        · exact absurd (by rw [hp]) e
        · obtain ⟨f, hf, e2, hd⟩ := h.all p hp
          exact ⟨f, List.mem_append.2 (.inl (h2 f hf (by rw [e2]; omega) hd)), e2, hd⟩
  unfold Po.setR
  cases hlk : Po.look R (no : Int) with
  | some f =>
    obtain ⟨h1, S, U, e⟩ := Po.look_some hlk
    have hf : f ∈ R := by rw [e]; simp
    obtain ⟨-, -, -, -, -, -, hp, -, -⟩ := h.good f hf
    refine ⟨rfl, ?_⟩
    show Coh _ (Po.del R (no : Int) ++ [⟨(no : Int), fr x, true, f.pins⟩])
    rw [hp]
    refine key _ (fun g hg => ?_) fun g hg hne hd => ?_
    · have := List.mem_filter.1 hg
      exact ⟨this.1, by simpa using this.2⟩
    · exact List.mem_filter.2 ⟨hg, by simpa using hne⟩
  | none =>
    have hmiss := h.miss hlk
    have hnin := Po.look_none hlk
    have hne : ∀ g ∈ R, g.no ≠ (no : Int) := fun g hg c => hnin (List.mem_map.2 ⟨g, hg, c⟩)
    have hl2 : P.T.length + 1 ≤ n := by
      rw [ins_len no x P.T hT, hmiss] at hl
      simpa using hl
    unfold Po.addR Po.roomR
    by_cases hr : R.length < n
    · rw [if_pos hr]
      exact ⟨rfl, key R (fun g hg => ⟨hg, hne g hg⟩) fun g hg _ _ => hg⟩
    · rw [if_neg hr]
      cases hv : Po.victim R with
      | none =>
        exfalso
        have hall : ∀ f ∈ R, f.dirty = true := fun f hf => by
          unfold Po.victim at hv
          have := List.find?_eq_none.1 hv f hf
          obtain ⟨-, -, -, -, -, -, hp, -, -⟩ := h.good f hf
          unfold Po.free at this
          rw [hp] at this
          cases hd : f.dirty with
          | true => rfl
          | false => rw [hd] at this; simp at this
        have e := h.dirty hk hT
        have e1 : R.filter (·.dirty) = R := List.filter_eq_self.2 hall
        have e2 : (Po.dirtyR R).length = R.length := by
          unfold Po.dirtyR
          rw [e1]
          unfold Po.sortI
          rw [(List.mergeSort_perm _ _).length_eq, List.length_map]
        rw [e, nosI_len] at e2
        omega
      | some v =>
        obtain ⟨hfr, S, U, e, -⟩ := Po.victim_some hv
        have hvm : v ∈ R := by rw [e]; simp
        have hv0 : v.dirty = false := by
          unfold Po.free at hfr
          cases hd' : v.dirty with
          | false => rfl
          | true => rw [hd'] at hfr; cases hfr
        refine ⟨rfl, key _ (fun g hg => ?_) fun g hg _ hd => ?_⟩
        · have := (List.mem_filter.1 hg).1
          exact ⟨this, hne g this⟩
        · refine List.mem_filter.2 ⟨hg, ?_⟩
          have : g.no ≠ v.no := fun c => by
            have := Po.nodup_inj hk.nos hg hvm c
            rw [this, hv0] at hd
            cases hd
          simpa using this
end Go.Proofs.YtndhmidgnpobjaaGreatDoor
end
