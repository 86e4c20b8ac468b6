/- merged: The contracts of a pager's isOthers, isKind and Write. Conditions: those that each theorem names. The contracts of a pager's take. Conditions: a disk that isn't down, a block that holds what the page 0 tells. -/
import Derived.Test.YtndhmidgnpobjaaGreatDoorPgrX
section
namespace Go.Proofs.YtndhmidgnpobjaaGreatDoor
open Go.ChangeShapes Go.WideShapes Go.ChangeAt Go.RowKit
set_option linter.unusedVariables false
set_option linter.unusedSimpArgs false

def PS.others (P : PS) (no : Int) : Bool := decide (1 ≤ no) && decide (no < (P.pages : Int))
section
variable {w w' : World} {B Bp d p c : Nat} {P : PS}
end
/-- Write, as the document says it -/
def PS.wrC (P : PS) (no k : Int) : Bool := P.others no && (decide (2 ≤ k) && decide (k ≤ 254))
def PS.wr (P : PS) (no k : Int) (s : ByteArray) : PS := if P.wrC no k then if s.size ≤ 496 then P.chg [(no.toNat, (k.toNat, s))] else P else P
section
variable {w w' : World} {B Bp d p c : Nat} {P : PS}
theorem Ask.then2 {c1 c2 : Nat} {P' : PS} {w2 : World} (h : Ask w w' B Bp d p c1 P) (k : Ask w' w2 B Bp d p c2 P') : Ask w w2 B Bp d p c2 P' := ⟨k.1, pt_trans h.2 k.2⟩
end
end Go.Proofs.YtndhmidgnpobjaaGreatDoor
end
section
namespace Go.Proofs.YtndhmidgnpobjaaGreatDoor
open Go.ChangeShapes Go.WideShapes Go.ChangeAt Go.RowKit
set_option linter.unusedVariables false
set_option linter.unusedSimpArgs false

/-- the page that Alloc takes: its number, the error, how many are in use behind it, the first free one behind it -/
def PS.tk (P : PS) : Nat × Int × Nat × Nat := if P.free = 0 then (if P.most ≤ P.used then (0, 8, P.used, P.free) else (P.used, 0, P.used + 1, P.free)) else if (P.view P.free).2 = 0 then (match nxt P.used (P.view P.free).1 with
  | none => (0, 19, P.used, P.free)
  | some n => (P.free, 0, P.used, n)) else (0, ((P.view P.free).2 : Int), P.used, P.free)
section
variable {w w' : World} {B Bp d p c : Nat} {P : PS}
/-- behind a call that asks, and writes into one block of the caller's -/
def AskQ (w w' : World) (B Bp d p c q : Nat) (P : PS) : Prop := PagerAt w' B Bp d p c P ∧ Chg (fun b => b = q ∨ Po.PT w Bp b) w w'
theorem Ask.q (h : Ask w w' B Bp d p c P) (q : Nat) : AskQ w w' B Bp d p c q P := ⟨h.1, h.2.mono fun b _ hb => .inr hb⟩
theorem AskQ.cell {q : Nat} {T : TypeId} {cs : Array Value} (h : AskQ w w' B Bp d p c q P) (ho : Own w' q T cs) (hT : PgT T) (h0 : ∀ x, cs[0]? ≠ some (.int .u8 x)) (i : Nat) (v : Value) : AskQ w (w'.setCell ⟨q, i, none⟩ v) B Bp d p c q P :=
  ⟨h.1.cell ho hT h0 i v, h.2.set ⟨q, i, none⟩ (.inl (.inl rfl)) _⟩
theorem AskQ.below {q : Nat} {w2 : World} (h : AskQ w w' B Bp d p c q P) (hb : Below w'.heap.size w' w2) : AskQ w w2 B Bp d p c q P := ⟨h.1.below hb, h.2.trans (Chg.of (S := fun _ => False) hb) fun b _ e => e.elim⟩
theorem AskQ.more {q : Nat} (h : AskQ w w' B Bp d p c q P) {c' : Nat} (hc : c ≤ c') : AskQ w w' B Bp d p c' q P := ⟨h.1.more hc, h.2⟩
set_option maxRecDepth 10000 in
theorem take_new (h : PagerAt w B Bp d p c P) (hf : P.free = 0) (q : Nat) (hq : Own w q 114 (hC P.used P.free P.root)) :
    Calls Tryz.prog 77 #[.pointer (some ⟨p, 0, none⟩), .pointer (some ⟨q, 0, none⟩)] w fun e w' => e = .returned (.tuple #[.int .i64 (P.tk.1 : Int), .int .i64 P.tk.2.1]) ∧ Own w' q 114 (hC P.tk.2.2.1 P.tk.2.2.2 P.root) ∧ AskQ w w' B Bp d p c q P := by
  have hok := h.ok
  have hm := hok.most
  have hu := hok.used
  have HM : Hid (∀ W, Below w.heap.size w W → Calls Tryz.prog 71 #[.agg #[.pointer (some ⟨d, 0, none⟩), .int .i64 (P.ll : Int)]] W fun e w' => e = .returned (.int .i64 (P.most : Int)) ∧ Below W.heap.size W w') := Lib.hid fun W hW => by
    obtain ⟨sb, mb, sc, wv, lg, lm, pl, R, h⟩ := h.below hW
    exact most_any h.disk P.ll h.ok.fit
  have A0 := Lib.hid ((Ask.same h).q q)
  obtain ⟨lg, lm, pl, ho⟩ := h.cells
  have HO := Lib.hid ho
  have E := Lib.hid (show P.tk = if P.most ≤ P.used then (0, 8, P.used, P.free) else (P.used, 0, P.used + 1, P.free) by unfold PS.tk; rw [if_pos hf])
  obtain ⟨u, hu2⟩ : ∃ u, u = P.used := ⟨_, rfl⟩
  obtain ⟨f, hf2⟩ : ∃ f, f = P.free := ⟨_, rfl⟩
  obtain ⟨r, hr2⟩ : ∃ r, r = P.root := ⟨_, rfl⟩
  obtain ⟨mo, hmo⟩ : ∃ mo, mo = P.most := ⟨_, rfl⟩
  rw [← hu2, ← hf2] at E
  rw [← hmo] at E HM
  rw [← hu2, ← hf2, ← hr2] at hq
  rw [← hr2]
  rw [← hu2] at hu
  rw [← hmo] at hu hm
  have hf0 : f = 0 := by rw [hf2, hf]
  clear hf hf2 hu2 hr2 hmo hok h
  subst hf0
  unfold hC at hq
  have HQ := Lib.hid hq
  obtain ⟨q1, q2, q3⟩ := hq.at_
  obtain ⟨o1, o2, o3⟩ := ho.at_
  by_cases hle : mo ≤ u
  · rw [if_pos hle] at E
    have tt : decide ((mo : Int) ≤ (u : Int)) = true := by simpa using hle
    go_enter Tryz.func77, Tryz.ntmps77
    go_upto_region 3 with fail
    have hO := Lib.hid ho
    refine wp_region_seq (fun W => Own W q 114 #[.int .i64 (u : Int), .int .i64 ((0 : Nat) : Int), .int .u64 (r 0 : Int), .int .u64 (r 1 : Int), .int .u64 (r 2 : Int), .int .u64 (r 3 : Int), .int .u64 (r 4 : Int), .int .u64 (r 5 : Int), .int .u64 (r 6 : Int), .int .u64 (r 7 : Int)] ∧ Own W p 131 #[.pointer (some ⟨d, 0, none⟩), .int .i64 (P.ll : Int), .int .u64 (P.seq : Int), .pointer (some ⟨lg, 0, none⟩), .map (some lm), .int .i64 (P.room : Int), .pointer (some ⟨pl, 0, none⟩), .bool P.failed]) (0 :: 1 :: 2 :: 3 :: 4 :: 5 :: 6 :: 7 :: 9 :: []) (3 :: 7 :: []) (0 :: 1 :: 2 :: 3 :: 4 :: 5 :: 6 :: 7 :: 8 :: 9 :: []) (by kernel_rfl) (by kernel_rfl) rfl (by kernel_rfl) rfl (⟨HQ.out.drawn, HO.out.drawn⟩) (by simp only [picked, List.filterMap_cons, List.filterMap_nil, List.getElem?_cons_zero, List.getElem?_cons_succ, Option.map_some]; exact rfl) ?_
    iterate 8
      refine seq_want (v := ?_) rfl rfl (fun W hS => ?_) ?_
      rotate_left
      · first
          | (conv => lhs; simp [go_sem, tt]
             first | done | exact rfl)
          | (have hS := hS rfl
             obtain ⟨q1, q2⟩ := hS
             obtain ⟨q1, q3, q4⟩ := Own.at_ q1
             obtain ⟨q2, q5, q6⟩ := Own.at_ q2
             conv => lhs; simp [go_sem, *, tt]
             first | done | exact rfl)
      simp only [Act.put, List.setIfInBounds_toArray, List.set_cons_zero, List.set_cons_succ]
    refine seq_on rfl rfl fun K hK => ?_
    go_wp2_with (go_at_call 71; refine (HM.out _ (Below.refl _ _).drew).mono ?_; rintro e w3 ⟨rfl, hb3⟩)
    have B3 := Lib.hid (then_ (Below.refl w.heap.size w).drew hb3 (Nat.le_refl _))
    have Q3 := Lib.hid (HQ.out.keep B3.out)
    refine hK _ _ ⟨Q3.out, HO.out.keep B3.out⟩ ?_
    clear hK K hb3
    iterate 1
      refine seq_want (v := ?_) rfl rfl (fun W hS => ?_) ?_
      rotate_left
      · first
          | (conv => lhs; simp [go_sem, tt]
             first | done | exact rfl)
          | (have hS := hS rfl
             obtain ⟨q1, q2⟩ := hS
             obtain ⟨q1, q3, q4⟩ := Own.at_ q1
             obtain ⟨q2, q5, q6⟩ := Own.at_ q2
             conv => lhs; simp [go_sem, *, tt]
             first | done | exact rfl)
      simp only [Act.put, List.setIfInBounds_toArray, List.set_cons_zero, List.set_cons_succ]
    refine seq_end ?_
    obtain ⟨r1, r2, r3⟩ := Q3.out.at_
    have t2 : decide (mo ≤ u) = true := by simpa using hle
    rw [t2]
    clear tt t2
    go_wp2
    go_ret2
    rw [E.out]
    exact ⟨rfl, Q3.out, A0.out.below B3.out⟩
  · rw [if_neg hle] at E
    have tt : decide ((mo : Int) ≤ (u : Int)) = false := by simpa using hle
    go_enter Tryz.func77, Tryz.ntmps77
    go_upto_region 3 with fail
    have hO := Lib.hid ho
    refine wp_region_seq (fun W => Own W q 114 #[.int .i64 (u : Int), .int .i64 ((0 : Nat) : Int), .int .u64 (r 0 : Int), .int .u64 (r 1 : Int), .int .u64 (r 2 : Int), .int .u64 (r 3 : Int), .int .u64 (r 4 : Int), .int .u64 (r 5 : Int), .int .u64 (r 6 : Int), .int .u64 (r 7 : Int)] ∧ Own W p 131 #[.pointer (some ⟨d, 0, none⟩), .int .i64 (P.ll : Int), .int .u64 (P.seq : Int), .pointer (some ⟨lg, 0, none⟩), .map (some lm), .int .i64 (P.room : Int), .pointer (some ⟨pl, 0, none⟩), .bool P.failed]) (0 :: 1 :: 2 :: 3 :: 4 :: 5 :: 6 :: 7 :: 9 :: []) (3 :: 7 :: []) (0 :: 1 :: 2 :: 3 :: 4 :: 5 :: 6 :: 7 :: 8 :: 9 :: []) (by kernel_rfl) (by kernel_rfl) rfl (by kernel_rfl) rfl (⟨HQ.out.drawn, HO.out.drawn⟩) (by simp only [picked, List.filterMap_cons, List.filterMap_nil, List.getElem?_cons_zero, List.getElem?_cons_succ, Option.map_some]; exact rfl) ?_
    iterate 8
      refine seq_want (v := ?_) rfl rfl (fun W hS => ?_) ?_
      rotate_left
      · first
          | (conv => lhs; simp [go_sem, tt]
             first | done | exact rfl)
          | (have hS := hS rfl
             obtain ⟨q1, q2⟩ := hS
             obtain ⟨q1, q3, q4⟩ := Own.at_ q1
             obtain ⟨q2, q5, q6⟩ := Own.at_ q2
             conv => lhs; simp [go_sem, *, tt]
             first | done | exact rfl)
      simp only [Act.put, List.setIfInBounds_toArray, List.set_cons_zero, List.set_cons_succ]
    refine seq_on rfl rfl fun K hK => ?_
    go_wp2_with (go_at_call 71; refine (HM.out _ (Below.refl _ _).drew).mono ?_; rintro e w3 ⟨rfl, hb3⟩)
    have B3 := Lib.hid (then_ (Below.refl w.heap.size w).drew hb3 (Nat.le_refl _))
    have Q3 := Lib.hid (HQ.out.keep B3.out)
    refine hK _ _ ⟨Q3.out, HO.out.keep B3.out⟩ ?_
    clear hK K hb3
    iterate 1
      refine seq_want (v := ?_) rfl rfl (fun W hS => ?_) ?_
      rotate_left
      · first
          | (conv => lhs; simp [go_sem, tt]
             first | done | exact rfl)
          | (have hS := hS rfl
             obtain ⟨q1, q2⟩ := hS
             obtain ⟨q1, q3, q4⟩ := Own.at_ q1
             obtain ⟨q2, q5, q6⟩ := Own.at_ q2
             conv => lhs; simp [go_sem, *, tt]
             first | done | exact rfl)
      simp only [Act.put, List.setIfInBounds_toArray, List.set_cons_zero, List.set_cons_succ]
    refine seq_end ?_
    obtain ⟨r1, r2, r3⟩ := Q3.out.at_
    have t2 : decide (mo ≤ u) = false := by simpa using hle
    rw [t2]
    clear tt t2
    have w1 : IntKind.i64.wrap ((u : Int) + 1) = (u : Int) + 1 := by rw [IntKind.wrap_i64]; omega
    have w2 : IntKind.i64.wrap ((u : Int) + 1 - 1) = (u : Int) := by rw [IntKind.wrap_i64]; omega
    go_wp2
    go_ret2
    rw [E.out]
    refine ⟨?_, ?_, ?_⟩
    · rfl
    · exact Q3.out.put 0 (.int .i64 ((u : Int) + 1))
    · exact (A0.out.below B3.out).cell Q3.out (by unfold PgT; decide) (by simp) 0 _
set_option maxRecDepth 10000 in
set_option maxHeartbeats 1000000 in
theorem take_old (h : PagerAt w B Bp d p c P) (hd : P.s.down = false) (hf : P.free ≠ 0) (hc : c + 2 < 1000000) (q : Nat) (hq : Own w q 114 (hC P.used P.free P.root)) :
    Calls Tryz.prog 77 #[.pointer (some ⟨p, 0, none⟩), .pointer (some ⟨q, 0, none⟩)] w fun e w' => e = .returned (.tuple #[.int .i64 (P.tk.1 : Int), .int .i64 P.tk.2.1]) ∧ Own w' q 114 (hC P.tk.2.2.1 P.tk.2.2.2 P.root) ∧ AskQ w w' B Bp d p (c + 2) q P := by
  have hok := h.ok
  have hm := hok.most
  have hu := hok.used
  have FD := pfind_any h hd P.free (by omega) hc
  have hvf := fun h0 => view_fine hok (no := P.free) h0
  have E := Lib.hid (show P.tk = if (P.view P.free).2 = 0 then (match nxt P.used (P.view P.free).1 with | none => (0, 19, P.used, P.free) | some n => (P.free, 0, P.used, n)) else (0, ((P.view P.free).2 : Int), P.used, P.free) by unfold PS.tk; rw [if_neg hf])
  obtain ⟨v, hv⟩ : ∃ v, v = P.view P.free := ⟨_, rfl⟩
  rw [← hv] at E FD hvf
  obtain ⟨u, hu2⟩ : ∃ u, u = P.used := ⟨_, rfl⟩
  obtain ⟨f, hf2⟩ : ∃ f, f = P.free := ⟨_, rfl⟩
  obtain ⟨r, hr2⟩ : ∃ r, r = P.root := ⟨_, rfl⟩
  rw [← hu2, ← hf2] at E
  rw [← hu2, ← hf2, ← hr2] at hq
  rw [← hf2] at FD hf
  rw [← hr2]
  unfold fndV at FD
  clear hf2 hu2 hr2 hok h hm hu hv
  have hfi : ¬ (f : Int) = 0 := by omega
  unfold hC at hq
  have HQ := Lib.hid hq
  obtain ⟨q1, q2, q3⟩ := hq.at_
  clear hq
  by_cases h0 : v.2 = 0
  · rw [if_pos h0] at E FD
    rw [h0] at FD
    have HX := hvf h0
    obtain ⟨x, hx⟩ : ∃ x, x = v.1 := ⟨_, rfl⟩
    rw [← hx] at E FD HX
    have HNX := Lib.hid (fun w => next_sheet f u x w HX.size)
    unfold shV at FD HNX
    have FDh := Lib.hid FD
    clear hvf HX FD hx h0
    cases hn : nxt u x with
    | none =>
      rw [hn] at E HNX
      have E : P.tk = (0, 19, u, f) := E.out
      replace E := Lib.hid E
      clear hn
      go_enter Tryz.func77, Tryz.ntmps77
      go_upto_region 10 with (go_at_call 73; refine FDh.out.mono ?_; rintro e w2 ⟨rfl, hA⟩; have A2 := Lib.hid hA; have Q2 := Lib.hid (pt_own hA.2 HQ.out (by decide) (by decide)); clear hA)
      refine wp_region_seq (fun W => Own W q 114 #[.int .i64 (u : Int), .int .i64 (f : Int), .int .u64 (r 0 : Int), .int .u64 (r 1 : Int), .int .u64 (r 2 : Int), .int .u64 (r 3 : Int), .int .u64 (r 4 : Int), .int .u64 (r 5 : Int), .int .u64 (r 6 : Int), .int .u64 (r 7 : Int)] ∧ Own W w2.heap.size 112 #[.int .i64 (f : Int), .int .i64 (x.1 : Int), .string x.2]) (0 :: 1 :: 2 :: 3 :: 4 :: 6 :: 7 :: 8 :: 9 :: 10 :: []) (0 :: 4 :: []) (0 :: 1 :: 2 :: 3 :: 4 :: 5 :: 6 :: 7 :: 8 :: 9 :: 10 :: []) (by kernel_rfl) (by kernel_rfl) rfl (by kernel_rfl) rfl (⟨(Q2.out.keep (box_one w2 _ _)).drawn, (Own.made w2 112 #[.int .i64 (f : Int), .int .i64 (x.1 : Int), .string x.2]).drawn⟩) (by simp only [picked, List.filterMap_cons, List.filterMap_nil, List.getElem?_cons_zero, List.getElem?_cons_succ, Option.map_some]; exact rfl) ?_
      iterate 5
        refine seq_want (v := ?_) rfl rfl (fun W hS => ?_) ?_
        rotate_left
        · first
            | (conv => lhs; simp [go_sem, True]
               first | done | exact rfl)
            | (have hS := hS rfl
               obtain ⟨q1, q2⟩ := hS
               obtain ⟨q1, q3, q4⟩ := Own.at_ q1
               obtain ⟨q2, q5, q6⟩ := Own.at_ q2
               conv => lhs; simp [go_sem, *, True]
               first | done | exact rfl)
        simp only [Act.put, List.setIfInBounds_toArray, List.set_cons_zero, List.set_cons_succ]
      refine seq_on rfl rfl fun K hK => ?_
      go_wp2_with (go_at_call 145; refine (HNX.out _).mono ?_; rintro e w3 ⟨rfl, hb3⟩)
      have B3 := Lib.hid (then_ (box_one w2 112 #[.int .i64 (f : Int), .int .i64 (x.1 : Int), .string x.2]).drew hb3 (box_one w2 112 #[.int .i64 (f : Int), .int .i64 (x.1 : Int), .string x.2]).drew.size)
      have Q3 := Lib.hid (Q2.out.keep B3.out)
      refine hK _ _ ⟨Q3.out, ((Own.made w2 112 #[.int .i64 (f : Int), .int .i64 (x.1 : Int), .string x.2]).drawn).keep hb3⟩ ?_
      clear hK K hb3
      iterate 5
        refine seq_want (v := ?_) rfl rfl (fun W hS => ?_) ?_
        rotate_left
        · first
            | (conv => lhs; simp [go_sem, True]
               first | done | exact rfl)
            | (have hS := hS rfl
               obtain ⟨q1, q2⟩ := hS
               obtain ⟨q1, q3, q4⟩ := Own.at_ q1
               obtain ⟨q2, q5, q6⟩ := Own.at_ q2
               conv => lhs; simp [go_sem, *, True]
               first | done | exact rfl)
        simp only [Act.put, List.setIfInBounds_toArray, List.set_cons_zero, List.set_cons_succ]
      refine seq_end ?_
      obtain ⟨r1, r2, r3⟩ := Q3.out.at_
      go_wp2
      go_ret2
      rw [E.out]
      exact ⟨rfl, Q3.out, (A2.out.q q).below B3.out⟩
    | some n =>
      rw [hn] at E HNX
      have E : P.tk = (f, 0, u, n) := E.out
      replace E := Lib.hid E
      clear hn
      go_enter Tryz.func77, Tryz.ntmps77
      go_upto_region 10 with (go_at_call 73; refine FDh.out.mono ?_; rintro e w2 ⟨rfl, hA⟩; have A2 := Lib.hid hA; have Q2 := Lib.hid (pt_own hA.2 HQ.out (by decide) (by decide)); clear hA)
      refine wp_region_seq (fun W => Own W q 114 #[.int .i64 (u : Int), .int .i64 (f : Int), .int .u64 (r 0 : Int), .int .u64 (r 1 : Int), .int .u64 (r 2 : Int), .int .u64 (r 3 : Int), .int .u64 (r 4 : Int), .int .u64 (r 5 : Int), .int .u64 (r 6 : Int), .int .u64 (r 7 : Int)] ∧ Own W w2.heap.size 112 #[.int .i64 (f : Int), .int .i64 (x.1 : Int), .string x.2]) (0 :: 1 :: 2 :: 3 :: 4 :: 6 :: 7 :: 8 :: 9 :: 10 :: []) (0 :: 4 :: []) (0 :: 1 :: 2 :: 3 :: 4 :: 5 :: 6 :: 7 :: 8 :: 9 :: 10 :: []) (by kernel_rfl) (by kernel_rfl) rfl (by kernel_rfl) rfl (⟨(Q2.out.keep (box_one w2 _ _)).drawn, (Own.made w2 112 #[.int .i64 (f : Int), .int .i64 (x.1 : Int), .string x.2]).drawn⟩) (by simp only [picked, List.filterMap_cons, List.filterMap_nil, List.getElem?_cons_zero, List.getElem?_cons_succ, Option.map_some]; exact rfl) ?_
      iterate 5
        refine seq_want (v := ?_) rfl rfl (fun W hS => ?_) ?_
        rotate_left
        · first
            | (conv => lhs; simp [go_sem, True]
               first | done | exact rfl)
            | (have hS := hS rfl
               obtain ⟨q1, q2⟩ := hS
               obtain ⟨q1, q3, q4⟩ := Own.at_ q1
               obtain ⟨q2, q5, q6⟩ := Own.at_ q2
               conv => lhs; simp [go_sem, *, True]
               first | done | exact rfl)
        simp only [Act.put, List.setIfInBounds_toArray, List.set_cons_zero, List.set_cons_succ]
      refine seq_on rfl rfl fun K hK => ?_
      go_wp2_with (go_at_call 145; refine (HNX.out _).mono ?_; rintro e w3 ⟨rfl, hb3⟩)
      have B3 := Lib.hid (then_ (box_one w2 112 #[.int .i64 (f : Int), .int .i64 (x.1 : Int), .string x.2]).drew hb3 (box_one w2 112 #[.int .i64 (f : Int), .int .i64 (x.1 : Int), .string x.2]).drew.size)
      have Q3 := Lib.hid (Q2.out.keep B3.out)
      refine hK _ _ ⟨Q3.out, ((Own.made w2 112 #[.int .i64 (f : Int), .int .i64 (x.1 : Int), .string x.2]).drawn).keep hb3⟩ ?_
      clear hK K hb3
      iterate 5
        refine seq_want (v := ?_) rfl rfl (fun W hS => ?_) ?_
        rotate_left
        · first
            | (conv => lhs; simp [go_sem, True]
               first | done | exact rfl)
            | (have hS := hS rfl
               obtain ⟨q1, q2⟩ := hS
               obtain ⟨q1, q3, q4⟩ := Own.at_ q1
               obtain ⟨q2, q5, q6⟩ := Own.at_ q2
               conv => lhs; simp [go_sem, *, True]
               first | done | exact rfl)
        simp only [Act.put, List.setIfInBounds_toArray, List.set_cons_zero, List.set_cons_succ]
      refine seq_end ?_
      obtain ⟨r1, r2, r3⟩ := Q3.out.at_
      go_wp2
      go_ret2
      rw [E.out]
      exact ⟨rfl, Q3.out.put 1 (.int .i64 (n : Int)), ((A2.out.q q).below B3.out).cell Q3.out (by unfold PgT; decide) (by simp) 1 _⟩
  · rw [if_neg h0] at E FD
    obtain ⟨y, hy⟩ : ∃ y, y = v.2 := ⟨_, rfl⟩
    rw [← hy] at E FD h0
    have h1 : ¬ (y : Int) = 0 := by omega
    have h2 : ((y : Int) != 0) = true := by rw [bne_iff_ne]; exact h1
    unfold zerS at FD
    have FDh := Lib.hid FD
    clear hvf FD hy
    go_enter Tryz.func77, Tryz.ntmps77
    go_wp2_with (go_at_call 73; refine FDh.out.mono ?_; rintro e w2 ⟨rfl, hA⟩; have A2 := Lib.hid hA; have Q2 := Lib.hid (pt_own hA.2 HQ.out (by decide) (by decide)); clear hA)
    go_ret2
    rw [E.out]
    exact ⟨rfl, Q2.out.keep (box_one w2 _ _), (A2.out.q q).below (box_one w2 _ _)⟩
theorem ptake_any (h : PagerAt w B Bp d p c P) (hd : P.s.down = false) (hc : c + 2 < 1000000) (q : Nat) (hq : Own w q 114 (hC P.used P.free P.root)) :
    Calls Tryz.prog 77 #[.pointer (some ⟨p, 0, none⟩), .pointer (some ⟨q, 0, none⟩)] w fun e w' => e = .returned (.tuple #[.int .i64 (P.tk.1 : Int), .int .i64 P.tk.2.1]) ∧ Own w' q 114 (hC P.tk.2.2.1 P.tk.2.2.2 P.root) ∧ AskQ w w' B Bp d p (c + 2) q P := by
  by_cases hf : P.free = 0
  · refine (take_new h hf q hq).mono ?_
    rintro e w2 ⟨rfl, h1, h2⟩
    exact ⟨rfl, h1, h2.more (by omega)⟩
  · exact take_old h hd hf hc q hq
end
end Go.Proofs.YtndhmidgnpobjaaGreatDoor
end
