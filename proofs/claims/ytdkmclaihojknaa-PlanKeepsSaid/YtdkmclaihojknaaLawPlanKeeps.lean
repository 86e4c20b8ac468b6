/- THE LAW PlanKeeps: what may be done makes a right plan of a right one, and what may not be done would make none. No condition: whatever the plan and the numbers are. -/
import Derived.Test.YtdkmclaihojknaaRows
import Derived.Test.YtdkmclaihojknaaBytes
import Derived.Test.YtdkmclaihojknaaPlnL
import Derived.Test.YtdkmclaihojknaaPlnI
import Derived.Test.YtdkmclaihojknaaPlnN
import Derived.Test.YtdkmclaihojknaaPlnAct
import Derived.WalkKit
import Derived.ProofKit
import Derived.OpenShut
import Derived.ShutString
import Derived.ChangeOld
import Derived.Below
import Derived.SliceStrings
namespace Go.Proofs.Ytdkmclaihojknaa.planKeeps
open Go.ChangeShapes Go.WideShapes Go.ChangeAt Go.RowKit
open Go.ChangeMaps (open_string shut_string)
set_option linter.unusedVariables false

open Pl
set_option maxRecDepth 10000
set_option maxHeartbeats 4000000
def lastB {α : Type} (f : α → Int) (L : List α) : Bool := match L.getLast? with
  | some v => decide (1099511627776 < f v)
  | none => false
theorem last_top {α : Type} {f : α → Int} : ∀ {L : List α}, L.Pairwise (fun u v => f u < f v) → ∀ {l : α}, L.getLast? = some l → ∀ u ∈ L, f u ≤ f l
  | [], _, _, h, _, _ => by cases h
  | [x], _, l, h, u, hu => by
    have h1 : x = l := by simpa using h
    have h2 : u = x := by simpa using hu
    rw [h2, h1]
    exact Int.le_refl _
  | x :: y :: r, hp, l, h, u, hu => by
    rw [List.getLast?_cons_cons] at h
    have ih := last_top (List.pairwise_cons.1 hp).2 h
    rcases List.mem_cons.1 hu with rfl | hu
    · have := (List.pairwise_cons.1 hp).1 _ (List.mem_of_getLast? h)
      omega
    · exact ih u hu
theorem last_ids {α : Type} {f : α → Int} {L : List α} (hp : L.Pairwise fun u v => f u < f v) (h0 : ∀ u ∈ L, 0 < f u) (hb : lastB f L = false) : ∀ u ∈ L, 0 < f u ∧ f u ≤ 1099511627776 := by
  intro u hu
  refine ⟨h0 u hu, ?_⟩
  unfold lastB at hb
  cases hl : L.getLast? with
  | none => rw [List.getLast?_eq_none_iff] at hl; rw [hl] at hu; cases hu
  | some l =>
    rw [hl] at hb
    have := last_top hp hl u hu
    have : ¬ 1099511627776 < f l := by simpa using hb
    omega
theorem nxt_top {α : Type} {f : α → Int} {L : List α} (hp : L.Pairwise fun u v => f u < f v) : ∀ u ∈ L, f u < nxt f L := by
  intro u hu
  unfold nxt
  cases hl : L.getLast? with
  | none => rw [List.getLast?_eq_none_iff] at hl; rw [hl] at hu; cases hu
  | some l => have := last_top hp hl u hu; simp only; omega
theorem nxt_pos {α : Type} {f : α → Int} {L : List α} (h0 : ∀ u ∈ L, 0 < f u) : 0 < nxt f L := by
  unfold nxt
  cases hl : L.getLast? with
  | none => exact (by decide : (0 : Int) < 1)
  | some l => have := h0 l (List.mem_of_getLast? hl); simp only; omega
theorem rtB_eq {vs : List Vx} {es : List Eg} {p : Prop} [Decidable p] (h : Rt vs es ↔ p) : rtB vs es = decide p := by
  by_cases k : p
  · rw [rtB_iff.2 (h.2 k)]; simp [k]
  · rw [rtB_not fun x => k (h.1 x)]; simp [k]
/-- the last number of rows in memory -/
def LastAt (w : World) (a : Option Addr) (n : Nat) (t : Bool) : Prop := (n = 0 ∧ t = false) ∨ (0 < n ∧ ∃ b o z, a = some ⟨b, o, none⟩ ∧ (∀ W, Below w.heap.size w W → W.cell? ⟨b, o + (n - 1) * 3, none⟩ = some (.int .i64 z)) ∧ t = decide (1099511627776 < z))
theorem last_at {α : Type} {p : α → Int} {w : World} {a : Option Addr} {L : List α} (h : ∀ i (hi : i < L.length), ∃ b o, a = some ⟨b, o, none⟩ ∧ ∀ W, Below w.heap.size w W → W.cell? ⟨b, o + i * 3, none⟩ = some (.int .i64 (p (L[i]'hi)))) : LastAt w a L.length (lastB p L) := by
  by_cases h0 : 0 < L.length
  · obtain ⟨b, o, e, hc⟩ := h (L.length - 1) (by omega)
    refine .inr ⟨h0, b, o, _, e, hc, ?_⟩
    unfold lastB
    rw [List.getLast?_eq_getElem?, List.getElem?_eq_getElem (by omega)]
  · have : L = [] := List.length_eq_zero_iff.1 (by omega)
    subst this
    exact .inl ⟨rfl, rfl⟩

theorem own : ownKnob Try.prog.godebug = none := by kernel_rfl
theorem laidOut : laidOutB Try.prog = true := by kernel_rfl

theorem walk (v e : Value) (vs : List Pl.Vx) (es : List Pl.Eg) (b1 b2 : Int) (a2 : Int) (a3 : Int) (w : World) (hv : Pl.VIn w v vs) (he : Pl.EIn w e es) (fb1 : (Lit.int .i64 b1).wf = true) (fb2 : (Lit.int .i64 b2).wf = true) (w2 : (Lit.int .i64 a2).wf = true) (w3 : (Lit.int .i64 a3).wf = true) :
    Calls Try.prog 3 #[.agg #[v, e], .agg #[.int .i64 b1, .int .i64 b2], .int .i64 a2, .int .i64 a3] w fun e w' => e = .returned (.bool true) ∧ Below w.heap.size w w' := by
  have HV : Hid (∀ W, Below w.heap.size w W → VIn W v vs) := Lib.hid fun W hW => TIn.below hv hW
  have HE : Hid (∀ W, Below w.heap.size w W → EIn W e es) := Lib.hid fun W hW => TIn.below he hW
  have FW := Lib.hid (fun W (hW : Below w.heap.size w W) => few_any (HV.out W hW) (HE.out W hW))
  have PL := Lib.hid (fun W (hW : Below w.heap.size w W) => plain_any (HV.out W hW) (HE.out W hW))
  have AW := Lib.hid awake_any
  obtain ⟨a, cap, hvs, hc1, hc2, -, hcl⟩ := TIn.open_ hv
  obtain ⟨a', cap', hes, hc1', hc2', -, hcl'⟩ := TIn.open_ he
  have GV : LastAt w a vs.length (lastB Vx.id vs) := last_at fun i hi => by
    obtain ⟨b, o, e, _, hc⟩ := hcl i hi
    exact ⟨b, o, e, fun W hW => (hc W hW).1⟩
  have GE : LastAt w a' es.length (lastB Eg.id es) := last_at fun i hi => by
    obtain ⟨b, o, e, _, hc⟩ := hcl' i hi
    exact ⟨b, o, e, fun W hW => (hc W hW).1⟩
  clear hc1 hc2 hcl hc1' hc2' hcl'
  cases hf : fewB vs es with
  | false =>
    rw [hf] at FW
    subst hvs hes
    clear hf hv he HV HE PL GV GE
    generalize vs.length = n at *
    generalize es.length = m at *
    go_enter Try.func3, Try.ntmps3
    go_upto_region 1 with fail
    have B0 : Hid (Below w.heap.size w ((w.alloc (.cells #[.slice a n cap, .slice a' m cap'] 25)).alloc (.cells #[.int .i64 b1, .int .i64 b2] 27))) := Lib.hid (by repeat' (first | (with_reducible exact Below.refl _ _) | (with_reducible assumption) | (with_reducible refine below_drewN ?_ _) | (with_reducible refine Below.drew ?_) | (with_reducible refine Below.alloc ?_ ?_ _) | (with_reducible refine Below.setCell ?_ ?_ _) | (with_reducible refine then_ ?_ (by with_reducible assumption) ?_) | (with_reducible exact Nat.le_refl _) | (with_reducible exact Nat.le_succ _) | (with_reducible exact Nat.le_succ_of_le (by with_reducible assumption)) | omega | (simp; done) | (simp; omega) | (exact Nat.le_succ _) | (exact Nat.le_succ_of_le (by with_reducible assumption))))
    have O0 : Hid (Own ((w.alloc (.cells #[.slice a n cap, .slice a' m cap'] 25)).alloc (.cells #[.int .i64 b1, .int .i64 b2] 27)) w.heap.size 25 #[.slice a n cap, .slice a' m cap']) := Lib.hid ((Own.made _ _ _).more _)
    have P0 : Hid (Own ((w.alloc (.cells #[.slice a n cap, .slice a' m cap'] 25)).alloc (.cells #[.int .i64 b1, .int .i64 b2] 27)) (w.heap.size + 1) 27 #[.int .i64 b1, .int .i64 b2]) := Lib.hid (Own.made_at (by simp))
    generalize hW0 : (w.alloc (.cells #[.slice a n cap, .slice a' m cap'] 25)).alloc (.cells #[.int .i64 b1, .int .i64 b2] 27) = W0 at B0 O0 P0 ⊢
    clear hW0
    obtain ⟨q0, q1⟩ := pl_two2 O0.out
    go_upto_region 2 with (first | (go_at_call 11; refine (AW.out _).mono ?_; rintro e y1' ⟨rfl, c1⟩; have Y1 := Lib.hid (then_ B0.out c1 B0.out.size); have O1 := Lib.hid (O0.out.keep c1); clear c1; obtain ⟨q0, q1⟩ := pl_two2 O1.out) | (go_at_call 12; refine (FW.out _ Y1.out).mono ?_; rintro e y2' ⟨rfl, c2⟩; have Y2 := Lib.hid (then_ Y1.out c2 Y1.out.size); clear c2))
    go_wp2_with (go_at_call 11; refine (AW.out _).mono ?_; rintro e y3' ⟨rfl, c3⟩; have Y3 := Lib.hid (then_ Y2.out c3 Y2.out.size); clear c3)
    go_ret
    exact ⟨rfl, Y3.out⟩
  | true =>
    obtain ⟨n60, m60⟩ := fewB_yes hf
    rw [hf] at FW
    have R0 := Lib.hid (fun W (hW : Below w.heap.size w W) => right_any (HV.out W hW) (HE.out W hW) (by omega) (by omega))
    have X0 := Lib.hid (fun W (hW : Below w.heap.size w W) => pcanAdd_any b1 b2 (HV.out W hW) (HE.out W hW) (by omega) (by omega))
    have X1 := Lib.hid (fun W (hW : Below w.heap.size w W) => pcanLink_any a2 a3 (HV.out W hW) (HE.out W hW) (by omega) (by omega))
    have X2 := Lib.hid (fun W (hW : Below w.heap.size w W) => pcanDrop_any a2 (HV.out W hW) (HE.out W hW) (by omega) (by omega))
    have X3 := Lib.hid (fun W (hW : Below w.heap.size w W) => pcanCut_any a2 (HV.out W hW) (HE.out W hW) (by omega) (by omega))
    have X4 := Lib.hid (fun W (hW : Below w.heap.size w W) => pcanSplit_any a2 b1 b2 (HV.out W hW) (HE.out W hW) (by omega) (by omega))
    cases hr : rtB vs es with
    | false =>
      simp only [orArg, hr, if_false, Bool.false_eq_true] at R0 X0 X1 X2 X3 X4
      subst hvs hes
      have IDV := Lib.hid (fun h => h : lastB Vx.id vs = false → lastB Vx.id vs = false)
      have IDE := Lib.hid (fun h => h : lastB Eg.id es = false → lastB Eg.id es = false)
      generalize hTV : lastB Vx.id vs = tV at GV IDV
      generalize hTE : lastB Eg.id es = tE at GE IDE
      clear hf hv he HV HE hTV hTE hr IDV IDE
      replace GV := Lib.hid GV
      replace GE := Lib.hid GE
      generalize vs.length = n at *
      generalize es.length = m at *
      go_enter Try.func3, Try.ntmps3
      go_upto_region 1 with fail
      have B0 : Hid (Below w.heap.size w ((w.alloc (.cells #[.slice a n cap, .slice a' m cap'] 25)).alloc (.cells #[.int .i64 b1, .int .i64 b2] 27))) := Lib.hid (by repeat' (first | (with_reducible exact Below.refl _ _) | (with_reducible assumption) | (with_reducible refine below_drewN ?_ _) | (with_reducible refine Below.drew ?_) | (with_reducible refine Below.alloc ?_ ?_ _) | (with_reducible refine Below.setCell ?_ ?_ _) | (with_reducible refine then_ ?_ (by with_reducible assumption) ?_) | (with_reducible exact Nat.le_refl _) | (with_reducible exact Nat.le_succ _) | (with_reducible exact Nat.le_succ_of_le (by with_reducible assumption)) | omega | (simp; done) | (simp; omega) | (exact Nat.le_succ _) | (exact Nat.le_succ_of_le (by with_reducible assumption))))
      have O0 : Hid (Own ((w.alloc (.cells #[.slice a n cap, .slice a' m cap'] 25)).alloc (.cells #[.int .i64 b1, .int .i64 b2] 27)) w.heap.size 25 #[.slice a n cap, .slice a' m cap']) := Lib.hid ((Own.made _ _ _).more _)
      have P0 : Hid (Own ((w.alloc (.cells #[.slice a n cap, .slice a' m cap'] 25)).alloc (.cells #[.int .i64 b1, .int .i64 b2] 27)) (w.heap.size + 1) 27 #[.int .i64 b1, .int .i64 b2]) := Lib.hid (Own.made_at (by simp))
      generalize hW0 : (w.alloc (.cells #[.slice a n cap, .slice a' m cap'] 25)).alloc (.cells #[.int .i64 b1, .int .i64 b2] 27) = W0 at B0 O0 P0 ⊢
      clear hW0
      obtain ⟨q0, q1⟩ := pl_two2 O0.out
      have KB : Hid (∀ W, Below W0.heap.size W0 W → Below w.heap.size w W ∧ Own W w.heap.size 25 #[.slice a n cap, .slice a' m cap'] ∧ Own W (w.heap.size + 1) 27 #[.int .i64 b1, .int .i64 b2]) := Lib.hid fun W hW => ⟨then_ B0.out hW B0.out.size, O0.out.keep hW, P0.out.keep hW⟩
      clear B0 O0 P0
      have N0 := Below.refl W0.heap.size W0
      go_upto_region 3 with (first | (go_at_call 11; refine (AW.out _).mono ?_; rintro e y1' ⟨rfl, c1⟩; have Y1 := Lib.hid (then_ N0 c1 N0.size); clear c1; obtain ⟨q0, q1⟩ := pl_two2 (KB.out _ Y1.out).2.1) | (go_at_call 12; refine (FW.out _ (KB.out _ Y1.out).1).mono ?_; rintro e y2' ⟨rfl, c2⟩; have Y2 := Lib.hid (then_ Y1.out c2 Y1.out.size); clear c2))
      clear q0 q1
      obtain ⟨q0, q1⟩ := pl_two2 (KB.out _ Y2.out).2.1
      go_cut [53] (fun s wx => s = .bool (tV || tE) ∧ wx = y2')
      case first =>
        rcases GV.out with ⟨rfl, ht⟩ | ⟨hn0, b, o, z, rfl, hc, ht⟩
        · subst ht
          rcases GE.out with ⟨rfl, ht'⟩ | ⟨hn0, b', o', z', rfl, hc', ht'⟩
          · subst ht'
            go_wp2_with fail
            go_meet
            exact ⟨rfl, rfl⟩
          · have tm : decide ((0 : Int) < (m : Int)) = true := by simp; omega
            have y1 : IntKind.i64.wrap ((m : Int) - 1) = ((m - 1 : Nat) : Int) := by rw [IntKind.wrap_i64] <;> omega
            have y2 : ((m - 1 : Nat) : Int) < (m : Int) := by omega
            have d1 := hc' _ (KB.out _ Y2.out).1
            clear hn0 hc'
            by_cases hz' : 1099511627776 < z'
            · have tz' : decide (1099511627776 < z') = true := by simpa using hz'
              have ht2 : tE = true := ht'.trans tz'
              subst ht2
              clear ht' hz'
              go_wp2_with fail
              go_meet
              exact ⟨rfl, rfl⟩
            · have tz' : decide (1099511627776 < z') = false := by simpa using hz'
              have ht2 : tE = false := ht'.trans tz'
              subst ht2
              clear ht' hz'
              go_wp2_with fail
              go_meet
              exact ⟨rfl, rfl⟩
        · have tn : decide ((0 : Int) < (n : Int)) = true := by simp; omega
          have x1 : IntKind.i64.wrap ((n : Int) - 1) = ((n - 1 : Nat) : Int) := by rw [IntKind.wrap_i64] <;> omega
          have x2 : ((n - 1 : Nat) : Int) < (n : Int) := by omega
          have c1 := hc _ (KB.out _ Y2.out).1
          clear hn0 hc
          by_cases hz : 1099511627776 < z
          · have tz : decide (1099511627776 < z) = true := by simpa using hz
            have ht2 : tV = true := ht.trans tz
            subst ht2
            clear ht hz
            go_wp2_with fail
            go_meet
            exact ⟨rfl, rfl⟩
          · have tz : decide (1099511627776 < z) = false := by simpa using hz
            have ht2 : tV = false := ht.trans tz
            subst ht2
            clear ht hz
            rcases GE.out with ⟨rfl, ht'⟩ | ⟨hn0, b', o', z', rfl, hc', ht'⟩
            · subst ht'
              go_wp2_with fail
              go_meet
              exact ⟨rfl, rfl⟩
            · have tm : decide ((0 : Int) < (m : Int)) = true := by simp; omega
              have y1 : IntKind.i64.wrap ((m : Int) - 1) = ((m - 1 : Nat) : Int) := by rw [IntKind.wrap_i64] <;> omega
              have y2 : ((m - 1 : Nat) : Int) < (m : Int) := by omega
              have d1 := hc' _ (KB.out _ Y2.out).1
              clear hn0 hc'
              by_cases hz' : 1099511627776 < z'
              · have tz' : decide (1099511627776 < z') = true := by simpa using hz'
                have ht2 : tE = true := ht'.trans tz'
                subst ht2
                clear ht' hz'
                go_wp2_with fail
                go_meet
                exact ⟨rfl, rfl⟩
              · have tz' : decide (1099511627776 < z') = false := by simpa using hz'
                have ht2 : tE = false := ht'.trans tz'
                subst ht2
                clear ht' hz'
                go_wp2_with fail
                go_meet
                exact ⟨rfl, rfl⟩
      case rest =>
        clear q0 q1
        obtain ⟨rfl, hw⟩ := hcut
        replace hw := hw.symm
        subst hw
        obtain ⟨q0, q1⟩ := pl_two2 (KB.out _ Y2.out).2.1
        generalize htB : (tV || tE) = tB at *
        cases tB with
        | true =>
          clear htB
          go_wp2
          go_ret
          exact ⟨rfl, (KB.out _ Y2.out).1⟩
        | false =>
          have hTB := Lib.hid htB
          clear htB GV GE
          go_upto_region 6 with (first | (go_at_call 14; refine (PL.out _ (KB.out _ Y2.out).1).mono ?_; rintro e y3' ⟨rfl, c3⟩; have Y3 := Lib.hid (then_ Y2.out c3 Y2.out.size); clear c3) | (go_at_call 13; refine (R0.out _ (KB.out _ Y3.out).1).mono ?_; rintro e y4' ⟨rfl, c4⟩; have Y4 := Lib.hid (then_ Y3.out c4 Y3.out.size); clear c4))
          have D4 := Y4.out.drew
          clear q0 q1
          refine wp_region_seq (fun W => Below W0.heap.size W0 W) (0 :: 2 :: 4 :: []) (0 :: 2 :: []) (0 :: 2 :: 1 :: 3 :: 4 :: []) (by kernel_rfl) (by kernel_rfl) rfl (by kernel_rfl) rfl (D4) (by simp only [picked, List.filterMap_cons, List.filterMap_nil, List.getElem?_cons_zero, List.getElem?_cons_succ, Option.map_some]; exact rfl) ?_
          iterate 2
            refine seq_want (v := ?_) rfl rfl (fun W hS => ?_) ?_
            rotate_left
            · first
                | (conv => lhs; simp [go_sem]
                   first | done | exact rfl)
                | (have hS := hS rfl
                   obtain ⟨hbw, h1, h2⟩ := KB.out _ hS
                   obtain ⟨q0, q1⟩ := pl_two2 h1
                   obtain ⟨g0, g1⟩ := pl_two2 h2
                   conv => lhs; simp [go_sem, *]
                   first | done | exact rfl)
            simp only [Act.put, List.setIfInBounds_toArray, List.set_cons_zero, List.set_cons_succ]
          refine seq_on rfl rfl fun K hK => ?_
          go_wp2_with (go_at_call 14; refine (PL.out _ (KB.out _ D4).1).mono ?_; rintro e y5' ⟨rfl, c5⟩)
          have Y5 := Lib.hid (then_ D4 c5 D4.size)
          refine hK _ _ Y5.out ?_
          clear hK K c5
          refine seq_on rfl rfl fun K hK => ?_
          go_wp2_with (go_at_call 15; refine (X0.out _ (KB.out _ Y5.out).1).mono ?_; rintro e y6' ⟨rfl, c6⟩)
          have Y6 := Lib.hid (then_ Y5.out c6 Y5.out.size)
          refine hK _ _ Y6.out ?_
          clear hK K c6
          iterate 1
            refine seq_want (v := ?_) rfl rfl (fun W hS => ?_) ?_
            rotate_left
            · first
                | (conv => lhs; simp [go_sem]
                   first | done | exact rfl)
                | (have hS := hS rfl
                   obtain ⟨hbw, h1, h2⟩ := KB.out _ hS
                   obtain ⟨q0, q1⟩ := pl_two2 h1
                   obtain ⟨g0, g1⟩ := pl_two2 h2
                   conv => lhs; simp [go_sem, *]
                   first | done | exact rfl)
            simp only [Act.put, List.setIfInBounds_toArray, List.set_cons_zero, List.set_cons_succ]
          refine seq_end ?_
          obtain ⟨q0, q1⟩ := pl_two2 (KB.out _ Y6.out).2.1
          go_upto_region 9 with (first | (go_at_call 14; refine (PL.out _ (KB.out _ Y6.out).1).mono ?_; rintro e y7' ⟨rfl, c7⟩; have Y7 := Lib.hid (then_ Y6.out c7 Y6.out.size); clear c7) | (go_at_call 16; refine (X1.out _ (KB.out _ Y7.out).1).mono ?_; rintro e y8' ⟨rfl, c8⟩; have Y8 := Lib.hid (then_ Y7.out c8 Y7.out.size); clear c8))
          clear q0 q1
          have D8 := Y8.out.drew
          refine wp_region_seq (fun W => Below W0.heap.size W0 W) (0 :: 1 :: 2 :: 3 :: 4 :: 5 :: 6 :: 7 :: 9 :: 11 :: 12 :: 13 :: 14 :: 16 :: 18 :: 19 :: 20 :: 21 :: 23 :: 24 :: 26 :: 27 :: 28 :: []) (7 :: 14 :: 21 :: 24 :: []) (0 :: 1 :: 2 :: 3 :: 4 :: 5 :: 6 :: 7 :: 9 :: 8 :: 10 :: 11 :: 12 :: 13 :: 14 :: 16 :: 15 :: 17 :: 18 :: 19 :: 20 :: 21 :: 23 :: 24 :: 22 :: 25 :: 26 :: 27 :: 28 :: []) (by kernel_rfl) (by kernel_rfl) rfl (by kernel_rfl) rfl (D8) (by simp only [picked, List.filterMap_cons, List.filterMap_nil, List.getElem?_cons_zero, List.getElem?_cons_succ, Option.map_some]; exact rfl) ?_
          iterate 9
            refine seq_want (v := ?_) rfl rfl (fun W hS => ?_) ?_
            rotate_left
            · first
                | (conv => lhs; simp [go_sem]
                   first | done | exact rfl)
                | (have hS := hS rfl
                   obtain ⟨hbw, h1, h2⟩ := KB.out _ hS
                   obtain ⟨q0, q1⟩ := pl_two2 h1
                   obtain ⟨g0, g1⟩ := pl_two2 h2
                   conv => lhs; simp [go_sem, *]
                   first | done | exact rfl)
            simp only [Act.put, List.setIfInBounds_toArray, List.set_cons_zero, List.set_cons_succ]
          refine seq_on rfl rfl fun K hK => ?_
          go_wp2_with (go_at_call 14; refine (PL.out _ (KB.out _ D8).1).mono ?_; rintro e y9' ⟨rfl, c9⟩)
          have Y9 := Lib.hid (then_ D8 c9 D8.size)
          refine hK _ _ Y9.out ?_
          clear hK K c9
          refine seq_on rfl rfl fun K hK => ?_
          go_wp2_with (go_at_call 17; refine (X2.out _ (KB.out _ Y9.out).1).mono ?_; rintro e y10' ⟨rfl, c10⟩)
          have Y10 := Lib.hid (then_ Y9.out c10 Y9.out.size)
          refine hK _ _ Y10.out ?_
          clear hK K c10
          iterate 5
            refine seq_want (v := ?_) rfl rfl (fun W hS => ?_) ?_
            rotate_left
            · first
                | (conv => lhs; simp [go_sem]
                   first | done | exact rfl)
                | (have hS := hS rfl
                   obtain ⟨hbw, h1, h2⟩ := KB.out _ hS
                   obtain ⟨q0, q1⟩ := pl_two2 h1
                   obtain ⟨g0, g1⟩ := pl_two2 h2
                   conv => lhs; simp [go_sem, *]
                   first | done | exact rfl)
            simp only [Act.put, List.setIfInBounds_toArray, List.set_cons_zero, List.set_cons_succ]
          refine seq_on rfl rfl fun K hK => ?_
          go_wp2_with (go_at_call 14; refine (PL.out _ (KB.out _ Y10.out).1).mono ?_; rintro e y11' ⟨rfl, c11⟩)
          have Y11 := Lib.hid (then_ Y10.out c11 Y10.out.size)
          refine hK _ _ Y11.out ?_
          clear hK K c11
          refine seq_on rfl rfl fun K hK => ?_
          go_wp2_with (go_at_call 18; refine (X3.out _ (KB.out _ Y11.out).1).mono ?_; rintro e y12' ⟨rfl, c12⟩)
          have Y12 := Lib.hid (then_ Y11.out c12 Y11.out.size)
          refine hK _ _ Y12.out ?_
          clear hK K c12
          iterate 6
            refine seq_want (v := ?_) rfl rfl (fun W hS => ?_) ?_
            rotate_left
            · first
                | (conv => lhs; simp [go_sem]
                   first | done | exact rfl)
                | (have hS := hS rfl
                   obtain ⟨hbw, h1, h2⟩ := KB.out _ hS
                   obtain ⟨q0, q1⟩ := pl_two2 h1
                   obtain ⟨g0, g1⟩ := pl_two2 h2
                   conv => lhs; simp [go_sem, *]
                   first | done | exact rfl)
            simp only [Act.put, List.setIfInBounds_toArray, List.set_cons_zero, List.set_cons_succ]
          refine seq_on rfl rfl fun K hK => ?_
          go_wp2_with (go_at_call 14; refine (PL.out _ (KB.out _ Y12.out).1).mono ?_; rintro e y13' ⟨rfl, c13⟩)
          have Y13 := Lib.hid (then_ Y12.out c13 Y12.out.size)
          refine hK _ _ Y13.out ?_
          clear hK K c13
          refine seq_on rfl rfl fun K hK => ?_
          go_wp2_with (go_at_call 19; refine (X4.out _ (KB.out _ Y13.out).1).mono ?_; rintro e y14' ⟨rfl, c14⟩)
          have Y14 := Lib.hid (then_ Y13.out c14 Y13.out.size)
          refine hK _ _ Y14.out ?_
          clear hK K c14
          iterate 3
            refine seq_want (v := ?_) rfl rfl (fun W hS => ?_) ?_
            rotate_left
            · first
                | (conv => lhs; simp [go_sem]
                   first | done | exact rfl)
                | (have hS := hS rfl
                   obtain ⟨hbw, h1, h2⟩ := KB.out _ hS
                   obtain ⟨q0, q1⟩ := pl_two2 h1
                   obtain ⟨g0, g1⟩ := pl_two2 h2
                   conv => lhs; simp [go_sem, *]
                   first | done | exact rfl)
            simp only [Act.put, List.setIfInBounds_toArray, List.set_cons_zero, List.set_cons_succ]
          refine seq_end ?_
          go_wp2
          go_ret
          exact ⟨rfl, (KB.out _ Y14.out).1⟩
    | true =>
      simp only [orArg, hr, if_true] at R0 X0 X1 X2 X3 X4
      have RT := rtB_iff.1 hr
      have IDV0 : lastB Vx.id vs = false → ∀ u ∈ vs, 0 < u.id ∧ u.id ≤ 1099511627776 := last_ids (rt_iff.1 RT).1.rise (rt_iff.1 RT).1.one
      have IDE0 : lastB Eg.id es = false → ∀ u ∈ es, 0 < u.id ∧ u.id ≤ 1099511627776 := last_ids (rt_iff.1 RT).2.rise (rt_iff.1 RT).2.one
      have ADD0 := fun h W (hW : Below w.heap.size w W) => radd_any b1 b2 (HV.out W hW) (HE.out W hW) (by omega) (by omega) (IDV0 h)
      have LNK0 := fun h W (hW : Below w.heap.size w W) => rlink_any a2 a3 (HV.out W hW) (HE.out W hW) (by omega) (by omega) (IDE0 h)
      have DRP := Lib.hid (fun W (hW : Below w.heap.size w W) => rdrop_any a2 (HV.out W hW) (HE.out W hW) (by omega) (by omega))
      have CUT := Lib.hid (fun W (hW : Below w.heap.size w W) => rcut_any a2 (HV.out W hW) (HE.out W hW) (by omega) (by omega))
      have ANEW := Lib.hid (fun W v' e' (h1 : VIn W v' (vs ++ [⟨nxt Vx.id vs, b1, b2⟩])) (h2 : EIn W e' es) => right_any h1 h2 (by simp; omega) (by omega))
      have LNEW := Lib.hid (fun W v' e' (h1 : VIn W v' vs) (h2 : EIn W e' (es ++ [⟨nxt Eg.id es, a2, a3⟩])) => right_any h1 h2 (by omega) (by simp; omega))
      have DNEW := Lib.hid (fun W v' e' (h1 : VIn W v' (vs.filter fun u => u.id != a2)) (h2 : EIn W e' es) => right_any h1 h2 (Nat.le_trans (List.length_filter_le _ _) (by omega)) (by omega))
      have CNEW := Lib.hid (fun W v' e' (h1 : VIn W v' vs) (h2 : EIn W e' (es.filter fun u => u.id != a2)) => right_any h1 h2 (by omega) (Nat.le_trans (List.length_filter_le _ _) (by omega)))
      have PANY := Lib.hid (fun W v' e' (us : List Vx) (fs : List Eg) (h1 : VIn W v' us) (h2 : EIn W e' fs) => plain_any h1 h2)
      rw [rtB_eq (keep_add RT (n := ⟨nxt Vx.id vs, b1, b2⟩) (nxt_pos (rt_iff.1 RT).1.one) (nxt_top (rt_iff.1 RT).1.rise))] at ANEW
      rw [rtB_eq (keep_link RT (n := ⟨nxt Eg.id es, a2, a3⟩) (nxt_pos (rt_iff.1 RT).2.one) (nxt_top (rt_iff.1 RT).2.rise))] at LNEW
      rw [rtB_iff.2 (keep_cut RT a2)] at CNEW
      have DR : Hid ((cDrop vs es a2 = 6) ∨ (cDrop vs es a2 = 16 ∧ rtB (vs.filter fun u => u.id != a2) es = false) ∨ (cDrop vs es a2 = 0 ∧ rtB (vs.filter fun u => u.id != a2) es = true)) := Lib.hid (by
        unfold cDrop
        cases h : hasV vs a2 with
        | false => exact .inl rfl
        | true =>
          rw [if_neg (by simp), rtB_eq (keep_drop RT h)]
          by_cases k : 0 < deg es a2
          · rw [if_pos k]; exact .inr (.inl ⟨rfl, by simp; omega⟩)
          · rw [if_neg k]; exact .inr (.inr ⟨rfl, by simp; omega⟩))
      have CT : Hid (cCut es a2 = 6 ∨ cCut es a2 = 0) := Lib.hid (by
        unfold cCut
        split
        · exact .inl rfl
        · exact .inr rfl)
      simp only at ANEW LNEW
      generalize cAdd vs es b1 b2 = zA at X0 ANEW
      generalize cLink vs es a2 a3 = zL at X1 LNEW
      generalize rtB (vs.filter fun u => u.id != a2) es = tD at DNEW DR
      generalize cDrop vs es a2 = zD at X2 DR
      generalize cCut es a2 = zC at X3 CT
      have ADD := Lib.hid ADD0
      have LNK := Lib.hid LNK0
      clear ADD0 LNK0 RT X4
      subst hvs hes
      generalize hTV : lastB Vx.id vs = tV at GV ADD
      generalize hTE : lastB Eg.id es = tE at GE LNK
      clear hf hv he HV HE hTV hTE hr IDV0 IDE0
      replace GV := Lib.hid GV
      replace GE := Lib.hid GE
      generalize vs.length = n at *
      generalize es.length = m at *
      go_enter Try.func3, Try.ntmps3
      go_upto_region 1 with fail
      have B0 : Hid (Below w.heap.size w ((w.alloc (.cells #[.slice a n cap, .slice a' m cap'] 25)).alloc (.cells #[.int .i64 b1, .int .i64 b2] 27))) := Lib.hid (by repeat' (first | (with_reducible exact Below.refl _ _) | (with_reducible assumption) | (with_reducible refine below_drewN ?_ _) | (with_reducible refine Below.drew ?_) | (with_reducible refine Below.alloc ?_ ?_ _) | (with_reducible refine Below.setCell ?_ ?_ _) | (with_reducible refine then_ ?_ (by with_reducible assumption) ?_) | (with_reducible exact Nat.le_refl _) | (with_reducible exact Nat.le_succ _) | (with_reducible exact Nat.le_succ_of_le (by with_reducible assumption)) | omega | (simp; done) | (simp; omega) | (exact Nat.le_succ _) | (exact Nat.le_succ_of_le (by with_reducible assumption))))
      have O0 : Hid (Own ((w.alloc (.cells #[.slice a n cap, .slice a' m cap'] 25)).alloc (.cells #[.int .i64 b1, .int .i64 b2] 27)) w.heap.size 25 #[.slice a n cap, .slice a' m cap']) := Lib.hid ((Own.made _ _ _).more _)
      have P0 : Hid (Own ((w.alloc (.cells #[.slice a n cap, .slice a' m cap'] 25)).alloc (.cells #[.int .i64 b1, .int .i64 b2] 27)) (w.heap.size + 1) 27 #[.int .i64 b1, .int .i64 b2]) := Lib.hid (Own.made_at (by simp))
      generalize hW0 : (w.alloc (.cells #[.slice a n cap, .slice a' m cap'] 25)).alloc (.cells #[.int .i64 b1, .int .i64 b2] 27) = W0 at B0 O0 P0 ⊢
      clear hW0
      obtain ⟨q0, q1⟩ := pl_two2 O0.out
      have KB : Hid (∀ W, Below W0.heap.size W0 W → Below w.heap.size w W ∧ Own W w.heap.size 25 #[.slice a n cap, .slice a' m cap'] ∧ Own W (w.heap.size + 1) 27 #[.int .i64 b1, .int .i64 b2]) := Lib.hid fun W hW => ⟨then_ B0.out hW B0.out.size, O0.out.keep hW, P0.out.keep hW⟩
      clear B0 O0 P0
      have N0 := Below.refl W0.heap.size W0
      go_upto_region 3 with (first | (go_at_call 11; refine (AW.out _).mono ?_; rintro e y1' ⟨rfl, c1⟩; have Y1 := Lib.hid (then_ N0 c1 N0.size); clear c1; obtain ⟨q0, q1⟩ := pl_two2 (KB.out _ Y1.out).2.1) | (go_at_call 12; refine (FW.out _ (KB.out _ Y1.out).1).mono ?_; rintro e y2' ⟨rfl, c2⟩; have Y2 := Lib.hid (then_ Y1.out c2 Y1.out.size); clear c2))
      clear q0 q1
      obtain ⟨q0, q1⟩ := pl_two2 (KB.out _ Y2.out).2.1
      go_cut [53] (fun s wx => s = .bool (tV || tE) ∧ wx = y2')
      case first =>
        rcases GV.out with ⟨rfl, ht⟩ | ⟨hn0, b, o, z, rfl, hc, ht⟩
        · subst ht
          rcases GE.out with ⟨rfl, ht'⟩ | ⟨hn0, b', o', z', rfl, hc', ht'⟩
          · subst ht'
            go_wp2_with fail
            go_meet
            exact ⟨rfl, rfl⟩
          · have tm : decide ((0 : Int) < (m : Int)) = true := by simp; omega
            have y1 : IntKind.i64.wrap ((m : Int) - 1) = ((m - 1 : Nat) : Int) := by rw [IntKind.wrap_i64] <;> omega
            have y2 : ((m - 1 : Nat) : Int) < (m : Int) := by omega
            have d1 := hc' _ (KB.out _ Y2.out).1
            clear hn0 hc'
            by_cases hz' : 1099511627776 < z'
            · have tz' : decide (1099511627776 < z') = true := by simpa using hz'
              have ht2 : tE = true := ht'.trans tz'
              subst ht2
              clear ht' hz'
              go_wp2_with fail
              go_meet
              exact ⟨rfl, rfl⟩
            · have tz' : decide (1099511627776 < z') = false := by simpa using hz'
              have ht2 : tE = false := ht'.trans tz'
              subst ht2
              clear ht' hz'
              go_wp2_with fail
              go_meet
              exact ⟨rfl, rfl⟩
        · have tn : decide ((0 : Int) < (n : Int)) = true := by simp; omega
          have x1 : IntKind.i64.wrap ((n : Int) - 1) = ((n - 1 : Nat) : Int) := by rw [IntKind.wrap_i64] <;> omega
          have x2 : ((n - 1 : Nat) : Int) < (n : Int) := by omega
          have c1 := hc _ (KB.out _ Y2.out).1
          clear hn0 hc
          by_cases hz : 1099511627776 < z
          · have tz : decide (1099511627776 < z) = true := by simpa using hz
            have ht2 : tV = true := ht.trans tz
            subst ht2
            clear ht hz
            go_wp2_with fail
            go_meet
            exact ⟨rfl, rfl⟩
          · have tz : decide (1099511627776 < z) = false := by simpa using hz
            have ht2 : tV = false := ht.trans tz
            subst ht2
            clear ht hz
            rcases GE.out with ⟨rfl, ht'⟩ | ⟨hn0, b', o', z', rfl, hc', ht'⟩
            · subst ht'
              go_wp2_with fail
              go_meet
              exact ⟨rfl, rfl⟩
            · have tm : decide ((0 : Int) < (m : Int)) = true := by simp; omega
              have y1 : IntKind.i64.wrap ((m : Int) - 1) = ((m - 1 : Nat) : Int) := by rw [IntKind.wrap_i64] <;> omega
              have y2 : ((m - 1 : Nat) : Int) < (m : Int) := by omega
              have d1 := hc' _ (KB.out _ Y2.out).1
              clear hn0 hc'
              by_cases hz' : 1099511627776 < z'
              · have tz' : decide (1099511627776 < z') = true := by simpa using hz'
                have ht2 : tE = true := ht'.trans tz'
                subst ht2
                clear ht' hz'
                go_wp2_with fail
                go_meet
                exact ⟨rfl, rfl⟩
              · have tz' : decide (1099511627776 < z') = false := by simpa using hz'
                have ht2 : tE = false := ht'.trans tz'
                subst ht2
                clear ht' hz'
                go_wp2_with fail
                go_meet
                exact ⟨rfl, rfl⟩
      case rest =>
        clear q0 q1
        obtain ⟨rfl, hw⟩ := hcut
        replace hw := hw.symm
        subst hw
        obtain ⟨q0, q1⟩ := pl_two2 (KB.out _ Y2.out).2.1
        generalize htB : (tV || tE) = tB at *
        cases tB with
        | true =>
          clear htB
          go_wp2
          go_ret
          exact ⟨rfl, (KB.out _ Y2.out).1⟩
        | false =>
          have hTB := Lib.hid htB
          clear htB GV GE
          have hTB0 := hTB.out
          have hV0 : tV = false := by cases tV with
            | false => rfl
            | true => exact hTB0
          have hE0 : tE = false := by cases tE with
            | false => rfl
            | true => rw [hV0] at hTB0; exact hTB0
          have AD := Lib.hid (ADD.out hV0)
          have LK := Lib.hid (LNK.out hE0)
          clear hTB0 hV0 hE0 hTB ADD LNK
          go_upto_region 6 with (first | (go_at_call 14; refine (PL.out _ (KB.out _ Y2.out).1).mono ?_; rintro e y3' ⟨rfl, c3⟩; have Y3 := Lib.hid (then_ Y2.out c3 Y2.out.size); clear c3) | (go_at_call 13; refine (R0.out _ (KB.out _ Y3.out).1).mono ?_; rintro e y4' ⟨rfl, c4⟩; have Y4 := Lib.hid (then_ Y3.out c4 Y3.out.size); clear c4))
          have D4 := Y4.out.drew
          clear q0 q1
          refine wp_region_seq (fun W => Below W0.heap.size W0 W) (0 :: 2 :: 4 :: []) (0 :: 2 :: []) (0 :: 2 :: 1 :: 3 :: 4 :: []) (by kernel_rfl) (by kernel_rfl) rfl (by kernel_rfl) rfl (D4) (by simp only [picked, List.filterMap_cons, List.filterMap_nil, List.getElem?_cons_zero, List.getElem?_cons_succ, Option.map_some]; exact rfl) ?_
          iterate 2
            refine seq_want (v := ?_) rfl rfl (fun W hS => ?_) ?_
            rotate_left
            · first
                | (conv => lhs; simp [go_sem]
                   first | done | exact rfl)
                | (have hS := hS rfl
                   obtain ⟨hbw, h1, h2⟩ := KB.out _ hS
                   obtain ⟨q0, q1⟩ := pl_two2 h1
                   obtain ⟨g0, g1⟩ := pl_two2 h2
                   conv => lhs; simp [go_sem, *]
                   first | done | exact rfl)
            simp only [Act.put, List.setIfInBounds_toArray, List.set_cons_zero, List.set_cons_succ]
          refine seq_on rfl rfl fun K hK => ?_
          go_wp2_with (go_at_call 14; refine (PL.out _ (KB.out _ D4).1).mono ?_; rintro e y5' ⟨rfl, c5⟩)
          have Y5 := Lib.hid (then_ D4 c5 D4.size)
          refine hK _ _ Y5.out ?_
          clear hK K c5
          refine seq_on rfl rfl fun K hK => ?_
          go_wp2_with (go_at_call 15; refine (X0.out _ (KB.out _ Y5.out).1).mono ?_; rintro e y6' ⟨rfl, c6⟩)
          have Y6 := Lib.hid (then_ Y5.out c6 Y5.out.size)
          refine hK _ _ Y6.out ?_
          clear hK K c6
          iterate 1
            refine seq_want (v := ?_) rfl rfl (fun W hS => ?_) ?_
            rotate_left
            · first
                | (conv => lhs; simp [go_sem]
                   first | done | exact rfl)
                | (have hS := hS rfl
                   obtain ⟨hbw, h1, h2⟩ := KB.out _ hS
                   obtain ⟨q0, q1⟩ := pl_two2 h1
                   obtain ⟨g0, g1⟩ := pl_two2 h2
                   conv => lhs; simp [go_sem, *]
                   first | done | exact rfl)
            simp only [Act.put, List.setIfInBounds_toArray, List.set_cons_zero, List.set_cons_succ]
          refine seq_end ?_
          obtain ⟨q0, q1⟩ := pl_two2 (KB.out _ Y6.out).2.1
          go_upto_region 10 with (first | (go_at_call 14; refine (PL.out _ (KB.out _ Y6.out).1).mono ?_; rintro e y7' ⟨rfl, c7⟩; have Y7 := Lib.hid (then_ Y6.out c7 Y6.out.size); clear c7) | (go_at_call 16; refine (X1.out _ (KB.out _ Y7.out).1).mono ?_; rintro e y8' ⟨rfl, c8⟩; have Y8 := Lib.hid (then_ Y7.out c8 Y7.out.size); clear c8))
          clear q0 q1
          obtain ⟨q0, q1⟩ := pl_two2 (KB.out _ Y8.out).2.1
          obtain ⟨g0, g1⟩ := pl_two2 (KB.out _ Y8.out).2.2
          go_cut [114] (fun s wx => s = .bool false ∧ Hid (Below W0.heap.size W0 wx))
          case first =>
            clear X2 X3 DR CT DRP CUT DNEW CNEW
            go_wp2_with (first | (go_at_call 13; refine (NN12.out _ C13.out).mono ?_; rintro e y14' ⟨rfl, c14⟩; have Y14 := Lib.hid (then_ Y13.out c14 Y13.out.size); clear c14) | (go_at_call 14; refine (PP12.out _ (Below.refl _ _)).mono ?_; rintro e y13' ⟨rfl, c13⟩; have Y13 := Lib.hid (then_ Y12.out c13 Y12.out.size); have C13 := Lib.hid c13; clear c13) | (go_at_call 21; refine (LK.out _ (KB.out _ Y11.out).1).mono ?_; rintro e y12' ⟨v12, e12, rfl, hv12, he12, c12⟩; have Y12 := Lib.hid (then_ Y11.out c12 Y11.out.size); have V12 := Lib.hid hv12; have E12 := Lib.hid he12; have PP12 := Lib.hid (fun W (hW : Below y12'.heap.size y12' W) => PANY.out W v12 e12 _ _ (TIn.below V12.out hW) (TIn.below E12.out hW)); have NN12 := Lib.hid (fun W (hW : Below y12'.heap.size y12' W) => LNEW.out W v12 e12 (TIn.below V12.out hW) (TIn.below E12.out hW)); clear hv12 he12 c12 V12 E12) | (go_at_call 13; refine (NN9.out _ C10.out).mono ?_; rintro e y11' ⟨rfl, c11⟩; have Y11 := Lib.hid (then_ Y10.out c11 Y10.out.size); clear c11; obtain ⟨q0, q1⟩ := pl_two2 (KB.out _ Y11.out).2.1) | (go_at_call 14; refine (PP9.out _ (Below.refl _ _)).mono ?_; rintro e y10' ⟨rfl, c10⟩; have Y10 := Lib.hid (then_ Y9.out c10 Y9.out.size); have C10 := Lib.hid c10; clear c10) | (go_at_call 20; refine (AD.out _ (KB.out _ Y8.out).1).mono ?_; rintro e y9' ⟨v9, e9, rfl, hv9, he9, c9⟩; have Y9 := Lib.hid (then_ Y8.out c9 Y8.out.size); have V9 := Lib.hid hv9; have E9 := Lib.hid he9; have PP9 := Lib.hid (fun W (hW : Below y9'.heap.size y9' W) => PANY.out W v9 e9 _ _ (TIn.below V9.out hW) (TIn.below E9.out hW)); have NN9 := Lib.hid (fun W (hW : Below y9'.heap.size y9' W) => ANEW.out W v9 e9 (TIn.below V9.out hW) (TIn.below E9.out hW)); clear hv9 he9 c9 V9 E9))
            go_meet
            exact ⟨by by_cases h9 : zL = 0 <;> simp [h9], Y14⟩
          case rest =>
            clear q0 q1 g0 g1 AD LK ANEW LNEW X0 X1 R0
            obtain ⟨rfl, Y20⟩ := hcut
            go_upto_region 12 with fail
            go_cut [132] (fun s wx => s = .bool false ∧ Hid (Below W0.heap.size W0 wx))
            case first =>
              have D20 := Y20.out.drew
              rcases DR.out with rfl | ⟨rfl, rfl⟩ | ⟨rfl, rfl⟩
              · clear DR CT DRP CUT DNEW CNEW X3
                refine wp_region_seq (fun W => Below W0.heap.size W0 W) (0 :: 2 :: 4 :: 5 :: 6 :: 7 :: 8 :: 9 :: 10 :: 11 :: 12 :: 13 :: 14 :: 15 :: 16 :: 17 :: []) (0 :: []) (0 :: 2 :: 1 :: 3 :: 4 :: 5 :: 6 :: 7 :: 8 :: 9 :: 10 :: 11 :: 12 :: 13 :: 14 :: 15 :: 16 :: 17 :: []) (by kernel_rfl) (by kernel_rfl) rfl (by kernel_rfl) rfl (D20) (by simp only [picked, List.filterMap_cons, List.filterMap_nil, List.getElem?_cons_zero, List.getElem?_cons_succ, Option.map_some]; exact rfl) ?_
                iterate 2
                  refine seq_want (v := ?_) rfl rfl (fun W hS => ?_) ?_
                  rotate_left
                  · first
                      | (conv => lhs; simp [go_sem]
                         first | done | exact rfl)
                      | (have hS := hS rfl
                         obtain ⟨hbw, h1, h2⟩ := KB.out _ hS
                         obtain ⟨q0, q1⟩ := pl_two2 h1
                         obtain ⟨g0, g1⟩ := pl_two2 h2
                         conv => lhs; simp [go_sem, *]
                         first | done | exact rfl)
                  simp only [Act.put, List.setIfInBounds_toArray, List.set_cons_zero, List.set_cons_succ]
                refine seq_on rfl rfl fun K hK => ?_
                go_wp2_with (go_at_call 14; refine (PL.out _ (KB.out _ D20).1).mono ?_; rintro e y21' ⟨rfl, c21⟩)
                have Y21 := Lib.hid (then_ D20 c21 D20.size)
                refine hK _ _ Y21.out ?_
                clear hK K c21
                refine seq_on rfl rfl fun K hK => ?_
                go_wp2_with (go_at_call 17; refine (X2.out _ (KB.out _ Y21.out).1).mono ?_; rintro e y22' ⟨rfl, c22⟩)
                have Y22 := Lib.hid (then_ Y21.out c22 Y21.out.size)
                refine hK _ _ Y22.out ?_
                clear hK K c22
                iterate 2
                  refine seq_want (v := ?_) rfl rfl (fun W hS => ?_) ?_
                  rotate_left
                  · first
                      | (conv => lhs; simp [go_sem]
                         first | done | exact rfl)
                      | (have hS := hS rfl
                         obtain ⟨hbw, h1, h2⟩ := KB.out _ hS
                         obtain ⟨q0, q1⟩ := pl_two2 h1
                         obtain ⟨g0, g1⟩ := pl_two2 h2
                         conv => lhs; simp [go_sem, *]
                         first | done | exact rfl)
                  simp only [Act.put, List.setIfInBounds_toArray, List.set_cons_zero, List.set_cons_succ]
                refine seq_skip rfl rfl ?_
                simp only [Act.put, List.setIfInBounds_toArray, List.set_cons_zero, List.set_cons_succ]
                refine seq_skip rfl rfl ?_
                simp only [Act.put, List.setIfInBounds_toArray, List.set_cons_zero, List.set_cons_succ]
                refine seq_skip rfl rfl ?_
                simp only [Act.put, List.setIfInBounds_toArray, List.set_cons_zero, List.set_cons_succ]
                refine seq_skip rfl rfl ?_
                simp only [Act.put, List.setIfInBounds_toArray, List.set_cons_zero, List.set_cons_succ]
                refine seq_skip rfl rfl ?_
                simp only [Act.put, List.setIfInBounds_toArray, List.set_cons_zero, List.set_cons_succ]
                refine seq_skip rfl rfl ?_
                simp only [Act.put, List.setIfInBounds_toArray, List.set_cons_zero, List.set_cons_succ]
                refine seq_skip rfl rfl ?_
                simp only [Act.put, List.setIfInBounds_toArray, List.set_cons_zero, List.set_cons_succ]
                refine seq_skip rfl rfl ?_
                simp only [Act.put, List.setIfInBounds_toArray, List.set_cons_zero, List.set_cons_succ]
                refine seq_skip rfl rfl ?_
                simp only [Act.put, List.setIfInBounds_toArray, List.set_cons_zero, List.set_cons_succ]
                refine seq_skip rfl rfl ?_
                simp only [Act.put, List.setIfInBounds_toArray, List.set_cons_zero, List.set_cons_succ]
                refine seq_skip rfl rfl ?_
                simp only [Act.put, List.setIfInBounds_toArray, List.set_cons_zero, List.set_cons_succ]
                iterate 1
                  refine seq_want (v := ?_) rfl rfl (fun W hS => ?_) ?_
                  rotate_left
                  · first
                      | (conv => lhs; simp [go_sem]
                         first | done | exact rfl)
                      | (have hS := hS rfl
                         obtain ⟨hbw, h1, h2⟩ := KB.out _ hS
                         obtain ⟨q0, q1⟩ := pl_two2 h1
                         obtain ⟨g0, g1⟩ := pl_two2 h2
                         conv => lhs; simp [go_sem, *]
                         first | done | exact rfl)
                  simp only [Act.put, List.setIfInBounds_toArray, List.set_cons_zero, List.set_cons_succ]
                refine seq_end ?_
                go_wp2_with fail
                go_meet
                exact ⟨rfl, Y22⟩
              · clear DR CT CUT CNEW X3
                refine wp_region_seq (fun W => Below W0.heap.size W0 W) (0 :: 2 :: 4 :: 5 :: 6 :: 7 :: 11 :: 13 :: 15 :: 16 :: 17 :: []) (0 :: 6 :: 11 :: []) (0 :: 2 :: 1 :: 3 :: 4 :: 5 :: 6 :: 7 :: 11 :: 13 :: 8 :: 9 :: 10 :: 12 :: 14 :: 15 :: 16 :: 17 :: []) (by kernel_rfl) (by kernel_rfl) rfl (by kernel_rfl) rfl (D20) (by simp only [picked, List.filterMap_cons, List.filterMap_nil, List.getElem?_cons_zero, List.getElem?_cons_succ, Option.map_some]; exact rfl) ?_
                iterate 2
                  refine seq_want (v := ?_) rfl rfl (fun W hS => ?_) ?_
                  rotate_left
                  · first
                      | (conv => lhs; simp [go_sem]
                         first | done | exact rfl)
                      | (have hS := hS rfl
                         obtain ⟨hbw, h1, h2⟩ := KB.out _ hS
                         obtain ⟨q0, q1⟩ := pl_two2 h1
                         obtain ⟨g0, g1⟩ := pl_two2 h2
                         conv => lhs; simp [go_sem, *]
                         first | done | exact rfl)
                  simp only [Act.put, List.setIfInBounds_toArray, List.set_cons_zero, List.set_cons_succ]
                refine seq_on rfl rfl fun K hK => ?_
                go_wp2_with (go_at_call 14; refine (PL.out _ (KB.out _ D20).1).mono ?_; rintro e y21' ⟨rfl, c21⟩)
                have Y21 := Lib.hid (then_ D20 c21 D20.size)
                refine hK _ _ Y21.out ?_
                clear hK K c21
                refine seq_on rfl rfl fun K hK => ?_
                go_wp2_with (go_at_call 17; refine (X2.out _ (KB.out _ Y21.out).1).mono ?_; rintro e y22' ⟨rfl, c22⟩)
                have Y22 := Lib.hid (then_ Y21.out c22 Y21.out.size)
                refine hK _ _ Y22.out ?_
                clear hK K c22
                iterate 6
                  refine seq_want (v := ?_) rfl rfl (fun W hS => ?_) ?_
                  rotate_left
                  · first
                      | (conv => lhs; simp [go_sem]
                         first | done | exact rfl)
                      | (have hS := hS rfl
                         obtain ⟨hbw, h1, h2⟩ := KB.out _ hS
                         obtain ⟨q0, q1⟩ := pl_two2 h1
                         obtain ⟨g0, g1⟩ := pl_two2 h2
                         conv => lhs; simp [go_sem, *]
                         first | done | exact rfl)
                  simp only [Act.put, List.setIfInBounds_toArray, List.set_cons_zero, List.set_cons_succ]
                refine seq_on rfl rfl fun K hK => ?_
                go_wp2_with (go_at_call 22; refine (DRP.out _ (KB.out _ Y22.out).1).mono ?_; rintro e y23' ⟨v23, e23, rfl, hv23, he23, c23⟩)
                have Y23 := Lib.hid (then_ Y22.out c23 Y22.out.size)
                have V23 := Lib.hid hv23
                have E23 := Lib.hid he23
                have PP23 := Lib.hid (fun W (hW : Below y23'.heap.size y23' W) => PANY.out W v23 e23 _ _ (TIn.below V23.out hW) (TIn.below E23.out hW))
                have NN23 := Lib.hid (fun W (hW : Below y23'.heap.size y23' W) => DNEW.out W v23 e23 (TIn.below V23.out hW) (TIn.below E23.out hW))
                clear hv23 he23 c23 V23 E23
                refine hK _ _ Y23.out ?_
                clear hK K
                refine seq_on rfl rfl fun K hK => ?_
                go_wp2_with (go_at_call 14; refine (PP23.out _ (Below.refl _ _)).mono ?_; rintro e y24' ⟨rfl, c24⟩)
                have Y24 := Lib.hid (then_ Y23.out c24 Y23.out.size)
                have C24 := Lib.hid c24
                clear c24
                refine hK _ _ Y24.out ?_
                clear hK K
                refine seq_on rfl rfl fun K hK => ?_
                go_wp2_with (go_at_call 13; refine (NN23.out _ C24.out).mono ?_; rintro e y25' ⟨rfl, c25⟩)
                have Y25 := Lib.hid (then_ Y24.out c25 Y24.out.size)
                clear c25
                refine hK _ _ Y25.out ?_
                clear hK K
                refine seq_on rfl rfl fun K hK => ?_
                go_wp2_with (go_at_call 14; refine (PL.out _ (KB.out _ Y25.out).1).mono ?_; rintro e y26' ⟨rfl, c26⟩)
                have Y26 := Lib.hid (then_ Y25.out c26 Y25.out.size)
                refine hK _ _ Y26.out ?_
                clear hK K c26
                refine seq_on rfl rfl fun K hK => ?_
                go_wp2_with (go_at_call 17; refine (X2.out _ (KB.out _ Y26.out).1).mono ?_; rintro e y27' ⟨rfl, c27⟩)
                have Y27 := Lib.hid (then_ Y26.out c27 Y26.out.size)
                refine hK _ _ Y27.out ?_
                clear hK K c27
                iterate 3
                  refine seq_want (v := ?_) rfl rfl (fun W hS => ?_) ?_
                  rotate_left
                  · first
                      | (conv => lhs; simp [go_sem]
                         first | done | exact rfl)
                      | (have hS := hS rfl
                         obtain ⟨hbw, h1, h2⟩ := KB.out _ hS
                         obtain ⟨q0, q1⟩ := pl_two2 h1
                         obtain ⟨g0, g1⟩ := pl_two2 h2
                         conv => lhs; simp [go_sem, *]
                         first | done | exact rfl)
                  simp only [Act.put, List.setIfInBounds_toArray, List.set_cons_zero, List.set_cons_succ]
                refine seq_end ?_
                go_wp2_with fail
                go_meet
                exact ⟨rfl, Y27⟩
              · clear DR CT CUT CNEW X3
                refine wp_region_seq (fun W => Below W0.heap.size W0 W) (0 :: 2 :: 4 :: 5 :: 6 :: 7 :: 11 :: 13 :: 15 :: 16 :: 17 :: []) (0 :: 6 :: 11 :: []) (0 :: 2 :: 1 :: 3 :: 4 :: 5 :: 6 :: 7 :: 11 :: 13 :: 8 :: 9 :: 10 :: 12 :: 14 :: 15 :: 16 :: 17 :: []) (by kernel_rfl) (by kernel_rfl) rfl (by kernel_rfl) rfl (D20) (by simp only [picked, List.filterMap_cons, List.filterMap_nil, List.getElem?_cons_zero, List.getElem?_cons_succ, Option.map_some]; exact rfl) ?_
                iterate 2
                  refine seq_want (v := ?_) rfl rfl (fun W hS => ?_) ?_
                  rotate_left
                  · first
                      | (conv => lhs; simp [go_sem]
                         first | done | exact rfl)
                      | (have hS := hS rfl
                         obtain ⟨hbw, h1, h2⟩ := KB.out _ hS
                         obtain ⟨q0, q1⟩ := pl_two2 h1
                         obtain ⟨g0, g1⟩ := pl_two2 h2
                         conv => lhs; simp [go_sem, *]
                         first | done | exact rfl)
                  simp only [Act.put, List.setIfInBounds_toArray, List.set_cons_zero, List.set_cons_succ]
                refine seq_on rfl rfl fun K hK => ?_
                go_wp2_with (go_at_call 14; refine (PL.out _ (KB.out _ D20).1).mono ?_; rintro e y21' ⟨rfl, c21⟩)
                have Y21 := Lib.hid (then_ D20 c21 D20.size)
                refine hK _ _ Y21.out ?_
                clear hK K c21
                refine seq_on rfl rfl fun K hK => ?_
                go_wp2_with (go_at_call 17; refine (X2.out _ (KB.out _ Y21.out).1).mono ?_; rintro e y22' ⟨rfl, c22⟩)
                have Y22 := Lib.hid (then_ Y21.out c22 Y21.out.size)
                refine hK _ _ Y22.out ?_
                clear hK K c22
                iterate 6
                  refine seq_want (v := ?_) rfl rfl (fun W hS => ?_) ?_
                  rotate_left
                  · first
                      | (conv => lhs; simp [go_sem]
                         first | done | exact rfl)
                      | (have hS := hS rfl
                         obtain ⟨hbw, h1, h2⟩ := KB.out _ hS
                         obtain ⟨q0, q1⟩ := pl_two2 h1
                         obtain ⟨g0, g1⟩ := pl_two2 h2
                         conv => lhs; simp [go_sem, *]
                         first | done | exact rfl)
                  simp only [Act.put, List.setIfInBounds_toArray, List.set_cons_zero, List.set_cons_succ]
                refine seq_on rfl rfl fun K hK => ?_
                go_wp2_with (go_at_call 22; refine (DRP.out _ (KB.out _ Y22.out).1).mono ?_; rintro e y23' ⟨v23, e23, rfl, hv23, he23, c23⟩)
                have Y23 := Lib.hid (then_ Y22.out c23 Y22.out.size)
                have V23 := Lib.hid hv23
                have E23 := Lib.hid he23
                have PP23 := Lib.hid (fun W (hW : Below y23'.heap.size y23' W) => PANY.out W v23 e23 _ _ (TIn.below V23.out hW) (TIn.below E23.out hW))
                have NN23 := Lib.hid (fun W (hW : Below y23'.heap.size y23' W) => DNEW.out W v23 e23 (TIn.below V23.out hW) (TIn.below E23.out hW))
                clear hv23 he23 c23 V23 E23
                refine hK _ _ Y23.out ?_
                clear hK K
                refine seq_on rfl rfl fun K hK => ?_
                go_wp2_with (go_at_call 14; refine (PP23.out _ (Below.refl _ _)).mono ?_; rintro e y24' ⟨rfl, c24⟩)
                have Y24 := Lib.hid (then_ Y23.out c24 Y23.out.size)
                have C24 := Lib.hid c24
                clear c24
                refine hK _ _ Y24.out ?_
                clear hK K
                refine seq_on rfl rfl fun K hK => ?_
                go_wp2_with (go_at_call 13; refine (NN23.out _ C24.out).mono ?_; rintro e y25' ⟨rfl, c25⟩)
                have Y25 := Lib.hid (then_ Y24.out c25 Y24.out.size)
                clear c25
                refine hK _ _ Y25.out ?_
                clear hK K
                refine seq_on rfl rfl fun K hK => ?_
                go_wp2_with (go_at_call 14; refine (PL.out _ (KB.out _ Y25.out).1).mono ?_; rintro e y26' ⟨rfl, c26⟩)
                have Y26 := Lib.hid (then_ Y25.out c26 Y25.out.size)
                refine hK _ _ Y26.out ?_
                clear hK K c26
                refine seq_on rfl rfl fun K hK => ?_
                go_wp2_with (go_at_call 17; refine (X2.out _ (KB.out _ Y26.out).1).mono ?_; rintro e y27' ⟨rfl, c27⟩)
                have Y27 := Lib.hid (then_ Y26.out c27 Y26.out.size)
                refine hK _ _ Y27.out ?_
                clear hK K c27
                iterate 3
                  refine seq_want (v := ?_) rfl rfl (fun W hS => ?_) ?_
                  rotate_left
                  · first
                      | (conv => lhs; simp [go_sem]
                         first | done | exact rfl)
                      | (have hS := hS rfl
                         obtain ⟨hbw, h1, h2⟩ := KB.out _ hS
                         obtain ⟨q0, q1⟩ := pl_two2 h1
                         obtain ⟨g0, g1⟩ := pl_two2 h2
                         conv => lhs; simp [go_sem, *]
                         first | done | exact rfl)
                  simp only [Act.put, List.setIfInBounds_toArray, List.set_cons_zero, List.set_cons_succ]
                refine seq_end ?_
                go_wp2_with fail
                go_meet
                exact ⟨rfl, Y27⟩
            case rest =>
              clear X2 DR DRP DNEW
              obtain ⟨rfl, Y30⟩ := hcut
              go_upto_region 14 with fail
              obtain ⟨q0, q1⟩ := pl_two2 (KB.out _ Y30.out).2.1
              rcases CT.out with rfl | rfl
              · clear CT CUT CNEW
                go_wp2_with (first | (go_at_call 18; refine (X3.out _ (KB.out _ Y31.out).1).mono ?_; rintro e y32' ⟨rfl, c32⟩; have Y32 := Lib.hid (then_ Y31.out c32 Y31.out.size); clear c32; obtain ⟨q0, q1⟩ := pl_two2 (KB.out _ Y32.out).2.1) | (go_at_call 14; refine (PL.out _ (KB.out _ Y30.out).1).mono ?_; rintro e y31' ⟨rfl, c31⟩; have Y31 := Lib.hid (then_ Y30.out c31 Y30.out.size); clear c31))
                go_ret
                exact ⟨rfl, (KB.out _ Y32.out).1⟩
              · clear CT
                go_wp2_with (first | (go_at_call 13; refine (NN33.out _ C34.out).mono ?_; rintro e y35' ⟨rfl, c35⟩; have Y35 := Lib.hid (then_ Y34.out c35 Y34.out.size); clear c35) | (go_at_call 14; refine (PP33.out _ (Below.refl _ _)).mono ?_; rintro e y34' ⟨rfl, c34⟩; have Y34 := Lib.hid (then_ Y33.out c34 Y33.out.size); have C34 := Lib.hid c34; clear c34) | (go_at_call 23; refine (CUT.out _ (KB.out _ Y32.out).1).mono ?_; rintro e y33' ⟨v33, e33, rfl, hv33, he33, c33⟩; have Y33 := Lib.hid (then_ Y32.out c33 Y32.out.size); have V33 := Lib.hid hv33; have E33 := Lib.hid he33; have PP33 := Lib.hid (fun W (hW : Below y33'.heap.size y33' W) => PANY.out W v33 e33 _ _ (TIn.below V33.out hW) (TIn.below E33.out hW)); have NN33 := Lib.hid (fun W (hW : Below y33'.heap.size y33' W) => CNEW.out W v33 e33 (TIn.below V33.out hW) (TIn.below E33.out hW)); clear hv33 he33 c33 V33 E33) | (go_at_call 18; refine (X3.out _ (KB.out _ Y31.out).1).mono ?_; rintro e y32' ⟨rfl, c32⟩; have Y32 := Lib.hid (then_ Y31.out c32 Y31.out.size); clear c32; obtain ⟨q0, q1⟩ := pl_two2 (KB.out _ Y32.out).2.1) | (go_at_call 14; refine (PL.out _ (KB.out _ Y30.out).1).mono ?_; rintro e y31' ⟨rfl, c31⟩; have Y31 := Lib.hid (then_ Y30.out c31 Y30.out.size); clear c31))
                go_ret
                exact ⟨rfl, (KB.out _ Y35.out).1⟩

set_option maxRecDepth 100000 in
theorem lifted (os : Os) (started : os.Started) (H : Type) (enc : TypeId × Value → H) :
    ReturnsInHanded {} Try.checked os 3 .any (Rows.planKeepsSpec.pre6 enc Try.prog Try.f3 Rows.planKeepsRow.domain false) (Rows.planKeepsSpec.post enc Try.prog Try.f3 false true false false) := by
  refine returnsInHanded_of_change (C := Try.checked) own started (by kernel_rfl) Try.func3
    (ChangeSpec.witness6 (enc := enc) (C := Try.checked) false ⟨#[], #[.agg #[.slice none 0 0, .slice none 0 0], .agg #[.int .i64 0, .int .i64 0], .int .i64 0, .int .i64 0], []⟩ 8 (by kernel_rfl) (by kernel_rfl) (by kernel_rfl) (by kernel_rfl)) ?_
  intro W base args ds gs before hval0 hW hcnd _
  have hval : ∀ (j : Nat) t v, Try.f3.params[j]? = some t → args[j]? = some v → Value.okWide Try.prog W .any base t v := hval0
  have hW' := hW
  obtain ⟨p, q, hA0, hV, rfl, hfz, hnd⟩ := hW
  have hA : DataW.TrodAll enc Try.prog W 0 (fun _ => true) true Try.f3.params.toList args.toList ds p := hA0
  rw [Try.params3] at hA hval
  obtain ⟨v0, vs0, d0, ds0, p0, q0, hargs, rfl, rfl, h0, r0⟩ := trodAll_cons hA
  obtain ⟨v1, vs1, d1, ds1, p1, q1, rfl, rfl, rfl, h1, r1⟩ := trodAll_cons r0
  obtain ⟨v2, vs2, d2, ds2, p2, q2, rfl, rfl, rfl, h2, r2⟩ := trodAll_cons r1
  obtain ⟨v3, vs3, d3, ds3, p3, q3, rfl, rfl, rfl, h3, r3⟩ := trodAll_cons r2
  obtain ⟨rfl, rfl, rfl⟩ := trodAll_nil r3
  obtain rfl : args = #[v0, v1, v2, v3] := by cases args; simp_all
  obtain ⟨rfl, rfl⟩ := trodVars_none hV
  have k0 := h0
  have lt0 : ∀ x ∈ p0, x.block < W.heap.size := by obtain ⟨m, hm⟩ := k0; exact DataW.trod_lt m _ _ _ hm
  obtain ⟨v, e, vs, es, rfl, hv, he⟩ := Pl.open_plan (hval 0 25 v0 rfl rfl) h0
  obtain ⟨b1, b2, rfl, rfl, fb1, fb2⟩ := open_pt (hval 1 27 v1 rfl rfl) h1
  obtain ⟨a2, rfl, rfl, rfl, w2⟩ := open_int Try.underlying3 (hval 2 3 v2 rfl rfl) h2
  obtain ⟨a3, rfl, rfl, rfl, w3⟩ := open_int Try.underlying3 (hval 3 3 v3 rfl rfl) h3
  clear hA0 hval0
  refine (walk v e vs es b1 b2 a2 a3 W hv he fb1 fb2 w2 w3).mono fun e W' ⟨he, bel⟩ => ?_
  subst he
  exact ⟨_, rfl, _, _, _, [], _, [], hW', trodAll_mk1 (shut_bool Try.underlying4 _), (trodAll_cons_mk (Below.trod laidOut (by kernel_rfl) (of_decide_eq_true (by kernel_rfl)) k0 bel lt0) (trodAll_cons_mk (Below.trod laidOut (by kernel_rfl) (of_decide_eq_true (by kernel_rfl)) h1 bel (fun x hx => by cases hx)) (trodAll_cons_mk (shut_int Try.underlying3 w2) (trodAll_cons_mk (shut_int Try.underlying3 w3) trodAll_mk0)))), rfl, bel.frame _, fun h => by cases h⟩

theorem over : Rows.planKeepsRow.holds Try.pinned (OpenSpec.ofChange Rows.planKeepsSpec) :=
  OpenClaim.holds_of_wide 3 Try.f3 rfl rfl rfl rfl rfl rfl rfl ⟨rfl, rfl, rfl, rfl, rfl⟩ rfl rfl rfl rfl rfl (by kernel_rfl) Try.func3 (by kernel_rfl)
    (of_decide_eq_true (by kernel_rfl)) (by unfold Func.isWrapper; first | (rw [if_pos (by decide +kernel)]; kernel_rfl) | (rw [if_neg (by decide +kernel)]; exact ⟨rfl, rfl⟩))
    (fun os started H enc _ => lifted os started H enc)

/-- THE STATEMENT -/
theorem proved : Rows.PlanKeepsSaid := over
#print axioms proved
end Go.Proofs.Ytdkmclaihojknaa.planKeeps
