
/- A log as it lies in memory; the contracts of Left, Next, Restart, add, count. Conditions: those that each theorem names. -/
import Derived.Test.YtmincpmkiheofaaRdoB
import Derived.Test.YtmincpmkiheofaaDisF
namespace Go.Proofs.Ytmincpmkiheofaa
open Go.ChangeShapes Go.WideShapes Go.ChangeAt Go.RowKit
set_option linter.unusedVariables false
set_option linter.unusedSimpArgs false

/-- what a log is, beside its disk -/
structure LogS where
  from_ : Nat
  size : Nat
  used : Nat
  next : Nat
  failed : Bool
structure LogS.Ok (l : LogS) : Prop where
  fit : l.from_ + l.size ≤ 65536
  used : l.used ≤ l.size
  next : l.next ≤ 18446744073709551615
def LogS.left (l : LogS) : Nat := if l.failed then 0 else l.size - l.used
/-- n pages more -/
def LogS.plus (l : LogS) (n : Nat) : LogS := { l with used := l.used + (1 + 9 * n), next := (l.next + 1) % 18446744073709551616 }
def LogS.cells (l : LogS) (d : Nat) : Array Value := #[.pointer (some ⟨d, 0, none⟩), .int .i64 (l.from_ : Int), .int .i64 (l.size : Int), .int .i64 (l.used : Int), .int .u64 (l.next : Int), .bool l.failed]
def LogAt (w : World) (lg d : Nat) (l : LogS) : Prop := Own w lg 64 (l.cells d)
theorem LogS.left_le (l : LogS) : l.left ≤ l.size := by unfold LogS.left; split <;> omega
theorem LogS.plus_ok {l : LogS} (h : l.Ok) {n : Nat} (hf : l.failed = false) (hn : 1 + 9 * n ≤ l.left) : (l.plus n).Ok := by
  have := h.used
  unfold LogS.left at hn
  rw [hf] at hn
  simp only [Bool.false_eq_true, if_false] at hn
  exact ⟨h.fit, by show l.used + (1 + 9 * n) ≤ l.size; omega, by show (l.next + 1) % 18446744073709551616 ≤ _; omega⟩

section
variable {w : World} {lg d : Nat} {l : LogS}
set_option maxRecDepth 10000 in
theorem left_any (h : LogAt w lg d l) (hk : l.Ok) : Calls Try.prog 22 #[.pointer (some ⟨lg, 0, none⟩)] w fun e w' => e = .returned (.int .i64 (l.left : Nat)) ∧ ∃ q, w' = w.drewN q := by
  have h1 := hk.used
  have h2 := hk.fit
  obtain ⟨o1, o2, o3⟩ := Own.at_ (show Own w lg _ (l.cells d) from h)
  unfold LogS.left
  obtain ⟨fr, sz, us, nx, fl⟩ := l
  simp only at h1 h2
  unfold LogS.cells at o1
  replace h := Lib.hid (show Own w lg _ (LogS.cells ⟨fr, sz, us, nx, fl⟩ d) from h)
  clear hk
  simp only at o1
  cases fl with
  | true =>
    go_enter Try.func22, Try.ntmps22
    go_wp2
    go_ret
    exact ⟨rfl, 0, rfl⟩
  | false =>
    go_enter Try.func22, Try.ntmps22
    go_upto_region 3 with fail
    have hw : IntKind.i64.wrap ((sz : Int) - (us : Int)) = (sz : Int) - (us : Int) := by rw [IntKind.wrap_i64]; omega
    have O := Lib.hid (show Own w lg 64 #[.pointer (some ⟨d, 0, none⟩), .int .i64 (fr : Int), .int .i64 (sz : Int), .int .i64 (us : Int), .int .u64 (nx : Int), .bool false] from h.out)
    refine wp_region_seq (fun W => Own W lg 64 #[.pointer (some ⟨d, 0, none⟩), .int .i64 (fr : Int), .int .i64 (sz : Int), .int .i64 (us : Int), .int .u64 (nx : Int), .bool false]) (0 :: 1 :: 2 :: 3 :: 4 :: 5 :: 6 :: 7 :: 8 :: 9 :: []) (3 :: 7 :: []) (0 :: 1 :: 2 :: 3 :: 4 :: 5 :: 6 :: 7 :: 8 :: 9 :: []) (by kernel_rfl) (by kernel_rfl) rfl (by kernel_rfl) rfl (O.out.drawn) (by simp only [picked, List.filterMap_cons, List.filterMap_nil, List.getElem?_cons_zero, List.getElem?_cons_succ, Option.map_some]; exact rfl) ?_
    iterate 10
      refine seq_want (v := ?_) rfl rfl (fun W hS => ?_) ?_
      rotate_left
      · first
          | (conv => lhs; simp [go_sem, hw]
             first | done | exact rfl)
          | (have hS := hS rfl
             obtain ⟨q1, q2, q3⟩ := Own.at_ hS
             conv => lhs; simp [go_sem, *, hw]
             first | done | exact rfl)
      simp only [Act.put, List.setIfInBounds_toArray, List.set_cons_zero, List.set_cons_succ]
    refine seq_end ?_
    go_wp2
    go_ret
    exact ⟨ret_eq (by first | omega | (simp only [Bool.false_eq_true, if_false]; omega)), 1, rfl⟩
theorem nil_left (w : World) : Calls Try.prog 22 #[.pointer none] w fun e w' => e = .returned (.int .i64 0) ∧ w = w' := by
  go_enter Try.func22, Try.ntmps22
  go_wp2
  go_ret
  exact ⟨rfl, rfl⟩
theorem next_any (h : LogAt w lg d l) : Calls Try.prog 21 #[.pointer (some ⟨lg, 0, none⟩)] w fun e w' => e = .returned (.int .u64 (l.next : Nat)) ∧ w = w' := by
  obtain ⟨o1, o2, o3⟩ := Own.at_ (show Own w lg _ (l.cells d) from h)
  unfold LogS.cells at o1
  clear h
  go_enter Try.func21, Try.ntmps21
  go_wp2
  go_ret
  exact ⟨rfl, rfl⟩
theorem nil_next (w : World) : Calls Try.prog 21 #[.pointer none] w fun e w' => e = .returned (.int .u64 0) ∧ w = w' := by
  go_enter Try.func21, Try.ntmps21
  go_wp2
  go_ret
  exact ⟨rfl, rfl⟩
theorem nil_restart (w : World) : Calls Try.prog 18 #[.pointer none] w fun e w' => e = .returned (.int .i64 1) ∧ w = w' := by
  go_enter Try.func18, Try.ntmps18
  go_wp2
  go_ret
  exact ⟨rfl, rfl⟩
theorem restart_no (h : LogAt w lg d l) (hf : l.failed = true) : Calls Try.prog 18 #[.pointer (some ⟨lg, 0, none⟩)] w fun e w' => e = .returned (.int .i64 17) ∧ w = w' := by
  obtain ⟨o1, o2, o3⟩ := Own.at_ (show Own w lg _ (l.cells d) from h)
  unfold LogS.cells at o1
  rw [hf] at o1
  clear h hf
  go_enter Try.func18, Try.ntmps18
  go_wp2
  go_ret
  exact ⟨rfl, rfl⟩
theorem restart_yes (h : LogAt w lg d l) (hf : l.failed = false) : Calls Try.prog 18 #[.pointer (some ⟨lg, 0, none⟩)] w fun e w' => e = .returned (.int .i64 0) ∧ LogAt w' lg d { l with used := 0 } ∧ Chg (· = lg) w w' ∧ w'.heap.size = w.heap.size := by
  have H := Lib.hid h
  obtain ⟨o1, o2, o3⟩ := Own.at_ (show Own w lg _ (l.cells d) from h)
  unfold LogS.cells at o1
  rw [hf] at o1
  clear h hf
  go_enter Try.func18, Try.ntmps18
  go_wp2
  go_ret
  exact ⟨rfl, Own.put H.out 3 _, chg_one _ _ _ _, by simp [World.setCell]⟩
set_option maxRecDepth 10000 in
theorem add_any (h : LogAt w lg d l) (hk : l.Ok) (n : Nat) (hn : n ≤ 1000) : Calls Try.prog 30 #[.pointer (some ⟨lg, 0, none⟩), .int .i64 (n : Int)] w fun e w' => e = .returned (.tuple #[]) ∧ LogAt w' lg d (l.plus n) ∧ Chg (· = lg) w w' ∧ w'.heap.size = w.heap.size := by
  have h1 := hk.used
  have h2 := hk.fit
  have h3 := hk.next
  have H := Lib.hid h
  have HS := Lib.hid (fun w => sof_any n w (by omega))
  unfold LogAt LogS.plus at *
  obtain ⟨fr, sz, us, nx, fl⟩ := l
  unfold LogS.cells at *
  simp only at *
  clear h hk
  go_enter Try.func30, Try.ntmps30
  go_upto_region 0 with fail
  refine wp_region_seq (fun W => Own W lg 64 #[.pointer (some ⟨d, 0, none⟩), .int .i64 (fr : Int), .int .i64 (sz : Int), .int .i64 (us : Int), .int .u64 (nx : Int), .bool fl]) (0 :: 1 :: 2 :: 3 :: 4 :: 6 :: 7 :: 8 :: []) (3 :: []) (0 :: 1 :: 2 :: 3 :: 4 :: 5 :: 6 :: 7 :: 8 :: 9 :: []) (by kernel_rfl) (by kernel_rfl) rfl (by kernel_rfl) rfl (H.out.drawn) (by simp only [picked, List.filterMap_cons, List.filterMap_nil, List.getElem?_cons_zero, List.getElem?_cons_succ, Option.map_some]; exact rfl) ?_
  iterate 5
    refine seq_want (v := ?_) rfl rfl (fun W hS => ?_) ?_
    rotate_left
    · first
        | (conv => lhs; simp [go_sem]
           first | done | exact rfl)
        | (have hS := hS rfl
           obtain ⟨q1, q2, q3⟩ := Own.at_ hS
           conv => lhs; simp [go_sem, *]
           first | done | exact rfl)
    simp only [Act.put, List.setIfInBounds_toArray, List.set_cons_zero, List.set_cons_succ]
  refine seq_on rfl rfl fun K hK => ?_
  go_wp2_with (go_at_call 35; refine (HS.out _).mono ?_; rintro e w' ⟨rfl, rfl⟩)
  refine hK _ _ H.out.drawn ?_
  clear hK K
  obtain ⟨A, hA⟩ : ∃ A : Nat, A = us + (1 + 9 * n) := ⟨_, rfl⟩
  have hw : (us : Int) + (1 + 9 * (n : Int)) = (A : Int) := by omega
  have hw2 : IntKind.i64.wrap ((A : Int)) = (A : Int) := by rw [IntKind.wrap_i64]; omega
  have HA := Lib.hid hA
  clear hA
  iterate 3
    refine seq_want (v := ?_) rfl rfl (fun W hS => ?_) ?_
    rotate_left
    · conv => lhs; simp [go_sem, hw, hw2]
      first | done | exact rfl
    simp only [Act.put, List.setIfInBounds_toArray, List.set_cons_zero, List.set_cons_succ]
  refine seq_last rfl rfl (by kernel_rfl) rfl fun K hK => ?_
  obtain ⟨o1, o2, o3⟩ := Own.at_ H.out.drawn
  go_wp2
  clear o1 o2
  refine hK _ _ ?_
  clear hK K
  refine seq_end ?_
  obtain ⟨W1, hW1⟩ : ∃ W1, W1 = (w.setCell ⟨lg, 3, none⟩ (.int .i64 (A : Int))).drew := ⟨_, rfl⟩
  rw [← hW1]
  have O2 : Own W1 lg 64 #[.pointer (some ⟨d, 0, none⟩), .int .i64 (fr : Int), .int .i64 (sz : Int), .int .i64 (A : Int), .int .u64 (nx : Int), .bool fl] := hW1 ▸ (Own.put H.out 3 (.int .i64 (A : Int))).drawn
  have G2 : Chg (· = lg) w W1 := hW1 ▸ (chg_one w lg 3 _).drew
  have z2 : W1.heap.size = w.heap.size := by rw [hW1]; simp [World.setCell]
  have Z2 := Lib.hid z2
  clear hW1 z2
  replace O2 := Lib.hid O2
  replace G2 := Lib.hid G2
  obtain ⟨o1, o2, o3⟩ := Own.at_ O2.out
  go_wp2
  go_end0
  refine ⟨rfl, ?_, G2.out.same (chg_one _ lg 4 _), by simp [World.setCell]; exact Z2.out⟩
  have e : (((nx + 1) % 18446744073709551616 : Nat) : Int) = ((nx : Int) + 1) % 18446744073709551616 := by omega
  have := Own.put O2.out 4 (.int .u64 (((nx : Int) + 1) % 18446744073709551616))
  rw [HA.out] at this
  rw [e]
  first
    | exact this
    | (simp [IntKind.wrap_u64] at this ⊢; exact this)
end
end Go.Proofs.Ytmincpmkiheofaa
