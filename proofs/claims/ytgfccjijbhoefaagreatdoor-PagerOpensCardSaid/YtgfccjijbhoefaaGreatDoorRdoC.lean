/- merged: The contracts of a disk's Flush and Crash. Conditions: those that each theorem names. What disk.Load refuses. Conditions: those that each theorem names. The contracts of the pager's small functions: places, rooms, texts, marks. Conditions: those that each theorem names. A log as it lies in memory; the contracts of Left, Next, Restart, add, count. Conditions: those that each theorem names. -/
import Derived.Test.YtgfccjijbhoefaaGreatDoorDisE
import Derived.Test.YtgfccjijbhoefaaGreatDoorPgrM
import Derived.Test.YtgfccjijbhoefaaGreatDoorPagD
import Derived.Test.YtgfccjijbhoefaaGreatDoorRdoA
import Derived.BigQuiet
import Derived.Deep.QuietTactic
import Derived.WalkLawsBesides
import Derived.Deep.RegionWith
import Derived.Deep.DeepCutAuto
import Derived.Test.YtgfccjijbhoefaaGreatDoorRdoB
section
namespace Go.Proofs.YtgfccjijbhoefaaGreatDoor
open Go.ChangeShapes Go.WideShapes Go.ChangeAt Go.RowKit
set_option linter.unusedVariables false
set_option linter.unusedSimpArgs false

/-- what Flush answers, and what it leaves -/
def fres (s : St) : Int × St :=
  if s.down then (11, s) else if (burn s).1 then (0, ⟨settled (fun _ => 64) s.wr 0 s.sure, [], (burn s).2.fuse, (burn s).2.down⟩) else (11, (burn s).2)
theorem flush1 (j : Int) (W : World) : Calls Tryz.prog 139 (#[.int .i64 j] ++ #[]) W fun e w' => e = .returned (.int .i64 64) ∧ W = w' := by
  show Calls Tryz.prog 139 #[.int .i64 j] W _
  go_enter Tryz.func139, Tryz.ntmps139
  go_wp2
  go_ret
  exact ⟨rfl, rfl⟩
section
variable {w : World} {d sb mb sc : Nat} {wv : Value} {n : Nat} {s : St}
theorem Wrote.of {w' : World} {s' : St} (h : DiskAt w' d sb mb sc (.slice none 0 0) n s') (hc : Chg (fp d sb mb wv) w w') (hn : wv = .slice none 0 0 ∨ True) : ∃ wv', DiskAt w' d sb mb sc wv' n s' ∧ Chg (fp d sb mb wv) w w' ∧ (wv'.ownBlock = none ∨ wv'.ownBlock = wv.ownBlock) := ⟨_, h, hc, .inl rfl⟩
set_option maxHeartbeats 1000000 in
theorem flush_any (h : DiskAt w d sb mb sc wv n s) :
    Calls Tryz.prog 99 #[.pointer (some ⟨d, 0, none⟩)] w fun e w' => e = .returned (.int .i64 (fres s).1) ∧ ∃ wv', DiskAt w' d sb mb sc wv' n (fres s).2 ∧ Chg (fp d sb mb wv) w w' ∧ (wv'.ownBlock = none ∨ wv'.ownBlock = wv.ownBlock) := by
  have HD := Lib.hid (down_any h)
  have HL := Lib.hid (lasts_any h)
  have H := Lib.hid h
  clear h
  by_cases c1 : s.down = true
  · have E := Lib.hid (show fres s = (11, s) by simp [fres, c1])
    rw [c1] at HD
    clear c1
    go_enter Tryz.func99, Tryz.ntmps99
    go_wp2_with (go_at_call 52; refine HD.out.mono ?_; rintro e w' ⟨rfl, rfl⟩)
    go_ret
    rw [E.out]
    exact ⟨rfl, wv, H.out, Chg.refl _ _, .inr rfl⟩
  have c1 : s.down = false := by simpa using c1
  rw [c1] at HD
  obtain ⟨dn, s1, hb⟩ : ∃ b s1, burn s = (b, s1) := ⟨_, _, rfl⟩
  have HW : s1.wr = s.wr ∧ s1.sure = s.sure := by have := burn_eq s; rw [hb] at this; exact this
  rw [hb] at HL
  cases dn with
  | false =>
    have E := Lib.hid (show fres s = (11, s1) by simp [fres, c1, hb])
    clear c1 hb
    go_enter Tryz.func99, Tryz.ntmps99
    go_wp2_with (first | (go_at_call 52; refine HD.out.mono ?_; rintro e w' ⟨rfl, rfl⟩) | (go_at_call 138; refine HL.out.mono ?_; rintro e w1 ⟨rfl, h1, h2, h3⟩))
    go_ret
    rw [E.out]
    exact ⟨rfl, wv, h1, h2.mono fun q _ e => .inl e, .inr rfl⟩
  | true =>
    have E := Lib.hid (show fres s = (0, ⟨settled (fun _ => 64) s1.wr 0 s1.sure, [], s1.fuse, s1.down⟩) by simp [fres, c1, hb, HW.1, HW.2])
    clear c1 hb HW
    go_enter Tryz.func99, Tryz.ntmps99
    go_wp2_with (first | (go_at_call 52; refine HD.out.mono ?_; rintro e w' ⟨rfl, rfl⟩) | (go_at_call 138; refine HL.out.mono ?_; rintro e w1 ⟨rfl, h1, h2, h3⟩) | (go_at_call 73; refine (settle_any h1 139 #[] (fun _ => 64) (fun _ _ => Nat.le_refl _) (enter_fn Tryz.func139 rfl rfl) (fun W j _ _ => flush1 _ _)).mono ?_; rintro e w2 ⟨rfl, h4, h5⟩))
    go_ret
    rw [E.out]
    exact ⟨rfl, _, h4, (h2.mono (T := fp d sb mb wv) fun q _ e => .inl e).same h5, .inl rfl⟩
end
end Go.Proofs.YtgfccjijbhoefaaGreatDoor
end
section
namespace Go.Proofs.YtgfccjijbhoefaaGreatDoor
open Go.ChangeShapes Go.WideShapes Go.ChangeAt Go.RowKit
set_option linter.unusedVariables false
set_option linter.unusedSimpArgs false

theorem load_no (w : World) (s : ByteArray) (h : ¬ s.size % 64 = 0 ∨ s.size = 0 ∨ 65536 * 64 < s.size) (hm : s.size ≤ 9223372036854775807) :
    Calls Tryz.prog 37 #[.string s] w fun e w' => e = .returned (.tuple #[.pointer none, .int .i64 1]) ∧ w = w' := by
  by_cases c : s.size % 64 = 0
  · have HI := isCount_any ((s.size : Int) / 64) w (wf_mk (by omega) (by omega))
    have e1 : (decide (1 ≤ (s.size : Int) / 64) && decide ((s.size : Int) / 64 ≤ 65536)) = false := by simp; omega
    rw [e1] at HI
    replace HI := Lib.hid HI
    have t1 : ((s.size : Int) % 64 == 0) = true := by simp; omega
    have t1' : ((s.size : Int) % 64 != 0) = false := by simp; omega
    clear e1 c h
    go_enter Tryz.func37, Tryz.ntmps37
    go_wp2_with (first | (go_at_call 42; refine HI.out.mono ?_; rintro e w' ⟨rfl, rfl⟩))
    go_ret2
    exact ⟨rfl, rfl⟩
  · have t1 : ((s.size : Int) % 64 == 0) = false := by simp; omega
    have t1' : ((s.size : Int) % 64 != 0) = true := by simp; simp at t1; exact t1
    clear c h
    go_enter Tryz.func37, Tryz.ntmps37
    go_wp2
    go_ret2
    exact ⟨rfl, rfl⟩
end Go.Proofs.YtgfccjijbhoefaaGreatDoor
end
section
namespace Go.Proofs.YtgfccjijbhoefaaGreatDoor
open Go.ChangeShapes Go.WideShapes Go.ChangeAt Go.RowKit
set_option linter.unusedVariables false
set_option linter.unusedSimpArgs false

/-- a layout as a value, a page -/
def layV (d ll : Nat) : Value := .agg #[.pointer (some ⟨d, 0, none⟩), .int .i64 (ll : Int)]
def shV (no : Nat) (x : Pag) : Value := .agg #[.int .i64 (no : Int), .int .i64 (x.1 : Int), .string x.2]
def zerS : Value := .agg #[.int .i64 0, .int .i64 0, .string ⟨#[]⟩]
theorem box_one (w : World) (T : TypeId) (cs : Array Value) : Below w.heap.size w (w.alloc (.cells cs T)) := (Below.refl _ _).alloc (Nat.le_refl _) _

theorem kind_any (k : Int) (w : World) : Calls Tryz.prog 60 #[.int .i64 k] w fun e w' => e = .returned (.bool (decide (2 ≤ k) && decide (k ≤ 254))) ∧ w = w' := by
  by_cases h1 : 2 ≤ k
  · by_cases h2 : k ≤ 254
    · go_enter Tryz.func60, Tryz.ntmps60
      go_wp2
      go_ret
      exact ⟨retb_eq (by simp [h1, h2]), rfl⟩
    · go_enter Tryz.func60, Tryz.ntmps60
      go_wp2
      go_ret
      exact ⟨retb_eq (by simp [h2]), rfl⟩
  · go_enter Tryz.func60, Tryz.ntmps60
    go_wp2
    go_ret
    exact ⟨retb_eq (by simp; omega), rfl⟩
theorem place_any (d ll no : Nat) (w : World) (h1 : ll ≤ 100000) (h2 : no ≤ 4294967296) : Calls Tryz.prog 90 #[layV d ll, .int .i64 (no : Int)] w fun e w' => e = .returned (.int .i64 ((2 + ll + no * 8 : Nat) : Int)) ∧ Below w.heap.size w w' := by
  unfold layV
  go_enter Tryz.func90, Tryz.ntmps90
  go_wp2
  go_ret
  exact ⟨ret_eq (by omega), box_one _ _ _⟩
theorem full_any (t : ByteArray) (w : World) (h : t.size ≤ 496) : Calls Tryz.prog 94 #[.string t] w fun e w' => e = .returned (.string (fl t)) ∧ Below w.heap.size w w' := by
  have HR := Lib.hid (Pg.repeat_any (496 - t.size) w (by omega))
  rw [show ((496 - t.size : Nat) : Int) = 496 - (t.size : Int) by omega] at HR
  have HE := Lib.hid (show fl t = t ++ zB (496 - t.size) from rfl)
  obtain ⟨Z, hZ, hZz⟩ : ∃ Z : ByteArray, Z = zB (496 - t.size) ∧ Z.size ≤ 496 := ⟨_, rfl, by rw [zB_size]; omega⟩
  rw [← hZ] at HR HE
  clear hZ
  go_enter Tryz.func94, Tryz.ntmps94
  go_wp2_with (go_at_call 45; refine HR.out.mono ?_; rintro e w2 ⟨rfl, hb⟩)
  go_ret
  rw [HE.out]
  exact ⟨rfl, hb⟩
set_option maxRecDepth 10000 in
theorem bytes_any (no : Nat) (x : Pag) (w : World) (hx : PagOk x) (hn : no ≤ 2147483647) : Calls Tryz.prog 92 #[shV no x] w fun e w' => e = .returned (.string (pgB x.1 no x.2)) ∧ Below w.heap.size w w' := by
  obtain ⟨k, r⟩ := x
  obtain ⟨h1, h2, h3⟩ := hx
  simp only at h1 h2 h3
  have HP := Lib.hid (fun w => Pg.pack_yes k no r w h1 h2 hn (by omega))
  obtain ⟨PG, hPG⟩ : ∃ PG, PG = pgB k no r := ⟨_, rfl⟩
  unfold shV
  simp only
  rw [← hPG] at HP ⊢
  clear hPG
  go_enter Tryz.func92, Tryz.ntmps92
  go_wp2_with (go_at_call 135; refine (HP.out _).mono ?_; rintro e w2 ⟨rfl, hb⟩)
  go_ret
  exact ⟨rfl, then_ (box_one _ _ _) hb (by simp)⟩
set_option maxRecDepth 10000 in
theorem sheetOf_any (no : Nat) (s : ByteArray) (w : World) (hs : s.size ≤ 9223372036854775807) : Calls Tryz.prog 111 #[.int .i64 (no : Int), .string s] w fun e w' =>
    e = .returned (.tuple #[if Pg.uE s no = 0 then shV no (Pg.uK s no, Pg.uT s no) else zerS, .int .i64 (Pg.uE s no : Nat)]) ∧ Below w.heap.size w w' := by
  have HU := Lib.hid (fun w => Pg.unpack_any s (no : Int) w hs)
  obtain ⟨E, hE⟩ : ∃ E, E = Pg.uE s no := ⟨_, rfl⟩
  obtain ⟨K, hK⟩ : ∃ K, K = Pg.uK s no := ⟨_, rfl⟩
  obtain ⟨T, hT⟩ : ∃ T, T = Pg.uT s no := ⟨_, rfl⟩
  rw [← hE, ← hK, ← hT] at HU ⊢
  clear hE hK hT
  by_cases h : E = 0
  · subst h
    rw [if_pos rfl]
    unfold shV
    simp only
    go_enter Tryz.func111, Tryz.ntmps111
    go_wp2_with (go_at_call 149; refine (HU.out _).mono ?_; rintro e w2 ⟨rfl, hb⟩; have O := Own.keep (Own.made w 87 #[.int .i64 0, .int .i64 0, .string ⟨#[]⟩]) hb; obtain ⟨o1, o2, o3⟩ := O.at_)
    refine bodyPost_ret (by simp [results, Tryz.results111, go_sem, *]) rfl ⟨rfl, ?_⟩
    have hb2 := then_ (box_one w 87 #[.int .i64 0, .int .i64 0, .string ⟨#[]⟩]) hb (by simp)
    clear hb o1 o2 o3 O
    repeat' (first | (with_reducible exact Below.refl _ _) | (with_reducible assumption) | (with_reducible refine below_drewN ?_ _) | (with_reducible refine Below.drew ?_) | (with_reducible refine Below.alloc ?_ ?_ _) | (with_reducible refine Below.setCell ?_ ?_ _) | (with_reducible refine then_ ?_ (by with_reducible assumption) ?_) | (with_reducible exact Nat.le_refl _) | (with_reducible exact Nat.le_succ _) | (with_reducible exact Nat.le_succ_of_le (by with_reducible assumption)) | omega | (simp; done) | (simp; omega) | (exact Nat.le_succ _) | (exact Nat.le_succ_of_le (by with_reducible assumption)))
  · rw [if_neg h]
    unfold zerS
    have t0 : ((E : Int) != 0) = true := by simp; omega
    clear h
    go_enter Tryz.func111, Tryz.ntmps111
    go_wp2_with (go_at_call 149; refine (HU.out _).mono ?_; rintro e w2 ⟨rfl, hb⟩; have O := Own.keep (Own.made w 87 #[.int .i64 0, .int .i64 0, .string ⟨#[]⟩]) hb; obtain ⟨o1, o2, o3⟩ := O.at_)
    refine bodyPost_ret (by simp [results, Tryz.results111, go_sem, *]) rfl ⟨rfl, ?_⟩
    have hb2 := then_ (box_one w 87 #[.int .i64 0, .int .i64 0, .string ⟨#[]⟩]) hb (by simp)
    clear hb o1 o2 o3 O
    repeat' (first | (with_reducible exact Below.refl _ _) | (with_reducible assumption) | (with_reducible refine below_drewN ?_ _) | (with_reducible refine Below.drew ?_) | (with_reducible refine Below.alloc ?_ ?_ _) | (with_reducible refine Below.setCell ?_ ?_ _) | (with_reducible refine then_ ?_ (by with_reducible assumption) ?_) | (with_reducible exact Nat.le_refl _) | (with_reducible exact Nat.le_succ _) | (with_reducible exact Nat.le_succ_of_le (by with_reducible assumption)) | omega | (simp; done) | (simp; omega) | (exact Nat.le_succ _) | (exact Nat.le_succ_of_le (by with_reducible assumption)))
theorem mtext_any (f ll : Nat) (w : World) (hf : f ≤ 18446744073709551615) (hl : ll ≤ 18446744073709551615) : Calls Tryz.prog 101 #[.int .u64 (f : Int), .int .u64 (ll : Int)] w fun e w' =>
    e = .returned (.string (⟨(putL f 8).toArray⟩ ++ ⟨(putL ll 4).toArray⟩)) ∧ Below w.heap.size w w' := by
  have H1 := Lib.hid (fun w => show Calls Tryz.prog 93 #[.int .u64 (f : Int), .int .i64 8] w fun e w' => e = .returned (.string ⟨(putL f 8).toArray⟩) ∧ w' = w.alloc (.cells (putCells f 8) 192) from put_yes f 8 w hf (by omega))
  have H2 := Lib.hid (fun w => show Calls Tryz.prog 93 #[.int .u64 (ll : Int), .int .i64 4] w fun e w' => e = .returned (.string ⟨(putL ll 4).toArray⟩) ∧ w' = w.alloc (.cells (putCells ll 4) 192) from put_yes ll 4 w hl (by omega))
  obtain ⟨A, hA, hAz⟩ : ∃ A : ByteArray, A = ⟨(putL f 8).toArray⟩ ∧ A.size = 8 := ⟨_, rfl, by rw [put_text_size, putL_len]⟩
  obtain ⟨B, hB, hBz⟩ : ∃ B : ByteArray, B = ⟨(putL ll 4).toArray⟩ ∧ B.size = 4 := ⟨_, rfl, by rw [put_text_size, putL_len]⟩
  rw [← hA] at H1 ⊢
  rw [← hB] at H2 ⊢
  obtain ⟨C1, hC1⟩ : ∃ C1, C1 = putCells f 8 := ⟨_, rfl⟩
  obtain ⟨C2, hC2⟩ : ∃ C2, C2 = putCells ll 4 := ⟨_, rfl⟩
  rw [← hC1] at H1
  rw [← hC2] at H2
  clear hA hB hC1 hC2
  go_enter Tryz.func101, Tryz.ntmps101
  go_wp2_with (go_at_call 93; first | (with_reducible refine (H1.out _).mono ?_; rintro e w2 ⟨rfl, rfl⟩) | (with_reducible refine (H2.out _).mono ?_; rintro e w2 ⟨rfl, rfl⟩))
  go_ret
  exact ⟨rfl, (box_one _ _ _).alloc (by simp) _⟩
end Go.Proofs.YtgfccjijbhoefaaGreatDoor
end
section
namespace Go.Proofs.YtgfccjijbhoefaaGreatDoor
open Go.ChangeShapes Go.WideShapes Go.ChangeAt Go.RowKit
set_option linter.unusedVariables false
set_option linter.unusedSimpArgs false

/-- what a log is, beside its disk -/
structure LogS where
  from_ : Nat
  size : Nat
  used : Nat
  next : Nat
  failed : Bool
structure LogS.Ok (l : LogS) : Prop where
  fit : l.from_ + l.size ≤ 65536
  used : l.used ≤ l.size
  next : l.next ≤ 18446744073709551615
def LogS.left (l : LogS) : Nat := if l.failed then 0 else l.size - l.used
/-- n pages more -/
def LogS.plus (l : LogS) (n : Nat) : LogS := { l with used := l.used + (1 + 9 * n), next := (l.next + 1) % 18446744073709551616 }
def LogS.cells (l : LogS) (d : Nat) : Array Value := #[.pointer (some ⟨d, 0, none⟩), .int .i64 (l.from_ : Int), .int .i64 (l.size : Int), .int .i64 (l.used : Int), .int .u64 (l.next : Int), .bool l.failed]
def LogAt (w : World) (lg d : Nat) (l : LogS) : Prop := Own w lg 157 (l.cells d)
theorem LogS.left_le (l : LogS) : l.left ≤ l.size := by unfold LogS.left; split <;> omega
theorem LogS.plus_ok {l : LogS} (h : l.Ok) {n : Nat} (hf : l.failed = false) (hn : 1 + 9 * n ≤ l.left) : (l.plus n).Ok := by
  have := h.used
  unfold LogS.left at hn
  rw [hf] at hn
  simp only [Bool.false_eq_true, if_false] at hn
  exact ⟨h.fit, by show l.used + (1 + 9 * n) ≤ l.size; omega, by show (l.next + 1) % 18446744073709551616 ≤ _; omega⟩

section
variable {w : World} {lg d : Nat} {l : LogS}
set_option maxRecDepth 10000 in
theorem left_any (h : LogAt w lg d l) (hk : l.Ok) : Calls Tryz.prog 143 #[.pointer (some ⟨lg, 0, none⟩)] w fun e w' => e = .returned (.int .i64 (l.left : Nat)) ∧ ∃ q, w' = w.drewN q := by
  have h1 := hk.used
  have h2 := hk.fit
  obtain ⟨o1, o2, o3⟩ := Own.at_ (show Own w lg _ (l.cells d) from h)
  unfold LogS.left
  obtain ⟨fr, sz, us, nx, fl⟩ := l
  simp only at h1 h2
  unfold LogS.cells at o1
  replace h := Lib.hid (show Own w lg _ (LogS.cells ⟨fr, sz, us, nx, fl⟩ d) from h)
  clear hk
  simp only at o1
  cases fl with
  | true =>
    go_enter Tryz.func143, Tryz.ntmps143
    go_wp2
    go_ret
    exact ⟨rfl, 0, rfl⟩
  | false =>
    go_enter Tryz.func143, Tryz.ntmps143
    go_upto_region 3 with fail
    have hw : IntKind.i64.wrap ((sz : Int) - (us : Int)) = (sz : Int) - (us : Int) := by rw [IntKind.wrap_i64]; omega
    have O := Lib.hid (show Own w lg 157 #[.pointer (some ⟨d, 0, none⟩), .int .i64 (fr : Int), .int .i64 (sz : Int), .int .i64 (us : Int), .int .u64 (nx : Int), .bool false] from h.out)
    refine wp_region_seq (fun W => Own W lg 157 #[.pointer (some ⟨d, 0, none⟩), .int .i64 (fr : Int), .int .i64 (sz : Int), .int .i64 (us : Int), .int .u64 (nx : Int), .bool false]) (0 :: 1 :: 2 :: 3 :: 4 :: 5 :: 6 :: 7 :: 8 :: 9 :: []) (3 :: 7 :: []) (0 :: 1 :: 2 :: 3 :: 4 :: 5 :: 6 :: 7 :: 8 :: 9 :: []) (by kernel_rfl) (by kernel_rfl) rfl (by kernel_rfl) rfl (O.out.drawn) (by simp only [picked, List.filterMap_cons, List.filterMap_nil, List.getElem?_cons_zero, List.getElem?_cons_succ, Option.map_some]; exact rfl) ?_
    iterate 10
      refine seq_want (v := ?_) rfl rfl (fun W hS => ?_) ?_
      rotate_left
      · first
          | (conv => lhs; simp [go_sem, hw]
             first | done | exact rfl)
          | (have hS := hS rfl
             obtain ⟨q1, q2, q3⟩ := Own.at_ hS
             conv => lhs; simp [go_sem, *, hw]
             first | done | exact rfl)
      simp only [Act.put, List.setIfInBounds_toArray, List.set_cons_zero, List.set_cons_succ]
    refine seq_end ?_
    go_wp2
    go_ret
    exact ⟨ret_eq (by first | omega | (simp only [Bool.false_eq_true, if_false]; omega)), 1, rfl⟩
theorem next_any (h : LogAt w lg d l) : Calls Tryz.prog 126 #[.pointer (some ⟨lg, 0, none⟩)] w fun e w' => e = .returned (.int .u64 (l.next : Nat)) ∧ w = w' := by
  obtain ⟨o1, o2, o3⟩ := Own.at_ (show Own w lg _ (l.cells d) from h)
  unfold LogS.cells at o1
  clear h
  go_enter Tryz.func126, Tryz.ntmps126
  go_wp2
  go_ret
  exact ⟨rfl, rfl⟩
theorem restart_yes (h : LogAt w lg d l) (hf : l.failed = false) : Calls Tryz.prog 127 #[.pointer (some ⟨lg, 0, none⟩)] w fun e w' => e = .returned (.int .i64 0) ∧ LogAt w' lg d { l with used := 0 } ∧ Chg (· = lg) w w' ∧ w'.heap.size = w.heap.size := by
  have H := Lib.hid h
  obtain ⟨o1, o2, o3⟩ := Own.at_ (show Own w lg _ (l.cells d) from h)
  unfold LogS.cells at o1
  rw [hf] at o1
  clear h hf
  go_enter Tryz.func127, Tryz.ntmps127
  go_wp2
  go_ret
  exact ⟨rfl, Own.put H.out 3 _, chg_one _ _ _ _, by simp [World.setCell]⟩
set_option maxRecDepth 10000 in
theorem add_any (h : LogAt w lg d l) (hk : l.Ok) (n : Nat) (hn : n ≤ 1000) : Calls Tryz.prog 109 #[.pointer (some ⟨lg, 0, none⟩), .int .i64 (n : Int)] w fun e w' => e = .returned (.tuple #[]) ∧ LogAt w' lg d (l.plus n) ∧ Chg (· = lg) w w' ∧ w'.heap.size = w.heap.size := by
  have h1 := hk.used
  have h2 := hk.fit
  have h3 := hk.next
  have H := Lib.hid h
  have HS := Lib.hid (fun w => sof_any n w (by omega))
  unfold LogAt LogS.plus at *
  obtain ⟨fr, sz, us, nx, fl⟩ := l
  unfold LogS.cells at *
  simp only at *
  clear h hk
  go_enter Tryz.func109, Tryz.ntmps109
  go_upto_region 0 with fail
  refine wp_region_seq (fun W => Own W lg 157 #[.pointer (some ⟨d, 0, none⟩), .int .i64 (fr : Int), .int .i64 (sz : Int), .int .i64 (us : Int), .int .u64 (nx : Int), .bool fl]) (0 :: 1 :: 2 :: 3 :: 4 :: 6 :: 7 :: 8 :: []) (3 :: []) (0 :: 1 :: 2 :: 3 :: 4 :: 5 :: 6 :: 7 :: 8 :: 9 :: []) (by kernel_rfl) (by kernel_rfl) rfl (by kernel_rfl) rfl (H.out.drawn) (by simp only [picked, List.filterMap_cons, List.filterMap_nil, List.getElem?_cons_zero, List.getElem?_cons_succ, Option.map_some]; exact rfl) ?_
  iterate 5
    refine seq_want (v := ?_) rfl rfl (fun W hS => ?_) ?_
    rotate_left
    · first
        | (conv => lhs; simp [go_sem]
           first | done | exact rfl)
        | (have hS := hS rfl
           obtain ⟨q1, q2, q3⟩ := Own.at_ hS
           conv => lhs; simp [go_sem, *]
           first | done | exact rfl)
    simp only [Act.put, List.setIfInBounds_toArray, List.set_cons_zero, List.set_cons_succ]
  refine seq_on rfl rfl fun K hK => ?_
  go_wp2_with (go_at_call 147; refine (HS.out _).mono ?_; rintro e w' ⟨rfl, rfl⟩)
  refine hK _ _ H.out.drawn ?_
  clear hK K
  obtain ⟨A, hA⟩ : ∃ A : Nat, A = us + (1 + 9 * n) := ⟨_, rfl⟩
  have hw : (us : Int) + (1 + 9 * (n : Int)) = (A : Int) := by omega
  have hw2 : IntKind.i64.wrap ((A : Int)) = (A : Int) := by rw [IntKind.wrap_i64]; omega
  have HA := Lib.hid hA
  clear hA
  iterate 3
    refine seq_want (v := ?_) rfl rfl (fun W hS => ?_) ?_
    rotate_left
    · conv => lhs; simp [go_sem, hw, hw2]
      first | done | exact rfl
    simp only [Act.put, List.setIfInBounds_toArray, List.set_cons_zero, List.set_cons_succ]
  refine seq_last rfl rfl (by kernel_rfl) rfl fun K hK => ?_
  obtain ⟨o1, o2, o3⟩ := Own.at_ H.out.drawn
  go_wp2
  clear o1 o2
  refine hK _ _ ?_
  clear hK K
  refine seq_end ?_
  obtain ⟨W1, hW1⟩ : ∃ W1, W1 = (w.setCell ⟨lg, 3, none⟩ (.int .i64 (A : Int))).drew := ⟨_, rfl⟩
  rw [← hW1]
  have O2 : Own W1 lg 157 #[.pointer (some ⟨d, 0, none⟩), .int .i64 (fr : Int), .int .i64 (sz : Int), .int .i64 (A : Int), .int .u64 (nx : Int), .bool fl] := hW1 ▸ (Own.put H.out 3 (.int .i64 (A : Int))).drawn
  have G2 : Chg (· = lg) w W1 := hW1 ▸ (chg_one w lg 3 _).drew
  have z2 : W1.heap.size = w.heap.size := by rw [hW1]; simp [World.setCell]
  have Z2 := Lib.hid z2
  clear hW1 z2
  replace O2 := Lib.hid O2
  replace G2 := Lib.hid G2
  obtain ⟨o1, o2, o3⟩ := Own.at_ O2.out
  go_wp2
  go_end0
  refine ⟨rfl, ?_, G2.out.same (chg_one _ lg 4 _), by simp [World.setCell]; exact Z2.out⟩
  have e : (((nx + 1) % 18446744073709551616 : Nat) : Int) = ((nx : Int) + 1) % 18446744073709551616 := by omega
  have := Own.put O2.out 4 (.int .u64 (((nx : Int) + 1) % 18446744073709551616))
  rw [HA.out] at this
  rw [e]
  first
    | exact this
    | (simp [IntKind.wrap_u64] at this ⊢; exact this)
end
end Go.Proofs.YtgfccjijbhoefaaGreatDoor
end
