
/- The contracts of a disk's Flush and Crash. Conditions: those that each theorem names. -/
import Derived.Test.YtmincpmkiheofaaDisE
namespace Go.Proofs.Ytmincpmkiheofaa
open Go.ChangeShapes Go.WideShapes Go.ChangeAt Go.RowKit
set_option linter.unusedVariables false
set_option linter.unusedSimpArgs false

/-- what Flush answers, and what it leaves -/
def fres (s : St) : Int × St :=
  if s.down then (11, s) else if (burn s).1 then (0, ⟨settled (fun _ => 64) s.wr 0 s.sure, [], (burn s).2.fuse, (burn s).2.down⟩) else (11, (burn s).2)
theorem flush1 (j : Int) (W : World) : Calls Try.prog 63 (#[.int .i64 j] ++ #[]) W fun e w' => e = .returned (.int .i64 64) ∧ W = w' := by
  show Calls Try.prog 63 #[.int .i64 j] W _
  go_enter Try.func63, Try.ntmps63
  go_wp2
  go_ret
  exact ⟨rfl, rfl⟩
/-- a slice of bools that came in -/
def IsBools (w : World) (a : Option Addr) (len cap : Nat) (zs : List Bool) : Prop :=
  len ≤ cap ∧ cap ≤ maxLen ∧ (len = 0 ∨ ∃ b o, a = some ⟨b, o, none⟩ ∧ ∀ i, i < len → w.cell? ⟨b, o + i, none⟩ = some (.bool (zs.getD i false)))
/-- how many bytes of the write of number j a crash keeps -/
def ckeep (len : Nat) (zs : List Bool) (torn bytes : Int) (j : Nat) : Nat := if (j : Int) = torn then min bytes.toNat 64 else if j < len ∧ zs.getD j false = true then 64 else 0
theorem ckeep_le (len : Nat) (zs : List Bool) (torn bytes : Int) (j : Nat) : ckeep len zs torn bytes j ≤ 64 := by
  unfold ckeep
  split
  · omega
  · split <;> omega
theorem crash1 (W : World) (j : Nat) (p1 p2 p3 : Nat) (a : Option Addr) (len cap : Nat) (zs : List Bool) (torn bytes : Int) (h1 : W.cell? ⟨p1, 0, none⟩ = some (.int .i64 torn)) (h2 : W.cell? ⟨p2, 0, none⟩ = some (.int .i64 bytes)) (h3 : W.cell? ⟨p3, 0, none⟩ = some (.slice a len cap))
    (hz : IsBools W a len cap zs) (hj : j < 1000000) :
    Calls Try.prog 32 (#[.int .i64 (j : Int)] ++ #[.pointer (some ⟨p1, 0, none⟩), .pointer (some ⟨p2, 0, none⟩), .pointer (some ⟨p3, 0, none⟩)]) W fun e w' => e = .returned (.int .i64 (ckeep len zs torn bytes j : Nat)) ∧ W = w' := by
  show Calls Try.prog 32 #[.int .i64 (j : Int), .pointer (some ⟨p1, 0, none⟩), .pointer (some ⟨p2, 0, none⟩), .pointer (some ⟨p3, 0, none⟩)] W _
  by_cases c1 : (j : Int) = torn
  · have E := Lib.hid (show ckeep len zs torn bytes j = min bytes.toNat 64 by unfold ckeep; rw [if_pos c1])
    have c1 : ((j : Int) == torn) = true := by simpa using c1
    go_enter Try.func32, Try.ntmps32
    go_wp2_with (go_at_call 33; refine (part_any _ _).mono ?_; rintro e w' ⟨rfl, rfl⟩)
    go_ret
    rw [E.out]
    exact ⟨rfl, rfl⟩
  · have t1 : ((j : Int) == torn) = false := by simpa using c1
    by_cases c2 : j < len
    · obtain ⟨x, hx⟩ : ∃ x, x = zs.getD j false := ⟨_, rfl⟩
      obtain ⟨hl, hc, hz⟩ := hz
      rcases hz with h | ⟨b, o, rfl, hcell⟩
      · omega
      have hcj := hcell j c2
      rw [← hx] at hcj
      unfold maxLen at hc
      have E := Lib.hid (show ckeep len zs torn bytes j = if x = true then 64 else 0 by unfold ckeep; rw [if_neg c1, ← hx]; simp [c2])
      clear hcell hx c1
      cases x with
      | true =>
        go_enter Try.func32, Try.ntmps32
        go_wp2
        go_ret
        rw [E.out]
        exact ⟨rfl, rfl⟩
      | false =>
        go_enter Try.func32, Try.ntmps32
        go_wp2
        go_ret
        rw [E.out]
        exact ⟨rfl, rfl⟩
    · have E := Lib.hid (show ckeep len zs torn bytes j = 0 by unfold ckeep; rw [if_neg c1, if_neg (by omega)])
      have hm : len ≤ 9223372036854775807 := by omega
      clear c1
      go_enter Try.func32, Try.ntmps32
      go_wp2
      go_ret
      rw [E.out]
      exact ⟨rfl, rfl⟩
theorem nil_down (w : World) : Calls Try.prog 16 #[.pointer none] w fun e w' => e = .returned (.bool true) ∧ w = w' := by
  go_enter Try.func16, Try.ntmps16
  go_wp2
  go_ret
  exact ⟨rfl, rfl⟩
theorem nil_len (w : World) : Calls Try.prog 24 #[.pointer none] w fun e w' => e = .returned (.int .i64 0) ∧ w = w' := by
  go_enter Try.func24, Try.ntmps24
  go_wp2
  go_ret
  exact ⟨rfl, rfl⟩
theorem nil_pending (w : World) : Calls Try.prog 25 #[.pointer none] w fun e w' => e = .returned (.int .i64 0) ∧ w = w' := by
  go_enter Try.func25, Try.ntmps25
  go_wp2
  go_ret
  exact ⟨rfl, rfl⟩
theorem nil_image (w : World) : Calls Try.prog 20 #[.pointer none] w fun e w' => e = .returned (.string ⟨#[]⟩) ∧ w = w' := by
  go_enter Try.func20, Try.ntmps20
  go_wp2
  go_ret
  exact ⟨rfl, rfl⟩
theorem nil_fuse (f : Int) (w : World) : Calls Try.prog 11 #[.pointer none, .int .i64 f] w fun e w' => e = .returned (.tuple #[]) ∧ w = w' := by
  go_enter Try.func11, Try.ntmps11
  go_wp2
  go_end0
  exact ⟨rfl, rfl⟩
section
variable {w : World} {d sb mb sc : Nat} {wv : Value} {n : Nat} {s : St}
theorem Wrote.of {w' : World} {s' : St} (h : DiskAt w' d sb mb sc (.slice none 0 0) n s') (hc : Chg (fp d sb mb wv) w w') (hn : wv = .slice none 0 0 ∨ True) : ∃ wv', DiskAt w' d sb mb sc wv' n s' ∧ Chg (fp d sb mb wv) w w' ∧ (wv'.ownBlock = none ∨ wv'.ownBlock = wv.ownBlock) := ⟨_, h, hc, .inl rfl⟩
set_option maxHeartbeats 1000000 in
theorem flush_any (h : DiskAt w d sb mb sc wv n s) :
    Calls Try.prog 48 #[.pointer (some ⟨d, 0, none⟩)] w fun e w' => e = .returned (.int .i64 (fres s).1) ∧ ∃ wv', DiskAt w' d sb mb sc wv' n (fres s).2 ∧ Chg (fp d sb mb wv) w w' ∧ (wv'.ownBlock = none ∨ wv'.ownBlock = wv.ownBlock) := by
  have HD := Lib.hid (down_any h)
  have HL := Lib.hid (lasts_any h)
  have H := Lib.hid h
  clear h
  by_cases c1 : s.down = true
  · have E := Lib.hid (show fres s = (11, s) by simp [fres, c1])
    rw [c1] at HD
    clear c1
    go_enter Try.func48, Try.ntmps48
    go_wp2_with (go_at_call 16; refine HD.out.mono ?_; rintro e w' ⟨rfl, rfl⟩)
    go_ret
    rw [E.out]
    exact ⟨rfl, wv, H.out, Chg.refl _ _, .inr rfl⟩
  have c1 : s.down = false := by simpa using c1
  rw [c1] at HD
  obtain ⟨dn, s1, hb⟩ : ∃ b s1, burn s = (b, s1) := ⟨_, _, rfl⟩
  have HW : s1.wr = s.wr ∧ s1.sure = s.sure := by have := burn_eq s; rw [hb] at this; exact this
  rw [hb] at HL
  cases dn with
  | false =>
    have E := Lib.hid (show fres s = (11, s1) by simp [fres, c1, hb])
    clear c1 hb
    go_enter Try.func48, Try.ntmps48
    go_wp2_with (first | (go_at_call 16; refine HD.out.mono ?_; rintro e w' ⟨rfl, rfl⟩) | (go_at_call 60; refine HL.out.mono ?_; rintro e w1 ⟨rfl, h1, h2, h3⟩))
    go_ret
    rw [E.out]
    exact ⟨rfl, wv, h1, h2.mono fun q _ e => .inl e, .inr rfl⟩
  | true =>
    have E := Lib.hid (show fres s = (0, ⟨settled (fun _ => 64) s1.wr 0 s1.sure, [], s1.fuse, s1.down⟩) by simp [fres, c1, hb, HW.1, HW.2])
    clear c1 hb HW
    go_enter Try.func48, Try.ntmps48
    go_wp2_with (first | (go_at_call 16; refine HD.out.mono ?_; rintro e w' ⟨rfl, rfl⟩) | (go_at_call 60; refine HL.out.mono ?_; rintro e w1 ⟨rfl, h1, h2, h3⟩) | (go_at_call 31; refine (settle_any h1 63 #[] (fun _ => 64) (fun _ _ => Nat.le_refl _) (enter_fn Try.func63 rfl rfl) (fun W j _ _ => flush1 _ _)).mono ?_; rintro e w2 ⟨rfl, h4, h5⟩))
    go_ret
    rw [E.out]
    exact ⟨rfl, _, h4, (h2.mono (T := fp d sb mb wv) fun q _ e => .inl e).same h5, .inl rfl⟩
/-- what Crash leaves -/
def cres (s : St) (len : Nat) (zs : List Bool) (torn bytes : Int) : St := ⟨settled (ckeep len zs torn bytes) s.wr 0 s.sure, [], -1, false⟩
set_option maxHeartbeats 1000000 in
theorem crash_any (h : DiskAt w d sb mb sc wv n s) (a : Option Addr) (len cap : Nat) (zs : List Bool) (torn bytes : Int) (hz : IsBools w a len cap zs) (hsb : ∀ b o, a = some ⟨b, o, none⟩ → 0 < len → b ≠ sb) :
    Calls Try.prog 12 #[.pointer (some ⟨d, 0, none⟩), .slice a len cap, .int .i64 torn, .int .i64 bytes] w fun e w' => e = .returned (.tuple #[]) ∧ DiskAt w' d sb mb sc (.slice none 0 0) n (cres s len zs torn bytes) ∧ Chg (fp d sb mb wv) w w' := by
  have H := Lib.hid h
  replace hz := Lib.hid hz
  replace hsb := Lib.hid hsb
  have hfew := h.ok.few
  clear h
  obtain ⟨W0, hW0⟩ : ∃ W0, W0 = ((w.alloc (.cells #[.slice a len cap] 36)).alloc (.cells #[.int .i64 torn] 3)).alloc (.cells #[.int .i64 bytes] 3) := ⟨_, rfl⟩
  have B0 : Below w.heap.size w W0 := hW0 ▸ (((Below.refl _ _).alloc (Nat.le_refl _) _).alloc (by simp) _).alloc (by simp; omega) _
  have O1 : Own W0 w.heap.size 36 #[.slice a len cap] := hW0 ▸ ((Own.made _ _ _).more _).more _
  have O2 : Own W0 (w.heap.size + 1) 3 #[.int .i64 torn] := hW0 ▸ (Own.made_at (by simp)).more _
  have O3 : Own W0 (w.heap.size + 1 + 1) 3 #[.int .i64 bytes] := hW0 ▸ Own.made_at (by simp)
  have zs0 := H.out.in_ (q := sb) (.inr (.inl rfl))
  have zd0 := H.out.in_ (q := d) (.inl rfl)
  have HS := Lib.hid (settle_any (H.out.below B0) 32 #[.pointer (some ⟨w.heap.size + 1, 0, none⟩), .pointer (some ⟨w.heap.size + 1 + 1, 0, none⟩), .pointer (some ⟨w.heap.size, 0, none⟩)] (ckeep len zs torn bytes) (fun j _ => ckeep_le _ _ _ _ _) (enter_fn Try.func32 rfl rfl) (fun W j hj hW => crash1 W j _ _ _ a len cap zs torn bytes
      (hW.cell (O2.at_.1 0) (by omega)) (hW.cell (O3.at_.1 0) (by omega)) (hW.cell (O1.at_.1 0) (by omega)) (by
        obtain ⟨h2, h3, hz⟩ := hz.out
        rcases hz with h | ⟨b, o, h1, h4⟩
        · exact ⟨h2, h3, .inl h⟩
        · exact ⟨h2, h3, .inr ⟨b, o, h1, fun i hi => hW.cell (keep B0 (h4 i hi)) (hsb.out b o h1 (by omega))⟩⟩) (by omega)))
  rw [hW0] at HS
  have C0 : Chg (fp d sb mb wv) w W0 := Chg.of B0
  replace C0 := Lib.hid C0
  rw [hW0] at C0
  clear O1 O2 O3 B0 hW0
  go_enter Try.func12, Try.ntmps12
  go_wp2_with (go_at_call 31; refine HS.out.mono ?_; rintro e w2 ⟨rfl, h4, h5⟩; obtain ⟨k1, k2, k3⟩ := h4.own.at_)
  go_end0
  refine ⟨rfl, h4.fld (f := -1) (b := false) (wf_mk (by decide) (by decide)) ((chg_one _ _ _ _).same (chg_one _ _ _ _)) ((h4.own.put 4 _).put 3 _), ?_⟩
  exact (C0.out.same h5).same (((Chg.refl (fp d sb mb wv) w2).set ⟨d, 4, none⟩ (.inl (.inl rfl)) _).set ⟨d, 3, none⟩ (.inl (.inl rfl)) _)
/-- nothing is done to no disk -/
theorem nil_read (i : Int) (w : World) : Calls Try.prog 53 #[.pointer none, .int .i64 i] w fun e w' => e = .returned (.tuple #[.string ⟨#[]⟩, .int .i64 11]) ∧ w = w' := by
  have HD := Lib.hid (nil_down w)
  go_enter Try.func53, Try.ntmps53
  go_wp2_with (go_at_call 16; refine HD.out.mono ?_; rintro e w' ⟨rfl, rfl⟩)
  go_ret2
  exact ⟨rfl, rfl⟩
theorem nil_write (i : Int) (t : ByteArray) (w : World) : Calls Try.prog 46 #[.pointer none, .int .i64 i, .string t] w fun e w' => e = .returned (.int .i64 11) ∧ w = w' := by
  have HD := Lib.hid (nil_down w)
  go_enter Try.func46, Try.ntmps46
  go_wp2_with (go_at_call 16; refine HD.out.mono ?_; rintro e w' ⟨rfl, rfl⟩)
  go_ret
  exact ⟨rfl, rfl⟩
theorem nil_flush (w : World) : Calls Try.prog 48 #[.pointer none] w fun e w' => e = .returned (.int .i64 11) ∧ w = w' := by
  have HD := Lib.hid (nil_down w)
  go_enter Try.func48, Try.ntmps48
  go_wp2_with (go_at_call 16; refine HD.out.mono ?_; rintro e w' ⟨rfl, rfl⟩)
  go_ret
  exact ⟨rfl, rfl⟩
theorem nil_crash (a : Option Addr) (len cap : Nat) (torn bytes : Int) (w : World) : Calls Try.prog 12 #[.pointer none, .slice a len cap, .int .i64 torn, .int .i64 bytes] w fun e w' => e = .returned (.tuple #[]) ∧ Below w.heap.size w w' := by
  go_enter Try.func12, Try.ntmps12
  go_wp2
  exact bodyPost_ret (v := .tuple #[]) (by simp [results, Try.results12, go_sem]) rfl ⟨rfl, (((Below.refl _ _).alloc (Nat.le_refl _) _).alloc (by simp) _).alloc (by simp; omega) _⟩
end
end Go.Proofs.Ytmincpmkiheofaa
