
/- A disk and a log side by side, all of them a call's own; the ninth law package's awake. Conditions: those that each theorem names. -/
import Derived.Test.YtmincpmkiheofaaRdlM
import Derived.Test.YtmincpmkiheofaaRdlA
namespace Go.Proofs.Ytmincpmkiheofaa
open Go.ChangeShapes Go.WideShapes Go.ChangeAt Go.RowKit
set_option linter.unusedVariables false
set_option linter.unusedSimpArgs false

theorem sep_new' {d sb mb : Nat} {wv : Value} (B : Nat) (h1 : B ≤ d) (h2 : B ≤ sb) (h3 : B ≤ mb) (h4 : ∀ g, wv.ownBlock = some g → B ≤ g) : ∀ q, fp d sb mb wv q → B ≤ q := by
  rintro q (rfl | rfl | rfl | h)
  · exact h1
  · exact h2
  · exact h3
  · exact h4 q h
structure Ses (w0 W : World) (lg d sb mb sc : Nat) (wv : Value) (N : Nat) (s : St) (l : LogS) : Prop where
  disk : DiskAt W d sb mb sc wv N s
  log : LogAt W lg d l
  ok : l.Ok
  fit : l.from_ + l.size ≤ N
  new : ∀ q, fp d sb mb wv q → w0.heap.size ≤ q
  lnew : w0.heap.size ≤ lg
  ap : ¬ fp d sb mb wv lg
  below : Below w0.heap.size w0 W
  few : s.wr.length ≤ 1000
  clean : l.failed = false → s.wr = []
theorem Ses.next {w0 W W' : World} {lg d sb mb sc : Nat} {wv : Value} {N : Nat} {s : St} {l : LogS} (h : Ses w0 W lg d sb mb sc wv N s l) (hb : Below W.heap.size W W') : Ses w0 W' lg d sb mb sc wv N s l :=
  ⟨h.disk.below hb, Own.keep h.log hb, h.ok, h.fit, h.new, h.lnew, h.ap, then_ h.below hb h.below.size, h.few, h.clean⟩
theorem Ses.blocks {w0 W : World} {lg d sb mb sc : Nat} {wv : Value} {N : Nat} {s : St} {l : LogS} (h : Ses w0 W lg d sb mb sc wv N s l) {q : Nat} (hq : fp d sb mb wv q ∨ q = lg) : w0.heap.size ≤ q := by
  rcases hq with hq | rfl
  · exact h.new q hq
  · exact h.lnew
/-- what a call leaves that turns the disk and the log alone -/
def Turned (w0 W W' : World) (lg d sb mb sc : Nat) (wv : Value) (N : Nat) (s : St) (l : LogS) : Prop :=
  ∃ wv', Ses w0 W' lg d sb mb sc wv' N s l ∧ Chg (fun q => fp d sb mb wv q ∨ q = lg) W W' ∧ ∀ q, q < W.heap.size → fp d sb mb wv' q → fp d sb mb wv q
theorem Ses.append {w0 W : World} {lg d sb mb sc : Nat} {wv : Value} {N : Nat} {s : St} {l : LogS} (h : Ses w0 W lg d sb mb sc wv N s l) (v : Value) (ps : List ByteArray) (hps : StrsIn W (fun b => ¬ fp d sb mb wv b) v ps) :
    Calls Try.prog 17 #[.pointer (some ⟨lg, 0, none⟩), v] W fun e w' => e = .returned (.int .i64 (ares N s l ps).1) ∧ Turned w0 W w' lg d sb mb sc wv N (ares N s l ps).2.1 (ares N s l ps).2.2 := by
  refine (append_any h.log h.ok h.disk v ps hps (by have := h.few; omega) h.ap).mono ?_
  rintro e w' ⟨rfl, wv', hD, hL, hC, hv⟩
  have hold : ∀ q, q < W.heap.size → fp d sb mb wv' q → fp d sb mb wv q := fun q hq hf => by
    rcases fp_next hv hf with h | h
    · exact h
    · omega
  have hnew : ∀ q, fp d sb mb wv' q → w0.heap.size ≤ q := fun q hf => by
    rcases fp_next hv hf with h1 | h1
    · exact h.new q h1
    · have := h.below.size; omega
  have hap : ¬ fp d sb mb wv' lg := fun hf => h.ap (hold lg h.log.in_ hf)
  have hB : Below w0.heap.size w0 w' := h.below.trans (hC.below h.below.size fun q hq => h.blocks hq)
  refine ⟨rfl, wv', ?_, hC, hold⟩
  have hlen : ∀ s', (0, s') = runW N (txnOps (l.from_ + l.used) ps l.next) (0, s) ∨ (11, s') = runW N (txnOps (l.from_ + l.used) ps l.next) (0, s) → ps.length ≤ 64 → l.failed = false → s'.wr.length ≤ 1000 := fun s' hs hp hf => by
    have := runW_len N (txnOps (l.from_ + l.used) ps l.next) (0, s)
    rw [txnOps_len] at this
    have hc := h.clean hf
    simp only [hc, List.length_nil] at this
    rcases hs with hs | hs <;> (rw [← hs] at this; simp only at this; omega)
  rcases ares_all N s l ps h.ok h.fit with h1 | h1 | h1 | h1 | h1 | h1 | h1
  · obtain ⟨-, e⟩ := h1
    rw [e] at hD hL ⊢
    exact ⟨hD, hL, h.ok, h.fit, hnew, h.lnew, hap, hB, h.few, h.clean⟩
  · obtain ⟨-, -, e⟩ := h1
    rw [e] at hD hL ⊢
    exact ⟨hD, hL, h.ok, h.fit, hnew, h.lnew, hap, hB, h.few, h.clean⟩
  · obtain ⟨-, -, -, e⟩ := h1
    rw [e] at hD hL ⊢
    exact ⟨hD, hL, h.ok, h.fit, hnew, h.lnew, hap, hB, h.few, h.clean⟩
  · obtain ⟨-, -, -, -, e⟩ := h1
    rw [e] at hD hL ⊢
    exact ⟨hD, hL, h.ok, h.fit, hnew, h.lnew, hap, hB, h.few, h.clean⟩
  · obtain ⟨-, -, -, -, -, e⟩ := h1
    rw [e] at hD hL ⊢
    exact ⟨hD, hL, ⟨h.ok.fit, h.ok.used, h.ok.next⟩, h.fit, hnew, h.lnew, hap, hB, h.few, fun hf => by cases hf⟩
  · obtain ⟨s', -, hf, hp, hfit, -, hr, hd, hw, -, e⟩ := h1
    rw [e] at hD hL ⊢
    refine ⟨hD, hL, ⟨h.ok.fit, ?_, ?_⟩, h.fit, hnew, h.lnew, hap, hB, hlen s' (.inl hr) hp hf, fun _ => hw⟩
    · show l.used + (1 + 9 * ps.length) ≤ l.size
      have := h.ok.used; omega
    · show (l.next + 1) % 18446744073709551616 ≤ _
      omega
  · obtain ⟨s', -, hf, hp, -, -, hr, hd, -, e⟩ := h1
    rw [e] at hD hL ⊢
    exact ⟨hD, hL, ⟨h.ok.fit, h.ok.used, h.ok.next⟩, h.fit, hnew, h.lnew, hap, hB, hlen s' (.inr hr) hp hf, fun hf => by cases hf⟩
theorem cnt_ten (x : ByteArray) (seq left : Nat) (h : bN x 10 ≠ 1) : cnt x seq left = 0 := cnt_no x seq left fun n _ _ e => h (by rw [e]; exact markB_ten seq n)
theorem stands_none (f : Nat → ByteArray) (size seq : Nat) (h : bN (f 0) 10 ≠ 1) : standsAt f size seq = [] := by
  unfold standsAt
  refine stands_stop f _ 0 size seq ?_
  unfold txn
  rw [cnt_ten _ _ _ h]
  split <;> rfl
/-- a disk as New makes it -/
def fresh (N : Nat) : St := ⟨List.replicate (N * 64) 0, [], -1, false⟩
theorem fresh_vw (N k j : Nat) : bN (vw (fresh N) k) j = 0 := by
  show bN (strOf (((List.replicate (N * 64) (0 : UInt8)).drop ((k : Int).toNat * 64)).take 64)) j = 0
  unfold strOf
  rw [bN_mk]
  rw [List.drop_replicate, List.take_replicate, List.getD_eq_getElem?_getD, List.getElem?_replicate]
  split <;> rfl
theorem fresh_none (N fr size seq : Nat) : standsAt (st (fresh N) fr) size seq = [] := stands_none _ _ _ (by show bN (vw (fresh N) (fr + 0)) 10 ≠ 1; rw [fresh_vw]; decide)
/-- New and Open -/
theorem Ses.open_ {w0 W1 W2 : World} {d sb mb sc N fr sz seq lg : Nat} {wv : Value} {s : St} {ts : List (Nat × List ByteArray)} (hD : DiskAt W1 d sb mb sc wv N s) (hw : s.wr = []) (hnew : ∀ q, fp d sb mb wv q → w0.heap.size ≤ q) (hB : Below w0.heap.size w0 W1) (hfit : fr + sz ≤ N)
    (hlg : W1.heap.size ≤ lg) (hL : LogAt W2 lg d ⟨fr, sz, long ts, (seq + ts.length) % 18446744073709551616, false⟩) (hlong : long ts ≤ sz) (hb : Below W1.heap.size W1 W2) : Ses w0 W2 lg d sb mb sc wv N s ⟨fr, sz, long ts, (seq + ts.length) % 18446744073709551616, false⟩ := by
  have hN := hD.ok.max
  have h1 := hB.size
  refine ⟨hD.below hb, hL, ⟨by show fr + sz ≤ 65536; omega, hlong, by show (seq + ts.length) % 18446744073709551616 ≤ _; omega⟩, hfit, hnew, by omega, fun h => by have := hD.in_ h; omega, then_ hB hb h1, by rw [hw]; simp, fun _ => hw⟩
theorem lit_strs (W : World) (S : Nat → Prop) {b : Nat} (l : List ByteArray) (ho : Own W b 9 (l.map .string).toArray) (hl : l.length ≤ 1000) (hs : ∀ s ∈ l, s.size = 512) (hS : S b) : StrsIn W S (.slice (some ⟨b, 0, none⟩) l.length l.length) l := by
  refine ⟨_, _, rfl, Nat.le_refl _, by unfold maxLen; omega, fun s h => by rw [hs s h]; unfold maxLen; omega, .inr ⟨b, 0, rfl, hS, ho.in_, fun i hi => ?_⟩⟩
  rw [Nat.zero_add, ho.at_.1 i]
  simp [hi]
set_option maxRecDepth 100000 in
set_option maxHeartbeats 2000000 in
theorem awaken_any (w : World) : Calls Try.prog 7 #[] w fun e w' => e = .returned (.bool true) ∧ Below w.heap.size w w' := by
  have P1 := Lib.hid (show ∀ w : World, Calls Try.prog 26 #[.int .u8 1, .int .u8 1] w fun e w' => e = .returned (.string (Pg 1 1)) ∧ Below w.heap.size w w' from fun w => Page_any 1 1 (by omega) (by omega) w)
  have P2 := Lib.hid (show ∀ w : World, Calls Try.prog 26 #[.int .u8 2, .int .u8 3] w fun e w' => e = .returned (.string (Pg 2 3)) ∧ Below w.heap.size w w' from fun w => Page_any 2 3 (by omega) (by omega) w)
  have P3 := Lib.hid (show ∀ w : World, Calls Try.prog 26 #[.int .u8 4, .int .u8 4] w fun e w' => e = .returned (.string (Pg 4 4)) ∧ Below w.heap.size w w' from fun w => Page_any 4 4 (by omega) (by omega) w)
  have z1 := Pg_size 1 1
  have z2 := Pg_size 2 3
  have z3 := Pg_size 4 4
  obtain ⟨p1, hp1⟩ : ∃ p, p = Pg 1 1 := ⟨_, rfl⟩
  obtain ⟨p2, hp2⟩ : ∃ p, p = Pg 2 3 := ⟨_, rfl⟩
  obtain ⟨p3, hp3⟩ : ∃ p, p = Pg 4 4 := ⟨_, rfl⟩
  rw [← hp1] at P1 z1
  rw [← hp2] at P2 z2
  rw [← hp3] at P3 z3
  have Z1 := Lib.hid z1
  have Z2 := Lib.hid z2
  have Z3 := Lib.hid z3
  clear hp1 hp2 hp3 z1 z2 z3
  go_enter Try.func7, Try.ntmps7
  go_wp2_with fail
  refine (new_any w 22 (by omega) (by omega)).mono ?_
  rintro e w1 ⟨d, sb, mb, rfl, D1, b1, zd, zs, zm⟩
  have hnew := sep_new' (wv := .slice none 0 0) w.heap.size zd zs zm (fun g hg => by cases hg)
  change DiskAt w1 d sb mb (22 * 64) (.slice none 0 0) 22 (fresh 22) at D1
  have HO := open_any D1 rfl 0 22 1 (by omega) (by omega) (by omega)
  rw [fresh_none] at HO
  replace HO := Lib.hid HO
  go_wp2_with fail
  refine HO.out.mono ?_
  rintro e w2 ⟨lg, v, rfl, hlg, hL, hT, hb2⟩
  have S2 := Ses.open_ (w0 := w) (seq := 1) (ts := []) D1 rfl hnew b1 (by omega) hlg hL (Nat.zero_le _) hb2
  obtain ⟨ta, tc, rfl, ht1, ht2, -⟩ := hT.open_
  change Ses w w2 lg d sb mb (22 * 64) (.slice none 0 0) 22 (fresh 22) ⟨0, 22, 0, 1, false⟩ at S2
  have S2h := Lib.hid S2
  clear S2 HO hL hT hb2 D1 b1 hnew zd zs zm ht1 ht2 hlg
  go_wp2_with fail
  refine (P1.out _).mono ?_
  rintro e w3 ⟨rfl, b3⟩
  have S3 := Lib.hid (S2h.out.next b3)
  clear b3
  go_wp2_with fail
  refine (P2.out _).mono ?_
  rintro e w4 ⟨rfl, b4⟩
  have S4 := Lib.hid (S3.out.next b4)
  clear b4
  go_wp2_with fail
  have o5 := Own.made w4 9 ([p1, p2].map Value.string).toArray
  have S5 := S4.out.next ((Below.refl _ _).alloc (Nat.le_refl _) (.cells ([p1, p2].map Value.string).toArray 9))
  have hs5 := lit_strs _ (fun b => ¬ fp d sb mb (.slice none 0 0) b) [p1, p2] o5 (by show 2 ≤ 1000; omega) (by simp [Z1.out, Z2.out]) (fun h => by have := S4.out.disk.in_ h; omega)
  have HA := S5.append _ _ hs5
  obtain ⟨s1, e1, hd1, hw1, hf1⟩ := ares_good 22 (fresh 22) ⟨0, 22, 0, 1, false⟩ [p1, p2] S5.ok S5.fit (by unfold arePg; simp [Z1.out, Z2.out]) rfl (by show 2 ≤ 64; omega) (by show 1 + 9 * 2 ≤ 22 - 0; omega) rfl (by show (-1 : Int) < 0; omega)
  rw [e1] at HA
  replace HA := Lib.hid HA
  clear S5 hs5 o5 e1
  refine HA.out.mono ?_
  rintro e w6 ⟨rfl, wv6, S6, -, -⟩
  change Ses w w6 lg d sb mb (22 * 64) wv6 22 s1 ⟨0, 22, 19, 2, false⟩ at S6
  replace S6 := Lib.hid S6
  have HL := Lib.hid (show Calls Try.prog 22 #[.pointer (some ⟨lg, 0, none⟩)] w6 fun e w' => e = .returned (.int .i64 3) ∧ ∃ q, w' = w6.drewN q from left_any S6.out.log S6.out.ok)
  clear HA
  go_wp2_with fail
  refine HL.out.mono ?_
  rintro e w' ⟨rfl, q, rfl⟩
  have S7 := Lib.hid (S6.out.next (below_drewN (Below.refl _ _) q))
  go_wp2_with fail
  refine (P3.out _).mono ?_
  rintro e w8 ⟨rfl, b8⟩
  have S8 := Lib.hid (S7.out.next b8)
  clear b8
  go_wp2_with fail
  have o9 := Own.made w8 9 ([p3].map Value.string).toArray
  have S9 := S8.out.next ((Below.refl _ _).alloc (Nat.le_refl _) (.cells ([p3].map Value.string).toArray 9))
  have hs9 := lit_strs _ (fun b => ¬ fp d sb mb wv6 b) [p3] o9 (by show 1 ≤ 1000; omega) (by simp [Z3.out]) (fun h => by have := S8.out.disk.in_ h; omega)
  have HA := S9.append _ _ hs9
  have e9 : ares 22 s1 ⟨0, 22, 19, 2, false⟩ [p3] = (9, s1, ⟨0, 22, 19, 2, false⟩) := by
    rcases ares_all 22 s1 ⟨0, 22, 19, 2, false⟩ [p3] S9.ok S9.fit with ⟨h, -⟩ | ⟨-, h, -⟩ | ⟨-, -, h, -⟩ | ⟨-, -, -, -, e⟩ | ⟨-, -, -, h, -⟩ | ⟨s', -, -, -, h, -⟩ | ⟨s', -, -, -, h, -⟩
    · unfold arePg at h; simp [Z3.out] at h
    · cases h
    · exact absurd h (by show ¬ 64 < 1; omega)
    · exact e
    · exact absurd h (by show ¬ 1 + 9 * 1 ≤ 22 - 19; omega)
    · exact absurd h (by show ¬ 1 + 9 * 1 ≤ 22 - 19; omega)
    · exact absurd h (by show ¬ 1 + 9 * 1 ≤ 22 - 19; omega)
  rw [e9] at HA
  replace HA := Lib.hid HA
  clear S9 hs9 o9 e9
  refine HA.out.mono ?_
  rintro e w10 ⟨rfl, wv10, S10, -, -⟩
  replace S10 := Lib.hid S10
  have HN := Lib.hid (show Calls Try.prog 21 #[.pointer (some ⟨lg, 0, none⟩)] w10 fun e w' => e = .returned (.int .u64 2) ∧ w10 = w' from next_any S10.out.log)
  clear HA
  go_wp2_with (go_at_call 21; refine HN.out.mono ?_; rintro e w' ⟨rfl, rfl⟩)
  go_ret
  exact ⟨rfl, S10.out.below⟩
end Go.Proofs.Ytmincpmkiheofaa
