/- merged: The contract of a pager's add: a transaction put into the log as it is. Conditions: the disk's and the log's blocks as they lie. What a disk's sectors hold behind calls that write: plain mathematics. It speaks of no function. Conditions: those that each theorem names. A pager's disk, log and map side by side; add, empty, told in these words. Conditions: those that each theorem names. -/
import Derived.Test.YtndhmidgnpobjaaGreatDoorPguD
import Derived.Test.YtndhmidgnpobjaaGreatDoorCraS
import Derived.Test.YtndhmidgnpobjaaGreatDoorPgrQ
import Derived.Test.YtndhmidgnpobjaaGreatDoorPguC
import Derived.Test.YtndhmidgnpobjaaGreatDoorPguI
section
namespace Go.Proofs.YtndhmidgnpobjaaGreatDoor
open Go.ChangeShapes Go.WideShapes Go.ChangeAt Go.RowKit
set_option linter.unusedVariables false
set_option linter.unusedSimpArgs false

/-- what add answers, and what it leaves of the disk and of the log -/
def addW (N : Nat) (s : St) (l : LogS) (ps : List ByteArray) : Int × St × LogS :=
  if 1 + 9 * ps.length ≤ l.left then
    if (prepW N s (2 + l.used) l.next (1 + 9 * ps.length) (2 + l.size)).1 = 0 then ares N (prepW N s (2 + l.used) l.next (1 + 9 * ps.length) (2 + l.size)).2 l ps
    else ((prepW N s (2 + l.used) l.next (1 + 9 * ps.length) (2 + l.size)).1, (prepW N s (2 + l.used) l.next (1 + 9 * ps.length) (2 + l.size)).2, l)
  else ares N s l ps
theorem prepW_len (N : Nat) (s : St) (at_ q k en : Nat) : (prepW N s at_ q k en).2.wr.length ≤ s.wr.length + 4 := by
  have h1 := Nat.le_trans (runW_len N (umOps s at_ q) (0, s)) (Nat.add_le_add_left (umOps_len s at_ q) _)
  rw [prepW_eq rfl]
  obtain ⟨x, hx⟩ : ∃ x, x = runW N (umOps s at_ q) (0, s) := ⟨_, rfl⟩
  rw [← hx] at h1 ⊢
  simp only at h1
  split
  · have h2 := Nat.le_trans (runW_len N (umOps x.2 (at_ + k) ((q + 1) % 18446744073709551616)) (0, x.2)) (Nat.add_le_add_left (umOps_len _ _ _) _)
    simp only at h2
    omega
  · omega
section
variable {w w1 w2 : World} {p lg d sb mb sc : Nat} {wv : Value} {N ll : Nat} {s s1 : St} {l : LogS} {x2 x4 x5 x6 x7 : Value} {r : St × LogS}
theorem Appended.behind {wv1 : Value} (hc : Chg (fp d sb mb wv) w w1) (hv : wv1.ownBlock = wv.ownBlock ∨ wv1.ownBlock = none ∨ ∃ g, wv1.ownBlock = some g ∧ w.heap.size ≤ g) (h : Appended w1 w2 lg d sb mb sc wv1 N r) : Appended w w2 lg d sb mb sc wv N r := by
  obtain ⟨wv', h1, h2, h3, h4⟩ := h
  refine ⟨wv', h1, h2, (hc.mono fun q _ e => .inl e).trans h3 fun q hq e => ?_, ?_⟩
  · rcases e with e | e
    · exact (fp_next hv e).elim .inl fun h => absurd hq (by omega)
    · exact .inr e
  · rcases h4 with h | h | ⟨g, h, hg⟩
    · rw [h]; exact hv
    · exact .inr (.inl h)
    · exact .inr (.inr ⟨g, h, Nat.le_trans hc.size hg⟩)
theorem Appended.below (h : Appended w w1 lg d sb mb sc wv N r) (hb : Below w1.heap.size w1 w2) : Appended w w2 lg d sb mb sc wv N r := by
  obtain ⟨wv', h1, h2, h3, h4⟩ := h
  exact ⟨wv', h1.below hb, Own.keep h2 hb, h3.call hb, h4⟩
theorem Appended.from_ (h : Appended w1 w2 lg d sb mb sc wv N r) (hb : Below w.heap.size w w1) : Appended w w2 lg d sb mb sc wv N r := by
  obtain ⟨wv', h1, h2, h3, h4⟩ := h
  refine ⟨wv', h1, h2, (Chg.of hb).trans h3 fun q hq e => e, ?_⟩
  rcases h4 with h | h | ⟨g, h, hg⟩
  · exact .inl h
  · exact .inr (.inl h)
  · exact .inr (.inr ⟨g, h, Nat.le_trans hb.size hg⟩)
theorem Wrt.appended (h : Wrt w w1 d sb mb sc wv N s1) (hL : LogAt w1 lg d l) : Appended w w1 lg d sb mb sc wv N (s1, l) := by
  obtain ⟨wv', h1, h2, h3⟩ := h
  exact ⟨wv', h1, hL, h2.mono fun q _ e => .inl e, h3⟩
set_option maxRecDepth 10000 in
set_option maxHeartbeats 2000000 in
theorem padd_any (hD : DiskAt w d sb mb sc wv N s) (hd : s.down = false) (hL : LogAt w lg d l) (hk : l.Ok) (hf : l.failed = false) (hsz : l.size = ll) (hO : Own w p 131 #[.pointer (some ⟨d, 0, none⟩), .int .i64 (ll : Int), x2, .pointer (some ⟨lg, 0, none⟩), x4, x5, x6, x7]) (hfit : 2 + ll ≤ N) (v : Value) (ps : List ByteArray) (hps : StrsIn w (fun b => ¬ fp d sb mb wv b) v ps) (hn : ps.length ≤ 1000) (hfew : s.wr.length ≤ 90000) :
    Calls Tryz.prog 149 #[.pointer (some ⟨p, 0, none⟩), v] w fun e w' => e = .returned (.int .i64 (addW N s l ps).1) ∧ Appended w w' lg d sb mb sc wv N (addW N s l ps).2 := by
  have nl := hD.no_own (show Own w lg 207 (l.cells d) from hL) (by decide) (by decide) (by simp [LogS.cells])
  have np := hD.no_own hO (by decide) (by decide) (by simp)
  have hps2 : StrsIn w (fun b => ¬ fp d sb mb wv b ∧ b < w.heap.size) v ps := hps.mono fun b hb h => ⟨h, hb⟩
  obtain ⟨a, cp, rfl, -, -, -⟩ := hps.open_
  have HLE := Lib.hid (fun W (hb : Below w.heap.size w W) => (show Calls Tryz.prog 188 #[.pointer (some ⟨lg, 0, none⟩)] W fun e w' => e = .returned (.int .i64 (l.left : Nat)) ∧ Below W.heap.size W w' from by
    refine (left_any (show LogAt W lg d l from Own.keep hL hb) hk).mono ?_
    rintro e w' ⟨rfl, q, rfl⟩
    exact ⟨rfl, below_drewN (Below.refl _ _) q⟩))
  have HSO := Lib.hid (fun W => psof_any a ps.length cp W (by omega))
  have HKEEP := Lib.hid (fun W s1 (hWr : Wrt w W d sb mb sc wv N s1) => (show LogAt W lg d l ∧ Own W p 131 #[.pointer (some ⟨d, 0, none⟩), .int .i64 (ll : Int), x2, .pointer (some ⟨lg, 0, none⟩), x4, x5, x6, x7] from by
    obtain ⟨wv', h1, h2, h3⟩ := hWr
    exact ⟨h2.own (show Own w lg 207 (l.cells d) from hL) nl, h2.own hO np⟩))
  have HAP := Lib.hid (fun W s1 (hlen : s1.wr.length ≤ 100000) (hWr : Wrt w W d sb mb sc wv N s1) => (show Calls Tryz.prog 202 #[.pointer (some ⟨lg, 0, none⟩), .slice a ps.length cp] W fun e w' => e = .returned (.int .i64 (ares N s1 l ps).1) ∧ Appended w w' lg d sb mb sc wv N (ares N s1 l ps).2 from by
    obtain ⟨wv', h1, h2, h3⟩ := hWr
    refine (append_any (show LogAt W lg d l from h2.own (show Own w lg 207 (l.cells d) from hL) nl) hk h1 (.slice a ps.length cp) ps ((hps2.keep h2 fun b hb h => h.1).mono fun b hb h e => ?_) hlen (h1.no_own (show Own W lg 207 (l.cells d) from h2.own (show Own w lg 207 (l.cells d) from hL) nl) (by decide) (by decide) (by simp [LogS.cells]))).mono ?_
    · rcases fp_next h3 e with e | e
      · exact h.1 e
      · exact absurd h.2 (by omega)
    · rintro e w' ⟨rfl, h⟩
      exact ⟨rfl, Appended.behind h2 h3 h⟩))
  have HSAME := Lib.hid (fun W (hb : Below w.heap.size w W) => (Wrt.same hD).below hb)
  obtain ⟨n, hn2⟩ : ∃ n, n = ps.length := ⟨_, rfl⟩
  have HADD := Lib.hid (show addW N s l ps = _ from rfl)
  by_cases hle : 1 + 9 * ps.length ≤ l.left
  · have E : addW N s l ps = if (prepW N s (2 + l.used) l.next (1 + 9 * ps.length) (2 + l.size)).1 = 0 then ares N (prepW N s (2 + l.used) l.next (1 + 9 * ps.length) (2 + l.size)).2 l ps else ((prepW N s (2 + l.used) l.next (1 + 9 * ps.length) (2 + l.size)).1, (prepW N s (2 + l.used) l.next (1 + 9 * ps.length) (2 + l.size)).2, l) := if_pos hle
    have HPR := Lib.hid (fun W (hb : Below w.heap.size w W) => prepare_any (hD.below hb) hd (show LogAt W lg d l from Own.keep hL hb) hk hf hsz (hO.keep hb) hfit (1 + 9 * ps.length) (by omega) hle (by omega))
    have hpl := prepW_len N s (2 + l.used) l.next (1 + 9 * ps.length) (2 + l.size)
    rw [← hsz] at HPR
    obtain ⟨x, hx⟩ : ∃ x, x = prepW N s (2 + l.used) l.next (1 + 9 * ps.length) (2 + l.size) := ⟨_, rfl⟩
    rw [← hx] at E HPR hpl
    obtain ⟨r, hr⟩ : ∃ r, r = addW N s l ps := ⟨_, rfl⟩
    rw [← hr]
    rw [← hr] at E
    have HE := Lib.hid (fun (h : x.1 = 0) => (E.trans (if_pos h)))
    have HNE := Lib.hid (fun (h : x.1 ≠ 0) => (E.trans (if_neg h)))
    rw [← hn2] at HSO HPR HAP hle ⊢
    obtain ⟨L, hL2⟩ : ∃ L, L = l.left := ⟨_, rfl⟩
    rw [← hL2] at HLE hle
    obtain ⟨K, hK⟩ : ∃ K, K = 1 + 9 * n := ⟨_, rfl⟩
    rw [← hK] at HSO HPR hle
    have tt : decide (K ≤ L) = true := by simpa using hle
    have HO := Lib.hid hO
    clear HADD hL2 hK hx E hr hD hd hL hk hf hO hps hps2 hn hn2 nl np hle
    obtain ⟨e1, s1⟩ := x
    simp only at HPR hpl HE HNE
    go_enter Tryz.func149, Tryz.ntmps149
    go_upto_region 1 with fail
    refine wp_region_seq (fun W => Own W p 131 #[.pointer (some ⟨d, 0, none⟩), .int .i64 (ll : Int), x2, .pointer (some ⟨lg, 0, none⟩), x4, x5, x6, x7]) (0 :: 2 :: 3 :: 4 :: 5 :: 7 :: []) (5 :: []) (0 :: 2 :: 3 :: 4 :: 5 :: 1 :: 6 :: 7 :: []) (by kernel_rfl) (by kernel_rfl) rfl (by kernel_rfl) rfl (HO.out.drawn) (by simp only [picked, List.filterMap_cons, List.filterMap_nil, List.getElem?_cons_zero, List.getElem?_cons_succ, Option.map_some]; exact rfl) ?_
    iterate 5
      refine seq_want (v := ?_) rfl rfl (fun W hS => ?_) ?_
      rotate_left
      · first
          | (conv => lhs; simp [go_sem, tt]
             first | done | exact rfl)
          | (have hS := hS rfl
             obtain ⟨q1, q4, q5⟩ := Own.at_ hS
             conv => lhs; simp [go_sem, *, tt]
             first | done | exact rfl)
      simp only [Act.put, List.setIfInBounds_toArray, List.set_cons_zero, List.set_cons_succ]
    refine seq_on rfl rfl fun K hK => ?_
    go_wp2_with (go_at_call 150; refine (HSO.out _).mono ?_; rintro e w3 ⟨rfl, rfl⟩)
    refine hK _ _ HO.out.drawn ?_
    clear hK K
    refine seq_on rfl rfl fun K hK => ?_
    go_wp2_with (go_at_call 188; refine (HLE.out _ ((Below.refl _ _).drew)).mono ?_; rintro e w3 ⟨rfl, hw3⟩)
    have B3 := Lib.hid (then_ (Below.refl w.heap.size w).drew hw3 (Below.refl w.heap.size w).drew.size)
    clear hw3
    have O3 := Lib.hid (HO.out.keep B3.out)
    refine hK _ _ O3.out ?_
    clear hK K
    iterate 1
      refine seq_want (v := ?_) rfl rfl (fun W hS => ?_) ?_
      rotate_left
      · first
          | (conv => lhs; simp [go_sem, tt]
             first | done | exact rfl)
          | (have hS := hS rfl
             obtain ⟨q1, q4, q5⟩ := Own.at_ hS
             conv => lhs; simp [go_sem, *, tt]
             first | done | exact rfl)
      simp only [Act.put, List.setIfInBounds_toArray, List.set_cons_zero, List.set_cons_succ]
    refine seq_end ?_
    by_cases c : e1 = 0
    · subst c
      have HE2 := Lib.hid (HE.out rfl)
      clear HE HNE
      go_wp2_with (first
        | (go_at_call 150; refine (HSO.out _).mono ?_; rintro e w4 ⟨rfl, rfl⟩)
        | (go_at_call 201; refine (HPR.out _ B3.out).mono ?_; rintro e w5 ⟨rfl, hw5⟩; have R5 := Lib.hid (Wrt.from_ hw5 B3.out); clear hw5; obtain ⟨q1, q2, q3⟩ := (HKEEP.out _ _ R5.out).2.at_)
        | (go_at_call 202; refine (HAP.out _ _ (by omega) R5.out).mono ?_; rintro e w6 ⟨rfl, hw6⟩; have R6 := Lib.hid hw6; clear hw6))
      go_ret
      rw [HE2.out]
      exact ⟨rfl, R6.out⟩
    · have HE2 := Lib.hid (HNE.out c)
      clear HE HNE
      have t1 : (e1 != 0) = true := by simpa using c
      clear c
      go_wp2_with (first
        | (go_at_call 150; refine (HSO.out _).mono ?_; rintro e w4 ⟨rfl, rfl⟩)
        | (go_at_call 201; refine (HPR.out _ B3.out).mono ?_; rintro e w5 ⟨rfl, hw5⟩; have R5 := Lib.hid (Wrt.appended (Wrt.from_ hw5 B3.out) (HKEEP.out _ _ (Wrt.from_ hw5 B3.out)).1); clear hw5))
      go_ret
      rw [HE2.out]
      exact ⟨rfl, R5.out⟩
  · have E : addW N s l ps = ares N s l ps := if_neg hle
    rw [E]
    rw [← hn2] at HSO HAP hle ⊢
    obtain ⟨L, hL2⟩ : ∃ L, L = l.left := ⟨_, rfl⟩
    rw [← hL2] at HLE hle
    obtain ⟨K, hK⟩ : ∃ K, K = 1 + 9 * n := ⟨_, rfl⟩
    rw [← hK] at HSO hle
    have tt : decide (K ≤ L) = false := by simpa using hle
    have HO := Lib.hid hO
    clear HADD hL2 hK E hD hd hL hk hf hO hps hps2 hn hn2 nl np hle
    go_enter Tryz.func149, Tryz.ntmps149
    go_upto_region 1 with fail
    refine wp_region_seq (fun W => Own W p 131 #[.pointer (some ⟨d, 0, none⟩), .int .i64 (ll : Int), x2, .pointer (some ⟨lg, 0, none⟩), x4, x5, x6, x7]) (0 :: 2 :: 3 :: 4 :: 5 :: 7 :: []) (5 :: []) (0 :: 2 :: 3 :: 4 :: 5 :: 1 :: 6 :: 7 :: []) (by kernel_rfl) (by kernel_rfl) rfl (by kernel_rfl) rfl (HO.out.drawn) (by simp only [picked, List.filterMap_cons, List.filterMap_nil, List.getElem?_cons_zero, List.getElem?_cons_succ, Option.map_some]; exact rfl) ?_
    iterate 5
      refine seq_want (v := ?_) rfl rfl (fun W hS => ?_) ?_
      rotate_left
      · first
          | (conv => lhs; simp [go_sem, tt]
             first | done | exact rfl)
          | (have hS := hS rfl
             obtain ⟨q1, q4, q5⟩ := Own.at_ hS
             conv => lhs; simp [go_sem, *, tt]
             first | done | exact rfl)
      simp only [Act.put, List.setIfInBounds_toArray, List.set_cons_zero, List.set_cons_succ]
    refine seq_on rfl rfl fun K hK => ?_
    go_wp2_with (go_at_call 150; refine (HSO.out _).mono ?_; rintro e w3 ⟨rfl, rfl⟩)
    refine hK _ _ HO.out.drawn ?_
    clear hK K
    refine seq_on rfl rfl fun K hK => ?_
    go_wp2_with (go_at_call 188; refine (HLE.out _ ((Below.refl _ _).drew)).mono ?_; rintro e w3 ⟨rfl, hw3⟩)
    have B3 := Lib.hid (then_ (Below.refl w.heap.size w).drew hw3 (Below.refl w.heap.size w).drew.size)
    clear hw3
    have O3 := Lib.hid (HO.out.keep B3.out)
    refine hK _ _ O3.out ?_
    clear hK K
    iterate 1
      refine seq_want (v := ?_) rfl rfl (fun W hS => ?_) ?_
      rotate_left
      · first
          | (conv => lhs; simp [go_sem, tt]
             first | done | exact rfl)
          | (have hS := hS rfl
             obtain ⟨q1, q4, q5⟩ := Own.at_ hS
             conv => lhs; simp [go_sem, *, tt]
             first | done | exact rfl)
      simp only [Act.put, List.setIfInBounds_toArray, List.set_cons_zero, List.set_cons_succ]
    refine seq_end ?_
    obtain ⟨q1, q2, q3⟩ := O3.out.at_
    go_wp2_with (go_at_call 202; refine (HAP.out _ _ (by omega) (HSAME.out _ B3.out)).mono ?_; rintro e w6 ⟨rfl, hw6⟩; have R6 := Lib.hid hw6; clear hw6)
    go_ret
    exact ⟨rfl, R6.out⟩
end
end Go.Proofs.YtndhmidgnpobjaaGreatDoor
end
section
namespace Go.Proofs.YtndhmidgnpobjaaGreatDoor
open Go.ChangeShapes Go.WideShapes Go.ChangeAt Go.RowKit
set_option linter.unusedVariables false
set_option linter.unusedSimpArgs false

theorem lastOf_cons (x : Nat × ByteArray) (l : List (Nat × ByteArray)) (i : Int) : lastOf (x :: l) i = match lastOf l i with | some y => some y | none => if (x.1 : Int) = i then some x else none := by
  unfold lastOf
  rw [List.reverse_cons, List.find?_append]
  cases h : l.reverse.find? fun x => (x.1 : Int) == i with
  | some y => rfl
  | none =>
    show (none : Option (Nat × ByteArray)).or _ = _
    rw [Option.none_or, List.find?_cons]
    by_cases c : (x.1 : Int) = i
    · simp [c]
    · have c2 : ((x.1 : Int) == i) = false := by simpa using c
      rw [if_neg c, c2]
      rfl
/-- what counts of a disk's sectors, as bytes and writes -/
structure Sd (N : Nat) (s : St) : Prop where
  len : s.sure.length = N * 64
  fits : Fits N s.wr
theorem Sd.of {N : Nat} {s : St} (h : s.Ok N) : Sd N s := ⟨h.len, h.wr⟩
theorem vw_settled (N : Nat) : ∀ (l : List (Nat × ByteArray)) (j : Nat) (L : List UInt8), L.length = N * 64 → Fits N l → ∀ k : Nat, secOf (settled (fun _ => 64) l j L) (k : Int) = match lastOf l (k : Int) with | some x => x.2 | none => secOf L (k : Int)
  | [], _, _, _, _, _ => rfl
  | x :: l, j, L, h, hx, k => by
    have h1 := hx x (by simp)
    have hl := put_len (k := 64) h h1.1 h1.2
    rw [lastOf_cons]
    have ih := vw_settled N l (j + 1) _ hl hx.tail k
    show secOf (settled (fun _ => 64) l (j + 1) (putB L (x.1 * 64) (x.2.extract 0 64))) (k : Int) = _
    rw [ih]
    cases lastOf l (k : Int) with
    | some y => rfl
    | none =>
      simp only
      by_cases c : x.1 = k
      · subst c
        rw [if_pos rfl]
        exact sec_put_same L x.1 x.2 h1.2 (by omega)
      · rw [if_neg (by omega)]
        exact sec_put_ne L x.1 k _ c (by rw [ByteArray.size_extract]; omega) (by omega)
theorem burn_keep (s : St) : (burn s).2.sure = s.sure ∧ (burn s).2.wr = s.wr := by
  unfold burn
  split
  · exact ⟨rfl, rfl⟩
  · split <;> exact ⟨rfl, rfl⟩
/-- what a call makes of a sector, where all goes well -/
def vwO (k : Nat) (v : ByteArray) : Dop → ByteArray
  | some (a, t) => if a = k then t else v
  | none => v
theorem vw_of {s s' : St} (h1 : s'.sure = s.sure) (h2 : s'.wr = s.wr) (k : Nat) : vw s' k = vw s k := by unfold vw; rw [h1, h2]
theorem vw_dres {N : Nat} {s : St} (h : Sd N s) (o : Dop) (ho : fitD N o) (k : Nat) : Sd N (dres N s o).2 ∧ (((dres N s o).1 = 0 → vw (dres N s o).2 k = vwO k (vw s k) o) ∧ ((dres N s o).1 ≠ 0 → vw (dres N s o).2 k = vw s k)) := by
  obtain ⟨b1, b2⟩ := burn_keep s
  cases o with
  | some x =>
    obtain ⟨a, t⟩ := x
    obtain ⟨ha, ht⟩ := ho
    show Sd N (wres N s (a : Int) t).2 ∧ _
    by_cases hd : s.down = true
    · have e : wres N s (a : Int) t = (11, s) := by unfold wres; rw [if_pos hd]
      rw [show dres N s (some (a, t)) = wres N s (a : Int) t from rfl, e]
      exact ⟨h, fun e => absurd e (show (11 : Int) ≠ 0 by decide), fun _ => rfl⟩
    · by_cases hb : (burn s).1 = true
      · have e : wres N s (a : Int) t = (0, { (burn s).2 with wr := s.wr ++ [(a, t)] }) := by
          unfold wres
          rw [if_neg hd, if_neg (by omega), if_pos hb, Int.toNat_natCast]
        rw [show dres N s (some (a, t)) = wres N s (a : Int) t from rfl, e]
        refine ⟨⟨by simp only; rw [b1]; exact h.len, fun y hy => ?_⟩, fun _ => ?_, fun e => absurd rfl e⟩
        · rcases List.mem_append.1 hy with hy | hy
          · exact h.fits y hy
          · obtain rfl : y = (a, t) := by simpa using hy
            exact ⟨ha, ht⟩
        · unfold vw vwO
          simp only
          rw [lastOf_snoc, b1]
          by_cases c : a = k
          · subst c; simp
          · rw [if_neg (by simp only; omega), if_neg c]
      · have e : wres N s (a : Int) t = (11, (burn s).2) := by
          unfold wres
          rw [if_neg hd, if_neg (by omega), if_neg hb]
        rw [show dres N s (some (a, t)) = wres N s (a : Int) t from rfl, e]
        exact ⟨⟨by simp only; rw [b1]; exact h.len, by simp only; rw [b2]; exact h.fits⟩, fun e => absurd e (show (11 : Int) ≠ 0 by decide), fun _ => vw_of b1 b2 k⟩
  | none =>
    show Sd N (fres s).2 ∧ _
    rw [show dres N s none = fres s from rfl]
    by_cases hd : s.down = true
    · have e : fres s = (11, s) := by unfold fres; rw [if_pos hd]
      rw [e]
      exact ⟨h, fun e => absurd e (show (11 : Int) ≠ 0 by decide), fun _ => rfl⟩
    · by_cases hb : (burn s).1 = true
      · have e : fres s = (0, ⟨settled (fun _ => 64) s.wr 0 s.sure, [], (burn s).2.fuse, (burn s).2.down⟩) := by unfold fres; rw [if_neg hd, if_pos hb]
        rw [e]
        refine ⟨⟨settled_len _ N _ _ _ h.len h.fits, fun y hy => by cases hy⟩, fun _ => ?_, fun e => absurd rfl e⟩
        show secOf (settled (fun _ => 64) s.wr 0 s.sure) (k : Int) = vw s k
        rw [vw_settled N s.wr 0 s.sure h.len h.fits k]
        rfl
      · have e : fres s = (11, (burn s).2) := by unfold fres; rw [if_neg hd, if_neg hb]
        rw [e]
        exact ⟨⟨by simp only; rw [b1]; exact h.len, by simp only; rw [b2]; exact h.fits⟩, fun e => absurd e (show (11 : Int) ≠ 0 by decide), fun _ => vw_of b1 b2 k⟩
/-- no call touches the sector -/
def noD (k : Nat) : Dop → Prop
  | some (a, _) => a ≠ k
  | none => True
theorem runW_cons (N : Nat) (o : Dop) (ops : List Dop) (s : St) : runW N (o :: ops) (0, s) = runW N ops (dres N s o) := by
  show runW N ops (stepW N (0, s) o) = _
  congr 1
theorem runW_sd (N : Nat) : ∀ (ops : List Dop) (s : St), Sd N s → (∀ o ∈ ops, fitD N o) → Sd N (runW N ops (0, s)).2
  | [], s, h, _ => h
  | o :: ops, s, h, hf => by
    rw [runW_cons]
    have h1 := (vw_dres h o (hf o (by simp)) 0).1
    by_cases c : (dres N s o).1 = 0
    · have e : dres N s o = (0, (dres N s o).2) := by rw [← c]
      rw [e]
      exact runW_sd N ops _ h1 fun o ho => hf o (by simp [ho])
    · rw [runW_stuck N ops _ c]; exact h1
theorem vw_run_ne (N k : Nat) : ∀ (ops : List Dop) (s : St), Sd N s → (∀ o ∈ ops, fitD N o) → (∀ o ∈ ops, noD k o) → vw (runW N ops (0, s)).2 k = vw s k
  | [], s, h, _, _ => rfl
  | o :: ops, s, h, hf, hn => by
    rw [runW_cons]
    obtain ⟨h1, h2, h3⟩ := vw_dres h o (hf o (by simp)) k
    by_cases c : (dres N s o).1 = 0
    · have e : dres N s o = (0, (dres N s o).2) := by rw [← c]
      have hv : vw (dres N s o).2 k = vw s k := by
        rw [h2 c]
        have := hn o (by simp)
        cases o with
        | none => rfl
        | some x => unfold vwO; exact if_neg this
      rw [e, vw_run_ne N k ops _ h1 (fun o ho => hf o (by simp [ho])) (fun o ho => hn o (by simp [ho])), hv]
    · rw [runW_stuck N ops _ c]; exact h3 c
theorem vw_run_ok (N k : Nat) : ∀ (ops : List Dop) (s : St), Sd N s → (∀ o ∈ ops, fitD N o) → (runW N ops (0, s)).1 = 0 → vw (runW N ops (0, s)).2 k = ops.foldl (vwO k) (vw s k)
  | [], s, h, _, _ => rfl
  | o :: ops, s, h, hf, h0 => by
    rw [runW_cons] at h0 ⊢
    obtain ⟨h1, h2, h3⟩ := vw_dres h o (hf o (by simp)) k
    by_cases c : (dres N s o).1 = 0
    · have e : dres N s o = (0, (dres N s o).2) := by rw [← c]
      rw [e] at h0 ⊢
      rw [vw_run_ok N k ops _ h1 (fun o ho => hf o (by simp [ho])) h0, h2 c]
      rfl
    · rw [runW_stuck N ops _ c] at h0; exact absurd h0 c
theorem fold_ne (k : Nat) : ∀ (ops : List Dop) (v : ByteArray), (∀ o ∈ ops, noD k o) → ops.foldl (vwO k) v = v
  | [], v, _ => rfl
  | o :: ops, v, h => by
    have h1 := h o (by simp)
    have e : vwO k v o = v := by
      cases o with
      | none => rfl
      | some x => unfold vwO; exact if_neg h1
    rw [List.foldl_cons, e]
    exact fold_ne k ops v fun o ho => h o (by simp [ho])
theorem fold_put (at_ : Nat) (g : Nat → ByteArray) (i : Nat) (v : ByteArray) : ∀ n, (putOps at_ g n).foldl (vwO (at_ + i)) v = if i < n then g i else v
  | 0 => rfl
  | n + 1 => by
    rw [putOps_succ, List.foldl_append, fold_put at_ g i v n]
    show (if at_ + n = at_ + i then g n else _) = _
    by_cases c : n = i
    · subst c; rw [if_pos rfl, if_pos (by omega)]
    · rw [if_neg (by omega)]
      by_cases c2 : i < n
      · rw [if_pos c2, if_pos (by omega)]
      · rw [if_neg c2, if_neg (by omega)]
theorem dby_congr {s s' : St} {p p' : Nat} (h : ∀ i, i < 8 → vw s' (p' + i) = vw s (p + i)) : dby s' p' = dby s p := by
  unfold dby dbl
  have e : (List.range 8).map (fun i => (vw s' (p' + i)).data.toList) = (List.range 8).map fun i => (vw s (p + i)).data.toList := List.map_congr_left fun i hi => by rw [h i (List.mem_range.1 hi)]
  rw [List.flatMap_def, List.flatMap_def, e]
end Go.Proofs.YtndhmidgnpobjaaGreatDoor
end
section
namespace Go.Proofs.YtndhmidgnpobjaaGreatDoor
open Go.ChangeShapes Go.WideShapes Go.ChangeAt Go.RowKit
set_option linter.unusedVariables false
set_option linter.unusedSimpArgs false

theorem asc_len : ∀ (l : List (Nat × Pag)) (lo hi : Nat), asc l → (∀ q ∈ l, lo ≤ q.1 ∧ q.1 < hi) → l.length ≤ hi - lo
  | [], _, _, _, _ => Nat.zero_le _
  | x :: l, lo, hi, h, hb => by
    obtain ⟨h1, h2⟩ := asc_cons.1 h
    have hx := hb x (by simp)
    have := asc_len l (x.1 + 1) hi h2 fun q hq => ⟨h1 q hq, (hb q (by simp [hq])).2⟩
    rw [List.length_cons]
    omega
/-- a pager's own blocks, without its pool -/
structure Raw (w : World) (p lg lm d sb mb sc : Nat) (wv x5 x6 : Value) (P : PS) : Prop where
  disk : DiskAt w d sb mb sc wv P.N P.s
  log : LogAt w lg d P.l
  own : Own w p 131 #[.pointer (some ⟨d, 0, none⟩), .int .i64 (P.ll : Int), .int .u64 (P.seq : Int), .pointer (some ⟨lg, 0, none⟩), .map (some lm), x5, x6, .bool P.failed]
  map : MapOf w lm .i64 (P.M.map entM)
  ne : lm ≠ mb
def RawTo (w w' : World) (p lg lm d sb mb sc : Nat) (wv x5 x6 : Value) (P' : PS) : Prop :=
  ∃ wv', Raw w' p lg lm d sb mb sc wv' x5 x6 P' ∧ Chg (fun q => fp d sb mb wv q ∨ q = p ∨ q = lm ∨ q = lg) w w' ∧ (wv'.ownBlock = wv.ownBlock ∨ wv'.ownBlock = none ∨ ∃ g, wv'.ownBlock = some g ∧ w.heap.size ≤ g)
section
variable {w w' w1 w2 : World} {p lg lm d sb mb sc : Nat} {wv x5 x6 : Value} {P P' : PS}
theorem Raw.np (h : Raw w p lg lm d sb mb sc wv x5 x6 P) : ¬ fp d sb mb wv p := h.disk.no_own h.own (by decide) (by decide) (by simp)
theorem Raw.nl (h : Raw w p lg lm d sb mb sc wv x5 x6 P) : ¬ fp d sb mb wv lg := h.disk.no_own (show Own w lg 207 (P.l.cells d) from h.log) (by decide) (by decide) (by simp [LogS.cells])
theorem Raw.nm (h : Raw w p lg lm d sb mb sc wv x5 x6 P) : ¬ fp d sb mb wv lm := map_no_fp h.disk h.map h.ne
theorem Raw.npl (h : Raw w p lg lm d sb mb sc wv x5 x6 P) : p ≠ lg := h.own.type_ne (show Own w lg _ _ from h.log) (by decide)
theorem Raw.npm (h : Raw w p lg lm d sb mb sc wv x5 x6 P) : lm ≠ p := h.map.ne h.own
theorem Raw.nlm (h : Raw w p lg lm d sb mb sc wv x5 x6 P) : lm ≠ lg := h.map.ne (show Own w lg 207 (P.l.cells d) from h.log)
theorem Raw.below (h : Raw w p lg lm d sb mb sc wv x5 x6 P) (hb : Below w.heap.size w w') : Raw w' p lg lm d sb mb sc wv x5 x6 P :=
  ⟨h.disk.below hb, Own.keep h.log hb, h.own.keep hb, h.map.keep (hb.block lm h.map.in_), h.ne⟩
/-- a block of another type is none of these -/
theorem Raw.out (h : Raw w p lg lm d sb mb sc wv x5 x6 P) {q : Nat} {T : TypeId} {cs : Array Value} (ho : Own w q T cs) (h1 : T ≠ 148) (h2 : T ≠ 232) (h3 : T ≠ 207) (h4 : T ≠ 131) (h0 : ∀ x, cs[0]? ≠ some (.int .u8 x)) : ¬ (fp d sb mb wv q ∨ q = p ∨ q = lm ∨ q = lg) := fun k => by
  rcases k with k | k | k | k
  · exact h.disk.no_own ho h1 h2 h0 k
  · exact ho.type_ne h.own h4 k
  · exact h.map.ne ho k.symm
  · exact ho.type_ne (show Own w lg 207 (P.l.cells d) from h.log) h3 k
theorem RawTo.same (h : Raw w p lg lm d sb mb sc wv x5 x6 P) : RawTo w w p lg lm d sb mb sc wv x5 x6 P := ⟨wv, h, Chg.refl _ _, .inl rfl⟩
theorem RawTo.below (h : RawTo w w1 p lg lm d sb mb sc wv x5 x6 P) (hb : Below w1.heap.size w1 w2) : RawTo w w2 p lg lm d sb mb sc wv x5 x6 P := by
  obtain ⟨wv', h1, h2, h3⟩ := h
  exact ⟨wv', h1.below hb, h2.call hb, h3⟩
theorem RawTo.from_ (h : RawTo w1 w2 p lg lm d sb mb sc wv x5 x6 P) (hb : Below w.heap.size w w1) : RawTo w w2 p lg lm d sb mb sc wv x5 x6 P := by
  obtain ⟨wv', h1, h2, h3⟩ := h
  refine ⟨wv', h1, (Chg.of hb).same h2, ?_⟩
  rcases h3 with h | h | ⟨g, h, hg⟩
  · exact .inl h
  · exact .inr (.inl h)
  · exact .inr (.inr ⟨g, h, Nat.le_trans hb.size hg⟩)
theorem RawTo.then_ {wv1 : Value} (hc : Chg (fun q => fp d sb mb wv q ∨ q = p ∨ q = lm ∨ q = lg) w w1) (hv : wv1.ownBlock = wv.ownBlock ∨ wv1.ownBlock = none ∨ ∃ g, wv1.ownBlock = some g ∧ w.heap.size ≤ g) (h : RawTo w1 w2 p lg lm d sb mb sc wv1 x5 x6 P) : RawTo w w2 p lg lm d sb mb sc wv x5 x6 P := by
  obtain ⟨wv', h1, h2, h3⟩ := h
  refine ⟨wv', h1, hc.trans h2 fun q hq e => ?_, ?_⟩
  · rcases e with e | e
    · exact (fp_next hv e).elim .inl fun h => absurd hq (by omega)
    · exact .inr e
  · rcases h3 with h | h | ⟨g, h, hg⟩
    · rw [h]; exact hv
    · exact .inr (.inl h)
    · exact .inr (.inr ⟨g, h, Nat.le_trans hc.size hg⟩)
/-- behind add -/
def PS.addR (P : PS) (ps : List ByteArray) : Int × St × LogS := addW P.N P.s P.l ps
def PS.addP (P : PS) (ps : List ByteArray) : PS := { P with s := (P.addR ps).2.1, l := (P.addR ps).2.2 }
theorem radd_any (h : Raw w p lg lm d sb mb sc wv x5 x6 P) (hd : P.s.down = false) (hk : P.l.Ok) (hf : P.l.failed = false) (hsz : P.l.size = P.ll) (hfit : 2 + P.ll ≤ P.N) (b n : Nat) (g : Nat → ByteArray) (hb : Own w b 9 (rowS n g n)) (hg : ∀ i, i < n → (g i).size ≤ maxLen) (hn : n ≤ 1000) (hfew : P.s.wr.length ≤ 90000) :
    Calls Tryz.prog 149 #[.pointer (some ⟨p, 0, none⟩), .slice (some ⟨b, 0, none⟩) n n] w fun e w' => e = .returned (.int .i64 (P.addR ((List.range n).map g)).1) ∧ RawTo w w' p lg lm d sb mb sc wv x5 x6 (P.addP ((List.range n).map g)) := by
  have hb0 : ∀ x, (rowS n g n)[0]? ≠ some (.int .u8 x) := fun x hx => by
    cases n with
    | zero => simp [rowS] at hx
    | succ n => rw [rowS_get (n + 1) g (n + 1) 0 (by omega)] at hx; cases hx
  have nb := h.disk.no_own hb (by decide) (by decide) hb0
  have hps := StrsIn.row (S := fun q => ¬ fp d sb mb wv q) hb (by unfold maxLen; omega) hg nb
  refine (padd_any h.disk hd h.log hk hf hsz h.own hfit (.slice (some ⟨b, 0, none⟩) n n) ((List.range n).map g) hps (by simpa using hn) hfew).mono ?_
  rintro e w' ⟨rfl, wv', h1, h2, h3, h4⟩
  refine ⟨rfl, wv', ⟨h1, h2, ?_, ?_, h.ne⟩, h3.mono fun q _ e => e.elim .inl fun e => .inr (.inr (.inr e)), h4⟩
  · exact h3.own h.own fun e => e.elim h.np h.npl
  · exact h.map.keep (h3.block lm h.map.in_ fun e => e.elim h.nm h.nlm)
/-- behind empty -/
def PS.empR (P : PS) : Int × St := runW P.N (empOps P.ll P.M P.seq P.l.next) (0, P.s)
def PS.emp (P : PS) : PS := if P.empR.1 = 0 then { P with s := P.empR.2, seq := P.seq + 1, M := [], l := { P.l with used := 0 } } else { P with s := P.empR.2 }
theorem remp_any (h : Raw w p lg lm d sb mb sc wv x5 x6 P) (hk : P.l.Ok) (hf : P.l.failed = false) (hM : Fine P.most P.M) (hm : P.most ≤ 8191) (hll : P.ll ≤ 70000) (hfew : P.s.wr.length ≤ 300000) (hseq : P.seq + 1 ≤ 18446744073709551615) :
    Calls Tryz.prog 87 #[.pointer (some ⟨p, 0, none⟩)] w fun e w' => e = .returned (.int .i64 P.empR.1) ∧ RawTo w w' p lg lm d sb mb sc wv x5 x6 P.emp := by
  have hlen : P.M.length ≤ 8192 := by
    have := asc_len P.M 0 8191 hM.1 fun q hq => ⟨Nat.zero_le _, by have := (hM.2 q hq).1; omega⟩
    omega
  refine (empty_any h.disk h.log hk hf h.own h.map h.ne hM.1 (fun q hq => ⟨by have := (hM.2 q hq).1; omega, (hM.2 q hq).2⟩) hlen hll hfew hseq).mono ?_
  rintro e w' ⟨rfl, h1, h2⟩
  refine ⟨rfl, ?_⟩
  by_cases c : P.empR.1 = 0
  · obtain ⟨wv', k1, k2, k3, k4, k5, k6⟩ := h1 c
    have e1 : P.emp = { P with s := P.empR.2, seq := P.seq + 1, M := [], l := { P.l with used := 0 } } := if_pos c
    rw [e1]
    exact ⟨wv', ⟨k1, k2, k3, k4, h.ne⟩, k5.mono fun q _ e => e, k6⟩
  · obtain ⟨wv', k1, k2, k3⟩ := h2 c
    have e1 : P.emp = { P with s := P.empR.2 } := if_neg c
    rw [e1]
    exact ⟨wv', ⟨k1, k2.own (show Own w lg 207 (P.l.cells d) from h.log) h.nl, k2.own h.own h.np, h.map.keep (k2.block lm h.map.in_ h.nm), h.ne⟩, k2.mono fun q _ e => .inl e, k3⟩
/-- behind told -/
def PS.told (e : Int) (P : PS) : PS := if e = 11 then { P with failed := true } else P
theorem rtold_any (h : Raw w p lg lm d sb mb sc wv x5 x6 P) (e : Int) :
    Calls Tryz.prog 86 #[.pointer (some ⟨p, 0, none⟩), .int .i64 e] w fun en w' => en = .returned (.int .i64 e) ∧ RawTo w w' p lg lm d sb mb sc wv x5 x6 (PS.told e P) := by
  by_cases c : e = 11
  · subst c
    refine (told_down h.own).mono ?_
    rintro en w' ⟨rfl, h1, h2, h3⟩
    refine ⟨rfl, wv, ⟨h.disk.keep h2 fun q hq e => h.np (by rw [show q = p from e] at hq; exact hq), h2.own (show Own w lg 207 (P.l.cells d) from h.log) (fun e => h.npl (Eq.symm e)), h1, h.map.keep (h2.block lm h.map.in_ h.npm), h.ne⟩, h2.mono fun q _ e => .inr (.inl e), .inl rfl⟩
  · refine (told_else p e c w).mono ?_
    rintro en w' ⟨rfl, rfl⟩
    refine ⟨rfl, ?_⟩
    rw [show PS.told e P = P from if_neg c]
    exact RawTo.same h
end
end Go.Proofs.YtndhmidgnpobjaaGreatDoor
end
