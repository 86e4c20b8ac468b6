
/- The contract of a pager's add: a transaction put into the log as it is. Conditions: the disk's and the log's blocks as they lie. -/
import Derived.Test.YtgfccjijbhoefaaGreatDoorPguD
namespace Go.Proofs.YtgfccjijbhoefaaGreatDoor
open Go.ChangeShapes Go.WideShapes Go.ChangeAt Go.RowKit
set_option linter.unusedVariables false
set_option linter.unusedSimpArgs false

/-- what add answers, and what it leaves of the disk and of the log -/
def addW (N : Nat) (s : St) (l : LogS) (ps : List ByteArray) : Int × St × LogS :=
  if 1 + 9 * ps.length ≤ l.left then
    if (prepW N s (2 + l.used) l.next (1 + 9 * ps.length) (2 + l.size)).1 = 0 then ares N (prepW N s (2 + l.used) l.next (1 + 9 * ps.length) (2 + l.size)).2 l ps
    else ((prepW N s (2 + l.used) l.next (1 + 9 * ps.length) (2 + l.size)).1, (prepW N s (2 + l.used) l.next (1 + 9 * ps.length) (2 + l.size)).2, l)
  else ares N s l ps
theorem prepW_len (N : Nat) (s : St) (at_ q k en : Nat) : (prepW N s at_ q k en).2.wr.length ≤ s.wr.length + 4 := by
  have h1 := Nat.le_trans (runW_len N (umOps s at_ q) (0, s)) (Nat.add_le_add_left (umOps_len s at_ q) _)
  rw [prepW_eq rfl]
  obtain ⟨x, hx⟩ : ∃ x, x = runW N (umOps s at_ q) (0, s) := ⟨_, rfl⟩
  rw [← hx] at h1 ⊢
  simp only at h1
  split
  · have h2 := Nat.le_trans (runW_len N (umOps x.2 (at_ + k) ((q + 1) % 18446744073709551616)) (0, x.2)) (Nat.add_le_add_left (umOps_len _ _ _) _)
    simp only at h2
    omega
  · omega
section
variable {w w1 w2 : World} {p lg d sb mb sc : Nat} {wv : Value} {N ll : Nat} {s s1 : St} {l : LogS} {x2 x4 x5 x6 x7 : Value} {r : St × LogS}
theorem Appended.behind {wv1 : Value} (hc : Chg (fp d sb mb wv) w w1) (hv : wv1.ownBlock = wv.ownBlock ∨ wv1.ownBlock = none ∨ ∃ g, wv1.ownBlock = some g ∧ w.heap.size ≤ g) (h : Appended w1 w2 lg d sb mb sc wv1 N r) : Appended w w2 lg d sb mb sc wv N r := by
  obtain ⟨wv', h1, h2, h3, h4⟩ := h
  refine ⟨wv', h1, h2, (hc.mono fun q _ e => .inl e).trans h3 fun q hq e => ?_, ?_⟩
  · rcases e with e | e
    · exact (fp_next hv e).elim .inl fun h => absurd hq (by omega)
    · exact .inr e
  · rcases h4 with h | h | ⟨g, h, hg⟩
    · rw [h]; exact hv
    · exact .inr (.inl h)
    · exact .inr (.inr ⟨g, h, Nat.le_trans hc.size hg⟩)
theorem Appended.below (h : Appended w w1 lg d sb mb sc wv N r) (hb : Below w1.heap.size w1 w2) : Appended w w2 lg d sb mb sc wv N r := by
  obtain ⟨wv', h1, h2, h3, h4⟩ := h
  exact ⟨wv', h1.below hb, Own.keep h2 hb, h3.call hb, h4⟩
theorem Appended.from_ (h : Appended w1 w2 lg d sb mb sc wv N r) (hb : Below w.heap.size w w1) : Appended w w2 lg d sb mb sc wv N r := by
  obtain ⟨wv', h1, h2, h3, h4⟩ := h
  refine ⟨wv', h1, h2, (Chg.of hb).trans h3 fun q hq e => e, ?_⟩
  rcases h4 with h | h | ⟨g, h, hg⟩
  · exact .inl h
  · exact .inr (.inl h)
  · exact .inr (.inr ⟨g, h, Nat.le_trans hb.size hg⟩)
theorem Wrt.appended (h : Wrt w w1 d sb mb sc wv N s1) (hL : LogAt w1 lg d l) : Appended w w1 lg d sb mb sc wv N (s1, l) := by
  obtain ⟨wv', h1, h2, h3⟩ := h
  exact ⟨wv', h1, hL, h2.mono fun q _ e => .inl e, h3⟩
set_option maxRecDepth 10000 in
set_option maxHeartbeats 2000000 in
theorem padd_any (hD : DiskAt w d sb mb sc wv N s) (hd : s.down = false) (hL : LogAt w lg d l) (hk : l.Ok) (hf : l.failed = false) (hsz : l.size = ll) (hO : Own w p 106 #[.pointer (some ⟨d, 0, none⟩), .int .i64 (ll : Int), x2, .pointer (some ⟨lg, 0, none⟩), x4, x5, x6, x7]) (hfit : 2 + ll ≤ N) (v : Value) (ps : List ByteArray) (hps : StrsIn w (fun b => ¬ fp d sb mb wv b) v ps) (hn : ps.length ≤ 1000) (hfew : s.wr.length ≤ 90000) :
    Calls Tryz.prog 122 #[.pointer (some ⟨p, 0, none⟩), v] w fun e w' => e = .returned (.int .i64 (addW N s l ps).1) ∧ Appended w w' lg d sb mb sc wv N (addW N s l ps).2 := by
  have nl := hD.no_own (show Own w lg 157 (l.cells d) from hL) (by decide) (by decide) (by simp [LogS.cells])
  have np := hD.no_own hO (by decide) (by decide) (by simp)
  have hps2 : StrsIn w (fun b => ¬ fp d sb mb wv b ∧ b < w.heap.size) v ps := hps.mono fun b hb h => ⟨h, hb⟩
  obtain ⟨a, cp, rfl, -, -, -⟩ := hps.open_
  have HLE := Lib.hid (fun W (hb : Below w.heap.size w W) => (show Calls Tryz.prog 143 #[.pointer (some ⟨lg, 0, none⟩)] W fun e w' => e = .returned (.int .i64 (l.left : Nat)) ∧ Below W.heap.size W w' from by
    refine (left_any (show LogAt W lg d l from Own.keep hL hb) hk).mono ?_
    rintro e w' ⟨rfl, q, rfl⟩
    exact ⟨rfl, below_drewN (Below.refl _ _) q⟩))
  have HSO := Lib.hid (fun W => psof_any a ps.length cp W (by omega))
  have HKEEP := Lib.hid (fun W s1 (hWr : Wrt w W d sb mb sc wv N s1) => (show LogAt W lg d l ∧ Own W p 106 #[.pointer (some ⟨d, 0, none⟩), .int .i64 (ll : Int), x2, .pointer (some ⟨lg, 0, none⟩), x4, x5, x6, x7] from by
    obtain ⟨wv', h1, h2, h3⟩ := hWr
    exact ⟨h2.own (show Own w lg 157 (l.cells d) from hL) nl, h2.own hO np⟩))
  have HAP := Lib.hid (fun W s1 (hlen : s1.wr.length ≤ 100000) (hWr : Wrt w W d sb mb sc wv N s1) => (show Calls Tryz.prog 157 #[.pointer (some ⟨lg, 0, none⟩), .slice a ps.length cp] W fun e w' => e = .returned (.int .i64 (ares N s1 l ps).1) ∧ Appended w w' lg d sb mb sc wv N (ares N s1 l ps).2 from by
    obtain ⟨wv', h1, h2, h3⟩ := hWr
    refine (append_any (show LogAt W lg d l from h2.own (show Own w lg 157 (l.cells d) from hL) nl) hk h1 (.slice a ps.length cp) ps ((hps2.keep h2 fun b hb h => h.1).mono fun b hb h e => ?_) hlen (h1.no_own (show Own W lg 157 (l.cells d) from h2.own (show Own w lg 157 (l.cells d) from hL) nl) (by decide) (by decide) (by simp [LogS.cells]))).mono ?_
    · rcases fp_next h3 e with e | e
      · exact h.1 e
      · exact absurd h.2 (by omega)
    · rintro e w' ⟨rfl, h⟩
      exact ⟨rfl, Appended.behind h2 h3 h⟩))
  have HSAME := Lib.hid (fun W (hb : Below w.heap.size w W) => (Wrt.same hD).below hb)
  obtain ⟨n, hn2⟩ : ∃ n, n = ps.length := ⟨_, rfl⟩
  have HADD := Lib.hid (show addW N s l ps = _ from rfl)
  by_cases hle : 1 + 9 * ps.length ≤ l.left
  · have E : addW N s l ps = if (prepW N s (2 + l.used) l.next (1 + 9 * ps.length) (2 + l.size)).1 = 0 then ares N (prepW N s (2 + l.used) l.next (1 + 9 * ps.length) (2 + l.size)).2 l ps else ((prepW N s (2 + l.used) l.next (1 + 9 * ps.length) (2 + l.size)).1, (prepW N s (2 + l.used) l.next (1 + 9 * ps.length) (2 + l.size)).2, l) := if_pos hle
    have HPR := Lib.hid (fun W (hb : Below w.heap.size w W) => prepare_any (hD.below hb) hd (show LogAt W lg d l from Own.keep hL hb) hk hf hsz (hO.keep hb) hfit (1 + 9 * ps.length) (by omega) hle (by omega))
    have hpl := prepW_len N s (2 + l.used) l.next (1 + 9 * ps.length) (2 + l.size)
    rw [← hsz] at HPR
    obtain ⟨x, hx⟩ : ∃ x, x = prepW N s (2 + l.used) l.next (1 + 9 * ps.length) (2 + l.size) := ⟨_, rfl⟩
    rw [← hx] at E HPR hpl
    obtain ⟨r, hr⟩ : ∃ r, r = addW N s l ps := ⟨_, rfl⟩
    rw [← hr]
    rw [← hr] at E
    have HE := Lib.hid (fun (h : x.1 = 0) => (E.trans (if_pos h)))
    have HNE := Lib.hid (fun (h : x.1 ≠ 0) => (E.trans (if_neg h)))
    rw [← hn2] at HSO HPR HAP hle ⊢
    obtain ⟨L, hL2⟩ : ∃ L, L = l.left := ⟨_, rfl⟩
    rw [← hL2] at HLE hle
    obtain ⟨K, hK⟩ : ∃ K, K = 1 + 9 * n := ⟨_, rfl⟩
    rw [← hK] at HSO HPR hle
    have tt : decide (K ≤ L) = true := by simpa using hle
    have HO := Lib.hid hO
    clear HADD hL2 hK hx E hr hD hd hL hk hf hO hps hps2 hn hn2 nl np hle
    obtain ⟨e1, s1⟩ := x
    simp only at HPR hpl HE HNE
    go_enter Tryz.func122, Tryz.ntmps122
    go_upto_region 1 with fail
    refine wp_region_seq (fun W => Own W p 106 #[.pointer (some ⟨d, 0, none⟩), .int .i64 (ll : Int), x2, .pointer (some ⟨lg, 0, none⟩), x4, x5, x6, x7]) (0 :: 2 :: 3 :: 4 :: 5 :: 7 :: []) (5 :: []) (0 :: 2 :: 3 :: 4 :: 5 :: 1 :: 6 :: 7 :: []) (by kernel_rfl) (by kernel_rfl) rfl (by kernel_rfl) rfl (HO.out.drawn) (by simp only [picked, List.filterMap_cons, List.filterMap_nil, List.getElem?_cons_zero, List.getElem?_cons_succ, Option.map_some]; exact rfl) ?_
    iterate 5
      refine seq_want (v := ?_) rfl rfl (fun W hS => ?_) ?_
      rotate_left
      · first
          | (conv => lhs; simp [go_sem, tt]
             first | done | exact rfl)
          | (have hS := hS rfl
             obtain ⟨q1, q4, q5⟩ := Own.at_ hS
             conv => lhs; simp [go_sem, *, tt]
             first | done | exact rfl)
      simp only [Act.put, List.setIfInBounds_toArray, List.set_cons_zero, List.set_cons_succ]
    refine seq_on rfl rfl fun K hK => ?_
    go_wp2_with (go_at_call 123; refine (HSO.out _).mono ?_; rintro e w3 ⟨rfl, rfl⟩)
    refine hK _ _ HO.out.drawn ?_
    clear hK K
    refine seq_on rfl rfl fun K hK => ?_
    go_wp2_with (go_at_call 143; refine (HLE.out _ ((Below.refl _ _).drew)).mono ?_; rintro e w3 ⟨rfl, hw3⟩)
    have B3 := Lib.hid (then_ (Below.refl w.heap.size w).drew hw3 (Below.refl w.heap.size w).drew.size)
    clear hw3
    have O3 := Lib.hid (HO.out.keep B3.out)
    refine hK _ _ O3.out ?_
    clear hK K
    iterate 1
      refine seq_want (v := ?_) rfl rfl (fun W hS => ?_) ?_
      rotate_left
      · first
          | (conv => lhs; simp [go_sem, tt]
             first | done | exact rfl)
          | (have hS := hS rfl
             obtain ⟨q1, q4, q5⟩ := Own.at_ hS
             conv => lhs; simp [go_sem, *, tt]
             first | done | exact rfl)
      simp only [Act.put, List.setIfInBounds_toArray, List.set_cons_zero, List.set_cons_succ]
    refine seq_end ?_
    by_cases c : e1 = 0
    · subst c
      have HE2 := Lib.hid (HE.out rfl)
      clear HE HNE
      go_wp2_with (first
        | (go_at_call 123; refine (HSO.out _).mono ?_; rintro e w4 ⟨rfl, rfl⟩)
        | (go_at_call 156; refine (HPR.out _ B3.out).mono ?_; rintro e w5 ⟨rfl, hw5⟩; have R5 := Lib.hid (Wrt.from_ hw5 B3.out); clear hw5; obtain ⟨q1, q2, q3⟩ := (HKEEP.out _ _ R5.out).2.at_)
        | (go_at_call 157; refine (HAP.out _ _ (by omega) R5.out).mono ?_; rintro e w6 ⟨rfl, hw6⟩; have R6 := Lib.hid hw6; clear hw6))
      go_ret
      rw [HE2.out]
      exact ⟨rfl, R6.out⟩
    · have HE2 := Lib.hid (HNE.out c)
      clear HE HNE
      have t1 : (e1 != 0) = true := by simpa using c
      clear c
      go_wp2_with (first
        | (go_at_call 123; refine (HSO.out _).mono ?_; rintro e w4 ⟨rfl, rfl⟩)
        | (go_at_call 156; refine (HPR.out _ B3.out).mono ?_; rintro e w5 ⟨rfl, hw5⟩; have R5 := Lib.hid (Wrt.appended (Wrt.from_ hw5 B3.out) (HKEEP.out _ _ (Wrt.from_ hw5 B3.out)).1); clear hw5))
      go_ret
      rw [HE2.out]
      exact ⟨rfl, R5.out⟩
  · have E : addW N s l ps = ares N s l ps := if_neg hle
    rw [E]
    rw [← hn2] at HSO HAP hle ⊢
    obtain ⟨L, hL2⟩ : ∃ L, L = l.left := ⟨_, rfl⟩
    rw [← hL2] at HLE hle
    obtain ⟨K, hK⟩ : ∃ K, K = 1 + 9 * n := ⟨_, rfl⟩
    rw [← hK] at HSO hle
    have tt : decide (K ≤ L) = false := by simpa using hle
    have HO := Lib.hid hO
    clear HADD hL2 hK E hD hd hL hk hf hO hps hps2 hn hn2 nl np hle
    go_enter Tryz.func122, Tryz.ntmps122
    go_upto_region 1 with fail
    refine wp_region_seq (fun W => Own W p 106 #[.pointer (some ⟨d, 0, none⟩), .int .i64 (ll : Int), x2, .pointer (some ⟨lg, 0, none⟩), x4, x5, x6, x7]) (0 :: 2 :: 3 :: 4 :: 5 :: 7 :: []) (5 :: []) (0 :: 2 :: 3 :: 4 :: 5 :: 1 :: 6 :: 7 :: []) (by kernel_rfl) (by kernel_rfl) rfl (by kernel_rfl) rfl (HO.out.drawn) (by simp only [picked, List.filterMap_cons, List.filterMap_nil, List.getElem?_cons_zero, List.getElem?_cons_succ, Option.map_some]; exact rfl) ?_
    iterate 5
      refine seq_want (v := ?_) rfl rfl (fun W hS => ?_) ?_
      rotate_left
      · first
          | (conv => lhs; simp [go_sem, tt]
             first | done | exact rfl)
          | (have hS := hS rfl
             obtain ⟨q1, q4, q5⟩ := Own.at_ hS
             conv => lhs; simp [go_sem, *, tt]
             first | done | exact rfl)
      simp only [Act.put, List.setIfInBounds_toArray, List.set_cons_zero, List.set_cons_succ]
    refine seq_on rfl rfl fun K hK => ?_
    go_wp2_with (go_at_call 123; refine (HSO.out _).mono ?_; rintro e w3 ⟨rfl, rfl⟩)
    refine hK _ _ HO.out.drawn ?_
    clear hK K
    refine seq_on rfl rfl fun K hK => ?_
    go_wp2_with (go_at_call 143; refine (HLE.out _ ((Below.refl _ _).drew)).mono ?_; rintro e w3 ⟨rfl, hw3⟩)
    have B3 := Lib.hid (then_ (Below.refl w.heap.size w).drew hw3 (Below.refl w.heap.size w).drew.size)
    clear hw3
    have O3 := Lib.hid (HO.out.keep B3.out)
    refine hK _ _ O3.out ?_
    clear hK K
    iterate 1
      refine seq_want (v := ?_) rfl rfl (fun W hS => ?_) ?_
      rotate_left
      · first
          | (conv => lhs; simp [go_sem, tt]
             first | done | exact rfl)
          | (have hS := hS rfl
             obtain ⟨q1, q4, q5⟩ := Own.at_ hS
             conv => lhs; simp [go_sem, *, tt]
             first | done | exact rfl)
      simp only [Act.put, List.setIfInBounds_toArray, List.set_cons_zero, List.set_cons_succ]
    refine seq_end ?_
    obtain ⟨q1, q2, q3⟩ := O3.out.at_
    go_wp2_with (go_at_call 157; refine (HAP.out _ _ (by omega) (HSAME.out _ B3.out)).mono ?_; rintro e w6 ⟨rfl, hw6⟩; have R6 := Lib.hid hw6; clear hw6)
    go_ret
    exact ⟨rfl, R6.out⟩
end
end Go.Proofs.YtgfccjijbhoefaaGreatDoor
