
/- What a transaction's write leaves of a disk, wherever it stops: plain mathematics. It speaks of no function. Conditions: those that each theorem names. -/
import Derived.Test.YtmincpmkiheofaaCraS
namespace Go.Proofs.Ytmincpmkiheofaa
open Go.ChangeShapes Go.WideShapes Go.ChangeAt Go.RowKit
set_option linter.unusedVariables false
set_option linter.unusedSimpArgs false

theorem wres_eff (n : Nat) (s : St) (i : Nat) (t : ByteArray) : ((wres n s (i : Int) t).1 ≠ 0 ∧ (wres n s (i : Int) t).2.wr = s.wr ∧ (wres n s (i : Int) t).2.sure = s.sure) ∨ ((wres n s (i : Int) t).1 = 0 ∧ (wres n s (i : Int) t).2.wr = s.wr ++ [(i, t)] ∧ (wres n s (i : Int) t).2.sure = s.sure) := by
  obtain ⟨h1, h2⟩ := burn_eq s
  unfold wres
  split
  · exact .inl ⟨by show (11 : Int) ≠ 0; decide, rfl, rfl⟩
  · split
    · exact .inl ⟨by show (1 : Int) ≠ 0; decide, rfl, rfl⟩
    · split
      · refine .inr ⟨rfl, ?_, ?_⟩
        · simp [h1]
        · simp [h2]
      · exact .inl ⟨by show (11 : Int) ≠ 0; decide, h1, h2⟩
theorem fres_eff (s : St) : ((fres s).1 ≠ 0 ∧ (fres s).2.wr = s.wr ∧ (fres s).2.sure = s.sure) ∨ ((fres s).1 = 0 ∧ (fres s).2.wr = [] ∧ (fres s).2.sure = settled (fun _ => 64) s.wr 0 s.sure) := by
  obtain ⟨h1, h2⟩ := burn_eq s
  unfold fres
  split
  · exact .inl ⟨by show (11 : Int) ≠ 0; decide, rfl, rfl⟩
  · split
    · exact .inr ⟨rfl, rfl, rfl⟩
    · exact .inl ⟨by show (11 : Int) ≠ 0; decide, h1, h2⟩
theorem run_writes (N : Nat) : ∀ (W : List (Nat × ByteArray)) (s : St), ∃ k, k ≤ W.length ∧ (runW N (W.map some) (0, s)).2.wr = s.wr ++ W.take k ∧ (runW N (W.map some) (0, s)).2.sure = s.sure ∧ ((runW N (W.map some) (0, s)).1 = 0 → k = W.length)
  | [], s => ⟨0, Nat.le_refl _, by simp [runW], rfl, fun _ => rfl⟩
  | x :: W, s => by
    obtain ⟨i, t⟩ := x
    have e : runW N (((i, t) :: W).map some) (0, s) = runW N (W.map some) (wres N s (i : Int) t) := by
      show runW N (W.map some) (stepW N (0, s) (some (i, t))) = _
      congr 1
    rw [e]
    have h := wres_eff N s i t
    generalize wres N s (i : Int) t = r at h ⊢
    obtain ⟨e1, s1⟩ := r
    simp only at h
    rcases h with ⟨h0, h1, h2⟩ | ⟨h0, h1, h2⟩
    · rw [runW_stuck N _ _ h0]
      exact ⟨0, Nat.zero_le _, by simp [h1], h2, fun h => absurd h h0⟩
    · subst h0
      obtain ⟨k, a, b, c, d⟩ := run_writes N W s1
      refine ⟨k + 1, by simp; omega, ?_, c.trans h2, fun h => by rw [d h]; rfl⟩
      rw [b, h1]
      simp
/-- the writes of pages -/
def pgW (base k : Nat) (p : ByteArray) : List (Nat × ByteArray) := (List.range 9).map fun i => (base + (1 + 9 * k + i), secB p i)
def wl (base : Nat) (ps : List ByteArray) (n : Nat) : List (Nat × ByteArray) := (List.range n).flatMap fun j => pgW base j (ps.getD j ⟨#[]⟩)
theorem wl_succ (base : Nat) (ps : List ByteArray) (n : Nat) : wl base ps (n + 1) = wl base ps n ++ pgW base n (ps.getD n ⟨#[]⟩) := by simp [wl, List.range_succ]
theorem pgW_ops (base k : Nat) (p : ByteArray) : pgPart base k p 9 = (pgW base k p).map some := by unfold pgPart pgW; rw [List.map_map]; rfl
theorem wl_ops (base : Nat) (ps : List ByteArray) : ∀ n, opsTo base ps n = (wl base ps n).map some
  | 0 => rfl
  | n + 1 => by
    have e : opsTo base ps (n + 1) = opsTo base ps n ++ pgPart base n (ps.getD n ⟨#[]⟩) 9 := by simp [opsTo, List.range_succ]
    rw [e, wl_succ, List.map_append, wl_ops base ps n, pgW_ops]
theorem wl_places (base : Nat) (ps : List ByteArray) : ∀ n, (wl base ps n).map (·.1) = List.range' (base + 1) (9 * n)
  | 0 => rfl
  | n + 1 => by
    have e : (pgW base n (ps.getD n ⟨#[]⟩)).map (·.1) = List.range' (base + 1 + 9 * n) 9 := by
      unfold pgW
      rw [List.map_map, List.range'_eq_map_range]
      apply List.map_congr_left
      intro i _
      show base + (1 + 9 * n + i) = base + 1 + 9 * n + i
      omega
    rw [wl_succ, List.map_append, wl_places base ps n, e, List.range'_append_1]
    congr 1
theorem wl_mem {base : Nat} {ps : List ByteArray} {n : Nat} {x : Nat × ByteArray} (hx : x ∈ wl base ps n) : ∃ k i, k < n ∧ i < 9 ∧ x = (base + (1 + 9 * k + i), secB (ps.getD k ⟨#[]⟩) i) := by
  obtain ⟨k, hk, hx⟩ := List.mem_flatMap.1 hx
  obtain ⟨i, hi, rfl⟩ := List.mem_map.1 hx
  exact ⟨k, i, List.mem_range.1 hk, List.mem_range.1 hi, rfl⟩
theorem mem_wl {base : Nat} {ps : List ByteArray} {n k i : Nat} (hk : k < n) (hi : i < 9) : (base + (1 + 9 * k + i), secB (ps.getD k ⟨#[]⟩) i) ∈ wl base ps n :=
  List.mem_flatMap.2 ⟨k, List.mem_range.2 hk, List.mem_map.2 ⟨i, List.mem_range.2 hi, rfl⟩⟩
/-- the sectors from one on -/
def fi (L : List UInt8) (at_ q : Nat) : ByteArray := secOf L ((at_ + q : Nat) : Int)
section
variable {N at_ size seq : Nat} {S : List (Nat × List ByteArray)} {L : List UInt8} {ps : List ByteArray}
theorem fi_size (hL : L.length = N * 64) (hfit : at_ + size ≤ N) (q : Nat) (hq : q < size) : (fi L at_ q).size = 64 := sec_size _ _ (by omega)
/-- writes behind the log's end, of noughts at the place 10, leave it at rest -/
theorem idle_part (hI : Idle (fi L at_) size seq S) (hL : L.length = N * 64) (hfit : at_ + size ≤ N) (W : List (Nat × ByteArray)) (hW : Fits N W) (hp : ∀ x ∈ W, at_ + long S < x.1 ∧ bN x.2 10 = 0) (kp : Nat → Nat) (hkp : ∀ j, kp j ≤ 64) (j : Nat) :
    Idle (fi (settled kp W j L) at_) size seq S := by
  have hz := settled_len kp N W j L hL hW
  refine hI.keep (fun q a b => ?_) (fun q hq => fi_size hz hfit q hq) fun q a b => ?_
  · exact sec_settled kp N (at_ + q) W j L hL hW fun x hx => by have := (hp x hx).1; omega
  · exact zero_settled kp hkp N (at_ + q) (by omega) W j L hL hW (fun x hx => (hp x hx).2) (hI.zero q a b)
theorem wl_fits (hsz : ∀ p ∈ ps, p.size = 512) {base : Nat} (hb : base + (1 + 9 * ps.length) ≤ N) : Fits N (wl base ps ps.length) := fun x hx => by
  obtain ⟨k, i, hk, hi, rfl⟩ := wl_mem hx
  have hp : (ps.getD k ⟨#[]⟩).size = 512 := by
    rw [List.getD_eq_getElem?_getD, List.getElem?_eq_getElem hk]
    exact hsz _ (List.getElem_mem hk)
  exact ⟨by show base + (1 + 9 * k + i) < N; omega, secB_size _ (by omega) i hi⟩
theorem wl_behind (hsz : ∀ p ∈ ps, p.size = 512) {base : Nat} : ∀ x ∈ wl base ps ps.length, base < x.1 ∧ bN x.2 10 = 0 := fun x hx => by
  obtain ⟨k, i, hk, hi, rfl⟩ := wl_mem hx
  have hp : (ps.getD k ⟨#[]⟩).size = 512 := by
    rw [List.getD_eq_getElem?_getD, List.getElem?_eq_getElem hk]
    exact hsz _ (List.getElem_mem hk)
  exact ⟨by show base < base + (1 + 9 * k + i); omega, secB_ten _ (by omega) i hi⟩
/-- the mark's write -/
theorem idle_mark (hI : Idle (fi L at_) size seq S) (hL : L.length = N * 64) (hfit : at_ + size ≤ N) (hs : seq < 18446744073709551616) (n1 : 1 ≤ ps.length) (n2 : ps.length ≤ 64) (n3 : 1 + 9 * ps.length ≤ size - long S) (hsz : ∀ p ∈ ps, p.size = 512)
    (hpg : ∀ k (hk : k < ps.length) i, i < 9 → fi L at_ (long S + 1 + 9 * k + i) = secB (ps[k]'hk) i) (b : Nat) (hb : b ≤ 64) :
    (Idle (fi (putB L ((at_ + long S) * 64) ((markB ((seq + S.length) % 18446744073709551616) ps.length).extract 0 b)) at_) size seq S ∧ b ≠ 64) ∨
    Idle (fi (putB L ((at_ + long S) * 64) ((markB ((seq + S.length) % 18446744073709551616) ps.length).extract 0 b)) at_) size seq (S ++ [((seq + S.length) % 18446744073709551616, ps)]) := by
  have hu : long S < size := by omega
  have ho := hI.mark hu
  obtain ⟨M, hM⟩ : ∃ M, M = markB ((seq + S.length) % 18446744073709551616) ps.length := ⟨_, rfl⟩
  have zM : M.size = 64 := by rw [hM]; exact markB_size _ _
  have hlen : (putB L ((at_ + long S) * 64) (M.extract 0 b)).length = N * 64 := put_len (x := (at_ + long S, M)) hL (by show at_ + long S < N; omega) zM
  have hne : ∀ q, q ≠ long S → fi (putB L ((at_ + long S) * 64) (M.extract 0 b)) at_ q = fi L at_ q := fun q hq =>
    sec_put_ne L (at_ + long S) (at_ + q) _ (by omega) (by rw [ByteArray.size_extract]; omega) (by omega)
  have hat : fi (putB L ((at_ + long S) * 64) (M.extract 0 b)) at_ (long S) = torn1 M (fi L at_ (long S)) b := sec_put_torn L (at_ + long S) M b zM hb (by omega)
  have h2 : ∀ q, q < size → (fi (putB L ((at_ + long S) * 64) (M.extract 0 b)) at_ q).size = 64 := fi_size hlen hfit
  have h3 : ∀ q, long S < q → q < size → bN (fi (putB L ((at_ + long S) * 64) (M.extract 0 b)) at_ q) 10 = 0 := fun q a c => by rw [hne q (by omega)]; exact hI.zero q a c
  rw [← hM]
  have hmore : fi (putB L ((at_ + long S) * 64) (M.extract 0 b)) at_ (long S) = M → Idle (fi (putB L ((at_ + long S) * 64) (M.extract 0 b)) at_) size seq (S ++ [((seq + S.length) % 18446744073709551616, ps)]) := fun e =>
    hI.more hs ps n1 n2 n3 hsz (fun q hq => hne q (by omega)) (by rw [e, hM]) (fun k hk i hi => by rw [hne _ (by omega)]; exact hpg k hk i hi) h2 h3
  by_cases c : b = 64
  · subst c
    exact .inr (hmore (sec_put_same L (at_ + long S) M zM (by omega)))
  · rcases (hM ▸ torn_mark ho n2 hb : Open1 (torn1 M (fi L at_ (long S)) b) _ ∨ torn1 M (fi L at_ (long S)) b = M) with h | h
    · exact .inl ⟨hI.torn (fun q hq => hne q (by omega)) h2 h3 fun _ => by rw [hat]; exact h, c⟩
    · exact .inr (hmore (hat.trans h))
/-- a transaction's write, whole or stopped -/
theorem txn_crash {s : St} (hI : Idle (fi s.sure at_) size seq S) (hL : s.sure.length = N * 64) (hw : s.wr = []) (hfit : at_ + size ≤ N) (hs : seq < 18446744073709551616) (n1 : 1 ≤ ps.length) (n2 : ps.length ≤ 64) (n3 : 1 + 9 * ps.length ≤ size - long S) (hsz : ∀ p ∈ ps, p.size = 512)
    {r : Int × St} (hr : r = runW N (txnOps (at_ + long S) ps ((seq + S.length) % 18446744073709551616)) (0, s)) :
    (r.1 = 0 → r.2.wr = [] ∧ Idle (fi r.2.sure at_) size seq (S ++ [((seq + S.length) % 18446744073709551616, ps)])) ∧
    ∀ kp : Nat → Nat, (∀ j, kp j ≤ 64) → Idle (fi (settled kp r.2.wr 0 r.2.sure) at_) size seq S ∨ Idle (fi (settled kp r.2.wr 0 r.2.sure) at_) size seq (S ++ [((seq + S.length) % 18446744073709551616, ps)]) := by
  have hF := wl_fits (N := N) hsz (base := at_ + long S) (by omega)
  have hB := wl_behind hsz (base := at_ + long S)
  have hN := wl_places (at_ + long S) ps ps.length
  have hW := fun k i => @mem_wl (at_ + long S) ps ps.length k i
  obtain ⟨k, k1, k2, k3, k4⟩ := run_writes N (wl (at_ + long S) ps ps.length) s
  rw [← wl_ops] at k2 k3 k4
  have er : r = stepW N (stepW N (stepW N (runW N (opsTo (at_ + long S) ps ps.length) (0, s)) none) (some (at_ + long S, markB ((seq + S.length) % 18446744073709551616) ps.length))) none := by
    rw [hr]; unfold txnOps; rw [runW_app]; rfl
  clear hr
  generalize runW N (opsTo (at_ + long S) ps ps.length) (0, s) = x1 at k2 k3 k4 er
  generalize wl (at_ + long S) ps ps.length = W at *
  obtain ⟨e1, s1⟩ := x1
  simp only at k2 k3 k4
  rw [hw, List.nil_append] at k2
  have hend : ∀ r : Int × St, r.1 ≠ 0 → r.2.wr = W.take k → r.2.sure = s.sure → (r.1 = 0 → r.2.wr = [] ∧ Idle (fi r.2.sure at_) size seq (S ++ [((seq + S.length) % 18446744073709551616, ps)])) ∧
      ∀ kp : Nat → Nat, (∀ j, kp j ≤ 64) → Idle (fi (settled kp r.2.wr 0 r.2.sure) at_) size seq S ∨ Idle (fi (settled kp r.2.wr 0 r.2.sure) at_) size seq (S ++ [((seq + S.length) % 18446744073709551616, ps)]) := fun r h1 h2 h3 =>
    ⟨fun h => absurd h h1, fun kp hkp => .inl (by rw [h2, h3]; exact idle_part hI hL hfit _ (fun x hx => hF x (List.mem_of_mem_take hx)) (fun x hx => hB x (List.mem_of_mem_take hx)) kp hkp 0)⟩
  by_cases c1 : e1 = 0
  rotate_left
  · have s1' : ∀ o, stepW N (e1, s1) o = (e1, s1) := fun o => by unfold stepW; rw [if_neg c1]
    rw [s1', s1', s1'] at er
    subst er
    exact hend _ c1 k2 k3
  subst c1
  rw [show stepW N (0, s1) none = fres s1 from by unfold stepW; rw [if_pos rfl]; rfl] at er
  have h := fres_eff s1
  rw [k2, k3] at h
  generalize fres s1 = x2 at h er
  obtain ⟨e2, s2⟩ := x2
  simp only at h
  rcases h with ⟨c2, w2, u2⟩ | ⟨c2, w2, u2⟩
  · have s1' : ∀ o, stepW N (e2, s2) o = (e2, s2) := fun o => by unfold stepW; rw [if_neg c2]
    rw [s1', s1'] at er
    subst er
    exact hend _ c2 w2 u2
  subst c2
  have hk := k4 rfl
  rw [hk, List.take_length] at u2
  have hI2 : Idle (fi s2.sure at_) size seq S := by rw [u2]; exact idle_part hI hL hfit W hF hB _ (fun _ => Nat.le_refl _) 0
  have hL2 : s2.sure.length = N * 64 := by rw [u2]; exact settled_len _ N W 0 _ hL hF
  have hP2 : ∀ k (hk : k < ps.length) i, i < 9 → fi s2.sure at_ (long S + 1 + 9 * k + i) = secB (ps[k]'hk) i := fun k hk i hi => by
    have h1 := all_settled N W 0 s.sure hL hF (by rw [hN]; exact List.nodup_range') _ (hW k i hk hi)
    rw [← u2] at h1
    have e : ps.getD k ⟨#[]⟩ = ps[k] := by rw [List.getD_eq_getElem?_getD, List.getElem?_eq_getElem hk]; rfl
    rw [e] at h1
    refine Eq.trans ?_ h1
    unfold fi
    congr 2
    omega
  have hm := idle_mark hI2 hL2 hfit hs n1 n2 n3 hsz hP2
  obtain ⟨M, hM⟩ : ∃ M, M = markB ((seq + S.length) % 18446744073709551616) ps.length := ⟨_, rfl⟩
  rw [← hM] at hm er
  clear hM
  rw [show stepW N (0, s2) (some (at_ + long S, M)) = wres N s2 ((at_ + long S : Nat) : Int) M from by unfold stepW; rw [if_pos rfl]; rfl] at er
  have h := wres_eff N s2 (at_ + long S) M
  rw [w2] at h
  generalize wres N s2 ((at_ + long S : Nat) : Int) M = x3 at h er
  obtain ⟨e3, s3⟩ := x3
  simp only at h
  rcases h with ⟨c3, w3, u3⟩ | ⟨c3, w3, u3⟩
  · have s1' : ∀ o, stepW N (e3, s3) o = (e3, s3) := fun o => by unfold stepW; rw [if_neg c3]
    rw [s1'] at er
    subst er
    refine ⟨fun h => absurd h c3, fun kp _ => .inl ?_⟩
    show Idle (fi (settled kp s3.wr 0 s3.sure) at_) size seq S
    rw [w3, u3]
    exact hI2
  subst c3
  rw [show stepW N (0, s3) none = fres s3 from by unfold stepW; rw [if_pos rfl]; rfl] at er
  have h := fres_eff s3
  rw [w3, u3] at h
  generalize fres s3 = x4 at h er
  subst er
  obtain ⟨e4, s4⟩ := r
  simp only at h ⊢
  have hst : ∀ kp : Nat → Nat, settled kp ([] ++ [(at_ + long S, M)]) 0 s2.sure = putB s2.sure ((at_ + long S) * 64) (M.extract 0 (kp 0)) := fun kp => rfl
  rcases h with ⟨c4, w4, u4⟩ | ⟨c4, w4, u4⟩
  · refine ⟨fun h => absurd h c4, fun kp hkp => ?_⟩
    rw [w4, u4, hst]
    rcases hm (kp 0) (hkp 0) with h | h
    · exact .inl h.1
    · exact .inr h
  · rw [hst] at u4
    have h := hm 64 (Nat.le_refl _)
    rw [← u4] at h
    rcases h with h | h
    · exact absurd rfl h.2
    · refine ⟨fun _ => ⟨w4, h⟩, fun kp _ => .inr ?_⟩
      rw [w4]
      exact h
end
end Go.Proofs.Ytmincpmkiheofaa
