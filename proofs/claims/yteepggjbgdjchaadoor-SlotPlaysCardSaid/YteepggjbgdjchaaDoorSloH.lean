
/- The contracts of slot's Add, change, Set, Del, Left. Conditions: strings within Go's own limit. -/
import Derived.Test.YteepggjbgdjchaaDoorSloG
namespace Go.Proofs.YteepggjbgdjchaaDoor
open Go.ChangeShapes Go.WideShapes Go.ChangeAt Go.RowKit
set_option linter.unusedVariables false
set_option linter.unusedSimpArgs false

/-- what Add answers -/
def ad (s r : ByteArray) : ByteArray × Nat × Nat := match rd s with
  | none => (⟨#[]⟩, 0, 2)
  | some L => if (pk ((vl L).set (vk L) (true, r))).2 = 0 then ((pk ((vl L).set (vk L) (true, r))).1, vk L, 0) else (⟨#[]⟩, 0, (pk ((vl L).set (vk L) (true, r))).2)
/-- what Set and Del answer -/
def ch (s : ByteArray) (i : Int) (x : Sl) : ByteArray × Nat := if hs s i = 0 then (match rd s with | none => (⟨#[]⟩, 2) | some L => pk (L.set i.toNat x)) else (⟨#[]⟩, hs s i)
/-- what Left answers -/
def lf (s : ByteArray) : Int := match rd s with | none => -1 | some L => max (496 - (sz (vl L) : Int)) (-1)
theorem pk_le (l : List Sl) : (pk l).2 ≤ 8 ∧ ((pk l).2 ≠ 0 → (pk l).1 = ⟨#[]⟩) := by
  unfold pk
  by_cases h1 : l.all okS = false
  · rw [if_pos h1]; exact ⟨by decide, fun _ => rfl⟩
  · rw [if_neg h1]
    by_cases h2 : 496 < sz (tr l)
    · rw [if_pos h2]; exact ⟨by decide, fun _ => rfl⟩
    · rw [if_neg h2]; exact ⟨Nat.zero_le _, fun h => absurd rfl h⟩
theorem sz_bound (l : List Sl) (n c : Nat) (hn : l.length ≤ n) (h : ∀ x ∈ l, x.2.size ≤ c) : sz l ≤ 2 + n * (2 + c) := by
  have key : ∀ m : List Sl, (∀ x ∈ m, x.2.size ≤ c) → (recs m).length ≤ m.length * c := by
    intro m
    induction m with
    | nil => intro _; simp [recs]
    | cons x m ih =>
      intro hm
      have h1 := ih (fun y hy => hm y (List.mem_cons_of_mem _ hy))
      have h2 := hm x (List.mem_cons_self)
      rw [show x :: m = [x] ++ m from rfl, recs_app, recs_one, List.length_append, len_data, List.length_append, List.length_singleton, Nat.add_mul]
      omega
  have h1 := key l h
  have h2 : l.length * c ≤ n * c := Nat.mul_le_mul_right _ hn
  have h3 : n * (2 + c) = 2 * n + n * c := by rw [Nat.mul_add]; omega
  unfold sz
  omega
theorem set_size {l : List Sl} {c k : Nat} {x : Sl} (h : ∀ y ∈ l, y.2.size ≤ c) (hx : x.2.size ≤ c) : ∀ y ∈ l.set k x, y.2.size ≤ c := fun y hy => by
  rcases List.mem_or_eq_of_mem_set hy with hy | rfl
  · exact h y hy
  · exact hx
set_option maxRecDepth 10000 in
set_option maxHeartbeats 1000000 in
theorem add_slot (s r : ByteArray) (w : World) (hz : s.size ≤ 140737488355328) (hrz : r.size ≤ 140737488351232) :
    Calls Tryd.prog 13 #[.string s, .string r] w fun e w' => e = .returned (.tuple #[.string (ad s r).1, .int .i64 ((ad s r).2.1 : Nat), .int .i64 ((ad s r).2.2 : Nat)]) ∧ Below w.heap.size w w' := by
  have HV := vacant_any s w hz
  cases hr : rd s with
  | none =>
    have e0 : ad s r = (⟨#[]⟩, 0, 2) := by unfold ad; rw [hr]
    rw [e0]
    have HV2 : Hid (Calls Tryd.prog 26 #[.string s] w fun e w' => e = .returned (.tuple #[.slice none 0 0, .int .i64 0, .bool false]) ∧ Below w.heap.size w w') := Lib.hid (HV.mono fun e w1 h => by
      rcases h.1 with ⟨_, h1⟩ | ⟨L, b, cap, h1, _⟩
      · exact ⟨h1, h.2⟩
      · rw [hr] at h1; cases h1)
    clear hr HV e0
    go_enter Tryd.func13, Tryd.ntmps13
    go_wp2_with (go_at_call 26; refine HV2.out.mono ?_; rintro e w2 ⟨rfl, hb2⟩; have B2 := Lib.hid hb2; clear hb2)
    refine bodyPost_ret (by simp [results, Tryd.results13, go_sem, *]) rfl ⟨rfl, B2.out⟩
  | some L =>
    obtain ⟨hl, hxs, -⟩ := rd_len hr
    have hvl := (vl_len L).2
    have hvk := vk_lt L
    have hvx := vl_size L 496 hxs
    have hset : ∀ y ∈ (vl L).set (vk L) (true, r), y.2.size ≤ 140737488351232 := set_size (fun y hy => by have := hvx y hy; omega) hrz
    have hsb := sz_bound _ 248 _ (by rw [List.length_set]; omega) hset
    have HP : Hid (∀ W b cap, SlRowC W b cap ((vl L).set (vk L) (true, r)) → Calls Tryd.prog 24 #[.slice (some ⟨b, 0, none⟩) (vl L).length cap] W fun e w' => e = .returned (.tuple #[.string (pk ((vl L).set (vk L) (true, r))).1, .int .i64 ((pk ((vl L).set (vk L) (true, r))).2 : Nat)]) ∧ Below W.heap.size W w') := Lib.hid fun W b cap h => by
      have := h.in_ (fun y hy => by have := hset y hy; unfold maxLen; omega)
      rw [List.length_set] at this
      exact pack_any _ _ W this (by omega)
    have e0 : ad s r = if (pk ((vl L).set (vk L) (true, r))).2 = 0 then ((pk ((vl L).set (vk L) (true, r))).1, vk L, 0) else (⟨#[]⟩, 0, (pk ((vl L).set (vk L) (true, r))).2) := by unfold ad; rw [hr]
    have HV2 : Hid (Calls Tryd.prog 26 #[.string s] w fun e w' => ∃ b cap, e = .returned (.tuple #[.slice (some ⟨b, 0, none⟩) (vl L).length cap, .int .i64 (vk L : Nat), .bool true]) ∧ w.heap.size ≤ b ∧ SlRowC w' b cap (vl L) ∧ Below w.heap.size w w') := Lib.hid (HV.mono fun e w1 h => by
      rcases h.1 with ⟨h1, _⟩ | ⟨L', b, cap, h1, h2, h3, h4⟩
      · rw [hr] at h1; cases h1
      · rw [hr] at h1; injection h1 with h1; subst h1
        exact ⟨b, cap, h2, h3, h4, h.2⟩)
    have ple := pk_le ((vl L).set (vk L) (true, r))
    obtain ⟨p, c, hp⟩ : ∃ p c, pk ((vl L).set (vk L) (true, r)) = (p, c) := ⟨_, _, rfl⟩
    rw [hp] at HP e0 ple
    simp only at HP e0 ple
    have PUT : ∀ W b cap, SlRowC W b cap (vl L) → SlRowC ((W.setCell ⟨b, vk L * 2, none⟩ (.bool true)).setCell ⟨b, vk L * 2 + 1, none⟩ (.string r)) b cap ((vl L).set (vk L) (true, r)) := fun W b cap h => h.put (vk L) hvk true r
    have CA : ∀ W b cap, SlRowC W b cap (vl L) → W.cell? ⟨b, vk L * 2, none⟩ = some (.bool ((vl L)[vk L]'hvk).1) ∧ W.cell? ⟨b, vk L * 2 + 1, none⟩ = some (.string ((vl L)[vk L]'hvk).2) := fun W b cap h => h.at_ (vk L) hvk
    obtain ⟨y, hy⟩ : ∃ y, y = (vl L)[vk L]'hvk := ⟨_, rfl⟩
    rw [← hy] at CA
    obtain ⟨K, hK⟩ : ∃ K, K = vk L := ⟨_, rfl⟩
    obtain ⟨N, hN⟩ : ∃ N, N = (vl L).length := ⟨_, rfl⟩
    rw [← hK] at HP HV2 PUT CA e0 hvk
    rw [← hN] at HP HV2 hvk hvl
    replace PUT := Lib.hid PUT
    replace CA := Lib.hid CA
    have hkn : (K : Int) < (N : Int) := by omega
    have hKz : K ≤ 300 := by omega
    clear hr HV hvx hset hsb hp hy hK hN
    by_cases h0 : c = 0
    · rw [e0, if_pos h0]
      subst h0
      clear e0 ple
      simp only
      go_enter Tryd.func13, Tryd.ntmps13
      go_upto_region 5 with (go_at_call 26; refine HV2.out.mono ?_; rintro e w2 ⟨b, cap, rfl, hbb, hR, hb2⟩; have B2 := Lib.hid hb2; have R2 := Lib.hid (PUT.out _ _ _ hR); obtain ⟨c1, c2⟩ := CA.out _ _ _ hR; obtain ⟨zb, fz⟩ := hR.lt; clear hb2 hR)
      have B3 := Lib.hid (SlRow.below hbb B2.out K true r)
      go_wp2_with (go_at_call 24; refine (HP.out _ _ _ R2.out).mono ?_; rintro e w4 ⟨rfl, hb4⟩; have B4 := Lib.hid (then_ B3.out hb4 B3.out.size); clear hb4)
      refine bodyPost_ret (by simp [results, Tryd.results13, go_sem, *]) rfl ⟨rfl, B4.out⟩
    · rw [e0, if_neg h0]
      have q : ¬ ((c : Int) = 0) := by omega
      clear e0 ple h0
      simp only
      go_enter Tryd.func13, Tryd.ntmps13
      go_upto_region 5 with (go_at_call 26; refine HV2.out.mono ?_; rintro e w2 ⟨b, cap, rfl, hbb, hR, hb2⟩; have B2 := Lib.hid hb2; have R2 := Lib.hid (PUT.out _ _ _ hR); obtain ⟨c1, c2⟩ := CA.out _ _ _ hR; obtain ⟨zb, fz⟩ := hR.lt; clear hb2 hR)
      have B3 := Lib.hid (SlRow.below hbb B2.out K true r)
      go_wp2_with (go_at_call 24; refine (HP.out _ _ _ R2.out).mono ?_; rintro e w4 ⟨rfl, hb4⟩; have B4 := Lib.hid (then_ B3.out hb4 B3.out.size); clear hb4)
      refine bodyPost_ret (by simp [results, Tryd.results13, go_sem, *]) rfl ⟨rfl, B4.out⟩
set_option maxRecDepth 10000 in
set_option maxHeartbeats 1000000 in
theorem change_any (s : ByteArray) (i : Int) (u : Bool) (r : ByteArray) (w : World) (hz : s.size ≤ 140737488355328) (hi : -9223372036854775808 ≤ i) (hi2 : i ≤ 9223372036854775807) (hrz : r.size ≤ 140737488351232) :
    Calls Tryd.prog 30 #[.string s, .int .i64 i, .agg #[.bool u, .string r]] w fun e w' => e = .returned (.tuple #[.string (ch s i (u, r)).1, .int .i64 ((ch s i (u, r)).2 : Nat)]) ∧ Below w.heap.size w w' := by
  have HB := Lib.hid (show Below w.heap.size w (w.alloc (.cells #[.bool u, .string r] 51)) from (Below.refl _ _).alloc (Nat.le_refl _) _)
  have HO := Lib.hid (Own.made w 51 #[.bool u, .string r])
  have zz : (w.alloc (.cells #[.bool u, .string r] 51)).heap.size = w.heap.size + 1 := by simp
  obtain ⟨W0, hW0⟩ : ∃ W0, W0 = w.alloc (.cells #[.bool u, .string r] 51) := ⟨_, rfl⟩
  rw [← hW0] at HB HO zz
  have hW0' := Lib.hid hW0
  rcases hold_cases s i W0 hz hi hi2 with ⟨h0, H⟩ | ⟨L, k, hk, hr, rfl, hx, h0, H⟩
  · have e0 : ch s i (u, r) = (⟨#[]⟩, hs s i) := by unfold ch; rw [if_neg h0]
    rw [e0]
    simp only
    obtain ⟨c, hc⟩ : ∃ c, c = hs s i := ⟨_, rfl⟩
    rw [← hc] at H h0 ⊢
    have q : ¬ ((c : Int) = 0) := by omega
    rw [hW0] at H
    replace H := Lib.hid H
    clear hc h0 e0 hW0 zz
    go_enter Tryd.func30, Tryd.ntmps30
    go_wp2_with (go_at_call 28; refine H.out.mono ?_; rintro e w2 ⟨rfl, hb2⟩; rw [← hW0'.out] at hb2; have B2 := Lib.hid (then_ HB.out hb2 HB.out.size); clear hb2)
    all_goals (go_ret2; exact ⟨rfl, B2.out⟩)
  · have e0 : ch s (k : Int) (u, r) = pk (L.set k (u, r)) := by unfold ch; rw [if_pos h0, hr, Int.toNat_natCast]
    rw [e0]
    obtain ⟨hl, hxs, -⟩ := rd_len hr
    have hset : ∀ y ∈ L.set k (u, r), y.2.size ≤ 140737488351232 := set_size (fun y hy => by have := hxs y hy; omega) hrz
    have hsb := sz_bound _ 248 _ (by rw [List.length_set]; omega) hset
    have HP : Hid (∀ W b, SlRow W b (L.set k (u, r)) → Calls Tryd.prog 24 #[.slice (some ⟨b, 0, none⟩) L.length L.length] W fun e w' => e = .returned (.tuple #[.string (pk (L.set k (u, r))).1, .int .i64 ((pk (L.set k (u, r))).2 : Nat)]) ∧ Below W.heap.size W w') := Lib.hid fun W b h => by
      have := h.in_ (by rw [List.length_set]; unfold maxLen; omega) (fun y hy => by have := hset y hy; unfold maxLen; omega)
      rw [List.length_set] at this
      exact pack_any _ _ W this (by omega)
    obtain ⟨p, c, hp⟩ : ∃ p c, pk (L.set k (u, r)) = (p, c) := ⟨_, _, rfl⟩
    rw [hp] at HP ⊢
    simp only at HP ⊢
    have PUT : ∀ W b, SlRow W b L → SlRow ((W.setCell ⟨b, k * 2, none⟩ (.bool u)).setCell ⟨b, k * 2 + 1, none⟩ (.string r)) b (L.set k (u, r)) := fun W b h => h.set k hk u r
    have CA : ∀ W b, SlRow W b L → W.cell? ⟨b, k * 2, none⟩ = some (.bool (L[k]'hk).1) ∧ W.cell? ⟨b, k * 2 + 1, none⟩ = some (.string (L[k]'hk).2) := fun W b h => h.at_ k hk
    have FZ : ∀ W b, SlRow W b L → b < W.heap.size ∧ ∀ j, W.frozen? ⟨b, j, none⟩ = false := fun W b h => ⟨(Own.at_ h).2.2, (Own.at_ h).2.1⟩
    obtain ⟨y, hy⟩ : ∃ y, y = L[k]'hk := ⟨_, rfl⟩
    rw [← hy] at CA
    obtain ⟨n, hn⟩ : ∃ n, n = L.length := ⟨_, rfl⟩
    rw [← hn] at HP H hk hl
    replace PUT := Lib.hid PUT
    replace CA := Lib.hid CA
    replace FZ := Lib.hid FZ
    have hkk : (k : Int) < (n : Int) := by omega
    have zz' := Lib.hid zz
    rw [hW0] at H
    replace H := Lib.hid H
    clear hr hset hsb hp hy hn e0 h0 hx hxs hW0 zz
    go_enter Tryd.func30, Tryd.ntmps30
    go_upto_region 5 with (go_at_call 28; refine H.out.mono ?_; rintro e w2 ⟨b, rfl, hbb, hR, hb2⟩; rw [← hW0'.out] at hb2 hbb; have B2 := Lib.hid (then_ HB.out hb2 HB.out.size); have R2 := Lib.hid (PUT.out _ _ hR); obtain ⟨o1, o2, o3⟩ := (HO.out.keep hb2).at_; obtain ⟨c1, c2⟩ := CA.out _ _ hR; obtain ⟨zb, fz⟩ := FZ.out _ _ hR; have hne : b ≠ w.heap.size := (by rw [zz'.out] at hbb; omega); have hwb : w.heap.size ≤ b := (by rw [zz'.out] at hbb; omega); clear hb2 hR hbb)
    have B3 := Lib.hid (SlRow.below hwb B2.out k u r)
    go_wp2_with (go_at_call 24; refine (HP.out _ _ R2.out).mono ?_; rintro e w4 ⟨rfl, hb4⟩; have B4 := Lib.hid (then_ B3.out hb4 B3.out.size); clear hb4)
    all_goals (go_ret2; exact ⟨rfl, B4.out⟩)
set_option maxRecDepth 10000 in
theorem set_slot (s : ByteArray) (i : Int) (r : ByteArray) (w : World) (hz : s.size ≤ 140737488355328) (hi : -9223372036854775808 ≤ i) (hi2 : i ≤ 9223372036854775807) (hrz : r.size ≤ 140737488351232) :
    Calls Tryd.prog 16 #[.string s, .int .i64 i, .string r] w fun e w' => e = .returned (.tuple #[.string (ch s i (true, r)).1, .int .i64 ((ch s i (true, r)).2 : Nat)]) ∧ Below w.heap.size w w' := by
  have H := Lib.hid (change_any s i true r w hz hi hi2 hrz)
  obtain ⟨p, c, hp⟩ : ∃ p c, ch s i (true, r) = (p, c) := ⟨_, _, rfl⟩
  rw [hp] at H ⊢
  simp only at H ⊢
  clear hp
  go_enter Tryd.func16, Tryd.ntmps16
  go_wp2_with (go_at_call 30; refine H.out.mono ?_; rintro e w2 ⟨rfl, hb2⟩)
  go_ret2
  exact ⟨rfl, hb2⟩
set_option maxRecDepth 10000 in
theorem del_slot (s : ByteArray) (i : Int) (w : World) (hz : s.size ≤ 140737488355328) (hi : -9223372036854775808 ≤ i) (hi2 : i ≤ 9223372036854775807) :
    Calls Tryd.prog 17 #[.string s, .int .i64 i] w fun e w' => e = .returned (.tuple #[.string (ch s i emS).1, .int .i64 ((ch s i emS).2 : Nat)]) ∧ Below w.heap.size w w' := by
  have H := Lib.hid (change_any s i false ⟨#[]⟩ w hz hi hi2 (by decide))
  obtain ⟨p, c, hp⟩ : ∃ p c, ch s i emS = (p, c) := ⟨_, _, rfl⟩
  rw [show ((false, ⟨#[]⟩) : Sl) = emS from rfl] at H
  rw [hp] at H ⊢
  simp only at H ⊢
  clear hp
  go_enter Tryd.func17, Tryd.ntmps17
  go_wp2_with (go_at_call 30; refine H.out.mono ?_; rintro e w2 ⟨rfl, hb2⟩)
  go_ret2
  exact ⟨rfl, hb2⟩
set_option maxRecDepth 10000 in
theorem left_slot (s : ByteArray) (w : World) (hz : s.size ≤ 140737488355328) :
    Calls Tryd.prog 14 #[.string s] w fun e w' => e = .returned (.int .i64 (lf s)) ∧ Below w.heap.size w w' := by
  have HV := vacant_any s w hz
  cases hr : rd s with
  | none =>
    have e0 : lf s = -1 := by unfold lf; rw [hr]
    rw [e0]
    have HV2 : Hid (Calls Tryd.prog 26 #[.string s] w fun e w' => e = .returned (.tuple #[.slice none 0 0, .int .i64 0, .bool false]) ∧ Below w.heap.size w w') := Lib.hid (HV.mono fun e w1 h => by
      rcases h.1 with ⟨_, h1⟩ | ⟨L, b, cap, h1, _⟩
      · exact ⟨h1, h.2⟩
      · rw [hr] at h1; cases h1)
    clear hr HV e0
    go_enter Tryd.func14, Tryd.ntmps14
    go_wp2_with (go_at_call 26; refine HV2.out.mono ?_; rintro e w2 ⟨rfl, hb2⟩; have B2 := Lib.hid hb2; clear hb2)
    all_goals (go_ret; exact ⟨rfl, B2.out⟩)
  | some L =>
    obtain ⟨hl, hxs, -⟩ := rd_len hr
    have hvl := (vl_len L).2
    have hvx := vl_size L 496 hxs
    have hsb := sz_bound _ 248 _ (by omega) hvx
    have e0 : lf s = max (496 - (sz (vl L) : Int)) (-1) := by unfold lf; rw [hr]
    have HV2 : Hid (Calls Tryd.prog 26 #[.string s] w fun e w' => ∃ b cap, e = .returned (.tuple #[.slice (some ⟨b, 0, none⟩) (vl L).length cap, .int .i64 (vk L : Nat), .bool true]) ∧ SlRowC w' b cap (vl L) ∧ Below w.heap.size w w') := Lib.hid (HV.mono fun e w1 h => by
      rcases h.1 with ⟨h1, _⟩ | ⟨L', b, cap, h1, h2, h3, h4⟩
      · rw [hr] at h1; cases h1
      · rw [hr] at h1; injection h1 with h1; subst h1
        exact ⟨b, cap, h2, h4, h.2⟩)
    have HS : Hid (∀ W b cap, SlRowC W b cap (vl L) → Calls Tryd.prog 27 #[.slice (some ⟨b, 0, none⟩) (vl L).length cap] W fun e w' => e = .returned (.int .i64 (sz (vl L) : Nat)) ∧ Below W.heap.size W w') := Lib.hid fun W b cap h => size_any _ _ W (h.in_ (fun y hy => by have := hvx y hy; unfold maxLen; omega)) (by omega)
    obtain ⟨Z, hZ⟩ : ∃ Z, Z = sz (vl L) := ⟨_, rfl⟩
    obtain ⟨N, hN⟩ : ∃ N, N = (vl L).length := ⟨_, rfl⟩
    rw [← hZ] at e0 HS hsb
    rw [← hN] at HS HV2
    rw [e0]
    clear hr HV hvx hZ hN e0 hxs
    go_enter Tryd.func14, Tryd.ntmps14
    go_wp2_with (first
      | (go_at_call 26; refine HV2.out.mono ?_; rintro e w2 ⟨b, cap, rfl, hR, hb2⟩; have B2 := Lib.hid hb2; have R2 := Lib.hid hR; clear hb2 hR)
      | (go_at_call 27; refine (HS.out _ _ _ R2.out).mono ?_; rintro e w3 ⟨rfl, hb3⟩; have B3 := Lib.hid (then_ B2.out hb3 B2.out.size); clear hb3))
    all_goals (go_ret; exact ⟨rfl, B3.out⟩)
end Go.Proofs.YteepggjbgdjchaaDoor
