
/- Slots that stand in memory; the contracts of slot's number, size and trim. Conditions: those that each theorem names. -/
import Derived.Test.YteepggjbgdjchaaDoorSloM
import Derived.Test.YteepggjbgdjchaaDoorSta
import Derived.Test.YteepggjbgdjchaaDoorSeq
import Derived.Deep.OwnRows
namespace Go.Proofs.YteepggjbgdjchaaDoor
open Go.ChangeShapes Go.WideShapes Go.ChangeAt Go.RowKit
set_option linter.unusedVariables false
set_option linter.unusedSimpArgs false

/-- slots in memory -/
def SlIn (w : World) (v : Value) (L : List Sl) : Prop :=
  ∃ a cap, v = .slice a L.length cap ∧ L.length ≤ cap ∧ cap ≤ maxLen ∧
    (L = [] ∨ ∃ b o, a = some ⟨b, o, none⟩ ∧ b < w.heap.size ∧ ∀ i (h : i < L.length), w.cell? ⟨b, o + i * 2, none⟩ = some (.bool (L[i]'h).1) ∧ w.cell? ⟨b, o + i * 2 + 1, none⟩ = some (.string (L[i]'h).2) ∧ (L[i]'h).2.size ≤ maxLen)
theorem SlIn.nil (w : World) : SlIn w (.slice none 0 0) [] := ⟨none, 0, rfl, Nat.le_refl _, Nat.zero_le _, .inl rfl⟩
theorem SlIn.below {w w' : World} {v : Value} {L : List Sl} (h : SlIn w v L) (hb : Below w.heap.size w w') : SlIn w' v L := by
  obtain ⟨a, cap, h1, h2, h3, h5⟩ := h
  refine ⟨a, cap, h1, h2, h3, ?_⟩
  rcases h5 with h5 | ⟨b, o, e, hb', hcl⟩
  · exact .inl h5
  · refine .inr ⟨b, o, e, Nat.lt_of_lt_of_le hb' hb.size, fun i hi => ?_⟩
    obtain ⟨c1, c2, c3⟩ := hcl i hi
    exact ⟨keep hb c1, keep hb c2, c3⟩
theorem SlIn.keep {w w' : World} {S : Nat → Prop} {v : Value} {L : List Sl} (h : SlIn w v L) (hc : Chg S w w') (k : ∀ b o n c, v = .slice (some ⟨b, o, none⟩) n c → ¬ S b) : SlIn w' v L := by
  obtain ⟨a, cap, h1, h2, h3, h5⟩ := h
  refine ⟨a, cap, h1, h2, h3, ?_⟩
  rcases h5 with h5 | ⟨b, o, e, hb', hcl⟩
  · exact .inl h5
  · refine .inr ⟨b, o, e, Nat.lt_of_lt_of_le hb' hc.size, fun i hi => ?_⟩
    obtain ⟨c1, c2, c3⟩ := hcl i hi
    have kb := k b o L.length cap (by rw [h1, e])
    exact ⟨hc.cell c1 kb, hc.cell c2 kb, c3⟩
theorem SlIn.open_ {w : World} {v : Value} {L : List Sl} (h : SlIn w v L) : ∃ a cap, v = .slice a L.length cap ∧ L.length ≤ cap ∧ cap ≤ maxLen ∧ (∀ k, k ≤ L.length → SlIn w (.slice a k cap) (L.take k)) ∧ ∀ i (hi : i < L.length), ∃ b o, a = some ⟨b, o, none⟩ ∧ b < w.heap.size ∧
    w.cell? ⟨b, o + i * 2, none⟩ = some (.bool (L[i]'hi).1) ∧ w.cell? ⟨b, o + i * 2 + 1, none⟩ = some (.string (L[i]'hi).2) ∧ (L[i]'hi).2.size ≤ maxLen := by
  obtain ⟨a, cap, h1, h2, h3, h5⟩ := h
  refine ⟨a, cap, h1, h2, h3, fun k hk => ?_, fun i hi => ?_⟩
  · refine ⟨a, cap, by rw [List.length_take, Nat.min_eq_left hk], by rw [List.length_take]; omega, h3, ?_⟩
    rcases h5 with h5 | ⟨b, o, e, hb, hcl⟩
    · left; rw [h5]; simp
    · refine .inr ⟨b, o, e, hb, fun i hi => ?_⟩
      rw [List.length_take] at hi
      have := hcl i (by omega)
      rw [List.getElem_take]
      exact this
  · rcases h5 with h5 | ⟨b, o, e, hb, hcl⟩
    · subst h5; simp at hi
    · exact ⟨b, o, e, hb, hcl i hi⟩
theorem recs_up (L : List Sl) (k : Nat) (hk : k < L.length) : (recs (L.take (k + 1))).length = (recs (L.take k)).length + (L[k]'hk).2.size := by
  rw [← List.take_append_getElem hk, recs_app, recs_one, List.length_append, len_data]
theorem recs_le (L : List Sl) (k : Nat) : (recs (L.take k)).length ≤ (recs L).length := by
  have e : recs L = recs (L.take k) ++ recs (L.drop k) := by rw [← recs_app, List.take_append_drop]
  rw [e, List.length_append]; omega
/-- the records' bytes of the first k -/
def rl (L : List Sl) (k : Nat) : Nat := (recs (L.take k)).length
theorem rl_up (L : List Sl) (k : Nat) (hk : k < L.length) : rl L (k + 1) = rl L k + (L[k]'hk).2.size := recs_up L k hk
theorem rl_le (L : List Sl) (k : Nat) : rl L k ≤ (recs L).length := recs_le L k
theorem rl_all (L : List Sl) : rl L L.length = (recs L).length := by unfold rl; rw [List.take_length]
theorem rl_zero (L : List Sl) : rl L 0 = 0 := rfl
set_option maxRecDepth 10000 in
theorem num_any (s : ByteArray) (i : Nat) (w : World) (hs : s.size ≤ 9223372036854775807) (hi : i ≤ 1000000) : Calls Tryd.prog 48 #[.string s, .int .i64 (i : Int)] w fun e w' => e = .returned (.int .i64 (nm s i : Nat)) ∧ w = w' := by
  have hlt := nm_lt s i
  have HG : Hid (∀ w, Calls Tryd.prog 56 #[.string s, .int .i64 ((2 * i : Nat) : Int), .int .i64 2] w fun e w' => ∃ ok, e = .returned (.tuple #[.int .u64 (nm s i : Nat), .bool ok]) ∧ w = w') := Lib.hid fun w => by
    unfold nm
    by_cases h : 2 * i + 2 ≤ s.size
    · rw [if_pos h]
      refine (get_yes s (2 * i) 2 w hs (by omega) h).mono ?_
      rintro e w' ⟨rfl, rfl⟩
      exact ⟨_, rfl, rfl⟩
    · rw [if_neg h]
      refine (get_no s ((2 * i : Nat) : Int) 2 w hs (by omega) (by omega) (by omega) (by omega) (by omega)).mono ?_
      rintro e w' ⟨rfl, rfl⟩
      exact ⟨_, rfl, rfl⟩
  rw [show ((2 * i : Nat) : Int) = 2 * (i : Int) by omega] at HG
  obtain ⟨n, hn⟩ : ∃ n, n = nm s i := ⟨_, rfl⟩
  rw [← hn] at HG hlt ⊢
  clear hn
  have w1 : IntKind.i64.wrap (n : Int) = n := by rw [IntKind.wrap_i64]; omega
  go_enter Tryd.func48, Tryd.ntmps48
  go_wp2_with (go_at_call 56; refine (HG.out _).mono ?_; rintro e w' ⟨ok, rfl, rfl⟩)
  go_ret
  exact ⟨rfl, rfl⟩
set_option maxRecDepth 10000 in
theorem size_any (v : Value) (L : List Sl) (w : World) (h : SlIn w v L) (hz : sz L ≤ 9223372036854775807) : Calls Tryd.prog 27 #[v] w fun e w' => e = .returned (.int .i64 (sz L : Nat)) ∧ Below w.heap.size w w' := by
  obtain ⟨a, cap, rfl, hc1, hc2, -, hcl⟩ := h.open_
  have HS : sz L = 2 + 2 * L.length + rl L L.length := by rw [rl_all]; rfl
  have HL := Lib.hid (fun k => rl_le L k)
  have HU := Lib.hid (fun k hk => rl_up L k hk)
  have HZ : sz L = 2 + 2 * L.length + (recs L).length := rfl
  obtain ⟨Z, hZ⟩ : ∃ Z, Z = sz L := ⟨_, rfl⟩
  rw [← hZ] at HS HZ hz ⊢
  obtain ⟨n, hn⟩ : ∃ n, n = L.length := ⟨_, rfl⟩
  rw [← hn] at HS HZ hc1 ⊢
  obtain ⟨r, hr⟩ : ∃ r, r = (recs L).length := ⟨_, rfl⟩
  rw [← hr] at HZ HL
  have hn' := Lib.hid hn
  have HS' := Lib.hid HS
  have HZ' : Z ≤ 9223372036854775807 ∧ 2 + 2 * n + r ≤ 9223372036854775807 := ⟨hz, by omega⟩
  obtain ⟨hz1, hz2⟩ := HZ'
  clear hZ hr HZ HS hn h
  go_enter Tryd.func27, Tryd.ntmps27
  go_wp2
  go_loopw [3, 12] (fun t i wr => ∃ k : Nat, k ≤ n ∧ i = .int .i64 (k : Int) ∧ t = .int .i64 ((2 + 2 * n + rl L k : Nat) : Int) ∧ Below w.heap.size w wr) (fun t i wr => n - (intOf i).toNat)
  case atStart => exact ⟨0, by omega, rfl, by rw [rl_zero]; go_num, Below.refl _ _⟩
  case round =>
    obtain ⟨k, hk, rfl, rfl, hB⟩ := hrel
    have hle := HL.out k
    replace hB := Lib.hid hB
    by_cases hlt : k < n
    · obtain ⟨b, o, rfl, hb, c1, c2, c3⟩ := hcl k (by rw [← hn'.out]; exact hlt)
      have up := HU.out k (by rw [← hn'.out]; exact hlt)
      have hle2 := HL.out (k + 1)
      obtain ⟨x, hx⟩ : ∃ x, x = L[k]'(by rw [← hn'.out]; exact hlt) := ⟨_, rfl⟩
      rw [← hx] at c1 c2 c3 up
      obtain ⟨u, r2⟩ := x
      simp only at c1 c2 c3 up
      replace c1 := keep hB.out c1
      replace c2 := keep hB.out c2
      obtain ⟨R, hR⟩ : ∃ R, R = rl L k := ⟨_, rfl⟩
      rw [← hR] at hle up ⊢
      have up' := Lib.hid up
      rw [up] at hle2
      clear hx hR up
      unfold maxLen at c3
      go_wp2
      go_roundw
      case rel => exact ⟨k + 1, by omega, by go_num, by rw [up'.out]; go_num, by have := hB.out; exact this.alloc this.size _⟩
      case measure => simp [intOf]; omega
    · obtain rfl : k = n := by omega
      have e := HS'.out
      rw [← e]
      go_wp2
      go_ret
      exact ⟨rfl, hB.out⟩
theorem eq_Slot (a b : Bool) (r s : ByteArray) (w : World) : (Op.equalIn 10000 51 (.agg #[.bool a, .string r]) (.agg #[.bool b, .string s])).run Tryd.prog w = .ok (a == b && r.toList == s.toList) w := by
  rw [show (10000 : Nat) = 9999 + 1 from rfl, run_equalIn_struct w 9999 51 _ _ (by simp [Program.fieldsOf, Tryd.underlying51]) (by kernel_rfl)]
  cases a <;> cases b <;> cases h : (r.toList == s.toList) <;> simp [go_sem, Op.eqFields, h]
theorem isE_eqs (u : Bool) (r : ByteArray) : (u == false && r.toList == (⟨#[]⟩ : ByteArray).toList) = isE (u, r) := by
  have : (r.toList == (⟨#[]⟩ : ByteArray).toList) = decide (r.size = 0) := by
    by_cases h : r.size = 0
    · have e : r = ⟨#[]⟩ := ByteArray.ext (Array.eq_empty_of_size_eq_zero h)
      subst e
      simp
      rfl
    · rw [str_ne (fun e => h (by rw [e]; rfl)), decide_eq_false h]
  rw [this]
  cases u <;> rfl
theorem eq_em (u : Bool) (r : ByteArray) (w : World) : (Op.equalIn 10000 51 (.agg #[.bool u, .string r]) (.agg #[.bool false, .string ⟨#[]⟩])).run Tryd.prog w = .ok (isE (u, r)) w := by
  rw [eq_Slot, isE_eqs]
set_option maxRecDepth 10000 in
theorem trim_any (v : Value) (L : List Sl) (w : World) (h : SlIn w v L) : Calls Tryd.prog 37 #[v] w fun e w' => ∃ a cap, v = .slice a L.length cap ∧ e = .returned (.slice a (tr L).length cap) ∧ SlIn w' (.slice a (tr L).length cap) (tr L) ∧ Below w.heap.size w w' := by
  obtain ⟨a, cap, rfl, hc1, hc2, hpre, hcl⟩ := h.open_
  obtain ⟨n, hn⟩ : ∃ n, n = L.length := ⟨_, rfl⟩
  rw [← hn] at hc1 ⊢
  have hn' := Lib.hid hn
  have HP := Lib.hid hpre
  have hmax : n ≤ 9223372036854775807 := by unfold maxLen at hc2; omega
  obtain ⟨T, hT⟩ : ∃ T, T = tr L := ⟨_, rfl⟩
  rw [← hT]
  have HT := Lib.hid hT
  have FIN : Hid (∀ k W, k ≤ n → T = L.take k → Below w.heap.size w W → ∃ a' cap', Value.slice a n cap = .slice a' n cap' ∧ Ending.returned (.slice a k cap) = .returned (.slice a' T.length cap') ∧ SlIn W (.slice a' T.length cap') T ∧ Below w.heap.size w W) := Lib.hid fun k W hk e hB => by
    have e2 : T.length = k := by rw [e, List.length_take]; have := hn'.out; omega
    refine ⟨a, cap, rfl, by rw [e2], ?_, hB⟩
    rw [e2, e]
    exact (HP.out k (by have := hn'.out; omega)).below hB
  clear hn hpre h hT
  go_enter Tryd.func37, Tryd.ntmps37
  go_wp2
  go_loopw [0] (fun v wr => ∃ k : Nat, k ≤ n ∧ v = .slice a k cap ∧ Hid (T = tr (L.take k)) ∧ Below w.heap.size w wr) (fun v wr => match v with | .slice _ k _ => k | _ => 0)
  case atStart => exact ⟨n, by omega, rfl, Lib.hid (by rw [HT.out, hn'.out, List.take_length]), Below.refl _ _⟩
  case round =>
    obtain ⟨k, hk, rfl, hE, hB⟩ := hrel
    replace hB := Lib.hid hB
    by_cases hlt : 0 < k
    · obtain ⟨j, rfl⟩ : ∃ j, k = j + 1 := ⟨k - 1, by omega⟩
      have hj : j < L.length := by have := hn'.out; omega
      obtain ⟨b, o, rfl, hb, c1, c2, c3⟩ := hcl j hj
      have hs := List.take_append_getElem hj
      obtain ⟨x, hx⟩ : ∃ x, x = L[j]'hj := ⟨_, rfl⟩
      rw [← hx] at c1 c2 c3 hs
      have hs' := Lib.hid hs
      clear hx hs
      obtain ⟨u, r2⟩ := x
      simp only at c1 c2 c3
      replace c1 := keep hB.out c1
      replace c2 := keep hB.out c2
      have E := eq_em u r2
      unfold maxLen at c3
      have e1 : ((j + 1 : Nat) : Int) - 1 = j := by omega
      cases hie : isE (u, r2) with
      | true =>
        rw [hie] at E
        have hE2 : Hid (T = tr (L.take j)) := Lib.hid (by rw [hE.out, ← hs'.out, tr_yes _ _ hie])
        clear hE
        go_wp2
        go_roundw
        case rel => exact ⟨j, by omega, by go_num, hE2, hB.out⟩
        case measure => simp
      | false =>
        rw [hie] at E
        have hE2 : Hid (T = L.take (j + 1)) := Lib.hid (by rw [hE.out, ← hs'.out, tr_no _ _ hie])
        clear hE
        go_wp2
        go_ret
        exact FIN.out _ _ (by omega) hE2.out hB.out
    · obtain rfl : k = 0 := by omega
      go_wp2
      go_ret
      exact FIN.out 0 _ (by omega) (by rw [hE.out]; rfl) hB.out
end Go.Proofs.YteepggjbgdjchaaDoor
