
/- The contracts of slot's vacant, Get, Empty, Add, change, Set, Del, Left. Conditions: strings within Go's own limit. -/
import Derived.Test.YteepggjbgdjchaaDoorSloE
namespace Go.Proofs.YteepggjbgdjchaaDoor
open Go.ChangeShapes Go.WideShapes Go.ChangeAt Go.RowKit
set_option linter.unusedVariables false
set_option linter.unusedSimpArgs false

/-- a row of slots of one's own, with room behind them -/
def SlRowC (w : World) (b cap : Nat) (L : List Sl) : Prop := ∃ cs : Array Value, Own w b 51 cs ∧ cs.toList.take (L.length * 2) = cl L ∧ L.length ≤ cap ∧ cap ≤ maxLen ∧ cs.size = cap * 2
theorem SlRow.c {w : World} {b : Nat} {L : List Sl} (h : SlRow w b L) (hn : L.length ≤ maxLen) : SlRowC w b L.length L :=
  ⟨_, h, by rw [List.toList_toArray, ← cl_len, List.take_length], Nat.le_refl _, hn, by simp [cl_len]⟩
theorem SlRowC.at_ {w : World} {b cap : Nat} {L : List Sl} (h : SlRowC w b cap L) (i : Nat) (hi : i < L.length) : w.cell? ⟨b, i * 2, none⟩ = some (.bool (L[i]'hi).1) ∧ w.cell? ⟨b, i * 2 + 1, none⟩ = some (.string (L[i]'hi).2) := by
  obtain ⟨cs, h1, h2, h3, h4, h5⟩ := h
  have c := cl_at L i hi
  have key : ∀ j, j < L.length * 2 → cs[j]? = (cl L)[j]? := fun j hj => by rw [← h2, List.getElem?_take_of_lt hj, Array.getElem?_toList]
  exact ⟨(h1.at_.1 _).trans ((key _ (by omega)).trans c.1), (h1.at_.1 _).trans ((key _ (by omega)).trans c.2)⟩
theorem SlRowC.put {w : World} {b cap : Nat} {L : List Sl} (h : SlRowC w b cap L) (i : Nat) (hi : i < L.length) (u : Bool) (r : ByteArray) : SlRowC ((w.setCell ⟨b, i * 2, none⟩ (.bool u)).setCell ⟨b, i * 2 + 1, none⟩ (.string r)) b cap (L.set i (u, r)) := by
  obtain ⟨cs, h1, h2, h3, h4, h5⟩ := h
  refine ⟨_, (h1.put (i * 2) (.bool u)).put (i * 2 + 1) (.string r), ?_, by simpa using h3, h4, by simpa using h5⟩
  rw [Array.toList_setIfInBounds, Array.toList_setIfInBounds, List.length_set, List.take_set, List.take_set, h2, cl_set L i hi (u, r)]
theorem SlRowC.in_ {w : World} {b cap : Nat} {L : List Sl} (h : SlRowC w b cap L) (hz : ∀ x ∈ L, x.2.size ≤ maxLen) : SlIn w (.slice (some ⟨b, 0, none⟩) L.length cap) L := by
  have hh := h
  obtain ⟨cs, h1, h2, h3, h4, h5⟩ := h
  exact ⟨_, _, rfl, h3, h4, .inr ⟨b, 0, rfl, h1.in_, fun i hi => by
    have := hh.at_ i hi
    rw [Nat.zero_add]
    exact ⟨this.1, this.2, hz _ (List.getElem_mem hi)⟩⟩⟩
theorem SlRowC.keep {w w' : World} {b cap : Nat} {L : List Sl} (h : SlRowC w b cap L) (hb : Below w.heap.size w w') : SlRowC w' b cap L := by
  obtain ⟨cs, h1, h2⟩ := h
  exact ⟨cs, h1.keep hb, h2⟩
theorem SlRowC.lt {w : World} {b cap : Nat} {L : List Sl} (h : SlRowC w b cap L) : b < w.heap.size ∧ ∀ j, w.frozen? ⟨b, j, none⟩ = false := by
  obtain ⟨cs, h1, h2⟩ := h
  exact ⟨h1.at_.2.2, h1.at_.2.1⟩
/-- the first empty slot, or one more; the slots with that one -/
def vk (L : List Sl) : Nat := L.findIdx isE
def vl (L : List Sl) : List Sl := if vk L < L.length then L else L ++ [emS]
theorem vk_le (L : List Sl) : vk L ≤ L.length := List.findIdx_le_length
theorem vk_lt (L : List Sl) : vk L < (vl L).length := by
  have := vk_le L
  unfold vl
  split
  · assumption
  · simp; omega
theorem vl_len (L : List Sl) : L.length ≤ (vl L).length ∧ (vl L).length ≤ L.length + 1 := by
  unfold vl
  split <;> simp
theorem vl_old (L : List Sl) (k : Nat) (hk : k < L.length) : (vl L)[k]'(Nat.lt_of_lt_of_le hk (vl_len L).1) = L[k]'hk := by
  unfold vl
  split
  · rfl
  · rw [List.getElem_append_left hk]
theorem vl_size (L : List Sl) (c : Nat) (hL : ∀ x ∈ L, x.2.size ≤ c) : ∀ x ∈ vl L, x.2.size ≤ c := by
  intro x hx
  unfold vl at hx
  split at hx
  · exact hL x hx
  · rcases List.mem_append.1 hx with h | h
    · exact hL x h
    · simp at h; rw [h]; exact Nat.zero_le _
theorem idx_vk (L : List Sl) (z : Int) (h : IdxOf isE L z) : (z = -1 ∧ vk L = L.length ∧ vl L = L ++ [emS]) ∨ (z = (vk L : Int) ∧ vk L < L.length ∧ vl L = L) := by
  rcases h with ⟨rfl, h⟩ | ⟨k, hk, rfl, h, hn⟩
  · have e : vk L = L.length := List.findIdx_eq_length_of_false h
    exact .inl ⟨rfl, e, by unfold vl; rw [if_neg (by omega)]⟩
  · have e : vk L = k := by
      unfold vk
      rw [List.findIdx_eq hk]
      exact ⟨h, fun j hj => hn j hj⟩
    exact .inr ⟨by rw [e], by omega, by unfold vl; rw [if_pos (by omega)]⟩
/-- what vacant answers -/
def VacAns (s : ByteArray) (B : Nat) (e : Ending) (w' : World) : Prop :=
  (rd s = none ∧ e = .returned (.tuple #[.slice none 0 0, .int .i64 0, .bool false])) ∨
  ∃ L b cap, rd s = some L ∧ e = .returned (.tuple #[.slice (some ⟨b, 0, none⟩) (vl L).length cap, .int .i64 (vk L : Nat), .bool true]) ∧ B ≤ b ∧ SlRowC w' b cap (vl L)
set_option maxRecDepth 10000 in
set_option maxHeartbeats 1000000 in
theorem vacant_any (s : ByteArray) (w : World) (hs : s.size ≤ 140737488355328) : Calls Tryd.prog 26 #[.string s] w fun e w' => VacAns s w.heap.size e w' ∧ Below w.heap.size w w' := by
  obtain ⟨i0, hi0, hss⟩ := Option.map_eq_some_iff.1 info_slot
  injection hss with hz0 hss
  injection hss with hz1 hz2
  have HC := Lib.hid (cut_any s w hs)
  cases hr : rd s with
  | none =>
    have hr' := Lib.hid hr
    have HC2 : Hid (Calls Tryd.prog 34 #[.string s] w fun e w' => e = .returned (.tuple #[.slice none 0 0, .bool false]) ∧ Below w.heap.size w w') := Lib.hid (HC.out.mono fun e w1 h => by
      rcases h.1 with ⟨_, h1⟩ | ⟨L, b, h1, _⟩
      · exact ⟨h1, h.2⟩
      · rw [hr] at h1; cases h1)
    clear hr HC
    go_enter Tryd.func26, Tryd.ntmps26
    go_wp2_with (go_at_call 34; refine HC2.out.mono ?_; rintro e w2 ⟨rfl, hb2⟩; have B2 := Lib.hid hb2; clear hb2)
    refine bodyPost_ret (by simp [results, Tryd.results26, go_sem, *]) rfl ⟨.inl ⟨hr'.out, rfl⟩, B2.out⟩
  | some L =>
    have hr' := Lib.hid hr
    have HC2 : Hid (Calls Tryd.prog 34 #[.string s] w fun e w' => ∃ b, e = .returned (.tuple #[.slice (some ⟨b, 0, none⟩) L.length L.length, .bool true]) ∧ w.heap.size ≤ b ∧ SlRow w' b L ∧ Below w.heap.size w w') := Lib.hid (HC.out.mono fun e w1 h => by
      rcases h.1 with ⟨h1, _⟩ | ⟨L', b, h1, h2, h3, h4⟩
      · rw [hr] at h1; cases h1
      · rw [hr] at h1
        injection h1 with h1
        subst h1
        exact ⟨b, h2, h3, h4, h.2⟩)
    have hlen := (rd_len hr).1
    have hrz := (rd_len hr).2.1
    have HI : Hid (∀ W b, SlRow W b L → Calls Tryd.prog 45 #[.slice (some ⟨b, 0, none⟩) L.length L.length, .func (.func 46) #[] #[]] W fun e w' => ∃ z, e = .returned (.int .i64 z) ∧ ((z = -1 ∧ vk L = L.length ∧ vl L = L ++ [emS]) ∨ (z = (vk L : Int) ∧ vk L < L.length ∧ vl L = L)) ∧ Below W.heap.size W w') := Lib.hid fun W b h =>
      (idx_any 46 isE _ L W (h.in_ (by unfold maxLen; omega) (fun x hx => by have := hrz x hx; unfold maxLen; omega)) (enter_fn Tryd.func46 rfl rfl) vac1_any).mono (by
        rintro e w' ⟨z, h1, h2, h3⟩
        exact ⟨z, h1, idx_vk L z h2, h3⟩)
    have FIN : Hid (∀ W b cap, w.heap.size ≤ b → SlRowC W b cap (vl L) → VacAns s w.heap.size (.returned (.tuple #[.slice (some ⟨b, 0, none⟩) (vl L).length cap, .int .i64 (vk L : Nat), .bool true])) W) := Lib.hid fun W b cap h1 h2 => .inr ⟨L, b, cap, hr'.out, rfl, h1, h2⟩
    obtain ⟨K, hK⟩ : ∃ K, K = vk L := ⟨_, rfl⟩
    obtain ⟨V, hV⟩ : ∃ V, V = vl L := ⟨_, rfl⟩
    rw [← hK, ← hV] at HI FIN
    have hCA : ∀ W b, SlRow W b L → SlRowC W b L.length L := fun W b h => h.c (by unfold maxLen; omega)
    replace hCA := Lib.hid hCA
    obtain ⟨CL, hCL⟩ : ∃ CL, CL = cl L := ⟨_, rfl⟩
    have hCL' := Lib.hid hCL
    have hclz : CL.length = L.length * 2 := by rw [hCL, cl_len]
    have HO : Hid (∀ W b, w.heap.size ≤ b → SlRow W b L → W.ownsRow w.heap.size 51 2 (.slice (some ⟨b, 0, none⟩) L.length L.length) L.length CL) := Lib.hid fun W b hb h =>
      ⟨hclz, .inr ⟨b, L.length, CL.toArray, rfl, hb, by rw [hCL]; exact h, Nat.le_refl _, by unfold maxLen; omega, by simp [hclz], by rw [List.toList_toArray, ← hclz, List.take_length]⟩⟩
    have HV : Hid (∀ W v', W.ownsRow w.heap.size 51 2 v' (L.length + 1) (CL ++ [.bool false, .string ⟨#[]⟩]) → ∃ b cap, v' = .slice (some ⟨b, 0, none⟩) (L.length + 1) cap ∧ w.heap.size ≤ b ∧ SlRowC W b cap (L ++ [emS])) := Lib.hid fun W v' h => by
      rcases h.2 with ⟨_, h2⟩ | ⟨g, cap, cur, rfl, r1, r2, r3, r4, r5, r6⟩
      · omega
      · refine ⟨g, cap, rfl, r1, cur, r2, ?_, by simpa using r3, r4, r5⟩
        rw [cl_app, ← hCL, List.length_append]
        exact r6
    obtain ⟨n, hn⟩ : ∃ n, n = L.length := ⟨_, rfl⟩
    have hn' := Lib.hid hn
    rw [← hn] at HC2 HI HO HV hlen hCA
    clear hr hn HC hK hV hCL hclz hrz
    go_enter Tryd.func26, Tryd.ntmps26
    go_upto_region 5 with (first
      | (go_at_call 34; refine HC2.out.mono ?_; rintro e w2 ⟨b, rfl, hbb, hR, hb2⟩; have B2 := Lib.hid hb2; have R2 := Lib.hid hR; clear hb2 hR)
      | (go_at_call 45; refine (HI.out _ _ R2.out).mono ?_; rintro e w3 ⟨z, rfl, hz, hb3⟩; have B3 := Lib.hid (then_ B2.out hb3 B2.out.size); have R3 := Lib.hid (R2.out.keep hb3); clear hb3))
    rcases hz with ⟨rfl, hk, hv⟩ | ⟨rfl, hk, hv⟩
    · subst hk
      have hv' := Lib.hid hv
      rw [hv] at FIN
      clear hv
      have hB := Own.in_ (R3.out)
      go_wp2_with (at_builtin; go_loud (refine wpList_append_own_at _ rfl _ _ 45 rfl w.heap.size 51 i0 (.agg #[.bool false, .string ⟨#[]⟩]) 2 24 Tryd.underlying45 hi0 hz0 hz1 hz2 rfl (by decide) _ K CL rfl ((HO.out _ _ hbb R3.out).alloc _) ⟨w3.heap.size, 0, none⟩ 1 1 [.bool false, .string ⟨#[]⟩] rfl rfl ?c1 ?c2 (by unfold maxLen; omega) (by omega) (by have := B3.out.size; simp; omega) ?_))
      case c2 => exact ⟨rfl, rfl⟩
      intro v' w4 hown hgr _ hl
      obtain ⟨b4, cap4, rfl, hb4, hR4⟩ := HV.out w4 v' hown
      have HB4 : Below w.heap.size w w4 := (B3.out.alloc B3.out.size (.cells #[.bool false, .string ⟨#[]⟩] 51)).grown hgr (by simp; have := B3.out.size; omega) (fun k hk => by simp [Value.ownBlock] at hk; omega)
      have FI := Lib.hid (FIN.out w4 b4 cap4 hb4 hR4)
      have hlen1 : (L ++ [emS]).length = K + 1 := by simp [← hn'.out]
      rw [hlen1] at FI
      have HB5 := Lib.hid HB4
      clear hown hgr hl HB4 hR4 hlen1
      go_wp2
      refine bodyPost_ret (by simp [results, Tryd.results26, go_sem, *]) rfl ⟨FI.out, HB5.out⟩
    · have hv' := Lib.hid hv
      rw [hv] at FIN
      clear hv
      have FI := Lib.hid (FIN.out w3 b n hbb (hCA.out _ _ R3.out))
      rw [← hn'.out] at FI
      clear hk
      have q : ¬ ((K : Int) < 0) := by omega
      go_wp2
      refine bodyPost_ret (by simp [results, Tryd.results26, go_sem, *]) rfl ⟨FI.out, B3.out⟩
end Go.Proofs.YteepggjbgdjchaaDoor
