
/- The contracts of slot's Read and of the law's awake. Conditions: strings within Go's own limit. -/
import Derived.Test.YteepggjbgdjchaaDoorSloH
namespace Go.Proofs.YteepggjbgdjchaaDoor
open Go.ChangeShapes Go.WideShapes Go.ChangeAt Go.RowKit
set_option linter.unusedVariables false
set_option linter.unusedSimpArgs false

theorem set_self {L : List Sl} {k : Nat} (hk : k < L.length) : L.set k ((L[k]'hk).1, (L[k]'hk).2) = L := by
  rw [show ((L[k]'hk).1, (L[k]'hk).2) = L[k]'hk from rfl]
  exact List.set_getElem_self hk
theorem SlRow.rec_ {w : World} {b : Nat} {L : List Sl} (h : SlRow w b L) (k : Nat) (hk : k < L.length) : SlRow (w.setCell ⟨b, k * 2 + 1, none⟩ (.string (L[k]'hk).2)) b L := by
  have := Own.put h (k * 2 + 1) (.string (L[k]'hk).2)
  refine this.as ?_
  have c := (cl_at L k hk).2
  have hl : k * 2 + 1 < (cl L).length := by rw [cl_len]; omega
  rw [List.getElem?_eq_getElem hl] at c
  injection c with c
  rw [← c, List.setIfInBounds_toArray, List.set_getElem_self hl]
set_option maxRecDepth 10000 in
set_option maxHeartbeats 1000000 in
theorem read_slot (s : ByteArray) (w : World) (hz : s.size ≤ 140737488355328) :
    Calls Tryd.prog 21 #[.string s] w fun e w' => ((rd s = none ∧ e = .returned (.tuple #[.slice none 0 0, .int .i64 2])) ∨ ∃ L b, rd s = some L ∧ e = .returned (.tuple #[.slice (some ⟨b, 0, none⟩) L.length L.length, .int .i64 0]) ∧ SlRow w' b L) ∧ Below w.heap.size w w' := by
  have HC := cut_any s w hz
  cases hr : rd s with
  | none =>
    have HC2 : Hid (Calls Tryd.prog 34 #[.string s] w fun e w' => e = .returned (.tuple #[.slice none 0 0, .bool false]) ∧ Below w.heap.size w w') := Lib.hid (HC.mono fun e w1 h => by
      rcases h.1 with ⟨_, h1⟩ | ⟨L, b, h1, _⟩
      · exact ⟨h1, h.2⟩
      · rw [hr] at h1; cases h1)
    clear hr HC
    go_enter Tryd.func21, Tryd.ntmps21
    go_wp2_with (go_at_call 34; refine HC2.out.mono ?_; rintro e w2 ⟨rfl, hb2⟩; have B2 := Lib.hid hb2; clear hb2)
    all_goals (go_ret2; exact ⟨.inl ⟨by first | rfl | trivial, rfl⟩, B2.out⟩)
  | some L =>
    obtain ⟨hl, hxs, -⟩ := rd_len hr
    have HC2 : Hid (Calls Tryd.prog 34 #[.string s] w fun e w' => ∃ b, e = .returned (.tuple #[.slice (some ⟨b, 0, none⟩) L.length L.length, .bool true]) ∧ w.heap.size ≤ b ∧ SlRow w' b L ∧ Below w.heap.size w w') := Lib.hid (HC.mono fun e w1 h => by
      rcases h.1 with ⟨h1, _⟩ | ⟨L', b, h1, h2, h3, h4⟩
      · rw [hr] at h1; cases h1
      · rw [hr] at h1; injection h1 with h1; subst h1
        exact ⟨b, h2, h3, h4, h.2⟩)
    obtain ⟨n, hn⟩ : ∃ n, n = L.length := ⟨_, rfl⟩
    have hn' := Lib.hid hn
    have FIN : Hid (∀ W b, SlRow W b L → (some L = none ∧ Ending.returned (.tuple #[.slice (some ⟨b, 0, none⟩) n n, .int .i64 0]) = .returned (.tuple #[.slice none 0 0, .int .i64 2])) ∨ ∃ L' b', some L = some L' ∧ Ending.returned (.tuple #[.slice (some ⟨b, 0, none⟩) n n, .int .i64 0]) = .returned (.tuple #[.slice (some ⟨b', 0, none⟩) L'.length L'.length, .int .i64 0]) ∧ SlRow W b' L') := Lib.hid fun W b h => .inr ⟨L, b, rfl, by rw [hn], h⟩
    have FZ : Hid (∀ W b, SlRow W b L → b < W.heap.size ∧ ∀ j, W.frozen? ⟨b, j, none⟩ = false) := Lib.hid fun W b h => ⟨(Own.at_ h).2.2, (Own.at_ h).2.1⟩
    rw [← hn] at HC2 hl
    clear hr HC hn
    go_enter Tryd.func21, Tryd.ntmps21
    go_upto_region 4 with (go_at_call 34; refine HC2.out.mono ?_; rintro e w2 ⟨b, rfl, hbb, hR, hb2⟩; have B2 := Lib.hid hb2; have R2 := Lib.hid hR; clear hb2 hR)
    go_wp2
    go_loopw [16] (fun i wr => ∃ k : Nat, k ≤ n ∧ i = .int .i64 (k : Int) ∧ Hid (SlRow wr b L) ∧ Hid (Below w.heap.size w wr)) (fun i wr => n - (intOf i).toNat)
    case atStart => exact ⟨0, by omega, rfl, R2, B2⟩
    case round =>
      clear R2 B2
      obtain ⟨k, hk, rfl, hR, hB⟩ := hrel
      by_cases hlt : k < n
      · have hkl : k < L.length := by have := hn'.out; omega
        obtain ⟨c1, c2⟩ := hR.out.at_ k hkl
        obtain ⟨zb, fz⟩ := FZ.out _ _ hR.out
        have hx := hxs _ (List.getElem_mem hkl)
        have RR : Hid (∀ W, SlRow W b L → SlRow (W.setCell ⟨b, k * 2 + 1, none⟩ (.string (L[k]'hkl).2)) b L) := Lib.hid fun W h => h.rec_ k hkl
        have CC : Hid (∀ W, SlRow W b L → W.cell? ⟨b, k * 2 + 1, none⟩ = some (.string (L[k]'hkl).2)) := Lib.hid fun W h => (h.at_ k hkl).2
        obtain ⟨R, hRR⟩ : ∃ R, R = (L[k]'hkl).2 := ⟨_, rfl⟩
        rw [← hRR] at c2 hx RR CC
        have HCL := Lib.hid (fun W => clone_any R W (by omega))
        clear hRR
        go_wp2_with (go_at_call 29; refine (HCL.out _).mono ?_; rintro e w3 ⟨rfl, hb3⟩; have R3 := Lib.hid (SlRow.keep hR.out hb3); have B3 := Lib.hid (then_ hB.out hb3 hB.out.size); obtain ⟨z3, f3⟩ := FZ.out _ _ R3.out; have c3 := CC.out _ R3.out; clear hb3)
        go_roundw
        case rel => exact ⟨k + 1, by omega, by go_num, Lib.hid (RR.out _ R3.out), Lib.hid (B3.out.setCell hbb _)⟩
        case measure => simp [intOf]; omega
      · obtain rfl : k = n := by omega
        go_wp2
        go_ret2
        exact ⟨FIN.out _ _ hR.out, hB.out⟩
theorem rd_room {l : List Sl} (h : Fit l) : rd (rmB l) = some l := rd_rm l h
theorem room0 : Fit [] := ⟨by simp, rfl, by decide⟩
def AB : ByteArray := ⟨#[97, 98]⟩
def ab1 : List Sl := [(true, AB)]
theorem fit_ab : Fit ab1 := ⟨by decide, by decide, by decide⟩
theorem ad_ab : ad (rmB []) AB = (rmB ab1, 0, 0) := by
  unfold ad
  rw [rd_room room0]
  have e : (vl []).set (vk []) (true, AB) = ab1 := rfl
  simp only [e, pk_room fit_ab]
  rfl
theorem lf_ab : lf (rmB []) = 492 := by
  unfold lf
  rw [rd_room room0]
  rfl
theorem ext_ab : (rmB ab1).extract 0 6 = ⟨#[1, 0, 3, 0, 97, 98]⟩ := by
  apply ByteArray.ext
  apply Array.toList_inj.1
  rw [ext_list, rm_list]
  decide +kernel
set_option maxRecDepth 10000 in
theorem aw12_any (w : World) : Calls Tryd.prog 9 #[] w fun e w' => e = .returned (.bool true) ∧ Below w.heap.size w w' := by
  have z0 := rmB_size [] (by decide)
  have HA := Lib.hid (fun W => add_slot (rmB []) AB W (by omega) (by decide))
  have HL := Lib.hid (fun W => left_slot (rmB []) W (by omega))
  rw [lf_ab] at HL
  rw [ad_ab] at HA
  simp only at HA
  have HE := Lib.hid (fun W => empty_slot W)
  have z1 := rmB_size ab1 fit_ab.sz
  have hx := ext_ab
  have hsl : ∀ W : World, (Instr.slice 9 (.string (rmB ab1)) none (some (.int .i64 6)) none).run Tryd.prog W = .ok (.string ⟨#[1, 0, 3, 0, 97, 98]⟩) W := fun W => by
    have := run_slice_string_to_if (P := Tryd.prog) W 9 (rmB ab1) .i64 6 Tryd.underlying9
    rw [if_pos (by omega)] at this
    rw [this, show (6 : Int).toNat = 6 from rfl, hx]
  obtain ⟨R, hR⟩ : ∃ R, R = rmB [] := ⟨_, rfl⟩
  obtain ⟨X, hX⟩ : ∃ X, X = rmB ab1 := ⟨_, rfl⟩
  rw [← hX] at HA z1 hsl
  rw [← hR] at HA HL HE
  have z1' : (X.size : Int) = 496 := by omega
  clear hx hR hX z0 z1
  unfold AB at HA
  go_enter Tryd.func9, Tryd.ntmps9
  go_upto_region 2 with (first
    | (go_at_call 11; refine (HE.out _).mono ?_; rintro e w2 ⟨rfl, hb2⟩; have B2 := Lib.hid hb2; clear hb2)
    | (go_at_call 13; refine (HA.out _).mono ?_; rintro e w3 ⟨rfl, hb3⟩; have B3 := Lib.hid (then_ B2.out hb3 B2.out.size); clear hb3))
  go_wp2_with (first
    | (go_at_call 11; refine (HE.out _).mono ?_; rintro e w4 ⟨rfl, hb4⟩; have B4 := Lib.hid (then_ B3.out hb4 B3.out.size); clear hb4)
    | (go_at_call 14; refine (HL.out _).mono ?_; rintro e w5 ⟨rfl, hb5⟩; have B5 := Lib.hid (then_ B4.out hb5 B4.out.size); clear hb5))
  go_ret
  exact ⟨rfl, B5.out⟩
end Go.Proofs.YteepggjbgdjchaaDoor
