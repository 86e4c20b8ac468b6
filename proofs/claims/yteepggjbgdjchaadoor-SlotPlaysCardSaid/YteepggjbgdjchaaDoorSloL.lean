
/- The contracts of what the laws of layer 12 ask: few, done. Conditions: acts that came in. -/
import Derived.Test.YteepggjbgdjchaaDoorSloI
import Derived.Test.YteepggjbgdjchaaDoorActT
namespace Go.Proofs.YteepggjbgdjchaaDoor
open Go.ChangeShapes Go.WideShapes Go.ChangeAt Go.RowKit
set_option linter.unusedVariables false
set_option linter.unusedSimpArgs false

/-- acts that are looked at -/
def fewB (l : List ActD) : Bool := decide (l.length ≤ 300) && l.all fun x => decide (x.s.size ≤ 1000)
theorem fewB_no1 {l : List ActD} (h : 300 < l.length) : fewB l = false := by unfold fewB; rw [decide_eq_false (by omega)]; rfl
theorem fewB_no2 {l : List ActD} {k : Nat} (hk : k < l.length) (h : 1000 < (l[k]'hk).s.size) : fewB l = false := by
  unfold fewB
  have : (l.all fun x => decide (x.s.size ≤ 1000)) = false := by
    rw [Bool.eq_false_iff]
    intro ha
    have := List.all_eq_true.1 ha _ (List.getElem_mem hk)
    simp at this
    omega
  rw [this, Bool.and_false]
theorem fewB_yes {l : List ActD} (h : l.length ≤ 300) (h2 : ∀ k (hk : k < l.length), (l[k]'hk).s.size ≤ 1000) : fewB l = true := by
  unfold fewB
  rw [decide_eq_true h, Bool.true_and, List.all_eq_true]
  intro x hx
  obtain ⟨k, hk, rfl⟩ := List.mem_iff_getElem.1 hx
  simpa using h2 k hk
theorem fewB_iff {l : List ActD} (h : fewB l = true) : l.length ≤ 300 ∧ ∀ x ∈ l, x.s.size ≤ 1000 := by
  unfold fewB at h
  rw [Bool.and_eq_true, decide_eq_true_eq, List.all_eq_true] at h
  exact ⟨h.1, fun x hx => by simpa using h.2 x hx⟩
set_option maxRecDepth 10000 in
theorem few_any (a : Option Addr) (len cap : Nat) (l : List ActD) (w : World) (h : IsActs w a len cap l) : Calls Tryd.prog 10 #[.slice a len cap] w fun e w' => e = .returned (.bool (fewB l)) ∧ Below w.heap.size w w' := by
  have hlen : l.length = len := h.2.2.1
  have hcm := h.2.1
  have hlc := h.1
  have AT := Lib.hid (fun i hi => h.at_ i hi)
  have HB := Lib.hid (Below.refl w.heap.size w)
  unfold maxLen at hcm
  have hle := Lib.hid hlen
  obtain ⟨F, hF⟩ : ∃ F, F = fewB l := ⟨_, rfl⟩
  rw [← hF]
  have HF := Lib.hid hF
  clear h hlen hF
  go_enter Tryd.func10, Tryd.ntmps10
  go_wp2
  go_loopw [3] (fun i wr => ∃ k : Nat, k ≤ len ∧ k ≤ 300 ∧ i = .int .i64 (k : Int) ∧ Hid (∀ j (hj : j < l.length), j < k → (l[j]'hj).s.size ≤ 1000) ∧ Hid (Below w.heap.size w wr)) (fun i wr => len - (intOf i).toNat)
  case atStart => exact ⟨0, by omega, by omega, rfl, Lib.hid (fun j _ hj => by omega), HB⟩
  case round =>
    clear HB
    obtain ⟨k, hk, hk3, rfl, hS, hB⟩ := hrel
    by_cases hlt : k < len
    · have hkl : k < l.length := by have := hle.out; omega
      obtain ⟨b, o, rfl, hb, c1, c2, c3, ok⟩ := AT.out k hkl
      replace c3 := keep hB.out c3
      have okz := ok.s
      unfold maxLen at okz
      by_cases h3 : k = 300
      · have hno := Lib.hid (fewB_no1 (l := l) (by have := hle.out; omega))
        have q : (300 : Int) ≤ (k : Int) := by omega
        clear c1 c2 c3 ok okz h3
        go_wp2
        go_ret
        exact ⟨by rw [HF.out, hno.out]; rfl, hB.out⟩
      · have q : ¬ (300 : Int) ≤ (k : Int) := by omega
        have NO := Lib.hid (fun h => fewB_no2 hkl h)
        obtain ⟨X, hX⟩ : ∃ X, X = (l[k]'hkl).s := ⟨_, rfl⟩
        rw [← hX] at c3 okz NO
        have hX' := Lib.hid hX
        clear hX c1 c2 ok
        by_cases h4 : 1000 < X.size
        · have hno := Lib.hid (NO.out h4)
          have q2 : (1000 : Int) < (X.size : Int) := by omega
          clear NO h4 h3
          go_wp2
          go_ret
          exact ⟨by rw [HF.out, hno.out]; rfl, hB.out⟩
        · have q2 : ¬ (1000 : Int) < (X.size : Int) := by omega
          clear NO
          go_wp2
          go_roundw
          case rel => exact ⟨k + 1, by omega, by omega, by go_num, Lib.hid (fun j hj hj2 => by
            by_cases e : j = k
            · subst e; rw [← hX'.out]; omega
            · exact hS.out j hj (by omega)), hB⟩
          case measure => simp [intOf]; omega
    · obtain rfl : k = len := by omega
      have hyes := Lib.hid (fewB_yes (l := l) (by have := hle.out; omega) (fun j hj => hS.out j hj (by have := hle.out; omega)))
      go_wp2
      go_ret
      exact ⟨by rw [HF.out, hyes.out]; rfl, hB.out⟩
/-- a room behind an act -/
def dnR (room : ByteArray) (x : ActD) : ByteArray :=
  if x.act % 4 = 0 then (if (ad room x.s).2.2 = 0 then (ad room x.s).1 else room)
  else if x.act % 4 = 1 then (if (ch room x.no (true, x.s)).2 = 0 then (ch room x.no (true, x.s)).1 else room)
  else if x.act % 4 = 2 then (if (ch room x.no emS).2 = 0 then (ch room x.no emS).1 else room)
  else room
theorem wf_i64 {x : Int} (h : (Lit.int .i64 x).wf = true) : -9223372036854775808 ≤ x ∧ x ≤ 9223372036854775807 := by
  simp [Lit.wf, IntKind.min, IntKind.max, IntKind.signed, IntKind.bits] at h
  omega
set_option maxRecDepth 10000 in
set_option maxHeartbeats 1000000 in
theorem done_any (room : ByteArray) (x : ActD) (w : World) (hz : room.size ≤ 140737488355328) (hx : x.Ok) (hs : x.s.size ≤ 1000) :
    Calls Tryd.prog 12 #[.string room, .agg x.cells] w fun e w' => e = .returned (.string (dnR room x)) ∧ Below w.heap.size w w' := by
  have HB := Lib.hid (show Below w.heap.size w (w.alloc (.cells x.cells 28)) from (Below.refl _ _).alloc (Nat.le_refl _) _)
  obtain ⟨⟨ha1, ha2⟩, ⟨hn1, hn2⟩⟩ : (0 ≤ x.act ∧ x.act ≤ 255) ∧ (-9223372036854775808 ≤ x.no ∧ x.no ≤ 9223372036854775807) := ⟨wf_u8 hx.act, wf_i64 hx.no⟩
  have HA := Lib.hid (fun W => add_slot room x.s W hz (by omega))
  have HS := Lib.hid (fun W => set_slot room x.no x.s W hz hn1 hn2 (by omega))
  have HD := Lib.hid (fun W => del_slot room x.no W hz hn1 hn2)
  obtain ⟨F, hF⟩ : ∃ F, F = dnR room x := ⟨_, rfl⟩
  have HF := Lib.hid (show F = _ from hF)
  unfold dnR at HF
  rw [← hF]
  obtain ⟨A, hA⟩ : ∃ A, A = ad room x.s := ⟨_, rfl⟩
  obtain ⟨S, hS⟩ : ∃ S, S = ch room x.no (true, x.s) := ⟨_, rfl⟩
  obtain ⟨D, hD⟩ : ∃ D, D = ch room x.no emS := ⟨_, rfl⟩
  rw [← hA] at HA HF
  rw [← hS] at HS HF
  rw [← hD] at HD HF
  clear hF hA hS hD hx
  obtain ⟨act, no, s⟩ := x
  simp only at *
  obtain ⟨A1, A2, A3⟩ := A
  obtain ⟨S1, S2⟩ := S
  obtain ⟨D1, D2⟩ := D
  simp only at *
  unfold ActD.cells
  rcases (show act % 4 = 0 ∨ act % 4 = 1 ∨ act % 4 = 2 ∨ act % 4 = 3 by omega) with hm | hm | hm | hm
  · rw [if_pos hm] at HF
    by_cases h0 : A3 = 0
    · subst h0
      rw [if_pos rfl] at HF
      go_enter Tryd.func12, Tryd.ntmps12
      go_wp2_with (go_at_call 13; refine (HA.out _).mono ?_; rintro e w2 ⟨rfl, hb2⟩; have B2 := Lib.hid (then_ HB.out hb2 HB.out.size); clear hb2)
      go_ret
      exact ⟨by rw [HF.out]; rfl, B2.out⟩
    · rw [if_neg h0] at HF
      have q : ¬ ((A3 : Int) = 0) := by omega
      go_enter Tryd.func12, Tryd.ntmps12
      go_wp2_with (go_at_call 13; refine (HA.out _).mono ?_; rintro e w2 ⟨rfl, hb2⟩; have B2 := Lib.hid (then_ HB.out hb2 HB.out.size); clear hb2)
      go_ret
      exact ⟨by rw [HF.out]; rfl, B2.out⟩
  · rw [if_neg (by omega), if_pos hm] at HF
    by_cases h0 : S2 = 0
    · subst h0
      rw [if_pos rfl] at HF
      go_enter Tryd.func12, Tryd.ntmps12
      go_wp2_with (go_at_call 16; refine (HS.out _).mono ?_; rintro e w2 ⟨rfl, hb2⟩; have B2 := Lib.hid (then_ HB.out hb2 HB.out.size); clear hb2)
      go_ret
      exact ⟨by rw [HF.out]; rfl, B2.out⟩
    · rw [if_neg h0] at HF
      have q : ¬ ((S2 : Int) = 0) := by omega
      go_enter Tryd.func12, Tryd.ntmps12
      go_wp2_with (go_at_call 16; refine (HS.out _).mono ?_; rintro e w2 ⟨rfl, hb2⟩; have B2 := Lib.hid (then_ HB.out hb2 HB.out.size); clear hb2)
      go_ret
      exact ⟨by rw [HF.out]; rfl, B2.out⟩
  · rw [if_neg (by omega), if_neg (by omega), if_pos hm] at HF
    by_cases h0 : D2 = 0
    · subst h0
      rw [if_pos rfl] at HF
      go_enter Tryd.func12, Tryd.ntmps12
      go_wp2_with (go_at_call 17; refine (HD.out _).mono ?_; rintro e w2 ⟨rfl, hb2⟩; have B2 := Lib.hid (then_ HB.out hb2 HB.out.size); clear hb2)
      go_ret
      exact ⟨by rw [HF.out]; rfl, B2.out⟩
    · rw [if_neg h0] at HF
      have q : ¬ ((D2 : Int) = 0) := by omega
      go_enter Tryd.func12, Tryd.ntmps12
      go_wp2_with (go_at_call 17; refine (HD.out _).mono ?_; rintro e w2 ⟨rfl, hb2⟩; have B2 := Lib.hid (then_ HB.out hb2 HB.out.size); clear hb2)
      go_ret
      exact ⟨by rw [HF.out]; rfl, B2.out⟩
  · rw [if_neg (by omega), if_neg (by omega), if_neg (by omega)] at HF
    go_enter Tryd.func12, Tryd.ntmps12
    go_wp2
    go_ret
    exact ⟨by rw [HF.out]; rfl, HB.out⟩
end Go.Proofs.YteepggjbgdjchaaDoor
