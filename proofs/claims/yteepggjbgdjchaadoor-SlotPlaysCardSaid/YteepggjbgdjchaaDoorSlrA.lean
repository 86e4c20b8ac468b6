
/- The contracts of the twelfth reference's trim and Pack. Conditions: slots that stand in memory. -/
import Derived.Test.YteepggjbgdjchaaDoorSloI
import Derived.Test.YteepggjbgdjchaaDoorMarB
import Derived.Test.YteepggjbgdjchaaDoorMade
namespace Go.Proofs.YteepggjbgdjchaaDoor
open Go.ChangeShapes Go.WideShapes Go.ChangeAt Go.RowKit
set_option linter.unusedVariables false
set_option linter.unusedSimpArgs false

theorem emp_no {r : ByteArray} (h : ¬ r.size = 0) : r.toList.isEmpty = false := by
  rw [ByteArray.toList_eq]
  cases hh : r.data.toList with
  | nil => exfalso; apply h; rw [← len_data, hh]; rfl
  | cons x l => rfl
theorem emp_eq {r : ByteArray} (h : r.size = 0) : r = ⟨#[]⟩ := ByteArray.ext (Array.eq_empty_of_size_eq_zero h)
set_option maxRecDepth 10000 in
theorem rtrim_any (v : Value) (L : List Sl) (w : World) (h : SlIn w v L) : Calls Tryd.prog 31 #[v] w fun e w' => ∃ a cap, v = .slice a L.length cap ∧ e = .returned (.slice a (tr L).length cap) ∧ SlIn w' (.slice a (tr L).length cap) (tr L) ∧ Below w.heap.size w w' := by
  obtain ⟨a, cap, rfl, hc1, hc2, hpre, hcl⟩ := h.open_
  obtain ⟨n, hn⟩ : ∃ n, n = L.length := ⟨_, rfl⟩
  rw [← hn] at hc1 ⊢
  have hn' := Lib.hid hn
  have HP := Lib.hid hpre
  have hmax : n ≤ 9223372036854775807 := by unfold maxLen at hc2; omega
  obtain ⟨T, hT⟩ : ∃ T, T = tr L := ⟨_, rfl⟩
  rw [← hT]
  have HT := Lib.hid hT
  have FIN : Hid (∀ k W, k ≤ n → T = L.take k → Below w.heap.size w W → ∃ a' cap', Value.slice a n cap = .slice a' n cap' ∧ Ending.returned (.slice a k cap) = .returned (.slice a' T.length cap') ∧ SlIn W (.slice a' T.length cap') T ∧ Below w.heap.size w W) := Lib.hid fun k W hk e hB => by
    have e2 : T.length = k := by rw [e, List.length_take]; have := hn'.out; omega
    refine ⟨a, cap, rfl, by rw [e2], ?_, hB⟩
    rw [e2, e]
    exact (HP.out k (by have := hn'.out; omega)).below hB
  clear hn hpre h hT
  go_enter Tryd.func31, Tryd.ntmps31
  go_wp2
  go_loopw [0] (fun v wr => ∃ k : Nat, k ≤ n ∧ v = .slice a k cap ∧ Hid (T = tr (L.take k)) ∧ Below w.heap.size w wr) (fun v wr => match v with | .slice _ k _ => k | _ => 0)
  case atStart => exact ⟨n, by omega, rfl, Lib.hid (by rw [HT.out, hn'.out, List.take_length]), Below.refl _ _⟩
  case round =>
    obtain ⟨k, hk, rfl, hE, hB⟩ := hrel
    replace hB := Lib.hid hB
    by_cases hlt : 0 < k
    · obtain ⟨j, rfl⟩ : ∃ j, k = j + 1 := ⟨k - 1, by omega⟩
      have hj : j < L.length := by have := hn'.out; omega
      obtain ⟨b, o, rfl, hb, c1, c2, c3⟩ := hcl j hj
      have hs := List.take_append_getElem hj
      obtain ⟨x, hx⟩ : ∃ x, x = L[j]'hj := ⟨_, rfl⟩
      rw [← hx] at c1 c2 c3 hs
      have hs' := Lib.hid hs
      clear hx hs
      obtain ⟨u, r2⟩ := x
      simp only at c1 c2 c3
      replace c1 := keep hB.out c1
      replace c2 := keep hB.out c2
      unfold maxLen at c3
      have e1 : ((j + 1 : Nat) : Int) - 1 = j := by omega
      by_cases hie : isE (u, r2) = true
      · have hE2 : Hid (T = tr (L.take j)) := Lib.hid (by rw [hE.out, ← hs'.out, tr_yes _ _ hie])
        have he := isE_eq _ hie
        injection he with he1 he2
        subst he1 he2
        clear hE hie hs'
        go_wp2
        go_roundw
        case rel => exact ⟨j, by omega, by go_num, hE2, hB.out⟩
        case measure => simp
      · have hie' : isE (u, r2) = false := by simpa using hie
        have hE2 : Hid (T = L.take (j + 1)) := Lib.hid (by rw [hE.out, ← hs'.out, tr_no _ _ hie'])
        cases u with
        | true =>
          clear hE hie hie' hs'
          go_wp2
          go_ret
          exact FIN.out _ _ (by omega) hE2.out hB.out
        | false =>
          have hz : ¬ r2.size = 0 := fun e => hie (by unfold isE; simp [e])
          have q1 := emp_no hz
          have q2 := str_ne (a := r2) (b := ⟨#[]⟩) (fun e => hz (by rw [e]; rfl))
          clear hE hie hie' hs'
          go_wp2
          go_ret
          exact FIN.out _ _ (by omega) hE2.out hB.out
    · obtain rfl : k = 0 := by omega
      go_wp2
      go_ret
      exact FIN.out 0 _ (by omega) (by rw [hE.out]; rfl) hB.out
end Go.Proofs.YteepggjbgdjchaaDoor
