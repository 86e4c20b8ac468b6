
/- The contract of few: acts of a size that is looked at. Conditions: those that each theorem names. -/
import Derived.Test.YtgddogjieemgeaaDisG
import Derived.Test.YtgddogjieemgeaaAct
namespace Go.Proofs.Ytgddogjieemgeaa
open Go.ChangeShapes Go.WideShapes Go.ChangeAt Go.RowKit
set_option linter.unusedVariables false
set_option linter.unusedSimpArgs false

def okAct (x : ActD) : Prop := x.kl ≤ 1000 ∧ x.s.size ≤ 1000
/-- few enough and small enough -/
def FewA (l : List ActD) : Prop := l.length ≤ 300 ∧ ∀ i (h : i < l.length), okAct (l[i]'h)
def fewRel (w W : World) (l : List ActD) (e : Ending) : Prop := w = W ∧ ((e = .returned (.bool true) ∧ FewA l) ∨ e = .returned (.bool false))
theorem few_no {w : World} {l : List ActD} : fewRel w w l (.returned (.bool false)) := ⟨rfl, .inr rfl⟩
set_option maxRecDepth 100000 in
theorem few_any (w : World) (a : Option Addr) (len cap : Nat) (l : List ActD) (h : IsActs w a len cap l) :
    Calls Try.prog 8 #[.slice a len cap] w fun e w' => fewRel w w' l e := by
  obtain ⟨h1, h2, h3, h4⟩ := h
  unfold maxLen at h2
  have hlen : len ≤ 9223372036854775807 := by omega
  replace h3 := Lib.hid h3
  replace h4 := Lib.hid h4
  go_enter Try.func8, Try.ntmps8
  go_wp2
  go_loop [3] (fun i => ∃ k : Nat, k ≤ len ∧ k ≤ 300 ∧ i = .int .i64 k ∧ ∀ j (hj : j < l.length), j < k → okAct (l[j]'hj)) (fun i => len - (intOf i).toNat)
  case atStart => exact ⟨0, by omega, by omega, rfl, fun _ _ h => by omega⟩
  case round =>
    obtain ⟨k, hk, hk3, rfl, hok⟩ := hrel
    replace hok := Lib.hid hok
    by_cases hlt : k < len
    · rcases h4.out with h | ⟨b, o, rfl, hb, hc⟩
      · omega
      have hkl : k < l.length := by rw [h3.out]; exact hlt
      obtain ⟨hcell, hx⟩ := hc k hkl
      have c4 := hcell 4 (by omega)
      have c5 := hcell 5 (by omega)
      have hx5 := hx.keep.1
      have hx6 := hx.keep.2.1
      have hx4 := hx.s
      unfold maxLen at hx4 hx6
      obtain ⟨y, hy⟩ : ∃ y, y = l[k]'hkl := ⟨_, rfl⟩
      rw [← hy] at c4 c5 hx5 hx6 hx4
      replace hy := Lib.hid hy
      obtain ⟨x0, x1, x2, x3, x4, ka, kl, kc, zs⟩ := y
      simp only [ActD.cells, List.getElem?_toArray, List.getElem?_cons_succ, List.getElem?_cons_zero] at c4 c5 hx5 hx6 hx4
      clear hcell hx hc
      by_cases g1 : 300 ≤ k
      · go_wp2
        go_ret
        exact few_no
      · by_cases g2 : 1000 < kl
        · go_wp2
          go_ret
          exact few_no
        · by_cases g3 : 1000 < x4.size
          · go_wp2
            go_ret
            exact few_no
          · go_wp2
            go_round
            case rel =>
              refine ⟨k + 1, by omega, by omega, by go_num, fun j hj hjk => ?_⟩
              by_cases e : j = k
              · subst e
                rw [← hy.out]
                exact ⟨by simp only; omega, by simp only; omega⟩
              · exact hok.out j hj (by omega)
            case measure => simp [intOf]; omega
    · obtain rfl : k = len := by omega
      go_wp2
      go_ret
      exact ⟨rfl, .inl ⟨rfl, by rw [h3.out]; exact hk3, fun i hi => hok.out i hi (by have := h3.out; omega)⟩⟩
end Go.Proofs.Ytgddogjieemgeaa
