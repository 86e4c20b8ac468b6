
/- The contract of croftref03.trim: the digits without noughts on top; nought isn't below 0. -/
import Derived.Test.YtdnjkminicmffaaDoorArr
import Derived.Test.YtdnjkminicmffaaDoorRefM
import Derived.Deep.LoopGhost
namespace Go.Proofs.YtdnjkminicmffaaDoor
open Go.ChangeShapes Go.WideShapes Go.ChangeAt Go.RowKit
set_option linter.unusedVariables false

/-- a slice of ints holds these digits, in a block below T or from C on -/
structure DRow (w : World) (T C : Nat) (a : Option Addr) (len cap : Nat) (zs : List Int) : Prop where
  hlen : zs.length = len
  hcap : len ≤ cap
  hmax : cap ≤ maxLen
  hcells : zs = [] ∨ ∃ b o, a = some ⟨b, o, none⟩ ∧ (b < T ∨ C ≤ b) ∧ ∀ i z, zs[i]? = some z → w.cell? ⟨b, o + i, none⟩ = some (.int .i64 z)
theorem DRow.keep {w w' : World} {T C : Nat} {a : Option Addr} {len cap : Nat} {zs : List Int} (h : DRow w T C a len cap zs) (hb : Below w.heap.size w w') : DRow w' T C a len cap zs :=
  ⟨h.hlen, h.hcap, h.hmax, h.hcells.imp id fun ⟨b, o, ha, ht, hc⟩ => ⟨b, o, ha, ht, fun i z hz => Go.Proofs.YtdnjkminicmffaaDoor.keep hb (hc i z hz)⟩⟩

set_option maxHeartbeats 4000000 in
set_option maxRecDepth 20000 in
theorem trim_any (T C : Nat) (neg : Bool) (a : Option Addr) (len cap : Nat) (zs : List Int) (w : World) (hr : DRow w T C a len cap zs) :
    Calls Tryd.prog 33 #[.agg #[.bool neg, .slice a len cap]] w fun e w' => ∃ len', e = .returned (.agg #[.bool (neg && !(tr zs).isEmpty), .slice a len' cap]) ∧ tr zs = zs.take len' ∧ len' ≤ len ∧ Below w.heap.size w w' := by
  obtain ⟨hl, hcap, hmax, hcells⟩ := hr
  go_enter Tryd.func33, Tryd.ntmps33
  go_wp2_with fail
  go_loopg [] len (fun k wr => k ≤ len ∧ Hid (tr zs = tr (zs.take k)) ∧ Own wr w.heap.size 27 #[.bool neg, .slice a k cap] ∧ Own wr (w.heap.size + 1) 27 #[.bool false, .slice none 0 0] ∧ Below w.heap.size w wr)
  case atStart =>
    refine ⟨Nat.le_refl _, Lib.hid (by rw [List.take_of_length_le (by omega)]), ?_, ?_, ?_⟩
    · repeat' (first | (with_reducible assumption) | (with_reducible refine Own.drawnN ?_ _) | (with_reducible refine Own.drawn ?_) | (with_reducible refine Own.made_at ?_; first | rfl | (simp; done) | omega | (simp; omega)) | (with_reducible refine Own.more ?_ _) | (with_reducible refine Own.apart ?_ ?_ _ _; rotate_left; first | omega | (simp; done) | (simp; omega)) | (refine Own.put ?_ _ _))
    · repeat' (first | (with_reducible assumption) | (with_reducible refine Own.drawnN ?_ _) | (with_reducible refine Own.drawn ?_) | (with_reducible refine Own.made_at ?_; first | rfl | (simp; done) | omega | (simp; omega)) | (with_reducible refine Own.more ?_ _) | (with_reducible refine Own.apart ?_ ?_ _ _; rotate_left; first | omega | (simp; done) | (simp; omega)) | (refine Own.put ?_ _ _))
    · repeat' (first | (with_reducible exact Below.refl _ _) | (with_reducible assumption) | (with_reducible refine below_drewN ?_ _) | (with_reducible refine Below.drew ?_) | (with_reducible refine Below.alloc ?_ ?_ _) | (with_reducible refine Below.setCell ?_ ?_ _) | (with_reducible refine then_ ?_ (by with_reducible assumption) ?_) | (with_reducible exact Nat.le_refl _) | (with_reducible exact Nat.le_succ _) | (with_reducible exact Nat.le_succ_of_le (by with_reducible assumption)) | omega | (simp; done) | (simp; omega) | (exact Nat.le_succ _) | (exact Nat.le_succ_of_le (by with_reducible assumption)))
  case round =>
    obtain ⟨hk, HT, O1, O2, hB⟩ := hrel
    obtain ⟨P1, P2, P3⟩ := O1.at_
    obtain ⟨Q1, Q2, Q3⟩ := O2.at_
    have e2 : ¬ w.heap.size = w.heap.size + 1 := by omega
    have e3 : ¬ w.heap.size + 1 = w.heap.size := by omega
    cases gk with
    | zero =>
      have ht : tr zs = [] := by have := HT.out; simpa [tr] using this
      have TH := Lib.hid ht
      clear ht HT hcells O1 O2
      go_wp2
      refine bodyPost_ret (v := .agg #[.bool false, .slice a 0 cap]) (by simp [results, Tryd.results33, go_sem, Q1]) rfl ⟨0, ?_, ?_, by omega, ?_⟩
      · rw [TH.out]; simp
      · rw [TH.out]; simp
      · repeat' (first | (with_reducible exact Below.refl _ _) | (with_reducible assumption) | (with_reducible refine below_drewN ?_ _) | (with_reducible refine Below.drew ?_) | (with_reducible refine Below.alloc ?_ ?_ _) | (with_reducible refine Below.setCell ?_ ?_ _) | (with_reducible refine then_ ?_ (by with_reducible assumption) ?_) | (with_reducible exact Nat.le_refl _) | (with_reducible exact Nat.le_succ _) | (with_reducible exact Nat.le_succ_of_le (by with_reducible assumption)) | omega | (simp; done) | (simp; omega) | (exact Nat.le_succ _) | (exact Nat.le_succ_of_le (by with_reducible assumption)))
    | succ j =>
      obtain ⟨b, o, rfl, hc⟩ : ∃ b o, a = some ⟨b, o, none⟩ ∧ ∀ i z, zs[i]? = some z → w.cell? ⟨b, o + i, none⟩ = some (.int .i64 z) := by
        rcases hcells with h | h
        · rw [h] at hl; simp at hl; omega
        · obtain ⟨b, o, h1, _, h2⟩ := h; exact ⟨b, o, h1, h2⟩
      obtain ⟨d, hd⟩ : ∃ d, zs[j]? = some d := ⟨zs[j]'(by omega), by simp⟩
      have C1 : wr.cell? ⟨b, o + j, none⟩ = some (.int .i64 d) := by
        have h := hc j d hd
        rw [hB.cell (cell_lt h)]; exact h
      have hj : ((j + 1 : Nat) : Int) - 1 = (j : Int) := by omega
      have hm : (j : Int) ≤ 9223372036854775806 := by unfold maxLen at hmax; omega
      have hjc : j ≤ cap := by omega
      have hb1 : b ≠ w.heap.size := by have := cell_lt (hc j d hd); omega
      have TK : zs.take (j + 1) = zs.take j ++ [d] := by
        obtain ⟨h1, h2⟩ := List.getElem?_eq_some_iff.1 hd
        rw [List.take_succ_eq_append_getElem h1, h2]
      by_cases h0 : d = 0
      · subst h0
        have HT2 := Lib.hid (show tr zs = tr (zs.take j) by rw [HT.out, TK, tr_zero])
        clear HT TK hcells hc hd
        go_wp2
        go_roundg j
        case measure => omega
        case rel => exact ⟨by omega, HT2, (O1.put 1 _).as rfl, O2.apart (by omega) _ _, hB.setCell (Nat.le_refl _) _⟩
      · have HT2 := Lib.hid (show tr zs = zs.take (j + 1) by rw [HT.out, TK, tr_last _ h0])
        have h0' : (d == 0) = false := by simpa using h0
        have hne : (zs.take (j + 1)).isEmpty = false := by rw [TK]; simp
        have NE := Lib.hid hne
        clear HT TK hcells hc hd hne
        go_wp2
        refine bodyPost_ret (v := .agg #[.bool neg, .slice (some ⟨b, o, none⟩) (j + 1) cap]) (by simp [results, Tryd.results33, go_sem, Q1]) rfl ⟨j + 1, ?_, HT2.out, hk, ?_⟩
        · rw [HT2.out, NE.out]; simp
        · repeat' (first | (with_reducible exact Below.refl _ _) | (with_reducible assumption) | (with_reducible refine below_drewN ?_ _) | (with_reducible refine Below.drew ?_) | (with_reducible refine Below.alloc ?_ ?_ _) | (with_reducible refine Below.setCell ?_ ?_ _) | (with_reducible refine then_ ?_ (by with_reducible assumption) ?_) | (with_reducible exact Nat.le_refl _) | (with_reducible exact Nat.le_succ _) | (with_reducible exact Nat.le_succ_of_le (by with_reducible assumption)) | omega | (simp; done) | (simp; omega) | (exact Nat.le_succ _) | (exact Nat.le_succ_of_le (by with_reducible assumption)))
end Go.Proofs.YtdnjkminicmffaaDoor
