/- merged: Numbers by digits of base 65536, the lowest first: what lists of digits stand for. It speaks of no function. The digits of a number out of its words in two's complement: what From reckons. It speaks of no function. The contract of croftref03.trim: the digits without noughts on top; nought isn't below 0. Numbers of croftref03 as values: trim makes one of any digits; Neg. The contract of croftref03.size: which of two numbers is greater, by their digits. The contract of croftref03.plus: the sum of two numbers by their digits. The contract of croftref03.minus: the difference of two numbers by their digits, the second not above the first. plus and minus of croftref03, their results as rows of digits. The contract of croftref03.Cmp. The contract of croftref03.From: the number that four words in two's complement stand for. -/
import Derived.Lib.ItoaNum
import Derived.Test.YtigcbgehnlilaaaDoorEq
import Derived.Deep.LoopGhost
import Derived.Test.YtigcbgehnlilaaaDoorWideH
import Derived.OwnWalk
import Derived.Laws.AppendOwn
import Derived.Test.YtigcbgehnlilaaaDoorNum
section
namespace Go.Proofs.YtigcbgehnlilaaaDoor

/-- the digits of a number, none above the highest that isn't 0 -/
def digs (n : Nat) : List Int := if h : n = 0 then [] else (n % 65536 : Int) :: digs (n / 65536)
termination_by n
decreasing_by omega
/-- what a list of digits stands for -/
def vl : List Int → Int
  | [] => 0
  | d :: r => d + 65536 * vl r
def Dg (zs : List Int) : Prop := ∀ d ∈ zs, 0 ≤ d ∧ d ≤ 65535
/-- without noughts on top -/
def tr : List Int → List Int
  | [] => []
  | d :: r => match tr r with
    | [] => if d = 0 then [] else [d]
    | e :: s => d :: e :: s

theorem digs_zero : digs 0 = [] := by rw [digs]; simp
theorem digs_pos {n : Nat} (h : n ≠ 0) : digs n = (n % 65536 : Int) :: digs (n / 65536) := by rw [digs, dif_neg h]
theorem digs_nil {n : Nat} (h : digs n = []) : n = 0 := by
  by_cases e : n = 0
  · exact e
  · rw [digs_pos e] at h; cases h
theorem Dg.nil : Dg [] := fun d h => by cases h
theorem Dg.cons {d : Int} {r : List Int} (h0 : 0 ≤ d) (h1 : d ≤ 65535) (h : Dg r) : Dg (d :: r) := fun e he => by
  rcases List.mem_cons.1 he with rfl | he
  · exact ⟨h0, h1⟩
  · exact h e he
theorem Dg.head {d : Int} {r : List Int} (h : Dg (d :: r)) : 0 ≤ d ∧ d ≤ 65535 := h d (by simp)
theorem Dg.tail {d : Int} {r : List Int} (h : Dg (d :: r)) : Dg r := fun e he => h e (by simp [he])
theorem Dg.append {a b : List Int} (h : Dg a) (k : Dg b) : Dg (a ++ b) := fun e he => by
  rcases List.mem_append.1 he with he | he
  · exact h e he
  · exact k e he
theorem Dg.snoc {a : List Int} {d : Int} (h : Dg a) (h0 : 0 ≤ d) (h1 : d ≤ 65535) : Dg (a ++ [d]) := h.append (Dg.nil.cons h0 h1)
theorem Dg.left {a b : List Int} (h : Dg (a ++ b)) : Dg a := fun e he => h e (by simp [he])
theorem Dg.right {a b : List Int} (h : Dg (a ++ b)) : Dg b := fun e he => h e (by simp [he])
theorem Dg.at {zs : List Int} (h : Dg zs) {i : Nat} {d : Int} (e : zs[i]? = some d) : 0 ≤ d ∧ d ≤ 65535 := h d (List.mem_of_getElem? e)
theorem Dg.digs (n : Nat) : Dg (digs n) := by
  induction n using Nat.strongRecOn with
  | ind n ih =>
    by_cases e : n = 0
    · rw [e, digs_zero]; exact Dg.nil
    · rw [digs_pos e]
      exact (ih (n / 65536) (by omega)).cons (by omega) (by omega)
theorem vl_digs (n : Nat) : vl (digs n) = n := by
  induction n using Nat.strongRecOn with
  | ind n ih =>
    by_cases e : n = 0
    · rw [e, digs_zero]; rfl
    · rw [digs_pos e, vl, ih (n / 65536) (by omega)]
      omega
theorem vl_nonneg : ∀ {zs : List Int}, Dg zs → 0 ≤ vl zs
  | [], _ => by simp [vl]
  | d :: r, h => by
    have := vl_nonneg h.tail
    have := h.head
    rw [vl]; omega
theorem vl_append : ∀ (a b : List Int), vl (a ++ b) = vl a + 65536 ^ a.length * vl b
  | [], b => by simp [vl]
  | d :: r, b => by
    rw [List.cons_append, vl, vl_append r b, vl, List.length_cons, Int.pow_succ, Int.mul_add, Int.add_assoc, ← Int.mul_assoc, Int.mul_comm (65536 ^ r.length) 65536]
theorem vl_snoc (a : List Int) (d : Int) : vl (a ++ [d]) = vl a + 65536 ^ a.length * d := by
  rw [vl_append]; simp [vl]
theorem vl_lt : ∀ {zs : List Int}, Dg zs → vl zs < 65536 ^ zs.length
  | [], _ => by simp [vl]
  | d :: r, h => by
    have := vl_lt h.tail
    have := h.head
    rw [vl, List.length_cons, Int.pow_succ]; omega
theorem tr_zero : ∀ a : List Int, tr (a ++ [0]) = tr a
  | [] => rfl
  | d :: r => by rw [List.cons_append, tr, tr_zero r, tr]
theorem tr_last : ∀ (a : List Int) {d : Int}, d ≠ 0 → tr (a ++ [d]) = a ++ [d]
  | [], d, h => by simp [tr, h]
  | e :: r, d, h => by
    rw [List.cons_append, tr, tr_last r h]
    cases hr : r ++ [d] with
    | nil => simp at hr
    | cons x s => rfl
theorem tr_digs : ∀ {zs : List Int}, Dg zs → tr zs = digs (vl zs).toNat
  | [], _ => by simp [tr, vl, digs_zero]
  | d :: r, h => by
    have ih := tr_digs h.tail
    have h0 := vl_nonneg h.tail
    obtain ⟨h1, h2⟩ := h.head
    by_cases e : (vl (d :: r)).toNat = 0
    · have e1 : vl r = 0 := by rw [vl] at e; omega
      have e2 : d = 0 := by rw [vl] at e; omega
      rw [e, digs_zero, tr, ih, e1]
      simp [digs_zero, e2]
    · have e1 : (vl (d :: r)).toNat / 65536 = (vl r).toNat := by rw [vl]; omega
      have e2 : (((vl (d :: r)).toNat % 65536 : Nat) : Int) = d := by rw [vl]; omega
      rw [digs_pos e, e1, tr, ih]
      have e3 : ((vl (d :: r)).toNat : Int) % 65536 = d := by rw [vl]; omega
      rw [e3]
      cases hr : digs (vl r).toNat with
      | nil =>
        have : vl r = 0 := by have := digs_nil hr; omega
        have : d ≠ 0 := by rw [vl] at e; omega
        simp [this]
      | cons x s => rfl
/-- a list with the right length is the number's own -/
theorem digs_of {zs : List Int} (h : Dg zs) (k : zs = [] ∨ 65536 ^ (zs.length - 1) ≤ vl zs) : zs = digs (vl zs).toNat := by
  rcases List.eq_nil_or_concat zs with rfl | ⟨a, d, rfl⟩
  · simp [vl, digs_zero]
  · rw [List.concat_eq_append] at *
    have hd : d ≠ 0 := by
      rintro rfl
      rcases k with k | k
      · simp at k
      · rw [vl_snoc] at k
        have := vl_lt h.left
        simp at k
        omega
    rw [← tr_digs h, tr_last a hd]
theorem digs_len {n : Nat} (h : n ≠ 0) : 65536 ^ ((digs n).length - 1) ≤ (n : Int) ∧ 1 ≤ (digs n).length := by
  induction n using Nat.strongRecOn with
  | ind n ih =>
    rw [digs_pos h]
    refine ⟨?_, by simp⟩
    by_cases e : n / 65536 = 0
    · rw [e, digs_zero]; simp; omega
    · obtain ⟨h1, h2⟩ := ih (n / 65536) (by omega) e
      simp only [List.length_cons, Nat.add_sub_cancel]
      rw [show (digs (n / 65536)).length = (digs (n / 65536)).length - 1 + 1 by omega, Int.pow_succ]
      omega
theorem digs_lt (n : Nat) : (n : Int) < 65536 ^ (digs n).length := by
  have := vl_lt (Dg.digs n)
  rwa [vl_digs] at this
/-- a longer one is greater -/
theorem digs_longer {m n : Nat} (h : (digs m).length < (digs n).length) : m < n := by
  have h1 := digs_lt m
  have hn : n ≠ 0 := by rintro rfl; rw [digs_zero] at h; simp at h
  obtain ⟨h2, _⟩ := digs_len hn
  have h3 : (65536 : Int) ^ (digs m).length ≤ 65536 ^ ((digs n).length - 1) := by
    have hjk : (digs m).length ≤ (digs n).length - 1 := by omega
    generalize (digs n).length - 1 = k at hjk ⊢
    generalize (digs m).length = j at hjk ⊢
    obtain ⟨t, rfl⟩ : ∃ t, k = j + t := ⟨k - j, by omega⟩
    rw [Int.pow_add]
    have h4 : (0 : Int) < 65536 ^ j := Int.pow_pos (by decide)
    have h5 : (0 : Int) < 65536 ^ t := Int.pow_pos (by decide)
    have := Int.mul_le_mul_of_nonneg_left (show (1 : Int) ≤ 65536 ^ t by omega) (show (0 : Int) ≤ 65536 ^ j by omega)
    omega
  omega
/-- the upper part of a list of digits -/
theorem vl_drop (zs : List Int) (i : Nat) (d : Int) (h : zs[i]? = some d) : vl (zs.drop i) = d + 65536 * vl (zs.drop (i + 1)) := by
  obtain ⟨hi, e⟩ := List.getElem?_eq_some_iff.1 h
  rw [List.drop_eq_getElem_cons hi, e, vl]
theorem vl_drop_ge (zs : List Int) (i : Nat) (h : zs.length ≤ i) : vl (zs.drop i) = 0 := by
  rw [List.drop_eq_nil_of_le h]; rfl
theorem vl_take (zs : List Int) (i : Nat) (d : Int) (h : zs[i]? = some d) : vl (zs.take (i + 1)) = vl (zs.take i) + 65536 ^ i * d := by
  obtain ⟨hi, e⟩ := List.getElem?_eq_some_iff.1 h
  rw [List.take_succ_eq_append_getElem hi, e, vl_snoc, List.length_take, Nat.min_eq_left (by omega)]
theorem Dg.take {zs : List Int} (h : Dg zs) (i : Nat) : Dg (zs.take i) := fun e he => h e (List.mem_of_mem_take he)
theorem Dg.drop {zs : List Int} (h : Dg zs) (i : Nat) : Dg (zs.drop i) := fun e he => h e (List.mem_of_mem_drop he)
theorem Dg.set {zs : List Int} (h : Dg zs) (i : Nat) {d : Int} (h0 : 0 ≤ d) (h1 : d ≤ 65535) : Dg (zs.set i d) := fun e he => by
  rcases List.mem_or_eq_of_mem_set he with he | rfl
  · exact h e he
  · exact ⟨h0, h1⟩
theorem vl_set : ∀ (zs : List Int) (i : Nat) (d e : Int), zs[i]? = some e → vl (zs.set i d) = vl zs + 65536 ^ i * (d - e)
  | [], i, d, e, h => by simp at h
  | x :: r, 0, d, e, h => by
    obtain rfl : x = e := by simpa using h
    rw [List.set_cons_zero, vl, vl, Int.pow_zero]; omega
  | x :: r, i + 1, d, e, h => by
    have ih := vl_set r i d e (by simpa using h)
    rw [List.set_cons_succ, vl, ih, vl, Int.pow_succ, Int.mul_add, Int.mul_comm (65536 ^ i) 65536, Int.mul_assoc]
    omega
theorem vl_replicate (n : Nat) : vl (List.replicate n 0) = 0 := by
  induction n with
  | zero => rfl
  | succ n ih => rw [List.replicate_succ, vl, ih]; rfl
theorem Dg.replicate (n : Nat) : Dg (List.replicate n 0) := fun e he => by
  obtain ⟨_, rfl⟩ := List.mem_replicate.1 he
  omega
#print axioms digs_of
end Go.Proofs.YtigcbgehnlilaaaDoor
end
section
namespace Go.Proofs.YtigcbgehnlilaaaDoor

def frd (u : Int) (i : Nat) : Int := u / 65536 ^ i % 65536
/-- the digits so far, and what is carried -/
def fr (u : Int) (neg : Bool) : Nat → List Int × Int
  | 0 => ([], 1)
  | i + 1 => if neg then ((fr u neg i).1 ++ [(65535 - frd u i + (fr u neg i).2) % 65536], (65535 - frd u i + (fr u neg i).2) / 65536) else ((fr u neg i).1 ++ [frd u i], (fr u neg i).2)
theorem frd_range (u : Int) (i : Nat) : 0 ≤ frd u i ∧ frd u i ≤ 65535 := by unfold frd; omega
theorem mod_step (u P : Int) (hP : 0 < P) : u % (P * 65536) = u % P + P * (u / P % 65536) := by
  have e1 := Int.mul_ediv_add_emod u P
  have e2 := Int.mul_ediv_add_emod (u / P) 65536
  have g1 := Int.emod_nonneg u (show P ≠ 0 by omega)
  have g2 := Int.emod_lt_of_pos u hP
  have g3 : 0 ≤ u / P % 65536 ∧ u / P % 65536 ≤ 65535 := by omega
  generalize u / P % 65536 = r at *
  generalize u / P / 65536 = k at *
  generalize u / P = j at *
  generalize u % P = t at *
  have h1 := Int.mul_le_mul_of_nonneg_left g3.2 (Int.le_of_lt hP)
  have h2 := Int.mul_nonneg (Int.le_of_lt hP) g3.1
  have e3 : u = t + P * r + P * 65536 * k := by
    rw [← e1, ← e2, Int.mul_add, ← Int.mul_assoc]
    omega
  rw [e3, Int.add_mul_emod_self_left]
  exact Int.emod_eq_of_lt (by omega) (by omega)
theorem fr_ok (u : Int) (neg : Bool) : ∀ i, (fr u neg i).1.length = i ∧ Dg (fr u neg i).1 ∧ 0 ≤ (fr u neg i).2 ∧ (fr u neg i).2 ≤ 1 ∧
    (neg = false → vl (fr u neg i).1 = u % 65536 ^ i) ∧ (neg = true → vl (fr u neg i).1 + 65536 ^ i * (fr u neg i).2 = 65536 ^ i - u % 65536 ^ i)
  | 0 => by simp [fr, vl, Dg.nil, Int.emod_one]
  | i + 1 => by
    obtain ⟨h1, h2, h3, h4, h5, h6⟩ := fr_ok u neg i
    have hP : (0 : Int) < 65536 ^ i := Int.pow_pos (by decide)
    have hm := mod_step u (65536 ^ i) hP
    have hr := frd_range u i
    rw [show u / 65536 ^ i % 65536 = frd u i from rfl] at hm
    rw [Int.pow_succ, hm, fr]
    generalize (fr u neg i).1 = o at *
    generalize (fr u neg i).2 = c at *
    generalize frd u i = D at *
    cases neg with
    | false =>
      simp only [Bool.false_eq_true, if_false]
      refine ⟨by simp [h1], h2.snoc hr.1 hr.2, h3, h4, fun _ => ?_, (fun h => by simp at h)⟩
      rw [vl_snoc, h1, h5 rfl]
    | true =>
      simp only [if_true]
      refine ⟨by simp [h1], h2.snoc (by omega) (by omega), by omega, by omega, (fun h => by simp at h), fun _ => ?_⟩
      have h7 := h6 rfl
      rw [vl_snoc, h1, Int.mul_assoc, Int.add_assoc, ← Int.mul_add]
      have e : (65535 - D + c) % 65536 + 65536 * ((65535 - D + c) / 65536) = 65535 - D + c := by omega
      rw [e]
      generalize (65536 : Int) ^ i = P at *
      generalize u % P = t at *
      have e2 : P * (65535 - D + c) = P * 65536 - P - P * D + P * c := by
        rw [show (65535 - D + c : Int) = 65536 - 1 - D + c by omega, Int.mul_add, Int.mul_sub, Int.mul_sub, Int.mul_one]
      rw [e2]
      omega
theorem fr_16 (z : Int) (hl : -57896044618658097711785492504343953926634992332820282019728792003956564819968 ≤ z) (hh : z ≤ 57896044618658097711785492504343953926634992332820282019728792003956564819967) :
    vl (fr (z % 115792089237316195423570985008687907853269984665640564039457584007913129639936) (decide (z < 0)) 16).1 = z.natAbs := by
  obtain ⟨h1, h2, h3, h4, h5, h6⟩ := fr_ok (z % 115792089237316195423570985008687907853269984665640564039457584007913129639936) (decide (z < 0)) 16
  have hp : (65536 : Int) ^ 16 = 115792089237316195423570985008687907853269984665640564039457584007913129639936 := by decide
  have hv := vl_nonneg h2
  rw [hp] at h5 h6
  by_cases hz : z < 0
  · have := h6 (by simpa using hz)
    omega
  · have := h5 (by simpa using hz)
    omega
end Go.Proofs.YtigcbgehnlilaaaDoor
end
section
namespace Go.Proofs.YtigcbgehnlilaaaDoor
open Go.ChangeShapes Go.WideShapes Go.ChangeAt Go.RowKit
set_option linter.unusedVariables false

/-- a slice of ints holds these digits, in a block below T or from C on -/
structure DRow (w : World) (T C : Nat) (a : Option Addr) (len cap : Nat) (zs : List Int) : Prop where
  hlen : zs.length = len
  hcap : len ≤ cap
  hmax : cap ≤ maxLen
  hcells : zs = [] ∨ ∃ b o, a = some ⟨b, o, none⟩ ∧ (b < T ∨ C ≤ b) ∧ ∀ i z, zs[i]? = some z → w.cell? ⟨b, o + i, none⟩ = some (.int .i64 z)
theorem DRow.keep {w w' : World} {T C : Nat} {a : Option Addr} {len cap : Nat} {zs : List Int} (h : DRow w T C a len cap zs) (hb : Below w.heap.size w w') : DRow w' T C a len cap zs :=
  ⟨h.hlen, h.hcap, h.hmax, h.hcells.imp id fun ⟨b, o, ha, ht, hc⟩ => ⟨b, o, ha, ht, fun i z hz => Go.Proofs.YtigcbgehnlilaaaDoor.keep hb (hc i z hz)⟩⟩

set_option maxHeartbeats 4000000 in
set_option maxRecDepth 20000 in
theorem trim_any (T C : Nat) (neg : Bool) (a : Option Addr) (len cap : Nat) (zs : List Int) (w : World) (hr : DRow w T C a len cap zs) :
    Calls Tryd.prog 61 #[.agg #[.bool neg, .slice a len cap]] w fun e w' => ∃ len', e = .returned (.agg #[.bool (neg && !(tr zs).isEmpty), .slice a len' cap]) ∧ tr zs = zs.take len' ∧ len' ≤ len ∧ Below w.heap.size w w' := by
  obtain ⟨hl, hcap, hmax, hcells⟩ := hr
  go_enter Tryd.func61, Tryd.ntmps61
  go_wp2_with fail
  go_loopg [] len (fun k wr => k ≤ len ∧ Hid (tr zs = tr (zs.take k)) ∧ Own wr w.heap.size 59 #[.bool neg, .slice a k cap] ∧ Own wr (w.heap.size + 1) 59 #[.bool false, .slice none 0 0] ∧ Below w.heap.size w wr)
  case atStart =>
    refine ⟨Nat.le_refl _, Lib.hid (by rw [List.take_of_length_le (by omega)]), ?_, ?_, ?_⟩
    · repeat' (first | (with_reducible assumption) | (with_reducible refine Own.drawnN ?_ _) | (with_reducible refine Own.drawn ?_) | (with_reducible refine Own.made_at ?_; first | rfl | (simp; done) | omega | (simp; omega)) | (with_reducible refine Own.more ?_ _) | (with_reducible refine Own.apart ?_ ?_ _ _; rotate_left; first | omega | (simp; done) | (simp; omega)) | (refine Own.put ?_ _ _))
    · repeat' (first | (with_reducible assumption) | (with_reducible refine Own.drawnN ?_ _) | (with_reducible refine Own.drawn ?_) | (with_reducible refine Own.made_at ?_; first | rfl | (simp; done) | omega | (simp; omega)) | (with_reducible refine Own.more ?_ _) | (with_reducible refine Own.apart ?_ ?_ _ _; rotate_left; first | omega | (simp; done) | (simp; omega)) | (refine Own.put ?_ _ _))
    · repeat' (first | (with_reducible exact Below.refl _ _) | (with_reducible assumption) | (with_reducible refine below_drewN ?_ _) | (with_reducible refine Below.drew ?_) | (with_reducible refine Below.alloc ?_ ?_ _) | (with_reducible refine Below.setCell ?_ ?_ _) | (with_reducible refine then_ ?_ (by with_reducible assumption) ?_) | (with_reducible exact Nat.le_refl _) | (with_reducible exact Nat.le_succ _) | (with_reducible exact Nat.le_succ_of_le (by with_reducible assumption)) | omega | (simp; done) | (simp; omega) | (exact Nat.le_succ _) | (exact Nat.le_succ_of_le (by with_reducible assumption)))
  case round =>
    obtain ⟨hk, HT, O1, O2, hB⟩ := hrel
    obtain ⟨P1, P2, P3⟩ := O1.at_
    obtain ⟨Q1, Q2, Q3⟩ := O2.at_
    have e2 : ¬ w.heap.size = w.heap.size + 1 := by omega
    have e3 : ¬ w.heap.size + 1 = w.heap.size := by omega
    cases gk with
    | zero =>
      have ht : tr zs = [] := by have := HT.out; simpa [tr] using this
      have TH := Lib.hid ht
      clear ht HT hcells O1 O2
      go_wp2
      refine bodyPost_ret (v := .agg #[.bool false, .slice a 0 cap]) (by simp [results, Tryd.results61, go_sem, Q1]) rfl ⟨0, ?_, ?_, by omega, ?_⟩
      · rw [TH.out]; simp
      · rw [TH.out]; simp
      · repeat' (first | (with_reducible exact Below.refl _ _) | (with_reducible assumption) | (with_reducible refine below_drewN ?_ _) | (with_reducible refine Below.drew ?_) | (with_reducible refine Below.alloc ?_ ?_ _) | (with_reducible refine Below.setCell ?_ ?_ _) | (with_reducible refine then_ ?_ (by with_reducible assumption) ?_) | (with_reducible exact Nat.le_refl _) | (with_reducible exact Nat.le_succ _) | (with_reducible exact Nat.le_succ_of_le (by with_reducible assumption)) | omega | (simp; done) | (simp; omega) | (exact Nat.le_succ _) | (exact Nat.le_succ_of_le (by with_reducible assumption)))
    | succ j =>
      obtain ⟨b, o, rfl, hc⟩ : ∃ b o, a = some ⟨b, o, none⟩ ∧ ∀ i z, zs[i]? = some z → w.cell? ⟨b, o + i, none⟩ = some (.int .i64 z) := by
        rcases hcells with h | h
        · rw [h] at hl; simp at hl; omega
        · obtain ⟨b, o, h1, _, h2⟩ := h; exact ⟨b, o, h1, h2⟩
      obtain ⟨d, hd⟩ : ∃ d, zs[j]? = some d := ⟨zs[j]'(by omega), by simp⟩
      have C1 : wr.cell? ⟨b, o + j, none⟩ = some (.int .i64 d) := by
        have h := hc j d hd
        rw [hB.cell (cell_lt h)]; exact h
      have hj : ((j + 1 : Nat) : Int) - 1 = (j : Int) := by omega
      have hm : (j : Int) ≤ 9223372036854775806 := by unfold maxLen at hmax; omega
      have hjc : j ≤ cap := by omega
      have hb1 : b ≠ w.heap.size := by have := cell_lt (hc j d hd); omega
      have TK : zs.take (j + 1) = zs.take j ++ [d] := by
        obtain ⟨h1, h2⟩ := List.getElem?_eq_some_iff.1 hd
        rw [List.take_succ_eq_append_getElem h1, h2]
      by_cases h0 : d = 0
      · subst h0
        have HT2 := Lib.hid (show tr zs = tr (zs.take j) by rw [HT.out, TK, tr_zero])
        clear HT TK hcells hc hd
        go_wp2
        go_roundg j
        case measure => omega
        case rel => exact ⟨by omega, HT2, (O1.put 1 _).as rfl, O2.apart (by omega) _ _, hB.setCell (Nat.le_refl _) _⟩
      · have HT2 := Lib.hid (show tr zs = zs.take (j + 1) by rw [HT.out, TK, tr_last _ h0])
        have h0' : (d == 0) = false := by simpa using h0
        have hne : (zs.take (j + 1)).isEmpty = false := by rw [TK]; simp
        have NE := Lib.hid hne
        clear HT TK hcells hc hd hne
        go_wp2
        refine bodyPost_ret (v := .agg #[.bool neg, .slice (some ⟨b, o, none⟩) (j + 1) cap]) (by simp [results, Tryd.results61, go_sem, Q1]) rfl ⟨j + 1, ?_, HT2.out, hk, ?_⟩
        · rw [HT2.out, NE.out]; simp
        · repeat' (first | (with_reducible exact Below.refl _ _) | (with_reducible assumption) | (with_reducible refine below_drewN ?_ _) | (with_reducible refine Below.drew ?_) | (with_reducible refine Below.alloc ?_ ?_ _) | (with_reducible refine Below.setCell ?_ ?_ _) | (with_reducible refine then_ ?_ (by with_reducible assumption) ?_) | (with_reducible exact Nat.le_refl _) | (with_reducible exact Nat.le_succ _) | (with_reducible exact Nat.le_succ_of_le (by with_reducible assumption)) | omega | (simp; done) | (simp; omega) | (exact Nat.le_succ _) | (exact Nat.le_succ_of_le (by with_reducible assumption)))
end Go.Proofs.YtigcbgehnlilaaaDoor
end
section
namespace Go.Proofs.YtigcbgehnlilaaaDoor
open Go.ChangeShapes Go.WideShapes Go.ChangeAt Go.RowKit
set_option linter.unusedVariables false

/-- the value of a croftref03.Num that is the number z -/
def Num (w : World) (T C : Nat) (v : Value) (z : Int) : Prop := ∃ a len cap, v = .agg #[.bool (decide (z < 0)), .slice a len cap] ∧ DRow w T C a len cap (digs z.natAbs)
theorem Num.keep {w w' : World} {T C : Nat} {v : Value} {z : Int} (h : Num w T C v z) (hb : Below w.heap.size w w') : Num w' T C v z := by
  obtain ⟨a, len, cap, h1, h2⟩ := h
  exact ⟨a, len, cap, h1, h2.keep hb⟩
theorem DRow.take {w : World} {T C : Nat} {a : Option Addr} {len cap : Nat} {zs : List Int} (h : DRow w T C a len cap zs) (k : Nat) (hk : k ≤ len) : DRow w T C a k cap (zs.take k) := by
  obtain ⟨h1, h2, h3, h4⟩ := h
  refine ⟨by rw [List.length_take]; omega, by omega, h3, ?_⟩
  rcases h4 with h4 | ⟨b, o, ha, ht, hc⟩
  · left; rw [h4]; simp
  · right
    refine ⟨b, o, ha, ht, fun i z hz => hc i z ?_⟩
    rw [List.getElem?_take] at hz
    split at hz
    · exact hz
    · cases hz
theorem trim_num (T C : Nat) (neg : Bool) (a : Option Addr) (len cap : Nat) (zs : List Int) (n : Int) (w : World) (hr : DRow w T C a len cap zs) (hd : Dg zs) (hn : vl zs = n) :
    Calls Tryd.prog 61 #[.agg #[.bool neg, .slice a len cap]] w fun e w' => ∃ v, e = .returned v ∧ Num w' T C v (if neg then -n else n) ∧ Below w.heap.size w w' := by
  refine (trim_any T C neg a len cap zs w hr).mono ?_
  rintro e w' ⟨k, rfl, ht, hk, hb⟩
  have h0 : 0 ≤ n := hn ▸ vl_nonneg hd
  have hz : digs (if neg then -n else n).natAbs = tr zs := by
    rw [tr_digs hd, hn]
    congr 1
    split <;> omega
  refine ⟨_, rfl, ⟨a, k, cap, ?_, ?_⟩, hb⟩
  · congr 4
    by_cases e : n = 0
    · have : tr zs = [] := by rw [tr_digs hd, hn, e]; exact digs_zero
      rw [this, e]; simp
    · have : (tr zs).isEmpty = false := by
        rw [tr_digs hd, hn]
        cases h : digs n.toNat with
        | nil => have := digs_nil h; omega
        | cons _ _ => rfl
      rw [this]
      cases neg <;> simp <;> omega
  · rw [hz, ht]
    exact (hr.take k hk).keep hb

/-- a store into a block that is neither below T nor from C on -/
theorem Num.put {w : World} {T C : Nat} {v : Value} {z : Int} (h : Num w T C v z) {p i : Nat} (hT : T ≤ p) (hC : p < C) (u : Value) : Num (w.setCell ⟨p, i, none⟩ u) T C v z := by
  obtain ⟨a, len, cap, h1, h2, h3, h4, h5⟩ := h
  refine ⟨a, len, cap, h1, h2, h3, h4, h5.imp id ?_⟩
  rintro ⟨b, o, ha, ht, hc⟩
  refine ⟨b, o, ha, ht, fun i z hz => ?_⟩
  rw [World.cell?_of_block (w := w) (a := ⟨b, o + i, none⟩) (Below.heap_setCell w _ u b (show b ≠ p by omega))]
  exact hc i z hz
theorem Num.mono {w : World} {T C T' C' : Nat} {v : Value} {z : Int} (h : Num w T C v z) (hT : T ≤ T') (hC : C' ≤ C) : Num w T' C' v z := by
  obtain ⟨a, len, cap, h1, h2, h3, h4, h5⟩ := h
  refine ⟨a, len, cap, h1, h2, h3, h4, h5.imp id ?_⟩
  rintro ⟨b, o, ha, ht, hc⟩
  exact ⟨b, o, ha, by omega, hc⟩
/-- what is there lies below the heap's size -/
theorem Num.old {w : World} {T C C' : Nat} {v : Value} {z : Int} (h : Num w T C v z) (hC : C = w.heap.size) : Num w T C' v z := by
  obtain ⟨a, len, cap, h1, h2, h3, h4, h5⟩ := h
  refine ⟨a, len, cap, h1, h2, h3, h4, ?_⟩
  rcases h5 with h5 | ⟨b, o, ha, ht, hc⟩
  · exact .inl h5
  · by_cases e : digs z.natAbs = []
    · exact .inl e
    · obtain ⟨d, r, hd⟩ := List.exists_cons_of_ne_nil e
      have := cell_lt (hc 0 d (by rw [hd]; rfl))
      exact .inr ⟨b, o, ha, .inl (by omega), hc⟩
theorem Num.shape {w : World} {T C : Nat} {v : Value} {z : Int} (h : Num w T C v z) : ∃ n a len cap, v = .agg #[.bool n, .slice a len cap] := by
  obtain ⟨a, len, cap, h1, _⟩ := h
  exact ⟨_, a, len, cap, h1⟩

end Go.Proofs.YtigcbgehnlilaaaDoor
end
section
namespace Go.Proofs.YtigcbgehnlilaaaDoor
open Go.ChangeShapes Go.WideShapes Go.ChangeAt Go.RowKit
set_option linter.unusedVariables false

def dg (zs : List Int) (i : Nat) : Int := zs.getD i 0
theorem dg_at {zs : List Int} {i : Nat} (h : i < zs.length) : zs[i]? = some (dg zs i) := by
  simp [dg, h]
theorem cmp_take {xs ys : List Int} (hx : Dg xs) (hy : Dg ys) : ∀ k : Nat, k ≤ xs.length → k ≤ ys.length → cmpW (dg xs) (dg ys) k = cmpZ (vl (xs.take k)) (vl (ys.take k))
  | 0, _, _ => by simp [cmpW, cmpZ, vl]
  | k + 1, h, h' => by
    have ih := cmp_take hx hy k (by omega) (by omega)
    have e1 := vl_take xs k _ (dg_at (by omega))
    have e2 := vl_take ys k _ (dg_at (by omega))
    have l1 := vl_lt (hx.take k)
    have l2 := vl_lt (hy.take k)
    rw [List.length_take, Nat.min_eq_left (by omega)] at l1 l2
    have g1 := vl_nonneg (hx.take k)
    have g2 := vl_nonneg (hy.take k)
    have hP : (0 : Int) < 65536 ^ k := Int.pow_pos (by decide)
    rw [cmpW, ih, e1, e2]
    generalize (65536 : Int) ^ k = P at *
    generalize vl (xs.take k) = A at *
    generalize vl (ys.take k) = B at *
    generalize dg xs k = x at *
    generalize dg ys k = y at *
    unfold cmpZ
    rcases Int.lt_trichotomy x y with hl | hl | hl
    · have hm := Int.mul_le_mul_of_nonneg_left (show x + 1 ≤ y by omega) (Int.le_of_lt hP)
      rw [Int.mul_add, Int.mul_one] at hm
      rw [if_pos hl, if_pos (by omega)]
    · subst hl
      rw [if_neg (by omega), if_neg (by omega)]
      by_cases h1 : A < B
      · rw [if_pos h1, if_pos (by omega)]
      · rw [if_neg h1, if_neg (show ¬ A + P * x < B + P * x by omega)]
        by_cases h2 : B < A
        · rw [if_pos h2, if_pos (by omega)]
        · rw [if_neg h2, if_neg (by omega)]
    · have hm := Int.mul_le_mul_of_nonneg_left (show y + 1 ≤ x by omega) (Int.le_of_lt hP)
      rw [Int.mul_add, Int.mul_one] at hm
      rw [if_neg (by omega), if_pos (show x > y from hl), if_neg (by omega), if_pos (by omega)]

set_option maxHeartbeats 4000000 in
set_option maxRecDepth 20000 in
theorem size_same (xs ys : List Int) (T C T' C' : Nat) (a b : Option Addr) (n c d : Nat) (w : World) (hx : DRow w T C a n c xs) (hy : DRow w T' C' b n d ys) :
    Calls Tryd.prog 63 #[.slice a n c, .slice b n d] w fun e w' => e = .returned (.int .i64 (cmpW (dg xs) (dg ys) n)) ∧ ∃ m, w' = w.drewN m := by
  obtain ⟨l1, c1, m1, hX⟩ := hx
  obtain ⟨l2, c2, m2, hY⟩ := hy
  have HX := Lib.hid hX; have HY := Lib.hid hY
  have hn : (n : Int) ≤ 9223372036854775807 := by unfold maxLen at m1; omega
  clear hX hY
  go_enter Tryd.func63, Tryd.ntmps63
  go_wp2
  go_loopw [5] (fun i wr => ∃ k m : Nat, k ≤ n ∧ Hid (cmpW (dg xs) (dg ys) n = cmpW (dg xs) (dg ys) k) ∧ i = .int .i64 ((k : Int) - 1) ∧ wr = w.drewN m) (fun i _ => (intOf i + 1).toNat)
  case atStart => exact ⟨n, 0, Nat.le_refl _, rfl, rfl, by rw [World.drewN_zero]⟩
  case round =>
    obtain ⟨k, m, hk, HK, rfl, rfl⟩ := hrel
    by_cases hk0 : k = 0
    · subst hk0
      go_wp2
      go_ret
      exact ⟨ret_eq (by rw [HK.out]; rfl), m, rfl⟩
    · obtain ⟨j, rfl⟩ : ∃ j, k = j + 1 := ⟨k - 1, by omega⟩
      obtain ⟨p, o, rfl, hx⟩ : ∃ p o, a = some ⟨p, o, none⟩ ∧ w.cell? ⟨p, o + j, none⟩ = some (.int .i64 (dg xs j)) := by
        rcases HX.out with h | ⟨p, o, h1, _, h2⟩
        · rw [h] at l1; simp at l1; omega
        · exact ⟨p, o, h1, h2 j _ (dg_at (by omega))⟩
      obtain ⟨q, r, rfl, hy⟩ : ∃ q r, b = some ⟨q, r, none⟩ ∧ w.cell? ⟨q, r + j, none⟩ = some (.int .i64 (dg ys j)) := by
        rcases HY.out with h | ⟨q, r, h1, _, h2⟩
        · rw [h] at l2; simp at l2; omega
        · exact ⟨q, r, h1, h2 j _ (dg_at (by omega))⟩
      have i0 : (0 : Int) ≤ (j : Int) := by omega
      have i1 : (j : Int) < (n : Int) := by omega
      have i2 : ((j + 1 : Nat) : Int) - 1 = (j : Int) := by omega
      rw [i2]
      clear i2 hk0 HX HY
      by_cases hl : dg xs j < dg ys j
      · have HL := Lib.hid (cmpW_lt hl)
        go_wp2
        go_region
        all_goals
          go_wp2
          go_ret
          exact ⟨ret_eq (by rw [HK.out, HL.out]), m + 1, rfl⟩
      · by_cases hg : dg ys j < dg xs j
        · have HL := Lib.hid (cmpW_gt hg)
          have d1 : decide (dg xs j < dg ys j) = false := by simpa using hl
          clear hl
          go_wp2
          go_region
          all_goals
            go_wp2
            go_region
            all_goals
              go_wp2
              go_ret
              exact ⟨ret_eq (by rw [HK.out, HL.out]), m + 1 + 1, rfl⟩
        · have HL := Lib.hid (cmpW_eq (X := dg xs) (Y := dg ys) (n := j) (by omega))
          have d1 : decide (dg xs j < dg ys j) = false := by simpa using hl
          have d2 : decide (dg ys j < dg xs j) = false := by simpa using hg
          clear hl hg
          go_wp2
          go_region
          all_goals
            go_wp2
            go_region
            all_goals
              go_wp2
              go_roundw
              case rel => exact ⟨j, m + 1 + 1, by omega, by unfold Hid; rw [HK.out, HL.out], rfl, rfl⟩
              case measure => simp [intOf]

/-- of two numbers' own digits -/
theorem size_num (m n : Nat) (T C T' C' : Nat) (a b : Option Addr) (la lb c d : Nat) (w : World) (hx : DRow w T C a la c (digs m)) (hy : DRow w T' C' b lb d (digs n)) :
    Calls Tryd.prog 63 #[.slice a la c, .slice b lb d] w fun e w' => e = .returned (.int .i64 (cmpZ m n)) ∧ ∃ k, w' = w.drewN k := by
  by_cases h : la = lb
  · subst h
    refine (size_same (digs m) (digs n) T C T' C' a b la c d w hx hy).mono ?_
    rintro e w' ⟨rfl, k, rfl⟩
    refine ⟨?_, k, rfl⟩
    have h1 := hx.hlen
    have h2 := hy.hlen
    rw [cmp_take (Dg.digs m) (Dg.digs n) la (by omega) (by omega), List.take_of_length_le (by omega), List.take_of_length_le (by omega), vl_digs, vl_digs]
  · have h1 := hx.hlen
    have h2 := hy.hlen
    by_cases hl : la < lb
    · have hmn := digs_longer (m := m) (n := n) (by omega)
      have e : cmpZ (m : Int) n = -1 := by unfold cmpZ; rw [if_pos (by omega)]
      rw [e]
      have d1 : decide ((la : Int) = lb) = false := by simp; omega
      have d2 : (la : Int) < lb := by omega
      clear h1 h2 hx hy e
      go_enter Tryd.func63, Tryd.ntmps63
      go_wp2
      go_ret
      exact ⟨rfl, 0, by rw [World.drewN_zero]⟩
    · have hmn := digs_longer (m := n) (n := m) (by omega)
      have e : cmpZ (m : Int) n = 1 := by unfold cmpZ; rw [if_neg (by omega), if_pos (by omega)]
      rw [e]
      have d1 : decide ((la : Int) = lb) = false := by simp; omega
      have d2 : ¬ (la : Int) < lb := by omega
      clear h1 h2 hx hy e
      go_enter Tryd.func63, Tryd.ntmps63
      go_wp2
      go_ret
      exact ⟨rfl, 0, by rw [World.drewN_zero]⟩
end Go.Proofs.YtigcbgehnlilaaaDoor
end
section
namespace Go.Proofs.YtigcbgehnlilaaaDoor
open Go.ChangeShapes Go.WideShapes Go.ChangeAt Go.RowKit
set_option linter.unusedVariables false

theorem info_int : (Tryd.prog.info? 3).map (fun i => (i.zero, i.size, i.bytes)) = some (some (.int .i64 0), 1, 8) := by kernel_rfl

/-- the digits of a sum, and what is carried -/
def pl (xs ys : List Int) : Nat → List Int × Int
  | 0 => ([], 0)
  | i + 1 => ((pl xs ys i).1 ++ [((pl xs ys i).2 + dg xs i + dg ys i) % 65536], ((pl xs ys i).2 + dg xs i + dg ys i) / 65536)
theorem dg_range {zs : List Int} (h : Dg zs) (i : Nat) : 0 ≤ dg zs i ∧ dg zs i ≤ 65535 := by
  by_cases hi : i < zs.length
  · exact h.at (dg_at hi)
  · have e : dg zs i = 0 := by simp [dg, hi]
    rw [e]; omega
theorem dg_out {zs : List Int} {i : Nat} (h : zs.length ≤ i) : dg zs i = 0 := by
  simp [dg, h]
theorem vl_at (zs : List Int) (i : Nat) : vl (zs.drop i) = dg zs i + 65536 * vl (zs.drop (i + 1)) := by
  by_cases hi : i < zs.length
  · exact vl_drop zs i _ (dg_at hi)
  · rw [vl_drop_ge zs i (by omega), vl_drop_ge zs (i + 1) (by omega), dg_out (by omega)]; rfl
theorem pl_ok {xs ys : List Int} (hx : Dg xs) (hy : Dg ys) : ∀ i, (pl xs ys i).1.length = i ∧ Dg (pl xs ys i).1 ∧ 0 ≤ (pl xs ys i).2 ∧ (pl xs ys i).2 ≤ 1 ∧
    vl (pl xs ys i).1 + 65536 ^ i * ((pl xs ys i).2 + vl (xs.drop i) + vl (ys.drop i)) = vl xs + vl ys
  | 0 => by simp [pl, vl, Dg.nil]
  | i + 1 => by
    obtain ⟨h1, h2, h3, h4, h5⟩ := pl_ok hx hy i
    have rx := dg_range hx i
    have ry := dg_range hy i
    rw [vl_at xs i, vl_at ys i] at h5
    simp only [pl]
    generalize (pl xs ys i).1 = o at *
    generalize (pl xs ys i).2 = c at *
    generalize dg xs i = x at *
    generalize dg ys i = y at *
    generalize vl (xs.drop (i + 1)) = X at *
    generalize vl (ys.drop (i + 1)) = Y at *
    refine ⟨by simp [h1], h2.snoc (by omega) (by omega), by omega, by omega, ?_⟩
    rw [vl_snoc, h1, Int.pow_succ, Int.mul_assoc, Int.add_assoc, ← Int.mul_add, ← h5]
    congr 2
    omega
/-- behind the last round the digits are the sum's own -/
theorem pl_done {m n k : Nat} (h1 : (digs m).length ≤ k) (h2 : (digs n).length ≤ k) (h3 : (pl (digs m) (digs n) k).2 ≤ 0)
    (h4 : ∀ j, j < k → j < (digs m).length ∨ j < (digs n).length ∨ 0 < (pl (digs m) (digs n) j).2) : (pl (digs m) (digs n) k).1 = digs (m + n) := by
  obtain ⟨e1, e2, e3, e4, e5⟩ := pl_ok (Dg.digs m) (Dg.digs n) k
  rw [vl_drop_ge _ _ h1, vl_drop_ge _ _ h2, show (pl (digs m) (digs n) k).2 = 0 by omega, vl_digs, vl_digs] at e5
  have ev : vl (pl (digs m) (digs n) k).1 = (m : Int) + n := by rw [← e5]; simp
  have := digs_of e2 ?_
  · rw [this, ev]; congr 1
  · cases k with
    | zero => left; simpa using e1
    | succ j =>
      right
      rw [e1, ev]
      obtain ⟨f1, f2, f3, f4, f5⟩ := pl_ok (Dg.digs m) (Dg.digs n) j
      have hP : (0 : Int) < 65536 ^ j := Int.pow_pos (by decide)
      simp only [Nat.add_sub_cancel]
      have gx := vl_nonneg ((Dg.digs m).drop j)
      have gy := vl_nonneg ((Dg.digs n).drop j)
      rcases h4 j (by omega) with h | h | h
      · have hm : m ≠ 0 := by rintro rfl; rw [digs_zero] at h; simp at h
        have hl : j = (digs m).length - 1 ∨ j < (digs m).length - 1 := by omega
        have := digs_len hm
        have hpow : (65536 : Int) ^ j ≤ 65536 ^ ((digs m).length - 1) := by
          obtain ⟨t, ht⟩ : ∃ t, (digs m).length - 1 = j + t := ⟨(digs m).length - 1 - j, by omega⟩
          rw [ht, Int.pow_add]
          have h5 : (0 : Int) < 65536 ^ t := Int.pow_pos (by decide)
          have := Int.mul_le_mul_of_nonneg_left (show (1 : Int) ≤ 65536 ^ t by omega) (show (0 : Int) ≤ 65536 ^ j by omega)
          omega
        omega
      · have hn : n ≠ 0 := by rintro rfl; rw [digs_zero] at h; simp at h
        have := digs_len hn
        have hpow : (65536 : Int) ^ j ≤ 65536 ^ ((digs n).length - 1) := by
          obtain ⟨t, ht⟩ : ∃ t, (digs n).length - 1 = j + t := ⟨(digs n).length - 1 - j, by omega⟩
          rw [ht, Int.pow_add]
          have h5 : (0 : Int) < 65536 ^ t := Int.pow_pos (by decide)
          have := Int.mul_le_mul_of_nonneg_left (show (1 : Int) ≤ 65536 ^ t by omega) (show (0 : Int) ≤ 65536 ^ j by omega)
          omega
        omega
      · have h0 := vl_nonneg f2
        have := Int.mul_le_mul_of_nonneg_left (show (1 : Int) ≤ (pl (digs m) (digs n) j).2 + vl ((digs m).drop j) + vl ((digs n).drop j) by omega) (Int.le_of_lt hP)
        rw [vl_digs, vl_digs] at f5
        omega

-- WALK
theorem one_at (w : World) (v : Value) (T : TypeId) : ∀ (j : Nat) (u : Value), ([v] : List Value)[j]? = some u → (w.alloc (.cells #[v] T)).cell? ((⟨w.heap.size, 0, none⟩ : Addr).add j) = some u := by
  intro j u hj
  match j, hj with
  | 0, hj => simp at hj; subst hj; simp [Addr.add]
/-- what append of one digit leaves -/
theorem push_rel {B : Nat} {w wr w1 : World} {v v' : Value} {k : Nat} {o : List Int} {d : Int} {ob : Obj} {T : TypeId} (hB : Below B w wr) (hs : B ≤ wr.heap.size) (hown : wr.ownsRow B T 1 v k (o.map (Value.int .i64)))
    (hown' : w1.ownsRow B T 1 v' (k + 1) (o.map (Value.int .i64) ++ [.int .i64 d])) (hgrow : (wr.alloc ob).grownBy w1 v.ownBlock) : w1.ownsRow B T 1 v' (k + 1) ((o ++ [d]).map (Value.int .i64)) ∧ Below B w w1 :=
  ⟨by rw [List.map_append]; exact hown', (hB.alloc hs _).grown hgrow (by simp; omega) (fun k hk => (hown.lt k hk).1)⟩

set_option maxHeartbeats 8000000 in
set_option maxRecDepth 20000 in
theorem plus_walk (m n : Nat) (T C T' C' : Nat) (a b : Option Addr) (la lb ca cb : Nat) (w : World) (hla : la ≤ 100000000) (hlb : lb ≤ 100000000) (hx : DRow w T C a la ca (digs m)) (hy : DRow w T' C' b lb cb (digs n)) :
    Calls Tryd.prog 62 #[.slice a la ca, .slice b lb cb] w fun e w' => ∃ v k, e = .returned v ∧ w'.ownsRow w.heap.size 3 1 v k ((digs (m + n)).map (Value.int .i64)) ∧ Below w.heap.size w w' := by
  have hl1 := hx.hlen
  have hl2 := hy.hlen
  obtain ⟨i0, hi, hz0, hz1, hz2⟩ := info_parts info_int
  have HX := Lib.hid hx.hcells
  have HY := Lib.hid hy.hcells
  clear hx hy
  go_enter Tryd.func62, Tryd.ntmps62
  go_wp2
  go_loopg [5, 6, 7] (max la lb + 1) (fun g v c i wr => ∃ k : Nat, g + k = max la lb + 1 ∧ i = .int .i64 k ∧ c = .int .i64 (pl (digs m) (digs n) k).2 ∧ Hid (∀ j, j < k → j < (digs m).length ∨ j < (digs n).length ∨ 0 < (pl (digs m) (digs n) j).2) ∧ wr.ownsRow w.heap.size 3 1 v k ((pl (digs m) (digs n) k).1.map (Value.int .i64)) ∧ Below w.heap.size w wr)
  case atStart =>
    refine ⟨0, rfl, rfl, rfl, Lib.hid (fun j hj => by omega), World.ownsRow_nil _ _ _ _, Below.refl _ _⟩
  case round =>
    obtain ⟨k, hk, rfl, rfl, HJ, hown, hB⟩ := hrel
    obtain ⟨p1, p2, p3, p4, p5⟩ := pl_ok (Dg.digs m) (Dg.digs n) k
    have rx := dg_range (Dg.digs m) k
    have ry := dg_range (Dg.digs n) k
    have hs := hB.size
    have hkm : k ≤ 100000001 := by omega
    obtain ⟨c, hc⟩ : ∃ c, (pl (digs m) (digs n) k).2 = c := ⟨_, rfl⟩
    obtain ⟨o, ho⟩ : ∃ o, (pl (digs m) (digs n) k).1 = o := ⟨_, rfl⟩
    obtain ⟨x, hx⟩ : ∃ x, dg (digs m) k = x := ⟨_, rfl⟩
    obtain ⟨y, hy⟩ : ∃ y, dg (digs n) k = y := ⟨_, rfl⟩
    have PS : pl (digs m) (digs n) (k + 1) = (o ++ [(c + x + y) % 65536], (c + x + y) / 65536) := by
      rw [← hc, ← ho, ← hx, ← hy]; rfl
    rw [hc] at p3 p4 ⊢
    rw [ho] at hown
    rw [hx] at rx
    rw [hy] at ry
    have HK : ∀ q : k < (digs m).length ∨ k < (digs n).length ∨ 0 < c, Hid (∀ j, j < k + 1 → j < (digs m).length ∨ j < (digs n).length ∨ 0 < (pl (digs m) (digs n) j).2) := fun q => Lib.hid (fun j hj => by
      by_cases e : j = k
      · subst e; rw [hc]; exact q
      · exact HJ.out j (by omega))
    by_cases h1 : k < la
    · have q1 : (k : Int) < la := by omega
      obtain ⟨pb, po, rfl, hcx0⟩ : ∃ p o, a = some ⟨p, o, none⟩ ∧ w.cell? ⟨p, o + k, none⟩ = some (.int .i64 x) := by
        rcases HX.out with h | ⟨p, o, e1, _, e2⟩
        · rw [h] at hl1; simp at hl1; omega
        · exact ⟨p, o, e1, hx ▸ e2 k _ (dg_at (by omega))⟩
      have hcx : wr.cell? ⟨pb, po + k, none⟩ = some (.int .i64 x) := by rw [hB.cell (cell_lt hcx0)]; exact hcx0
      by_cases h2 : k < lb
      · have q2 : (k : Int) < lb := by omega
        obtain ⟨qb, qo, rfl, hcy0⟩ : ∃ p o, b = some ⟨p, o, none⟩ ∧ w.cell? ⟨p, o + k, none⟩ = some (.int .i64 y) := by
          rcases HY.out with h | ⟨p, o, e1, _, e2⟩
          · rw [h] at hl2; simp at hl2; omega
          · exact ⟨p, o, e1, hy ▸ e2 k _ (dg_at (by omega))⟩
        have hcy : wr.cell? ⟨qb, qo + k, none⟩ = some (.int .i64 y) := by rw [hB.cell (cell_lt hcy0)]; exact hcy0
        have PH := Lib.hid PS
        have HJ2 := HK (.inl (by omega))
        clear hc ho hx hy HX HY p1 p2 p5 PS HK HJ hl1 hl2 hcx0 hcy0
        go_wp2_with (at_builtin; refine wpList_append_own _ rfl _ _ 57 rfl w.heap.size 3 i0 (.int .i64 0) 1 8 Tryd.underlying57 hi hz0 hz1 hz2 rfl (by decide) _ _ _ rfl (hown.alloc _) ⟨wr.heap.size, 0, none⟩ 1 1 [.int .i64 ((c + x + y) % 65536)] (by rfl) rfl (one_at _ _ _) (by intro u hu; simp at hu; subst hu; rfl) (by unfold maxLen; omega) (by omega) (by simp; omega) ?_)
        intro v' w1 hown' hgrow _
        obtain ⟨R1, R2⟩ := push_rel hB hs hown hown' hgrow
        clear hown' hgrow hown hB
        go_wp2
        go_roundg (gk - 1)
        case measure => omega
        case rel => exact ⟨k + 1, by omega, by go_num, by rw [PH.out], HJ2, by rw [PH.out]; exact R1, R2⟩
      · have q2 : ¬ (k : Int) < lb := by omega
        obtain rfl : y = 0 := hy ▸ dg_out (by omega)
        simp only [Int.add_zero] at PS
        have PH := Lib.hid PS
        have HJ2 := HK (.inl (by omega))
        clear hc ho hx hy HX HY p1 p2 p5 PS HK HJ hl1 hl2 hcx0
        go_wp2_with (at_builtin; refine wpList_append_own _ rfl _ _ 57 rfl w.heap.size 3 i0 (.int .i64 0) 1 8 Tryd.underlying57 hi hz0 hz1 hz2 rfl (by decide) _ _ _ rfl (hown.alloc _) ⟨wr.heap.size, 0, none⟩ 1 1 [.int .i64 ((c + x) % 65536)] (by rfl) rfl (one_at _ _ _) (by intro u hu; simp at hu; subst hu; rfl) (by unfold maxLen; omega) (by omega) (by simp; omega) ?_)
        intro v' w1 hown' hgrow _
        obtain ⟨R1, R2⟩ := push_rel hB hs hown hown' hgrow
        clear hown' hgrow hown hB
        go_wp2
        go_roundg (gk - 1)
        case measure => omega
        case rel => exact ⟨k + 1, by omega, by go_num, by rw [PH.out], HJ2, by rw [PH.out]; exact R1, R2⟩
    · have q1 : ¬ (k : Int) < la := by omega
      by_cases h2 : k < lb
      · have q2 : (k : Int) < lb := by omega
        obtain ⟨qb, qo, rfl, hcy0⟩ : ∃ p o, b = some ⟨p, o, none⟩ ∧ w.cell? ⟨p, o + k, none⟩ = some (.int .i64 y) := by
          rcases HY.out with h | ⟨p, o, e1, _, e2⟩
          · rw [h] at hl2; simp at hl2; omega
          · exact ⟨p, o, e1, hy ▸ e2 k _ (dg_at (by omega))⟩
        have hcy : wr.cell? ⟨qb, qo + k, none⟩ = some (.int .i64 y) := by rw [hB.cell (cell_lt hcy0)]; exact hcy0
        obtain rfl : x = 0 := hx ▸ dg_out (by omega)
        simp only [Int.add_zero] at PS
        have PH := Lib.hid PS
        have HJ2 := HK (.inr (.inl (by omega)))
        clear hc ho hx hy HX HY p1 p2 p5 PS HK HJ hl1 hl2 hcy0
        go_wp2_with (at_builtin; refine wpList_append_own _ rfl _ _ 57 rfl w.heap.size 3 i0 (.int .i64 0) 1 8 Tryd.underlying57 hi hz0 hz1 hz2 rfl (by decide) _ _ _ rfl (hown.alloc _) ⟨wr.heap.size, 0, none⟩ 1 1 [.int .i64 ((c + y) % 65536)] (by rfl) rfl (one_at _ _ _) (by intro u hu; simp at hu; subst hu; rfl) (by unfold maxLen; omega) (by omega) (by simp; omega) ?_)
        intro v' w1 hown' hgrow _
        obtain ⟨R1, R2⟩ := push_rel hB hs hown hown' hgrow
        clear hown' hgrow hown hB
        go_wp2
        go_roundg (gk - 1)
        case measure => omega
        case rel => exact ⟨k + 1, by omega, by go_num, by rw [PH.out], HJ2, by rw [PH.out]; exact R1, R2⟩
      · have q2 : ¬ (k : Int) < lb := by omega
        by_cases h3 : 0 < c
        · have hg : 0 < gk := by
            rcases Nat.eq_zero_or_pos gk with e | e
            · obtain ⟨j, rfl⟩ : ∃ j, k = j + 1 := ⟨k - 1, by omega⟩
              obtain ⟨_, _, g3, g4, _⟩ := pl_ok (Dg.digs m) (Dg.digs n) j
              rw [← hc] at h3
              simp only [pl] at h3
              rw [dg_out (zs := digs m) (by omega), dg_out (zs := digs n) (by omega)] at h3
              omega
            · exact e
          obtain rfl : x = 0 := hx ▸ dg_out (by omega)
          obtain rfl : y = 0 := hy ▸ dg_out (by omega)
          simp only [Int.add_zero] at PS
          have PH := Lib.hid PS
          have HJ2 := HK (.inr (.inr h3))
          clear hc ho hx hy HX HY p1 p2 p5 PS HK HJ hl1 hl2
          go_wp2_with (at_builtin; refine wpList_append_own _ rfl _ _ 57 rfl w.heap.size 3 i0 (.int .i64 0) 1 8 Tryd.underlying57 hi hz0 hz1 hz2 rfl (by decide) _ _ _ rfl (hown.alloc _) ⟨wr.heap.size, 0, none⟩ 1 1 [.int .i64 ((c) % 65536)] (by rfl) rfl (one_at _ _ _) (by intro u hu; simp at hu; subst hu; rfl) (by unfold maxLen; omega) (by omega) (by simp; omega) ?_)
          intro v' w1 hown' hgrow _
          obtain ⟨R1, R2⟩ := push_rel hB hs hown hown' hgrow
          clear hown' hgrow hown hB
          go_wp2
          go_roundg (gk - 1)
          case measure => omega
          case rel => exact ⟨k + 1, by omega, by go_num, by rw [PH.out], HJ2, by rw [PH.out]; exact R1, R2⟩
        · have PD := pl_done (m := m) (n := n) (k := k) (by omega) (by omega) (by omega) HJ.out
          rw [ho] at PD
          rw [PD] at hown
          clear hc ho hx hy HX HY p1 p2 p5 PS HK HJ hl1 hl2 PD
          go_wp2
          go_ret
          exact ⟨_, rfl, ⟨k, hown⟩, hB⟩
end Go.Proofs.YtigcbgehnlilaaaDoor
end
section
namespace Go.Proofs.YtigcbgehnlilaaaDoor
open Go.ChangeShapes Go.WideShapes Go.ChangeAt Go.RowKit
set_option linter.unusedVariables false

/-- the digits of a difference, and what is borrowed -/
def mn (xs ys : List Int) : Nat → List Int × Int
  | 0 => ([], 0)
  | i + 1 => if dg xs i - (mn xs ys i).2 - dg ys i < 0 then ((mn xs ys i).1 ++ [dg xs i - (mn xs ys i).2 - dg ys i + 65536], 1) else ((mn xs ys i).1 ++ [dg xs i - (mn xs ys i).2 - dg ys i], 0)
theorem mn_ok {xs ys : List Int} (hx : Dg xs) (hy : Dg ys) : ∀ i, (mn xs ys i).1.length = i ∧ Dg (mn xs ys i).1 ∧ 0 ≤ (mn xs ys i).2 ∧ (mn xs ys i).2 ≤ 1 ∧
    vl (mn xs ys i).1 + 65536 ^ i * (vl (xs.drop i) - vl (ys.drop i) - (mn xs ys i).2) = vl xs - vl ys
  | 0 => by simp [mn, vl, Dg.nil]
  | i + 1 => by
    obtain ⟨h1, h2, h3, h4, h5⟩ := mn_ok hx hy i
    have rx := dg_range hx i
    have ry := dg_range hy i
    rw [vl_at xs i, vl_at ys i] at h5
    rw [mn]
    generalize (mn xs ys i).1 = o at *
    generalize (mn xs ys i).2 = c at *
    generalize dg xs i = x at *
    generalize dg ys i = y at *
    generalize vl (xs.drop (i + 1)) = X at *
    generalize vl (ys.drop (i + 1)) = Y at *
    split
    · refine ⟨by simp [h1], h2.snoc (by omega) (by omega), by omega, by omega, ?_⟩
      simp only []
      rw [vl_snoc, h1, Int.pow_succ, Int.mul_assoc, Int.add_assoc, ← Int.mul_add, ← h5]
      congr 2
      omega
    · refine ⟨by simp [h1], h2.snoc (by omega) (by omega), by omega, by omega, ?_⟩
      simp only []
      rw [vl_snoc, h1, Int.pow_succ, Int.mul_assoc, Int.add_assoc, ← Int.mul_add, ← h5]
      congr 2
      omega
theorem mn_done {m n k : Nat} (h : n ≤ m) (h1 : (digs m).length = k) : Dg (mn (digs m) (digs n) k).1 ∧ vl (mn (digs m) (digs n) k).1 = (m : Int) - n := by
  obtain ⟨e1, e2, e3, e4, e5⟩ := mn_ok (Dg.digs m) (Dg.digs n) k
  have hn : (digs n).length ≤ k := by
    rcases Nat.lt_or_ge k (digs n).length with h' | h'
    · have := digs_longer (m := m) (n := n) (by omega); omega
    · exact h'
  refine ⟨e2, ?_⟩
  rw [vl_drop_ge _ _ (by omega), vl_drop_ge _ _ hn, vl_digs, vl_digs] at e5
  have hv := vl_lt e2
  rw [e1] at hv
  by_cases hc : (mn (digs m) (digs n) k).2 = 0
  · rw [hc] at e5
    rw [← e5]; simp
  · have hc1 : (mn (digs m) (digs n) k).2 = 1 := by omega
    rw [hc1] at e5
    have e6 : (65536 : Int) ^ k * (0 - 0 - 1) = - 65536 ^ k := by rw [show (0 - 0 - 1 : Int) = -1 from rfl, Int.mul_neg, Int.mul_one]
    rw [e6] at e5
    omega

set_option maxHeartbeats 8000000 in
set_option maxRecDepth 20000 in
theorem minus_walk (m n : Nat) (hmn : n ≤ m) (T C T' C' : Nat) (a b : Option Addr) (la lb ca cb : Nat) (w : World) (hla : la ≤ 100000000) (hx : DRow w T C a la ca (digs m)) (hy : DRow w T' C' b lb cb (digs n)) :
    Calls Tryd.prog 64 #[.slice a la ca, .slice b lb cb] w fun e w' => ∃ v zs, e = .returned v ∧ w'.ownsRow w.heap.size 3 1 v la (zs.map (Value.int .i64)) ∧ Dg zs ∧ vl zs = (m : Int) - n ∧ Below w.heap.size w w' := by
  have hl1 := hx.hlen
  have hl2 := hy.hlen
  obtain ⟨i0, hi, hz0, hz1, hz2⟩ := info_parts info_int
  have HX := Lib.hid hx.hcells
  have HY := Lib.hid hy.hcells
  clear hx hy
  go_enter Tryd.func64, Tryd.ntmps64
  go_wp2
  go_loopg [5, 6, 7] la (fun g v c i wr => ∃ k : Nat, g + k = la ∧ i = .int .i64 k ∧ c = .int .i64 (mn (digs m) (digs n) k).2 ∧ wr.ownsRow w.heap.size 3 1 v k ((mn (digs m) (digs n) k).1.map (Value.int .i64)) ∧ Below w.heap.size w wr)
  case atStart =>
    refine ⟨0, rfl, rfl, rfl, World.ownsRow_nil _ _ _ _, Below.refl _ _⟩
  case round =>
    obtain ⟨k, hk, rfl, rfl, hown, hB⟩ := hrel
    obtain ⟨p1, p2, p3, p4, p5⟩ := mn_ok (Dg.digs m) (Dg.digs n) k
    have rx := dg_range (Dg.digs m) k
    have ry := dg_range (Dg.digs n) k
    have hs := hB.size
    have hkm : k ≤ 100000001 := by omega
    by_cases h1 : k < la
    · obtain ⟨c, hc⟩ : ∃ c, (mn (digs m) (digs n) k).2 = c := ⟨_, rfl⟩
      obtain ⟨o, ho⟩ : ∃ o, (mn (digs m) (digs n) k).1 = o := ⟨_, rfl⟩
      obtain ⟨x, hx⟩ : ∃ x, dg (digs m) k = x := ⟨_, rfl⟩
      obtain ⟨y, hy⟩ : ∃ y, dg (digs n) k = y := ⟨_, rfl⟩
      have PS : mn (digs m) (digs n) (k + 1) = if x - c - y < 0 then (o ++ [x - c - y + 65536], 1) else (o ++ [x - c - y], 0) := by
        rw [← hc, ← ho, ← hx, ← hy, mn]
      rw [hc] at p3 p4 ⊢
      rw [ho] at hown
      rw [hx] at rx
      rw [hy] at ry
      have q1 : (k : Int) < la := by omega
      obtain ⟨pb, po, rfl, hcx0⟩ : ∃ p o, a = some ⟨p, o, none⟩ ∧ w.cell? ⟨p, o + k, none⟩ = some (.int .i64 x) := by
        rcases HX.out with h | ⟨p, o, e1, _, e2⟩
        · rw [h] at hl1; simp at hl1; omega
        · exact ⟨p, o, e1, hx ▸ e2 k _ (dg_at (by omega))⟩
      have hcx : wr.cell? ⟨pb, po + k, none⟩ = some (.int .i64 x) := by rw [hB.cell (cell_lt hcx0)]; exact hcx0
      by_cases h2 : k < lb
      · have q2 : (k : Int) < lb := by omega
        obtain ⟨qb, qo, rfl, hcy0⟩ : ∃ p o, b = some ⟨p, o, none⟩ ∧ w.cell? ⟨p, o + k, none⟩ = some (.int .i64 y) := by
          rcases HY.out with h | ⟨p, o, e1, _, e2⟩
          · rw [h] at hl2; simp at hl2; omega
          · exact ⟨p, o, e1, hy ▸ e2 k _ (dg_at (by omega))⟩
        have hcy : wr.cell? ⟨qb, qo + k, none⟩ = some (.int .i64 y) := by rw [hB.cell (cell_lt hcy0)]; exact hcy0
        by_cases h3 : x - c - y < 0
        · rw [if_pos (by omega)] at PS
          have PH := Lib.hid PS
          have q4 : (x - c - y < 0) := by omega
          clear hc ho hx hy HX HY p1 p2 p5 PS hl1 hl2 hcx0 hcy0
          go_wp2_with (at_builtin; refine wpList_append_own _ rfl _ _ 57 rfl w.heap.size 3 i0 (.int .i64 0) 1 8 Tryd.underlying57 hi hz0 hz1 hz2 rfl (by decide) _ _ _ rfl (hown.alloc _) ⟨wr.heap.size, 0, none⟩ 1 1 [.int .i64 (x - c - y + 65536)] (by rfl) rfl (one_at _ _ _) (by intro u hu; simp at hu; subst hu; rfl) (by unfold maxLen; omega) (by omega) (by simp; omega) ?_)
          intro v' w1 hown' hgrow _
          obtain ⟨R1, R2⟩ := push_rel hB hs hown hown' hgrow
          clear hown' hgrow hown hB
          go_wp2
          go_roundg (gk - 1)
          case measure => omega
          case rel => exact ⟨k + 1, by omega, by go_num, by rw [PH.out], by rw [PH.out]; exact R1, R2⟩
        · rw [if_neg (by omega)] at PS
          have PH := Lib.hid PS
          have q4 : ¬ (x - c - y < 0) := by omega
          clear hc ho hx hy HX HY p1 p2 p5 PS hl1 hl2 hcx0 hcy0
          go_wp2_with (at_builtin; refine wpList_append_own _ rfl _ _ 57 rfl w.heap.size 3 i0 (.int .i64 0) 1 8 Tryd.underlying57 hi hz0 hz1 hz2 rfl (by decide) _ _ _ rfl (hown.alloc _) ⟨wr.heap.size, 0, none⟩ 1 1 [.int .i64 (x - c - y)] (by rfl) rfl (one_at _ _ _) (by intro u hu; simp at hu; subst hu; rfl) (by unfold maxLen; omega) (by omega) (by simp; omega) ?_)
          intro v' w1 hown' hgrow _
          obtain ⟨R1, R2⟩ := push_rel hB hs hown hown' hgrow
          clear hown' hgrow hown hB
          go_wp2
          go_roundg (gk - 1)
          case measure => omega
          case rel => exact ⟨k + 1, by omega, by go_num, by rw [PH.out], by rw [PH.out]; exact R1, R2⟩
      · have q2 : ¬ (k : Int) < lb := by omega
        by_cases h3 : x - c < 0
        · obtain rfl : y = 0 := hy ▸ dg_out (by omega)
          simp only [Int.sub_zero] at PS
          rw [if_pos (by omega)] at PS
          have PH := Lib.hid PS
          have q4 : (x - c < 0) := by omega
          clear hc ho hx hy HX HY p1 p2 p5 PS hl1 hl2 hcx0
          go_wp2_with (at_builtin; refine wpList_append_own _ rfl _ _ 57 rfl w.heap.size 3 i0 (.int .i64 0) 1 8 Tryd.underlying57 hi hz0 hz1 hz2 rfl (by decide) _ _ _ rfl (hown.alloc _) ⟨wr.heap.size, 0, none⟩ 1 1 [.int .i64 (x - c + 65536)] (by rfl) rfl (one_at _ _ _) (by intro u hu; simp at hu; subst hu; rfl) (by unfold maxLen; omega) (by omega) (by simp; omega) ?_)
          intro v' w1 hown' hgrow _
          obtain ⟨R1, R2⟩ := push_rel hB hs hown hown' hgrow
          clear hown' hgrow hown hB
          go_wp2
          go_roundg (gk - 1)
          case measure => omega
          case rel => exact ⟨k + 1, by omega, by go_num, by rw [PH.out], by rw [PH.out]; exact R1, R2⟩
        · obtain rfl : y = 0 := hy ▸ dg_out (by omega)
          simp only [Int.sub_zero] at PS
          rw [if_neg (by omega)] at PS
          have PH := Lib.hid PS
          have q4 : ¬ (x - c < 0) := by omega
          clear hc ho hx hy HX HY p1 p2 p5 PS hl1 hl2 hcx0
          go_wp2_with (at_builtin; refine wpList_append_own _ rfl _ _ 57 rfl w.heap.size 3 i0 (.int .i64 0) 1 8 Tryd.underlying57 hi hz0 hz1 hz2 rfl (by decide) _ _ _ rfl (hown.alloc _) ⟨wr.heap.size, 0, none⟩ 1 1 [.int .i64 (x - c)] (by rfl) rfl (one_at _ _ _) (by intro u hu; simp at hu; subst hu; rfl) (by unfold maxLen; omega) (by omega) (by simp; omega) ?_)
          intro v' w1 hown' hgrow _
          obtain ⟨R1, R2⟩ := push_rel hB hs hown hown' hgrow
          clear hown' hgrow hown hB
          go_wp2
          go_roundg (gk - 1)
          case measure => omega
          case rel => exact ⟨k + 1, by omega, by go_num, by rw [PH.out], by rw [PH.out]; exact R1, R2⟩
    · obtain rfl : k = la := by omega
      obtain ⟨g1, g2⟩ := mn_done (m := m) (n := n) (k := k) hmn hl1
      have q1 : ¬ (k : Int) < k := by omega
      generalize (mn (digs m) (digs n) k).1 = o at *
      generalize (mn (digs m) (digs n) k).2 = c at *
      have G2 := Lib.hid g2
      clear HX HY p1 p2 p5 hl1 hl2 g2
      go_wp2
      go_ret
      exact ⟨_, rfl, o, hown, g1, G2.out, hB⟩
end Go.Proofs.YtigcbgehnlilaaaDoor
end
section
namespace Go.Proofs.YtigcbgehnlilaaaDoor
open Go.ChangeShapes Go.WideShapes Go.ChangeAt Go.RowKit
set_option linter.unusedVariables false

/-- a slice that a call has appended to -/
theorem own_row {w : World} {B T n : Nat} {v : Value} {zs : List Int} (h : w.ownsRow B 3 1 v n (zs.map (Value.int .i64))) : ∃ a cap, v = .slice a n cap ∧ DRow w T B a n cap zs := by
  obtain ⟨h1, h2⟩ := h
  have hl : zs.length = n := by simpa using h1
  rcases h2 with ⟨rfl, rfl⟩ | ⟨g, cap, cur, rfl, hg, hh, hn, hc, hs, ht⟩
  · exact ⟨none, 0, rfl, hl, Nat.le_refl _, by unfold maxLen; omega, .inl (List.length_eq_zero_iff.1 hl)⟩
  · refine ⟨_, cap, rfl, hl, hn, hc, .inr ⟨g, 0, rfl, .inr hg, fun i z hz => ?_⟩⟩
    have ho : Own w g 3 cur := hh
    obtain ⟨e1, _, _⟩ := ho.at_
    have hi : i < n := by
      have := (List.getElem?_eq_some_iff.1 hz).1
      omega
    rw [Nat.zero_add, e1, ← Array.getElem?_toList]
    have e2 : (cur.toList.take (n * 1))[i]? = some (.int .i64 z) := by rw [ht]; simp [hz]
    rw [List.getElem?_take] at e2
    rw [if_pos (by omega)] at e2
    exact e2
theorem plus_num (m n : Nat) (T T' C T2 C2 : Nat) (a b : Option Addr) (la lb ca cb : Nat) (w : World) (hla : la ≤ 100000000) (hlb : lb ≤ 100000000) (hx : DRow w T C a la ca (digs m)) (hy : DRow w T2 C2 b lb cb (digs n)) :
    Calls Tryd.prog 62 #[.slice a la ca, .slice b lb cb] w fun e w' => ∃ a' l' c', e = .returned (.slice a' l' c') ∧ DRow w' T' w.heap.size a' l' c' (digs (m + n)) ∧ Below w.heap.size w w' := by
  refine (plus_walk m n T C T2 C2 a b la lb ca cb w hla hlb hx hy).mono ?_
  rintro e w' ⟨v, k, rfl, ho, hb⟩
  obtain ⟨a', c', rfl, hd⟩ := own_row (T := T') ho
  exact ⟨a', k, c', rfl, hd, hb⟩
theorem minus_num (m n : Nat) (hmn : n ≤ m) (T T' C T2 C2 : Nat) (a b : Option Addr) (la lb ca cb : Nat) (w : World) (hla : la ≤ 100000000) (hx : DRow w T C a la ca (digs m)) (hy : DRow w T2 C2 b lb cb (digs n)) :
    Calls Tryd.prog 64 #[.slice a la ca, .slice b lb cb] w fun e w' => ∃ a' l' c' zs, e = .returned (.slice a' l' c') ∧ DRow w' T' w.heap.size a' l' c' zs ∧ Dg zs ∧ vl zs = (m : Int) - n ∧ Below w.heap.size w w' := by
  refine (minus_walk m n hmn T C T2 C2 a b la lb ca cb w hla hx hy).mono ?_
  rintro e w' ⟨v, zs, rfl, ho, hd, hv, hb⟩
  obtain ⟨a', c', rfl, hr⟩ := own_row (T := T') ho
  exact ⟨a', la, c', zs, rfl, hr, hd, hv, hb⟩
end Go.Proofs.YtigcbgehnlilaaaDoor
end
section
namespace Go.Proofs.YtigcbgehnlilaaaDoor
open Go.ChangeShapes Go.WideShapes Go.ChangeAt Go.RowKit
set_option linter.unusedVariables false

end Go.Proofs.YtigcbgehnlilaaaDoor
end
section
namespace Go.Proofs.YtigcbgehnlilaaaDoor
open Go.ChangeShapes Go.WideShapes Go.ChangeAt Go.RowKit
set_option linter.unusedVariables false

/-- the array of words behind k rounds -/
def fw (z : Int) (k : Nat) : Array Value := #[.int .u64 (L0 z / 65536 ^ min k 4), .int .u64 (L1 z / 65536 ^ min (k - 4) 4), .int .u64 (L2 z / 65536 ^ min (k - 8) 4), .int .u64 (L3 z / 65536 ^ min (k - 12) 4)]
/-- the word that round k looks at -/
def fc (z : Int) (k : Nat) : Int := (if k < 4 then L0 z else if k < 8 then L1 z else if k < 12 then L2 z else L3 z) / 65536 ^ (k % 4)
theorem upto16 {k : Nat} (h : k < 16) : k = 0 ∨ k = 1 ∨ k = 2 ∨ k = 3 ∨ k = 4 ∨ k = 5 ∨ k = 6 ∨ k = 7 ∨ k = 8 ∨ k = 9 ∨ k = 10 ∨ k = 11 ∨ k = 12 ∨ k = 13 ∨ k = 14 ∨ k = 15 := by omega
theorem fw_zero (z : Int) : fw z 0 = #[.int .u64 (L0 z), .int .u64 (L1 z), .int .u64 (L2 z), .int .u64 (L3 z)] := by simp [fw]
theorem fw_get (z : Int) {k : Nat} (h : k < 16) : (fw z k)[k / 4]? = some (.int .u64 (fc z k)) := by
  rcases upto16 h with rfl | rfl | rfl | rfl | rfl | rfl | rfl | rfl | rfl | rfl | rfl | rfl | rfl | rfl | rfl | rfl <;> rfl
theorem fw_set (z : Int) {k : Nat} (h : k < 16) : (fw z k).setIfInBounds (k / 4) (.int .u64 (fc z k / 65536)) = fw z (k + 1) := by
  rcases upto16 h with rfl | rfl | rfl | rfl | rfl | rfl | rfl | rfl | rfl | rfl | rfl | rfl | rfl | rfl | rfl | rfl <;> (simp [fw, fc, L0, L1, L2, L3]; try omega)
theorem fc_range (z : Int) {k : Nat} (h : k < 16) : 0 ≤ fc z k ∧ fc z k ≤ 18446744073709551615 := by
  rcases upto16 h with rfl | rfl | rfl | rfl | rfl | rfl | rfl | rfl | rfl | rfl | rfl | rfl | rfl | rfl | rfl | rfl <;> (simp [fc, L0, L1, L2, L3]; omega)
theorem fc_mod (z : Int) {k : Nat} (h : k < 16) : fc z k % 65536 = frd (z % 115792089237316195423570985008687907853269984665640564039457584007913129639936) k := by
  rcases upto16 h with rfl | rfl | rfl | rfl | rfl | rfl | rfl | rfl | rfl | rfl | rfl | rfl | rfl | rfl | rfl | rfl <;> (simp [fc, frd, L0, L1, L2, L3]; try omega)

/-- what an append of another row leaves as it is -/
theorem grow_own {W w1 : World} {B k p : Nat} {v : Value} {T T' : TypeId} {xs : List Value} {cs : Array Value} {ob : Obj} (ho : Own W p T cs) (hg : (W.alloc ob).grownBy w1 v.ownBlock) (hr : W.ownsRow B T' 1 v k xs) (hp : p < B) : Own w1 p T cs :=
  (hg.block p (by have := ho.in_; simp; omega) (fun e => by have := (hr.lt p e.symm).1; omega)).trans (ho.more ob)
theorem row_snoc {w : World} {B : Nat} {T : TypeId} {v : Value} {k : Nat} {o : List Int} {d : Int} (h : w.ownsRow B T 1 v (k + 1) (o.map (Value.int .i64) ++ [.int .i64 d])) : w.ownsRow B T 1 v (k + 1) ((o ++ [d]).map (Value.int .i64)) := by
  rw [List.map_append]; exact h

theorem row_shape {w : World} {B : Nat} {T : TypeId} {v : Value} {k : Nat} {xs : List Value} (h : w.ownsRow B T 1 v (k + 1) xs) : ∃ g cap, v = .slice (some ⟨g, 0, none⟩) (k + 1) cap := by
  rcases h.2 with ⟨_, h⟩ | ⟨g, cap, _, h, _⟩
  · omega
  · exact ⟨g, cap, h⟩

-- WALK
set_option maxHeartbeats 8000000 in
set_option maxRecDepth 20000 in
theorem from_num (T : Nat) (z : Int) (hz : Fit z) (w : World) (hT : T ≤ w.heap.size) :
    Calls Tryd.prog 60 #[.agg #[.int .u64 (L0 z), .int .u64 (L1 z), .int .u64 (L2 z), .int .u64 (L3 z)]] w fun e w' => ∃ v, e = .returned v ∧ Num w' T w.heap.size v z ∧ Below w.heap.size w w' := by
  have TR1 : ∀ (w' : World) (v : Value), w.heap.size ≤ w'.heap.size → w'.ownsRow (w.heap.size + 3) 3 1 v 16 ((fr (z % 115792089237316195423570985008687907853269984665640564039457584007913129639936) (ngB z) 16).1.map (Value.int .i64)) → Calls Tryd.prog 61 #[.agg #[.bool (ngB z), v]] w' fun e w'' => ∃ v, e = .returned v ∧ (∃ n a len cap, v = .agg #[.bool n, .slice a len cap]) ∧ Num w'' T (w.heap.size + 3) v z ∧ Below w'.heap.size w' w'' := fun w' v hs ho => by
    obtain ⟨a, c, rfl, hr⟩ := own_row (T := T) ho
    obtain ⟨hl, hh⟩ := hz
    obtain ⟨_, hd, _⟩ := fr_ok (z % 115792089237316195423570985008687907853269984665640564039457584007913129639936) (ngB z) 16
    have hf := fr_16 z hl hh
    rw [← ngB_fit ⟨hl, hh⟩] at hf
    refine (trim_num T (w.heap.size + 3) (ngB z) a 16 c _ z.natAbs w' hr hd hf).mono ?_
    rintro e w'' ⟨v, he, hn, hb'⟩
    have e1 : (if ngB z = true then -(z.natAbs : Int) else z.natAbs) = z := by
      rw [ngB_fit ⟨hl, hh⟩]
      by_cases h : z < 0
      · simp [h]; omega
      · simp [h]; omega
    rw [e1] at hn
    exact ⟨v, he, hn.shape, hn, hb'⟩
  have TR := Lib.hid TR1
  clear TR1 hz
  have W4z := W4.of z
  obtain ⟨_, _, _, _, _, _, _, _⟩ := W4z
  obtain ⟨s, hs⟩ : ∃ s, ngB z = s := ⟨_, rfl⟩
  rw [hs] at TR
  have hs1 : decide (9223372036854775808 ≤ L3 z) = s := hs
  have hs2 : decide (L3 z ≥ 9223372036854775808) = s := hs
  clear hs
  obtain ⟨u, hu⟩ : ∃ u, z % 115792089237316195423570985008687907853269984665640564039457584007913129639936 = u := ⟨_, rfl⟩
  rw [hu] at TR
  have FM : ∀ k, k < 16 → fc z k % 65536 = frd u k := fun k h => hu ▸ fc_mod z h
  have HFM := Lib.hid FM
  clear hu FM
  obtain ⟨i0, hi, hz0, hz1, hz2⟩ := info_parts info_int
  go_enter Tryd.func60, Tryd.ntmps60
  go_upto_region 2 with fail
  go_name_world W0 hW0
  have OA : Own W0 w.heap.size 23 (fw z 0) := hW0 ▸ (by rw [fw_zero]; repeat' (first | (with_reducible assumption) | (with_reducible refine Own.drawnN ?_ _) | (with_reducible refine Own.drawn ?_) | (with_reducible refine Own.made_at ?_; first | rfl | (simp; done) | omega | (simp; omega)) | (with_reducible refine Own.more ?_ _) | (with_reducible refine Own.apart ?_ ?_ _ _; rotate_left; first | omega | (simp; done) | (simp; omega)) | (refine Own.put ?_ _ _)))
  have OB : Own W0 (w.heap.size + 2) 59 #[.bool s, .slice none 0 0] := hW0 ▸ (by
    refine Own.as (cs := #[.bool s, .slice none 0 0]) ?_ rfl
    repeat' (first | (with_reducible assumption) | (with_reducible refine Own.drawnN ?_ _) | (with_reducible refine Own.drawn ?_) | (with_reducible refine Own.made_at ?_; first | rfl | (simp; done) | omega | (simp; omega)) | (with_reducible refine Own.more ?_ _) | (with_reducible refine Own.apart ?_ ?_ _ _; rotate_left; first | omega | (simp; done) | (simp; omega)) | (refine Own.put ?_ _ _)))
  have OR : Own W0 (w.heap.size + 1) 59 #[.bool false, .slice none 0 0] := hW0 ▸ (by repeat' (first | (with_reducible assumption) | (with_reducible refine Own.drawnN ?_ _) | (with_reducible refine Own.drawn ?_) | (with_reducible refine Own.made_at ?_; first | rfl | (simp; done) | omega | (simp; omega)) | (with_reducible refine Own.more ?_ _) | (with_reducible refine Own.apart ?_ ?_ _ _; rotate_left; first | omega | (simp; done) | (simp; omega)) | (refine Own.put ?_ _ _)))
  have hB0 : Below w.heap.size w W0 := hW0 ▸ (by repeat' (first | (with_reducible exact Below.refl _ _) | (with_reducible assumption) | (with_reducible refine below_drewN ?_ _) | (with_reducible refine Below.drew ?_) | (with_reducible refine Below.alloc ?_ ?_ _) | (with_reducible refine Below.setCell ?_ ?_ _) | (with_reducible refine then_ ?_ (by with_reducible assumption) ?_) | (with_reducible exact Nat.le_refl _) | (with_reducible exact Nat.le_succ _) | (with_reducible exact Nat.le_succ_of_le (by with_reducible assumption)) | omega | (simp; done) | (simp; omega) | (exact Nat.le_succ _) | (exact Nat.le_succ_of_le (by with_reducible assumption))))
  clear hW0 hs1 hs2
  go_wp2
  go_loopg [4, 5] 16 (fun g c i wr => ∃ (k : Nat) (v : Value), g + k = 16 ∧ i = .int .i64 k ∧ c = .int .i64 (fr u s k).2 ∧ Own wr w.heap.size 23 (fw z k) ∧ Own wr (w.heap.size + 2) 59 #[.bool s, v] ∧ Own wr (w.heap.size + 1) 59 #[.bool false, .slice none 0 0] ∧ wr.ownsRow (w.heap.size + 3) 3 1 v k ((fr u s k).1.map (Value.int .i64)) ∧ Below w.heap.size w wr)
  case atStart =>
    exact ⟨0, _, rfl, rfl, rfl, OA, OB, OR, World.ownsRow_nil _ _ _ _, hB0⟩
  case round =>
    clear OA OB OR hB0
    obtain ⟨k, v, hk, rfl, rfl, OA, OB, OR, hown, hB⟩ := hrel
    by_cases h16 : k < 16
    · obtain ⟨r1, r2⟩ := fc_range z h16
      have hm := HFM.out k h16
      have GET := fw_get z h16
      have SET := fw_set z h16
      obtain ⟨_, _, c1, c2, _⟩ := fr_ok u s k
      have FS : fr u s (k + 1) = _ := fr.eq_2 u s k
      obtain ⟨q, hq⟩ : ∃ q : Nat, k / 4 = q := ⟨_, rfl⟩
      obtain ⟨x, hx⟩ : ∃ x, fc z k = x := ⟨_, rfl⟩
      obtain ⟨D, hD⟩ : ∃ D, frd u k = D := ⟨_, rfl⟩
      obtain ⟨c, hc⟩ : ∃ c, (fr u s k).2 = c := ⟨_, rfl⟩
      obtain ⟨o, ho⟩ : ∃ o, (fr u s k).1 = o := ⟨_, rfl⟩
      rw [hD, hc, ho] at FS
      rw [hx] at r1 r2 hm GET SET
      rw [hD] at hm
      rw [hq] at GET SET
      rw [hc] at c1 c2 ⊢
      rw [ho] at hown
      have hq2 : (k : Int) / 4 = (q : Int) := by omega
      have hq4 : q < 4 := by omega
      have FSH := Lib.hid FS
      have SETH := Lib.hid SET
      obtain ⟨P1, P2, P3⟩ := OA.at_
      obtain ⟨Q1, Q2, Q3⟩ := OB.at_
      have P4 : wr.cell? ⟨w.heap.size, q, none⟩ = some (.int .u64 x) := (P1 q).trans GET
      have e2 : ¬ w.heap.size = w.heap.size + 2 := by omega
      have e3 : ¬ w.heap.size + 2 = w.heap.size := by omega
      have hD0 : 0 ≤ D ∧ D ≤ 65535 := hD ▸ frd_range u k
      obtain ⟨d1, d2⟩ := hD0
      clear FS SET GET hx hD hc ho P1 HFM TR hq
      cases s with
      | false =>
        go_upto_region 12 with fail
        go_name_world W1 hW1
        have OA1 : Own W1 w.heap.size 23 (fw z (k + 1)) := hW1 ▸ ((OA.put q _).as SETH.out)
        have OB1 : Own W1 (w.heap.size + 2) 59 #[.bool false, v] := hW1 ▸ (OB.apart (by omega) _ _)
        have OR1 : Own W1 (w.heap.size + 1) 59 #[.bool false, .slice none 0 0] := hW1 ▸ (OR.apart (by omega) _ _)
        have hown1 : W1.ownsRow (w.heap.size + 3) 3 1 v k (o.map (Value.int .i64)) := hW1 ▸ (ownsRow_setCell_below hown (by show w.heap.size < _; omega) _)
        have hB1 : Below w.heap.size w W1 := hW1 ▸ (hB.setCell (Nat.le_refl _) _)
        have hs1 := OB1.in_
        clear hW1 OA OB OR hown hB P2 P3 P4 Q1 Q2 Q3 SETH
        obtain ⟨Q1, Q2, Q3⟩ := OB1.at_
        go_wp2_with (at_builtin; refine wpList_append_own _ rfl _ _ 57 rfl (w.heap.size + 3) 3 i0 (.int .i64 0) 1 8 Tryd.underlying57 hi hz0 hz1 hz2 rfl (by decide) _ _ _ rfl (hown1.alloc _) ⟨W1.heap.size, 0, none⟩ 1 1 [.int .i64 (D)] (by rfl) rfl (one_at _ _ _) (by intro u hu; simp at hu; subst hu; rfl) (by unfold maxLen; omega) (by omega) (by simp; omega) ?_)
        intro v' w1 hown' hgrow _
        obtain ⟨vg, vc, rfl⟩ := row_shape hown'
        have OA2 := grow_own OA1 hgrow hown1 (by omega)
        have OB2 := grow_own OB1 hgrow hown1 (by omega)
        have OR2 := grow_own OR1 hgrow hown1 (by omega)
        have hB2 : Below w.heap.size w w1 := (hB1.alloc hB1.size _).grown hgrow (by simp; omega) (fun k hk => by have := (hown1.lt k hk).1; omega)
        have hown2 := row_snoc hown'
        clear hown' hgrow hown1 hB1 OA1 OB1 OR1 Q1 Q2 Q3
        obtain ⟨Q1, Q2, Q3⟩ := OB2.at_
        go_wp2
        go_roundg (gk - 1)
        case measure => omega
        case rel =>
          exact ⟨k + 1, _, by omega, by go_num, by rw [FSH.out]; rfl, OA2.apart (by omega) _ _, (OB2.put 1 _).as rfl, OR2.apart (by omega) _ _, by rw [FSH.out]; exact ownsRow_setCell_below hown2 (by show w.heap.size + 2 < _; omega) _, hB2.setCell (by show w.heap.size ≤ w.heap.size + 2; omega) _⟩
      | true =>
        go_upto_region 12 with fail
        go_name_world W1 hW1
        have OA1 : Own W1 w.heap.size 23 (fw z (k + 1)) := hW1 ▸ ((OA.put q _).as SETH.out)
        have OB1 : Own W1 (w.heap.size + 2) 59 #[.bool true, v] := hW1 ▸ (OB.apart (by omega) _ _)
        have OR1 : Own W1 (w.heap.size + 1) 59 #[.bool false, .slice none 0 0] := hW1 ▸ (OR.apart (by omega) _ _)
        have hown1 : W1.ownsRow (w.heap.size + 3) 3 1 v k (o.map (Value.int .i64)) := hW1 ▸ (ownsRow_setCell_below hown (by show w.heap.size < _; omega) _)
        have hB1 : Below w.heap.size w W1 := hW1 ▸ (hB.setCell (Nat.le_refl _) _)
        have hs1 := OB1.in_
        clear hW1 OA OB OR hown hB P2 P3 P4 Q1 Q2 Q3 SETH
        obtain ⟨Q1, Q2, Q3⟩ := OB1.at_
        go_wp2_with (at_builtin; refine wpList_append_own _ rfl _ _ 57 rfl (w.heap.size + 3) 3 i0 (.int .i64 0) 1 8 Tryd.underlying57 hi hz0 hz1 hz2 rfl (by decide) _ _ _ rfl (hown1.alloc _) ⟨W1.heap.size, 0, none⟩ 1 1 [.int .i64 ((65535 - D + c) % 65536)] (by rfl) rfl (one_at _ _ _) (by intro u hu; simp at hu; subst hu; rfl) (by unfold maxLen; omega) (by omega) (by simp; omega) ?_)
        intro v' w1 hown' hgrow _
        obtain ⟨vg, vc, rfl⟩ := row_shape hown'
        have OA2 := grow_own OA1 hgrow hown1 (by omega)
        have OB2 := grow_own OB1 hgrow hown1 (by omega)
        have OR2 := grow_own OR1 hgrow hown1 (by omega)
        have hB2 : Below w.heap.size w w1 := (hB1.alloc hB1.size _).grown hgrow (by simp; omega) (fun k hk => by have := (hown1.lt k hk).1; omega)
        have hown2 := row_snoc hown'
        clear hown' hgrow hown1 hB1 OA1 OB1 OR1 Q1 Q2 Q3
        obtain ⟨Q1, Q2, Q3⟩ := OB2.at_
        go_wp2
        go_roundg (gk - 1)
        case measure => omega
        case rel =>
          exact ⟨k + 1, _, by omega, by go_num, by rw [FSH.out]; rfl, OA2.apart (by omega) _ _, (OB2.put 1 _).as rfl, OR2.apart (by omega) _ _, by rw [FSH.out]; exact ownsRow_setCell_below hown2 (by show w.heap.size + 2 < _; omega) _, hB2.setCell (by show w.heap.size ≤ w.heap.size + 2; omega) _⟩
    · obtain rfl : k = 16 := by omega
      have hs1 := OB.in_
      have HN := TR.out wr v (by omega) hown
      obtain ⟨Q1, Q2, Q3⟩ := OB.at_
      obtain ⟨R1, R2, R3⟩ := OR.at_
      have HNH := Lib.hid HN
      clear HN TR hown HFM OA
      obtain ⟨c, hc⟩ : ∃ c, (fr u s 16).2 = c := ⟨_, rfl⟩
      rw [hc]
      clear hc
      go_wp2_with fail
      go_at_call 61
      refine HNH.out.mono ?_
      rintro e w1 ⟨v', rfl, ⟨n', a', l', c', rfl⟩, hn, hb⟩
      have O2 := OR.keep hb
      obtain ⟨Q1, Q2, Q3⟩ := O2.at_
      have hB2 : Below w.heap.size w w1 := then_ hB hb hB.size
      clear hb O2 OR OB hB R1 R2 R3 HNH
      have HN := Lib.hid hn
      clear hn
      go_wp2
      refine bodyPost_ret (v := .agg #[.bool n', .slice a' l' c']) (by simp [results, Tryd.results60, go_sem, Q1]) rfl ⟨_, rfl, ?_, ?_⟩
      · exact ((HN.out.put (by omega) (by omega) _).put (by omega) (by omega) _).mono (Nat.le_refl _) (by omega)
      · repeat' (first | (with_reducible exact Below.refl _ _) | (with_reducible assumption) | (with_reducible refine below_drewN ?_ _) | (with_reducible refine Below.drew ?_) | (with_reducible refine Below.alloc ?_ ?_ _) | (with_reducible refine Below.setCell ?_ ?_ _) | (with_reducible refine then_ ?_ (by with_reducible assumption) ?_) | (with_reducible exact Nat.le_refl _) | (with_reducible exact Nat.le_succ _) | (with_reducible exact Nat.le_succ_of_le (by with_reducible assumption)) | omega | (simp; done) | (simp; omega) | (exact Nat.le_succ _) | (exact Nat.le_succ_of_le (by with_reducible assumption)))
end Go.Proofs.YtigcbgehnlilaaaDoor
end
