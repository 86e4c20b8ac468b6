/- merged: Numbers by digits of base 65536, the lowest first: what lists of digits stand for. It speaks of no function. The digits of a number out of its words in two's complement: what From reckons. It speaks of no function. The contract of croftref03.trim: the digits without noughts on top; nought isn't below 0. -/
import Derived.Lib.ItoaNum
import Derived.Test.YtoondjildbanhaaDoorWideU
import Derived.Deep.LoopGhost
section
namespace Go.Proofs.YtoondjildbanhaaDoor

/-- the digits of a number, none above the highest that isn't 0 -/
def digs (n : Nat) : List Int := if h : n = 0 then [] else (n % 65536 : Int) :: digs (n / 65536)
termination_by n
decreasing_by omega
/-- what a list of digits stands for -/
def vl : List Int → Int
  | [] => 0
  | d :: r => d + 65536 * vl r
def Dg (zs : List Int) : Prop := ∀ d ∈ zs, 0 ≤ d ∧ d ≤ 65535
/-- without noughts on top -/
def tr : List Int → List Int
  | [] => []
  | d :: r => match tr r with
    | [] => if d = 0 then [] else [d]
    | e :: s => d :: e :: s

theorem digs_zero : digs 0 = [] := by rw [digs]; simp
theorem digs_pos {n : Nat} (h : n ≠ 0) : digs n = (n % 65536 : Int) :: digs (n / 65536) := by rw [digs, dif_neg h]
theorem digs_nil {n : Nat} (h : digs n = []) : n = 0 := by
  by_cases e : n = 0
  · exact e
  · rw [digs_pos e] at h; cases h
theorem Dg.nil : Dg [] := fun d h => by cases h
theorem Dg.cons {d : Int} {r : List Int} (h0 : 0 ≤ d) (h1 : d ≤ 65535) (h : Dg r) : Dg (d :: r) := fun e he => by
  rcases List.mem_cons.1 he with rfl | he
  · exact ⟨h0, h1⟩
  · exact h e he
theorem Dg.head {d : Int} {r : List Int} (h : Dg (d :: r)) : 0 ≤ d ∧ d ≤ 65535 := h d (by simp)
theorem Dg.tail {d : Int} {r : List Int} (h : Dg (d :: r)) : Dg r := fun e he => h e (by simp [he])
theorem Dg.append {a b : List Int} (h : Dg a) (k : Dg b) : Dg (a ++ b) := fun e he => by
  rcases List.mem_append.1 he with he | he
  · exact h e he
  · exact k e he
theorem Dg.snoc {a : List Int} {d : Int} (h : Dg a) (h0 : 0 ≤ d) (h1 : d ≤ 65535) : Dg (a ++ [d]) := h.append (Dg.nil.cons h0 h1)
theorem Dg.left {a b : List Int} (h : Dg (a ++ b)) : Dg a := fun e he => h e (by simp [he])
theorem Dg.right {a b : List Int} (h : Dg (a ++ b)) : Dg b := fun e he => h e (by simp [he])
theorem Dg.at {zs : List Int} (h : Dg zs) {i : Nat} {d : Int} (e : zs[i]? = some d) : 0 ≤ d ∧ d ≤ 65535 := h d (List.mem_of_getElem? e)
theorem Dg.digs (n : Nat) : Dg (digs n) := by
  induction n using Nat.strongRecOn with
  | ind n ih =>
    by_cases e : n = 0
    · rw [e, digs_zero]; exact Dg.nil
    · rw [digs_pos e]
      exact (ih (n / 65536) (by omega)).cons (by omega) (by omega)
theorem vl_digs (n : Nat) : vl (digs n) = n := by
  induction n using Nat.strongRecOn with
  | ind n ih =>
    by_cases e : n = 0
    · rw [e, digs_zero]; rfl
    · rw [digs_pos e, vl, ih (n / 65536) (by omega)]
      omega
theorem vl_nonneg : ∀ {zs : List Int}, Dg zs → 0 ≤ vl zs
  | [], _ => by simp [vl]
  | d :: r, h => by
    have := vl_nonneg h.tail
    have := h.head
    rw [vl]; omega
theorem vl_append : ∀ (a b : List Int), vl (a ++ b) = vl a + 65536 ^ a.length * vl b
  | [], b => by simp [vl]
  | d :: r, b => by
    rw [List.cons_append, vl, vl_append r b, vl, List.length_cons, Int.pow_succ, Int.mul_add, Int.add_assoc, ← Int.mul_assoc, Int.mul_comm (65536 ^ r.length) 65536]
theorem vl_snoc (a : List Int) (d : Int) : vl (a ++ [d]) = vl a + 65536 ^ a.length * d := by
  rw [vl_append]; simp [vl]
theorem vl_lt : ∀ {zs : List Int}, Dg zs → vl zs < 65536 ^ zs.length
  | [], _ => by simp [vl]
  | d :: r, h => by
    have := vl_lt h.tail
    have := h.head
    rw [vl, List.length_cons, Int.pow_succ]; omega
theorem tr_zero : ∀ a : List Int, tr (a ++ [0]) = tr a
  | [] => rfl
  | d :: r => by rw [List.cons_append, tr, tr_zero r, tr]
theorem tr_last : ∀ (a : List Int) {d : Int}, d ≠ 0 → tr (a ++ [d]) = a ++ [d]
  | [], d, h => by simp [tr, h]
  | e :: r, d, h => by
    rw [List.cons_append, tr, tr_last r h]
    cases hr : r ++ [d] with
    | nil => simp at hr
    | cons x s => rfl
theorem tr_digs : ∀ {zs : List Int}, Dg zs → tr zs = digs (vl zs).toNat
  | [], _ => by simp [tr, vl, digs_zero]
  | d :: r, h => by
    have ih := tr_digs h.tail
    have h0 := vl_nonneg h.tail
    obtain ⟨h1, h2⟩ := h.head
    by_cases e : (vl (d :: r)).toNat = 0
    · have e1 : vl r = 0 := by rw [vl] at e; omega
      have e2 : d = 0 := by rw [vl] at e; omega
      rw [e, digs_zero, tr, ih, e1]
      simp [digs_zero, e2]
    · have e1 : (vl (d :: r)).toNat / 65536 = (vl r).toNat := by rw [vl]; omega
      have e2 : (((vl (d :: r)).toNat % 65536 : Nat) : Int) = d := by rw [vl]; omega
      rw [digs_pos e, e1, tr, ih]
      have e3 : ((vl (d :: r)).toNat : Int) % 65536 = d := by rw [vl]; omega
      rw [e3]
      cases hr : digs (vl r).toNat with
      | nil =>
        have : vl r = 0 := by have := digs_nil hr; omega
        have : d ≠ 0 := by rw [vl] at e; omega
        simp [this]
      | cons x s => rfl
/-- a list with the right length is the number's own -/
theorem digs_of {zs : List Int} (h : Dg zs) (k : zs = [] ∨ 65536 ^ (zs.length - 1) ≤ vl zs) : zs = digs (vl zs).toNat := by
  rcases List.eq_nil_or_concat zs with rfl | ⟨a, d, rfl⟩
  · simp [vl, digs_zero]
  · rw [List.concat_eq_append] at *
    have hd : d ≠ 0 := by
      rintro rfl
      rcases k with k | k
      · simp at k
      · rw [vl_snoc] at k
        have := vl_lt h.left
        simp at k
        omega
    rw [← tr_digs h, tr_last a hd]
theorem digs_len {n : Nat} (h : n ≠ 0) : 65536 ^ ((digs n).length - 1) ≤ (n : Int) ∧ 1 ≤ (digs n).length := by
  induction n using Nat.strongRecOn with
  | ind n ih =>
    rw [digs_pos h]
    refine ⟨?_, by simp⟩
    by_cases e : n / 65536 = 0
    · rw [e, digs_zero]; simp; omega
    · obtain ⟨h1, h2⟩ := ih (n / 65536) (by omega) e
      simp only [List.length_cons, Nat.add_sub_cancel]
      rw [show (digs (n / 65536)).length = (digs (n / 65536)).length - 1 + 1 by omega, Int.pow_succ]
      omega
theorem digs_lt (n : Nat) : (n : Int) < 65536 ^ (digs n).length := by
  have := vl_lt (Dg.digs n)
  rwa [vl_digs] at this
/-- a longer one is greater -/
theorem digs_longer {m n : Nat} (h : (digs m).length < (digs n).length) : m < n := by
  have h1 := digs_lt m
  have hn : n ≠ 0 := by rintro rfl; rw [digs_zero] at h; simp at h
  obtain ⟨h2, _⟩ := digs_len hn
  have h3 : (65536 : Int) ^ (digs m).length ≤ 65536 ^ ((digs n).length - 1) := by
    have hjk : (digs m).length ≤ (digs n).length - 1 := by omega
    generalize (digs n).length - 1 = k at hjk ⊢
    generalize (digs m).length = j at hjk ⊢
    obtain ⟨t, rfl⟩ : ∃ t, k = j + t := ⟨k - j, by omega⟩
    rw [Int.pow_add]
    have h4 : (0 : Int) < 65536 ^ j := Int.pow_pos (by decide)
    have h5 : (0 : Int) < 65536 ^ t := Int.pow_pos (by decide)
    have := Int.mul_le_mul_of_nonneg_left (show (1 : Int) ≤ 65536 ^ t by omega) (show (0 : Int) ≤ 65536 ^ j by omega)
    omega
  omega
theorem digs_inj {m n : Nat} (h : digs m = digs n) : m = n := by
  have h1 := vl_digs m
  rw [h, vl_digs] at h1
  omega
/-- the upper part of a list of digits -/
theorem vl_drop (zs : List Int) (i : Nat) (d : Int) (h : zs[i]? = some d) : vl (zs.drop i) = d + 65536 * vl (zs.drop (i + 1)) := by
  obtain ⟨hi, e⟩ := List.getElem?_eq_some_iff.1 h
  rw [List.drop_eq_getElem_cons hi, e, vl]
theorem vl_drop_ge (zs : List Int) (i : Nat) (h : zs.length ≤ i) : vl (zs.drop i) = 0 := by
  rw [List.drop_eq_nil_of_le h]; rfl
theorem vl_take (zs : List Int) (i : Nat) (d : Int) (h : zs[i]? = some d) : vl (zs.take (i + 1)) = vl (zs.take i) + 65536 ^ i * d := by
  obtain ⟨hi, e⟩ := List.getElem?_eq_some_iff.1 h
  rw [List.take_succ_eq_append_getElem hi, e, vl_snoc, List.length_take, Nat.min_eq_left (by omega)]
theorem vl_take_drop (zs : List Int) (i : Nat) (h : i ≤ zs.length) : vl zs = vl (zs.take i) + 65536 ^ i * vl (zs.drop i) := by
  conv => lhs; rw [← List.take_append_drop i zs, vl_append, List.length_take, Nat.min_eq_left h]
theorem Dg.take {zs : List Int} (h : Dg zs) (i : Nat) : Dg (zs.take i) := fun e he => h e (List.mem_of_mem_take he)
theorem Dg.drop {zs : List Int} (h : Dg zs) (i : Nat) : Dg (zs.drop i) := fun e he => h e (List.mem_of_mem_drop he)
theorem Dg.set {zs : List Int} (h : Dg zs) (i : Nat) {d : Int} (h0 : 0 ≤ d) (h1 : d ≤ 65535) : Dg (zs.set i d) := fun e he => by
  rcases List.mem_or_eq_of_mem_set he with he | rfl
  · exact h e he
  · exact ⟨h0, h1⟩
theorem vl_set : ∀ (zs : List Int) (i : Nat) (d e : Int), zs[i]? = some e → vl (zs.set i d) = vl zs + 65536 ^ i * (d - e)
  | [], i, d, e, h => by simp at h
  | x :: r, 0, d, e, h => by
    obtain rfl : x = e := by simpa using h
    rw [List.set_cons_zero, vl, vl, Int.pow_zero]; omega
  | x :: r, i + 1, d, e, h => by
    have ih := vl_set r i d e (by simpa using h)
    rw [List.set_cons_succ, vl, ih, vl, Int.pow_succ, Int.mul_add, Int.mul_comm (65536 ^ i) 65536, Int.mul_assoc]
    omega
theorem vl_replicate (n : Nat) : vl (List.replicate n 0) = 0 := by
  induction n with
  | zero => rfl
  | succ n ih => rw [List.replicate_succ, vl, ih]; rfl
theorem Dg.replicate (n : Nat) : Dg (List.replicate n 0) := fun e he => by
  obtain ⟨_, rfl⟩ := List.mem_replicate.1 he
  omega
#print axioms digs_of
end Go.Proofs.YtoondjildbanhaaDoor
end
section
namespace Go.Proofs.YtoondjildbanhaaDoor

def frd (u : Int) (i : Nat) : Int := u / 65536 ^ i % 65536
/-- the digits so far, and what is carried -/
def fr (u : Int) (neg : Bool) : Nat → List Int × Int
  | 0 => ([], 1)
  | i + 1 => if neg then ((fr u neg i).1 ++ [(65535 - frd u i + (fr u neg i).2) % 65536], (65535 - frd u i + (fr u neg i).2) / 65536) else ((fr u neg i).1 ++ [frd u i], (fr u neg i).2)
theorem frd_range (u : Int) (i : Nat) : 0 ≤ frd u i ∧ frd u i ≤ 65535 := by unfold frd; omega
theorem mod_step (u P : Int) (hP : 0 < P) : u % (P * 65536) = u % P + P * (u / P % 65536) := by
  have e1 := Int.mul_ediv_add_emod u P
  have e2 := Int.mul_ediv_add_emod (u / P) 65536
  have g1 := Int.emod_nonneg u (show P ≠ 0 by omega)
  have g2 := Int.emod_lt_of_pos u hP
  have g3 : 0 ≤ u / P % 65536 ∧ u / P % 65536 ≤ 65535 := by omega
  generalize u / P % 65536 = r at *
  generalize u / P / 65536 = k at *
  generalize u / P = j at *
  generalize u % P = t at *
  have h1 := Int.mul_le_mul_of_nonneg_left g3.2 (Int.le_of_lt hP)
  have h2 := Int.mul_nonneg (Int.le_of_lt hP) g3.1
  have e3 : u = t + P * r + P * 65536 * k := by
    rw [← e1, ← e2, Int.mul_add, ← Int.mul_assoc]
    omega
  rw [e3, Int.add_mul_emod_self_left]
  exact Int.emod_eq_of_lt (by omega) (by omega)
theorem fr_ok (u : Int) (neg : Bool) : ∀ i, (fr u neg i).1.length = i ∧ Dg (fr u neg i).1 ∧ 0 ≤ (fr u neg i).2 ∧ (fr u neg i).2 ≤ 1 ∧
    (neg = false → vl (fr u neg i).1 = u % 65536 ^ i) ∧ (neg = true → vl (fr u neg i).1 + 65536 ^ i * (fr u neg i).2 = 65536 ^ i - u % 65536 ^ i)
  | 0 => by simp [fr, vl, Dg.nil, Int.emod_one]
  | i + 1 => by
    obtain ⟨h1, h2, h3, h4, h5, h6⟩ := fr_ok u neg i
    have hP : (0 : Int) < 65536 ^ i := Int.pow_pos (by decide)
    have hm := mod_step u (65536 ^ i) hP
    have hr := frd_range u i
    rw [show u / 65536 ^ i % 65536 = frd u i from rfl] at hm
    rw [Int.pow_succ, hm, fr]
    generalize (fr u neg i).1 = o at *
    generalize (fr u neg i).2 = c at *
    generalize frd u i = D at *
    cases neg with
    | false =>
      simp only [Bool.false_eq_true, if_false]
      refine ⟨by simp [h1], h2.snoc hr.1 hr.2, h3, h4, fun _ => ?_, (fun h => by simp at h)⟩
      rw [vl_snoc, h1, h5 rfl]
    | true =>
      simp only [if_true]
      refine ⟨by simp [h1], h2.snoc (by omega) (by omega), by omega, by omega, (fun h => by simp at h), fun _ => ?_⟩
      have h7 := h6 rfl
      rw [vl_snoc, h1, Int.mul_assoc, Int.add_assoc, ← Int.mul_add]
      have e : (65535 - D + c) % 65536 + 65536 * ((65535 - D + c) / 65536) = 65535 - D + c := by omega
      rw [e]
      generalize (65536 : Int) ^ i = P at *
      generalize u % P = t at *
      have e2 : P * (65535 - D + c) = P * 65536 - P - P * D + P * c := by
        rw [show (65535 - D + c : Int) = 65536 - 1 - D + c by omega, Int.mul_add, Int.mul_sub, Int.mul_sub, Int.mul_one]
      rw [e2]
      omega
theorem fr_16 (z : Int) (hl : -57896044618658097711785492504343953926634992332820282019728792003956564819968 ≤ z) (hh : z ≤ 57896044618658097711785492504343953926634992332820282019728792003956564819967) :
    vl (fr (z % 115792089237316195423570985008687907853269984665640564039457584007913129639936) (decide (z < 0)) 16).1 = z.natAbs := by
  obtain ⟨h1, h2, h3, h4, h5, h6⟩ := fr_ok (z % 115792089237316195423570985008687907853269984665640564039457584007913129639936) (decide (z < 0)) 16
  have hp : (65536 : Int) ^ 16 = 115792089237316195423570985008687907853269984665640564039457584007913129639936 := by decide
  have hv := vl_nonneg h2
  rw [hp] at h5 h6
  by_cases hz : z < 0
  · have := h6 (by simpa using hz)
    omega
  · have := h5 (by simpa using hz)
    omega
end Go.Proofs.YtoondjildbanhaaDoor
end
section
namespace Go.Proofs.YtoondjildbanhaaDoor
open Go.ChangeShapes Go.WideShapes Go.ChangeAt Go.RowKit
set_option linter.unusedVariables false

/-- a slice of ints holds these digits, in a block below T or from C on -/
structure DRow (w : World) (T C : Nat) (a : Option Addr) (len cap : Nat) (zs : List Int) : Prop where
  hlen : zs.length = len
  hcap : len ≤ cap
  hmax : cap ≤ maxLen
  hcells : zs = [] ∨ ∃ b o, a = some ⟨b, o, none⟩ ∧ (b < T ∨ C ≤ b) ∧ ∀ i z, zs[i]? = some z → w.cell? ⟨b, o + i, none⟩ = some (.int .i64 z)
theorem DRow.keep {w w' : World} {T C : Nat} {a : Option Addr} {len cap : Nat} {zs : List Int} (h : DRow w T C a len cap zs) (hb : Below w.heap.size w w') : DRow w' T C a len cap zs :=
  ⟨h.hlen, h.hcap, h.hmax, h.hcells.imp id fun ⟨b, o, ha, ht, hc⟩ => ⟨b, o, ha, ht, fun i z hz => Go.Proofs.YtoondjildbanhaaDoor.keep hb (hc i z hz)⟩⟩

set_option maxHeartbeats 4000000 in
set_option maxRecDepth 20000 in
theorem trim_any (T C : Nat) (neg : Bool) (a : Option Addr) (len cap : Nat) (zs : List Int) (w : World) (hr : DRow w T C a len cap zs) :
    Calls Tryd.prog 65 #[.agg #[.bool neg, .slice a len cap]] w fun e w' => ∃ len', e = .returned (.agg #[.bool (neg && !(tr zs).isEmpty), .slice a len' cap]) ∧ tr zs = zs.take len' ∧ len' ≤ len ∧ Below w.heap.size w w' := by
  obtain ⟨hl, hcap, hmax, hcells⟩ := hr
  go_enter Tryd.func65, Tryd.ntmps65
  go_wp2_with fail
  go_loopg [] len (fun k wr => k ≤ len ∧ Hid (tr zs = tr (zs.take k)) ∧ Own wr w.heap.size 66 #[.bool neg, .slice a k cap] ∧ Own wr (w.heap.size + 1) 66 #[.bool false, .slice none 0 0] ∧ Below w.heap.size w wr)
  case atStart =>
    refine ⟨Nat.le_refl _, Lib.hid (by rw [List.take_of_length_le (by omega)]), ?_, ?_, ?_⟩
    · repeat' (first | (with_reducible assumption) | (with_reducible refine Own.drawnN ?_ _) | (with_reducible refine Own.drawn ?_) | (with_reducible refine Own.made_at ?_; first | rfl | (simp; done) | omega | (simp; omega)) | (with_reducible refine Own.more ?_ _) | (with_reducible refine Own.apart ?_ ?_ _ _; rotate_left; first | omega | (simp; done) | (simp; omega)) | (refine Own.put ?_ _ _))
    · repeat' (first | (with_reducible assumption) | (with_reducible refine Own.drawnN ?_ _) | (with_reducible refine Own.drawn ?_) | (with_reducible refine Own.made_at ?_; first | rfl | (simp; done) | omega | (simp; omega)) | (with_reducible refine Own.more ?_ _) | (with_reducible refine Own.apart ?_ ?_ _ _; rotate_left; first | omega | (simp; done) | (simp; omega)) | (refine Own.put ?_ _ _))
    · repeat' (first | (with_reducible exact Below.refl _ _) | (with_reducible assumption) | (with_reducible refine below_drewN ?_ _) | (with_reducible refine Below.drew ?_) | (with_reducible refine Below.alloc ?_ ?_ _) | (with_reducible refine Below.setCell ?_ ?_ _) | (with_reducible refine then_ ?_ (by with_reducible assumption) ?_) | (with_reducible exact Nat.le_refl _) | (with_reducible exact Nat.le_succ _) | (with_reducible exact Nat.le_succ_of_le (by with_reducible assumption)) | omega | (simp; done) | (simp; omega) | (exact Nat.le_succ _) | (exact Nat.le_succ_of_le (by with_reducible assumption)))
  case round =>
    obtain ⟨hk, HT, O1, O2, hB⟩ := hrel
    obtain ⟨P1, P2, P3⟩ := O1.at_
    obtain ⟨Q1, Q2, Q3⟩ := O2.at_
    have e2 : ¬ w.heap.size = w.heap.size + 1 := by omega
    have e3 : ¬ w.heap.size + 1 = w.heap.size := by omega
    cases gk with
    | zero =>
      have ht : tr zs = [] := by have := HT.out; simpa [tr] using this
      have TH := Lib.hid ht
      clear ht HT hcells O1 O2
      go_wp2
      refine bodyPost_ret (v := .agg #[.bool false, .slice a 0 cap]) (by simp [results, Tryd.results65, go_sem, Q1]) rfl ⟨0, ?_, ?_, by omega, ?_⟩
      · rw [TH.out]; simp
      · rw [TH.out]; simp
      · repeat' (first | (with_reducible exact Below.refl _ _) | (with_reducible assumption) | (with_reducible refine below_drewN ?_ _) | (with_reducible refine Below.drew ?_) | (with_reducible refine Below.alloc ?_ ?_ _) | (with_reducible refine Below.setCell ?_ ?_ _) | (with_reducible refine then_ ?_ (by with_reducible assumption) ?_) | (with_reducible exact Nat.le_refl _) | (with_reducible exact Nat.le_succ _) | (with_reducible exact Nat.le_succ_of_le (by with_reducible assumption)) | omega | (simp; done) | (simp; omega) | (exact Nat.le_succ _) | (exact Nat.le_succ_of_le (by with_reducible assumption)))
    | succ j =>
      obtain ⟨b, o, rfl, hc⟩ : ∃ b o, a = some ⟨b, o, none⟩ ∧ ∀ i z, zs[i]? = some z → w.cell? ⟨b, o + i, none⟩ = some (.int .i64 z) := by
        rcases hcells with h | h
        · rw [h] at hl; simp at hl; omega
        · obtain ⟨b, o, h1, _, h2⟩ := h; exact ⟨b, o, h1, h2⟩
      obtain ⟨d, hd⟩ : ∃ d, zs[j]? = some d := ⟨zs[j]'(by omega), by simp⟩
      have C1 : wr.cell? ⟨b, o + j, none⟩ = some (.int .i64 d) := by
        have h := hc j d hd
        rw [hB.cell (cell_lt h)]; exact h
      have hj : ((j + 1 : Nat) : Int) - 1 = (j : Int) := by omega
      have hm : (j : Int) ≤ 9223372036854775806 := by unfold maxLen at hmax; omega
      have hjc : j ≤ cap := by omega
      have hb1 : b ≠ w.heap.size := by have := cell_lt (hc j d hd); omega
      have TK : zs.take (j + 1) = zs.take j ++ [d] := by
        obtain ⟨h1, h2⟩ := List.getElem?_eq_some_iff.1 hd
        rw [List.take_succ_eq_append_getElem h1, h2]
      by_cases h0 : d = 0
      · subst h0
        have HT2 := Lib.hid (show tr zs = tr (zs.take j) by rw [HT.out, TK, tr_zero])
        clear HT TK hcells hc hd
        go_wp2
        go_roundg j
        case measure => omega
        case rel => exact ⟨by omega, HT2, (O1.put 1 _).as rfl, O2.apart (by omega) _ _, hB.setCell (Nat.le_refl _) _⟩
      · have HT2 := Lib.hid (show tr zs = zs.take (j + 1) by rw [HT.out, TK, tr_last _ h0])
        have h0' : (d == 0) = false := by simpa using h0
        have hne : (zs.take (j + 1)).isEmpty = false := by rw [TK]; simp
        have NE := Lib.hid hne
        clear HT TK hcells hc hd hne
        go_wp2
        refine bodyPost_ret (v := .agg #[.bool neg, .slice (some ⟨b, o, none⟩) (j + 1) cap]) (by simp [results, Tryd.results65, go_sem, Q1]) rfl ⟨j + 1, ?_, HT2.out, hk, ?_⟩
        · rw [HT2.out, NE.out]; simp
        · repeat' (first | (with_reducible exact Below.refl _ _) | (with_reducible assumption) | (with_reducible refine below_drewN ?_ _) | (with_reducible refine Below.drew ?_) | (with_reducible refine Below.alloc ?_ ?_ _) | (with_reducible refine Below.setCell ?_ ?_ _) | (with_reducible refine then_ ?_ (by with_reducible assumption) ?_) | (with_reducible exact Nat.le_refl _) | (with_reducible exact Nat.le_succ _) | (with_reducible exact Nat.le_succ_of_le (by with_reducible assumption)) | omega | (simp; done) | (simp; omega) | (exact Nat.le_succ _) | (exact Nat.le_succ_of_le (by with_reducible assumption)))
end Go.Proofs.YtoondjildbanhaaDoor
end
