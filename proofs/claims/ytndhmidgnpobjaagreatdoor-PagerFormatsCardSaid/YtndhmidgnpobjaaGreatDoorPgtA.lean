/- merged: The contracts of a pager's Alloc. Conditions: those that each theorem names. The contracts of a pager's Free. Conditions: those that each theorem names. The contracts of a pager's SetRoot. Conditions: those that each theorem names. The document's pages in memory, as the reference holds them; the contracts of fill and head. Conditions: those that each theorem names. -/
import Derived.Test.YtndhmidgnpobjaaGreatDoorPgrZ
import Derived.Test.YtndhmidgnpobjaaGreatDoorPagD
section
namespace Go.Proofs.YtndhmidgnpobjaaGreatDoor
open Go.ChangeShapes Go.WideShapes Go.ChangeAt Go.RowKit
set_option linter.unusedVariables false
set_option linter.unusedSimpArgs false

theorem put_hd {P : PS} (h : P.Ok) (u f : Nat) (r : Nat → Nat) (L : List (Nat × Pag)) (hL : ∀ q ∈ L, q.1 ≠ 0) : (P.put ((0, (1, hroom u f r)) :: L)).view 0 = ((1, hroom u f r), 0) := by
  have e : fl (hroom u f r) = hroom u f r := fl_full _ (hroom_size u f r)
  have key : ∀ (L T : List (Nat × Pag)), asc T → (∀ q ∈ L, q.1 ≠ 0) → lk T 0 = some (1, hroom u f r) → lk (insAll T (L.map wh)) 0 = some (1, hroom u f r) := by
    intro L
    induction L with
    | nil => intro T _ _ h; exact h
    | cons q L ih =>
      intro T hT hq h
      refine ih _ (asc_ins _ _ hT) (fun q' h' => hq q' (by simp [h'])) ?_
      rw [lk_ins _ _ _ _ hT, if_neg (show ¬ (wh q).1 = 0 from hq q (by simp))]
      exact h
  have h1 := key L (ins 0 (1, fl (hroom u f r)) P.T) (asc_ins _ _ h.T.1) hL (by rw [lk_ins _ _ _ _ h.T.1, if_pos rfl, e])
  unfold PS.view
  show (match lk (insAll (ins 0 (1, fl (hroom u f r)) P.T) (L.map wh)) 0 with | some x => (x, 0) | none => P.base 0) = _
  rw [h1]
theorem PS.root_lt (P : PS) (i : Nat) : P.root i < 18446744073709551616 := rdR_lt _ i
theorem put_hd_ok {P : PS} (h : P.Ok) {u f : Nat} (h1 : 1 ≤ u) (h2 : u ≤ P.most) (h3 : f < u) (r : Nat → Nat) (hr : ∀ i, i < 8 → r i < 18446744073709551616) (L : List (Nat × Pag)) (hL : ∀ q ∈ L, q.1 ≠ 0) :
    IsHd P.most ((P.put ((0, (1, hroom u f r)) :: L)).view 0).1 ∧ ((P.put ((0, (1, hroom u f r)) :: L)).view 0).2 = 0 := by
  rw [put_hd h u f r L hL]
  have := h.most
  exact ⟨IsHd.mk' h1 h2 h3 (by omega) hr, rfl⟩
/-- what is taken -/
theorem PS.tk_ok {P : PS} (h : P.Ok) (h0 : P.tk.2.1 = 0) : 1 ≤ P.tk.1 ∧ P.tk.1 < P.most ∧ 1 ≤ P.tk.2.2.1 ∧ P.tk.2.2.1 ≤ P.most ∧ P.tk.2.2.2 < P.tk.2.2.1 := by
  have hu := h.used
  unfold PS.tk at h0 ⊢
  by_cases hf : P.free = 0
  · rw [if_pos hf] at h0 ⊢
    by_cases hm : P.most ≤ P.used
    · rw [if_pos hm] at h0; simp at h0
    · rw [if_neg hm]; simp only; omega
  · rw [if_neg hf] at h0 ⊢
    by_cases hv : (P.view P.free).2 = 0
    · rw [if_pos hv] at h0 ⊢
      cases hn : nxt P.used (P.view P.free).1 with
      | none => rw [hn] at h0; simp at h0
      | some n =>
        simp only
        have : n < P.used := by
          unfold nxt at hn
          split at hn
          · rename_i c; injection hn with hn; omega
          · cases hn
        omega
    · rw [if_neg hv] at h0
      simp only at h0
      omega
section
variable {w w' w2 w3 : World} {B Bp d p c : Nat} {P P' : PS}
/-- a block of one's own was written into -/
theorem Ask.thenQ {c1 c2 q : Nat} (h : Ask w w2 B Bp d p c1 P) (k : AskQ w2 w3 B Bp d p c2 q P') (hq : w.heap.size ≤ q) : Ask w w3 B Bp d p c2 P' := ⟨k.1, h.2.trans k.2 fun b hb hf => by
  rcases hf with e | hf
  · omega
  · by_cases c : Po.PT w Bp b
    · exact c
    · exact pt_congr (h.2.block b hb c) hf⟩
end
/-- Alloc, as the document says it -/
def PS.kd (k : Int) : Bool := decide (2 ≤ k) && decide (k ≤ 254)
def PS.alL (P : PS) (k : Int) : List (Nat × Pag) := [(0, (1, hroom P.tk.2.2.1 P.tk.2.2.2 P.root)), (P.tk.1, (k.toNat, ⟨#[]⟩))]
def PS.alE (P : PS) (k : Int) : Int := if PS.kd k then if P.s.down then 11 else if P.tk.2.1 = 0 then P.chgE (P.alL k) else P.tk.2.1 else 1
def PS.alN (P : PS) (k : Int) : Nat := if P.alE k = 0 then P.tk.1 else 0
def PS.al (P : PS) (k : Int) : PS := if PS.kd k then if P.s.down then P else if P.tk.2.1 = 0 then P.chg (P.alL k) else P else P
section
variable {w w' w2 w3 : World} {B Bp d p c : Nat} {P P' : PS}
theorem alloc_kind (h : PagerAt w B Bp d p c P) (k : Int) (hk : PS.kd k = false) : Calls Tryz.prog 17 #[.pointer (some ⟨p, 0, none⟩), .int .i64 k] w fun e w' => e = .returned (.tuple #[.int .i64 0, .int .i64 1]) ∧ w = w' := by
  have HK := Lib.hid (fun W => kind_any k W)
  have e : (decide (2 ≤ k) && decide (k ≤ 254)) = false := hk
  rw [e] at HK
  clear e hk h
  go_enter Tryz.func17, Tryz.ntmps17
  go_wp2_with (go_at_call 75; refine (HK.out _).mono ?_; rintro e w3 ⟨rfl, rfl⟩)
  go_ret2
  exact ⟨rfl, rfl⟩
theorem alloc_down (h : PagerAt w B Bp d p c P) (k : Int) (hk : PS.kd k = true) (hd : P.s.down = true) : Calls Tryz.prog 17 #[.pointer (some ⟨p, 0, none⟩), .int .i64 k] w fun e w' => e = .returned (.tuple #[.int .i64 0, .int .i64 11]) ∧ w = w' := by
  have HK := Lib.hid (fun W => kind_any k W)
  have e : (decide (2 ≤ k) && decide (k ≤ 254)) = true := hk
  rw [e] at HK
  have HD := Lib.hid (pdown_any h)
  rw [hd] at HD
  obtain ⟨lg, lm, pl, ho⟩ := h.cells
  obtain ⟨q1, q2, q3⟩ := ho.at_
  clear e hk h hd ho
  go_enter Tryz.func17, Tryz.ntmps17
  go_wp2_with (first | (go_at_call 75; refine (HK.out _).mono ?_; rintro e w3 ⟨rfl, rfl⟩) | (go_at_call 67; refine HD.out.mono ?_; rintro e w2 ⟨rfl, rfl⟩))
  go_ret2
  exact ⟨rfl, rfl⟩
set_option maxRecDepth 10000 in
set_option maxHeartbeats 1000000 in
theorem alloc_up (h : PagerAt w B Bp d p c P) (k : Int) (hk : PS.kd k = true) (hd : P.s.down = false) (hc : c + 6 < 1000000) : Calls Tryz.prog 17 #[.pointer (some ⟨p, 0, none⟩), .int .i64 k] w fun e w' => e = .returned (.tuple #[.int .i64 (P.alN k : Int), .int .i64 (P.alE k)]) ∧ Ask w w' B Bp d p (c + 6) (P.al k) := by
  have hok := h.ok
  have HK := Lib.hid (fun W => kind_any k W)
  have e : (decide (2 ≤ k) && decide (k ≤ 254)) = true := hk
  rw [e] at HK
  have hk2 : 2 ≤ k ∧ k ≤ 254 := by simpa using e
  have HD := Lib.hid (pdown_any h)
  rw [hd] at HD
  have HH := phead_any h hd (by omega)
  unfold hV hC at HH
  replace HH := Lib.hid HH
  obtain ⟨tn, te, tu, tf, htk⟩ : ∃ a b c d, P.tk = (a, b, c, d) := by
    rcases P.tk with ⟨a, b, c, d⟩
    exact ⟨a, b, c, d, rfl⟩
  have TKO := fun h0 => PS.tk_ok hok h0
  obtain ⟨r, hr⟩ : ∃ r, r = P.root := ⟨_, rfl⟩
  have hrl : ∀ i, r i < 18446744073709551616 := fun i => by rw [hr]; exact P.root_lt i
  have AL : P.alL k = [(0, (1, hroom tu tf r)), (tn, (k.toNat, ⟨#[]⟩))] := by unfold PS.alL; rw [htk, ← hr]
  have EE : P.alE k = (if P.tk.2.1 = 0 then P.chgE (P.alL k) else P.tk.2.1) ∧ P.al k = if P.tk.2.1 = 0 then P.chg (P.alL k) else P := by unfold PS.alE PS.al; simp only [hk, hd, if_true, Bool.false_eq_true, if_false]; exact ⟨trivial, trivial⟩
  have EN : P.alN k = if P.alE k = 0 then P.tk.1 else 0 := rfl
  have TK : ∀ W, PagerAt W B Bp d p (c + 2) P → Calls Tryz.prog 77 #[.pointer (some ⟨p, 0, none⟩), .pointer (some ⟨W.heap.size, 0, none⟩)] (W.alloc (.cells (hC P.used P.free P.root) 114)) fun e w' => e = .returned (.tuple #[.int .i64 (P.tk.1 : Int), .int .i64 P.tk.2.1]) ∧ Own w' W.heap.size 114 (hC P.tk.2.2.1 P.tk.2.2.2 P.root) ∧ AskQ (W.alloc (.cells (hC P.used P.free P.root) 114)) w' B Bp d p (c + 4) W.heap.size P := fun W hW => ptake_any (hW.below (box_one W _ _)) hd (by omega) W.heap.size (Own.made W _ _)
  rw [htk] at EE EN TK TKO
  rw [AL] at EE
  simp only at EE EN TK TKO
  replace EE := Lib.hid EE
  replace EN := Lib.hid EN
  replace TK := Lib.hid TK
  have CH := fun (h0 : te = 0) W (hW : PagerAt W B Bp d p (c + 4) P) => change_any (hW.below (box_one W 112 #[.int .i64 0, .int .i64 1, .string (hroom tu tf r), .int .i64 (tn : Int), .int .i64 k, .string ⟨#[]⟩])) [(0, (1, hroom tu tf r)), (tn, (k.toNat, ⟨#[]⟩))] (by simp) (fun q hq => by
    obtain ⟨a1, a2, a3, a4, a5⟩ := TKO h0
    simp only [List.mem_cons, List.not_mem_nil, or_false] at hq
    rcases hq with rfl | rfl
    · exact ⟨by have := hok.most; simp only; omega, by simp, by simp, by simp only; rw [hroom_size]; omega⟩
    · exact ⟨a2, by simp only; omega, by simp only; omega, Nat.zero_le _⟩) (by omega) (by
    obtain ⟨a1, a2, a3, a4, a5⟩ := TKO h0
    exact put_hd_ok hok a3 a4 a5 r (fun i _ => hrl i) _ (fun q hq => by simp only [List.mem_singleton] at hq; subst hq; simp only; omega)) W.heap.size _ (Own.made W _ _) (fun i q hq => by
    have ek : ((k.toNat : Nat) : Int) = k := Int.toNat_of_nonneg (by omega)
    rcases i with _ | _ | i
    · simp only [List.getElem?_cons_zero, Option.some.injEq] at hq
      subst hq
      simp
    · simp only [List.getElem?_cons_succ, List.getElem?_cons_zero, Option.some.injEq] at hq
      subst hq
      simp [ek]
    · simp at hq)
  have HS : ∀ h0 : te = 0, ∀ W, Calls Tryz.prog 64 #[hV tu tf r] W fun e w' => e = .returned (shV 0 (1, hroom tu tf r)) ∧ Below W.heap.size W w' := fun h0 W => by
    obtain ⟨a1, a2, a3, a4, a5⟩ := TKO h0
    have := hok.most
    exact hsheet_any _ _ _ W (by omega) (by omega) fun i _ => hrl i
  obtain ⟨lg, lm, pl, ho⟩ := h.cells
  obtain ⟨q1, q2, q3⟩ := ho.at_
  obtain ⟨u, hu⟩ : ∃ u, u = P.used := ⟨_, rfl⟩
  obtain ⟨f, hf⟩ : ∃ f, f = P.free := ⟨_, rfl⟩
  rw [← hu, ← hf, ← hr] at HH TK
  unfold hV hC at HS
  unfold hC at TK
  clear h hk hd e ho hu hf hr htk hok TKO AL hrl
  by_cases h0 : te = 0
  · subst h0
    replace CH := CH rfl
    replace HS : ∀ W, Calls Tryz.prog 64 #[.agg #[.int .i64 (tu : Int), .int .i64 (tf : Int), .int .u64 (r 0 : Int), .int .u64 (r 1 : Int), .int .u64 (r 2 : Int), .int .u64 (r 3 : Int), .int .u64 (r 4 : Int), .int .u64 (r 5 : Int), .int .u64 (r 6 : Int), .int .u64 (r 7 : Int)]] W fun e w' => e = .returned (.agg #[.int .i64 0, .int .i64 1, .string (hroom tu tf r)]) ∧ Below W.heap.size W w' := HS rfl
    replace HS := Lib.hid HS
    rw [if_pos rfl, if_pos rfl] at EE
    rw [show ([(0, (1, hroom tu tf r)), (tn, (k.toNat, (⟨#[]⟩ : ByteArray)))] : List (Nat × Pag)).length = 2 from rfl] at CH
    have ce := P.chgE [(0, (1, hroom tu tf r)), (tn, (k.toNat, (⟨#[]⟩ : ByteArray)))]
    have HCE : P.chgE [(0, (1, hroom tu tf r)), (tn, (k.toNat, (⟨#[]⟩ : ByteArray)))] = 0 ∨ P.chgE [(0, (1, hroom tu tf r)), (tn, (k.toNat, (⟨#[]⟩ : ByteArray)))] = 10 := by
      unfold PS.chgE
      split
      · exact .inl rfl
      · exact .inr rfl
    obtain ⟨P', hP'⟩ : ∃ P', P' = P.chg [(0, (1, hroom tu tf r)), (tn, (k.toNat, (⟨#[]⟩ : ByteArray)))] := ⟨_, rfl⟩
    obtain ⟨y, hy⟩ : ∃ y, y = P.chgE [(0, (1, hroom tu tf r)), (tn, (k.toNat, (⟨#[]⟩ : ByteArray)))] := ⟨_, rfl⟩
    rw [← hP', ← hy] at EE CH
    rw [← hy] at HCE
    replace CH := Lib.hid CH
    clear hk2 hP' hy ce
    obtain ⟨hr, hhr⟩ : ∃ s, s = hroom tu tf r := ⟨_, rfl⟩
    rw [← hhr] at CH HS
    clear hhr
    rcases HCE with rfl | rfl
    · have E2 : Hid (P.alN k = tn) := Lib.hid (by rw [EN.out, EE.out.1, if_pos rfl])
      go_enter Tryz.func17, Tryz.ntmps17
      go_wp2_with (first | (go_at_call 75; refine (HK.out _).mono ?_; rintro e w3 ⟨rfl, rfl⟩) | (go_at_call 67; refine HD.out.mono ?_; rintro e w2 ⟨rfl, rfl⟩) | (go_at_call 76; refine HH.out.mono ?_; rintro e w2 ⟨rfl, hA⟩; have A2 := Lib.hid hA; clear hA) | (go_at_call 77; refine (TK.out _ A2.out.1).mono ?_; rintro e w4 ⟨rfl, hq4, hA4⟩; have hA5 : Ask w w4 B Bp d p (c + 4) P := (A2.out.below (box_one w2 _ _)).thenQ hA4 A2.out.2.size; have A4 := Lib.hid hA5; clear hA4 hA5; obtain ⟨s1, s2, s3⟩ := hq4.at_; clear hq4) | (go_at_call 64; refine (HS.out _).mono ?_; rintro e w5 ⟨rfl, hb5⟩; have A5 := Lib.hid (A4.out.below hb5); clear hb5) | (go_at_call 78; refine (CH.out _ A5.out.1).mono ?_; rintro e w6 ⟨rfl, hA6⟩; have hA7 : Ask w w6 B Bp d p (c + 6) P' := A5.out.then2 (Ask.from_ (box_one w5 _ _) hA6); have A6 := Lib.hid hA7; clear hA6 hA7))
      go_ret2
      rw [EE.out.1, EE.out.2, E2.out]
      exact ⟨rfl, A6.out⟩
    · have E2 : Hid (P.alN k = 0) := Lib.hid (by rw [EN.out, EE.out.1, if_neg (by decide)])
      go_enter Tryz.func17, Tryz.ntmps17
      go_wp2_with (first | (go_at_call 75; refine (HK.out _).mono ?_; rintro e w3 ⟨rfl, rfl⟩) | (go_at_call 67; refine HD.out.mono ?_; rintro e w2 ⟨rfl, rfl⟩) | (go_at_call 76; refine HH.out.mono ?_; rintro e w2 ⟨rfl, hA⟩; have A2 := Lib.hid hA; clear hA) | (go_at_call 77; refine (TK.out _ A2.out.1).mono ?_; rintro e w4 ⟨rfl, hq4, hA4⟩; have hA5 : Ask w w4 B Bp d p (c + 4) P := (A2.out.below (box_one w2 _ _)).thenQ hA4 A2.out.2.size; have A4 := Lib.hid hA5; clear hA4 hA5; obtain ⟨s1, s2, s3⟩ := hq4.at_; clear hq4) | (go_at_call 64; refine (HS.out _).mono ?_; rintro e w5 ⟨rfl, hb5⟩; have A5 := Lib.hid (A4.out.below hb5); clear hb5) | (go_at_call 78; refine (CH.out _ A5.out.1).mono ?_; rintro e w6 ⟨rfl, hA6⟩; have hA7 : Ask w w6 B Bp d p (c + 6) P' := A5.out.then2 (Ask.from_ (box_one w5 _ _) hA6); have A6 := Lib.hid hA7; clear hA6 hA7))
      go_ret2
      rw [EE.out.1, EE.out.2, E2.out]
      exact ⟨rfl, A6.out⟩
  · rw [if_neg h0, if_neg h0] at EE
    have h1 : (te != 0) = true := by rw [bne_iff_ne]; exact h0
    have E2 : Hid (P.alN k = 0) := Lib.hid (by rw [EN.out, EE.out.1, if_neg h0])
    clear CH HS hk2
    go_enter Tryz.func17, Tryz.ntmps17
    go_wp2_with (first | (go_at_call 75; refine (HK.out _).mono ?_; rintro e w3 ⟨rfl, rfl⟩) | (go_at_call 67; refine HD.out.mono ?_; rintro e w2 ⟨rfl, rfl⟩) | (go_at_call 76; refine HH.out.mono ?_; rintro e w2 ⟨rfl, hA⟩; have A2 := Lib.hid hA; clear hA) | (go_at_call 77; refine (TK.out _ A2.out.1).mono ?_; rintro e w4 ⟨rfl, hq4, hA4⟩; have A4 := Lib.hid hA4; clear hA4))
    go_ret2
    rw [EE.out.1, EE.out.2, E2.out]
    exact ⟨rfl, ((A2.out.below (box_one w2 _ _)).thenQ A4.out A2.out.2.size).more (by omega)⟩
theorem alloc_any' (h : PagerAt w B Bp d p c P) (k : Int) (hc : c + 6 < 1000000) : Calls Tryz.prog 17 #[.pointer (some ⟨p, 0, none⟩), .int .i64 k] w fun e w' => e = .returned (.tuple #[.int .i64 (P.alN k : Int), .int .i64 (P.alE k)]) ∧ Ask w w' B Bp d p (c + 6) (P.al k) := by
  cases hk : PS.kd k with
  | false =>
    have e1 : P.alE k = 1 := by unfold PS.alE; simp only [hk, Bool.false_eq_true, if_false]
    have e2 : P.al k = P := by unfold PS.al; simp only [hk, Bool.false_eq_true, if_false]
    have e3 : P.alN k = 0 := by unfold PS.alN; rw [e1, if_neg (by decide)]
    rw [e1, e2, e3]
    refine (alloc_kind h k hk).mono ?_
    rintro e w' ⟨rfl, rfl⟩
    exact ⟨rfl, (Ask.same h).more (by omega)⟩
  | true =>
    cases hd : P.s.down with
    | true =>
      have e1 : P.alE k = 11 := by unfold PS.alE; simp only [hk, hd, if_true]
      have e2 : P.al k = P := by unfold PS.al; simp only [hk, hd, if_true]
      have e3 : P.alN k = 0 := by unfold PS.alN; rw [e1, if_neg (by decide)]
      rw [e1, e2, e3]
      refine (alloc_down h k hk hd).mono ?_
      rintro e w' ⟨rfl, rfl⟩
      exact ⟨rfl, (Ask.same h).more (by omega)⟩
    | false => exact alloc_up h k hk hd hc
end
end Go.Proofs.YtndhmidgnpobjaaGreatDoor
end
section
namespace Go.Proofs.YtndhmidgnpobjaaGreatDoor
open Go.ChangeShapes Go.WideShapes Go.ChangeAt Go.RowKit
set_option linter.unusedVariables false
set_option linter.unusedSimpArgs false

section
variable {w w' w2 w3 : World} {B Bp d p c : Nat} {P P' : PS}
end
end Go.Proofs.YtndhmidgnpobjaaGreatDoor
end
section
namespace Go.Proofs.YtndhmidgnpobjaaGreatDoor
open Go.ChangeShapes Go.WideShapes Go.ChangeAt Go.RowKit
set_option linter.unusedVariables false
set_option linter.unusedSimpArgs false

def upR (r : Nat → Nat) (i n : Nat) : Nat → Nat := fun k => if k = i then n else r k
section
variable {w w' w2 w3 : World} {B Bp d p c : Nat} {P P' : PS}
end
end Go.Proofs.YtndhmidgnpobjaaGreatDoor
end
section
namespace Go.Proofs.YtndhmidgnpobjaaGreatDoor
open Go.ChangeShapes Go.WideShapes Go.ChangeAt Go.RowKit
set_option linter.unusedVariables false
set_option linter.unusedSimpArgs false

theorem fill_any (s : ByteArray) (n : Nat) (w : World) (hs : s.size ≤ n) (hn : n ≤ 1000000) : Calls Tryz.prog 94 #[.string s, .int .i64 (n : Int)] w fun e w' => e = .returned (.string (s ++ zB (n - s.size))) ∧ Below w.heap.size w w' := by
  have e1 : IntKind.i64.wrap ((n : Int) - (s.size : Int)) = ((n - s.size : Nat) : Int) := by rw [IntKind.wrap_i64]; omega
  have hm := make_bytes (n - s.size) (by omega)
  have ht := zeros_text (n - s.size) (n - s.size)
  have hz := zB_size (n - s.size)
  have h9 : ¬ 9223372036854775807 < s.size + (zB (n - s.size)).size := by rw [hz]; omega
  obtain ⟨Z, hZ⟩ : ∃ Z, Z = zB (n - s.size) := ⟨_, rfl⟩
  rw [← hZ] at ht hz h9 ⊢
  clear hZ
  go_enter Tryz.func94, Tryz.ntmps94
  go_wp2
  go_ret
  exact ⟨rfl, box_one _ _ _⟩
/-- a state of the document's -/
structure RSt where
  kinds : List Nat
  rooms : List ByteArray
  free : List Nat
  roots : Nat → Nat
def RSt.first (s : RSt) : Nat := s.free.getLast?.getD 0
def natV (l : List Nat) : List Value := l.map fun (x : Nat) => .int .i64 (x : Int)
def strV (l : List ByteArray) : List Value := l.map .string
def boolV (l : List Bool) : List Value := l.map .bool
/-- a state's cells -/
def stC (vk vr vf : Value) (r : Nat → Nat) : Array Value := #[vk, vr, vf, .int .u64 (r 0 : Int), .int .u64 (r 1 : Int), .int .u64 (r 2 : Int), .int .u64 (r 3 : Int), .int .u64 (r 4 : Int), .int .u64 (r 5 : Int), .int .u64 (r 6 : Int), .int .u64 (r 7 : Int)]
structure StAt (w : World) (B : Nat) (vk vr vf : Value) (s : RSt) : Prop where
  k : w.ownsRow B 3 1 vk s.kinds.length (natV s.kinds)
  r : w.ownsRow B 9 1 vr s.rooms.length (strV s.rooms)
  f : w.ownsRow B 3 1 vf s.free.length (natV s.free)
  ap : ∀ g, vk.ownBlock = some g → vf.ownBlock ≠ some g
/-- what slices are -/
theorem row_slice {w : World} {B : Nat} {T : TypeId} {v : Value} {l : List Value} {n : Nat} (h : w.ownsRow B T 1 v n l) : ∃ a cp, v = .slice a n cp ∧ n = l.length ∧ ∀ k (hk : k < l.length), ∃ g, a = some ⟨g, 0, none⟩ ∧ v.ownBlock = some g ∧ w.cell? ⟨g, k, none⟩ = some (l[k]'hk) ∧ w.frozen? ⟨g, k, none⟩ = false := by
  have h0 := h.1
  rcases h.2 with ⟨rfl, h2⟩ | ⟨g, cap, cur, rfl, h1, h2, h3, h4, h5, h6⟩
  · exact ⟨none, 0, by rw [h2], by omega, fun k hk => by omega⟩
  · refine ⟨_, cap, rfl, by omega, fun k hk => ⟨g, rfl, rfl, ?_, ?_⟩⟩
    · have := World.ownsRow.cellAt h k (by omega)
      rw [this, List.getElem?_eq_getElem hk]
    · simp [World.frozen?, h2]
theorem stC_at (vk vr vf : Value) (r : Nat → Nat) {k : Nat} (h : k < 8) : (stC vk vr vf r)[3 + k]? = some (.int .u64 (r k : Int)) := by
  rcases upto8 h with rfl | rfl | rfl | rfl | rfl | rfl | rfl | rfl <;> rfl
theorem row_max {w : World} {B : Nat} {T : TypeId} {v : Value} {l : List Value} {n : Nat} (h : w.ownsRow B T 1 v n l) : n ≤ maxLen := by
  rcases h.2 with ⟨rfl, h2⟩ | ⟨g, cap, cur, rfl, h1, h2, h3, h4, h5, h6⟩
  · omega
  · omega
section
variable {w w' : World} {B : Nat} {vk vr vf : Value} {s : RSt}
theorem StAt.keep (h : StAt w B vk vr vf s) {Z : Nat → Prop} (hc : Chg Z w w') (h1 : ∀ g, vk.ownBlock = some g ∨ vr.ownBlock = some g ∨ vf.ownBlock = some g → ¬ Z g) : StAt w' B vk vr vf s :=
  ⟨Po.ownsRow_keepB h.k fun g hg => hc.block g (h.k.lt g hg).2 (h1 g (.inl hg)), Po.ownsRow_keepB h.r fun g hg => hc.block g (h.r.lt g hg).2 (h1 g (.inr (.inl hg))), Po.ownsRow_keepB h.f fun g hg => hc.block g (h.f.lt g hg).2 (h1 g (.inr (.inr hg))), h.ap⟩
theorem StAt.below (h : StAt w B vk vr vf s) (hb : Below w.heap.size w w') : StAt w' B vk vr vf s := h.keep (Chg.of (S := fun _ => False) hb) fun _ _ => id
set_option maxRecDepth 10000 in
set_option maxHeartbeats 1000000 in
theorem rhead_any (h : StAt w B vk vr vf s) (hu : s.kinds.length < 4294967296) (hf : ∀ x ∈ s.free, x < 4294967296) (hr : ∀ i, i < 8 → s.roots i < 18446744073709551616) :
    Calls Tryz.prog 91 #[.agg (stC vk vr vf s.roots)] w fun e w' => e = .returned (.string (hroom s.kinds.length s.first s.roots)) ∧ Below w.heap.size w w' := by
  obtain ⟨ka, kc, rfl, -, -⟩ := row_slice h.k
  obtain ⟨fa, fc, hvf, -, hfc⟩ := row_slice h.f
  subst hvf
  obtain ⟨u, hu2⟩ : ∃ u, u = s.kinds.length := ⟨_, rfl⟩
  obtain ⟨f, hf2⟩ : ∃ f, f = s.first := ⟨_, rfl⟩
  obtain ⟨r, hr2⟩ : ∃ r, r = s.roots := ⟨_, rfl⟩
  have hfl : f < 4294967296 := by
    rw [hf2]
    unfold RSt.first
    cases he : s.free.getLast? with
    | none => simp
    | some x => exact hf x (List.mem_of_getLast? he)
  have FST : (s.free.length = 0 ∧ f = 0) ∨ (0 < s.free.length ∧ ∃ g, fa = some ⟨g, 0, none⟩ ∧ g < w.heap.size ∧ w.cell? ⟨g, s.free.length - 1, none⟩ = some (.int .i64 (f : Int))) := by
    rcases Nat.eq_zero_or_pos s.free.length with h0 | h0
    · refine .inl ⟨h0, ?_⟩
      rw [hf2]
      unfold RSt.first
      rw [List.eq_nil_of_length_eq_zero h0]
      rfl
    · have hl : s.free.length - 1 < (natV s.free).length := by unfold natV; rw [List.length_map]; omega
      obtain ⟨g, h1, h2, h3, -⟩ := hfc _ hl
      refine .inr ⟨h0, g, h1, (h.f.lt g h2).2, ?_⟩
      rw [h3, hf2]
      unfold RSt.first
      rw [List.getLast?_eq_getElem?, List.getElem?_eq_getElem (by omega)]
      simp [natV]
  rw [← hu2] at hu
  rw [← hr2] at hr
  rw [← hu2, ← hf2, ← hr2]
  obtain ⟨fn, hfn⟩ : ∃ fn, fn = s.free.length := ⟨_, rfl⟩
  have hfm := row_max h.f
  unfold maxLen at hfm
  rw [← hfn] at FST hfm ⊢
  have H1 := Lib.hid (fun w => show Calls Tryz.prog 96 #[.int .u64 (u : Int), .int .i64 4] w fun e w' => e = .returned (.string ⟨(putL u 4).toArray⟩) ∧ Below w.heap.size w w' from rput_any u 4 w (by omega) (by omega))
  have H2 := Lib.hid (fun w => show Calls Tryz.prog 96 #[.int .u64 (f : Int), .int .i64 4] w fun e w' => e = .returned (.string ⟨(putL f 4).toArray⟩) ∧ Below w.heap.size w w' from rput_any f 4 w (by omega) (by omega))
  have H3 := Lib.hid (fun k (hk : k < 8) w => show Calls Tryz.prog 96 #[.int .u64 (r k : Int), .int .i64 8] w fun e w' => e = .returned (.string ⟨(putL (r k) 8).toArray⟩) ∧ Below w.heap.size w w' from rput_any (r k) 8 w (by have := hr k hk; omega) (by omega))
  have HF := Lib.hid (fun w => show Calls Tryz.prog 94 #[.string (tx u f r 8), .int .i64 496] w fun e w' => e = .returned (.string (hroom u f r)) ∧ Below w.heap.size w w' from fill_any (tx u f r 8) 496 w (by rw [tx_size]; omega) (by omega))
  have T0 := tx_zero u f r
  have TS := Lib.hid (tx_succ u f r)
  have TZ := Lib.hid (tx_size u f r)
  obtain ⟨A, hA, hAz⟩ : ∃ A : ByteArray, A = ⟨(putL u 4).toArray⟩ ∧ A.size = 4 := ⟨_, rfl, by rw [put_text_size, putL_len]⟩
  obtain ⟨C, hC_, hCz⟩ : ∃ C : ByteArray, C = ⟨(putL f 4).toArray⟩ ∧ C.size = 4 := ⟨_, rfl, by rw [put_text_size, putL_len]⟩
  rw [← hA] at H1
  rw [← hC_] at H2
  rw [← hA, ← hC_] at T0
  replace T0 := Lib.hid T0
  obtain ⟨X, hX⟩ : ∃ X : Nat → ByteArray, X = tx u f r := ⟨_, rfl⟩
  rw [← hX] at T0 TS TZ HF
  have w1 : IntKind.u64.wrap (u : Int) = u := by rw [IntKind.wrap_u64]; omega
  have w2 : IntKind.u64.wrap (f : Int) = f := by rw [IntKind.wrap_u64]; omega
  have hac : ¬ 9223372036854775807 < A.size + C.size := by omega
  obtain ⟨HR, hHR⟩ : ∃ HR, HR = hroom u f r := ⟨_, rfl⟩
  rw [← hHR] at HF ⊢
  have HC := Lib.hid (fun k (hk : k < 8) => stC_at (.slice ka u kc) vr (.slice fa fn fc) r hk)
  have O := Own.made w 38 (stC (.slice ka u kc) vr (.slice fa fn fc) r)
  have B0 := box_one w 38 (stC (.slice ka u kc) vr (.slice fa fn fc) r)
  clear hA hC_ hX hHR hu hr hu2 hf2 hr2 hfc hf h hfl hfn
  unfold stC
  clear O B0 HC
  rcases FST with ⟨rfl, rfl⟩ | ⟨h0, g, rfl, hg, hcell⟩
  · have H2 : Hid (∀ w : World, Calls Tryz.prog 96 #[.int .u64 0, .int .i64 4] w fun e w' => e = .returned (.string C) ∧ Below w.heap.size w w') := Lib.hid H2.out
    have w3 : IntKind.u64.wrap 0 = 0 := by decide
    go_enter Tryz.func91, Tryz.ntmps91
    go_upto_region 4 with fail
    have O := Own.made w 38 (stC (.slice ka u kc) vr (.slice fa 0 fc) r)
    have B0 := box_one w 38 (stC (.slice ka u kc) vr (.slice fa 0 fc) r)
    unfold stC at O B0
    go_name_world W0 hW0
    rw [hW0] at O B0
    clear hW0
    have z0 := O.in_
    have O0 := Lib.hid O
    have BB := Lib.hid B0
    obtain ⟨q1, q2, q3⟩ := O.at_
    clear O B0
    go_upto_region 6 with (go_at_call 96; first | (with_reducible refine (H1.out _).mono ?_; rintro e w3 ⟨rfl, hb3⟩; have B3 := Lib.hid (then_ BB.out hb3 BB.out.size); have O3 := Lib.hid (O0.out.keep hb3); clear hb3) | (with_reducible refine (H2.out _).mono ?_; rintro e w4 ⟨rfl, hb4⟩; have B4 := Lib.hid (then_ B3.out hb4 B3.out.size); have O4 := Lib.hid (O3.out.keep hb4); clear hb4))
    rw [T0.out]
    clear q1 q2 q3 hac H1 H2 O0 O3 B3 BB hAz hCz
    go_loopw [4, 5] (fun t i wr => ∃ k : Nat, k ≤ 8 ∧ i = .int .i64 (k : Int) ∧ t = .string (X k) ∧ Own wr w.heap.size 38 (stC (.slice ka u kc) vr (.slice fa 0 fc) r) ∧ Below w.heap.size w wr) (fun t i wr => 8 - (intOf i).toNat)
    case atStart => exact ⟨0, by omega, rfl, rfl, O4.out, B4.out⟩
    case round =>
      obtain ⟨k, hk, rfl, rfl, hP, hB⟩ := hrel
      by_cases hlt : k < 8
      · have R3 := Lib.hid (H3.out k hlt)
        have hx : wr.cell? ⟨w.heap.size, 3 + k, none⟩ = some (.int .u64 (r k : Int)) := by rw [hP.at_.1, stC_at _ _ _ _ hlt]
        have h8 : ((⟨(putL (r k) 8).toArray⟩ : ByteArray)).size = 8 := by rw [put_text_size, putL_len]
        have hXk := TZ.out k
        have TSk := Lib.hid (TS.out k)
        obtain ⟨Y, hY⟩ : ∃ Y, Y = (⟨(putL (r k) 8).toArray⟩ : ByteArray) := ⟨_, rfl⟩
        rw [← hY] at h8 R3 TSk
        clear hY
        have hl : (X k).size + Y.size ≤ 9223372036854775807 := by omega
        replace hP := Lib.hid hP
        replace hB := Lib.hid hB
        go_wp2_with (go_at_call 96; with_reducible refine (R3.out _).mono ?_; rintro e w5 ⟨rfl, hb5⟩; have P5 := Lib.hid (hP.out.keep hb5); have B5 := Lib.hid (then_ hB.out hb5 hB.out.size); clear hb5)
        go_roundw
        case rel => exact ⟨k + 1, by omega, by go_num, by rw [TSk.out], P5.out, B5.out⟩
        case measure => simp [intOf]; omega
      · obtain rfl : k = 8 := by omega
        replace hB := Lib.hid hB
        clear hP
        go_wp2_with (go_at_call 94; refine (HF.out _).mono ?_; rintro e w5 ⟨rfl, hb5⟩; have B5 := Lib.hid (then_ hB.out hb5 hB.out.size); clear hb5)
        go_ret
        exact ⟨rfl, B5.out⟩
  · have hnz : (0 : Int) < (fn : Int) := by omega
    have e1 : IntKind.i64.wrap ((fn : Int) - 1) = ((fn - 1 : Nat) : Int) := by rw [IntKind.wrap_i64]; omega
    go_enter Tryz.func91, Tryz.ntmps91
    go_upto_region 4 with fail
    clear hcell
    have O := Own.made w 38 (stC (.slice ka u kc) vr (.slice (some ⟨g, 0, none⟩) fn fc) r)
    have B0 := box_one w 38 (stC (.slice ka u kc) vr (.slice (some ⟨g, 0, none⟩) fn fc) r)
    unfold stC at O B0
    go_name_world W0 hW0
    rw [hW0] at O B0
    clear hW0
    have z0 := O.in_
    have O0 := Lib.hid O
    have BB := Lib.hid B0
    obtain ⟨q1, q2, q3⟩ := O.at_
    clear O B0
    go_upto_region 6 with (go_at_call 96; first | (with_reducible refine (H1.out _).mono ?_; rintro e w3 ⟨rfl, hb3⟩; have B3 := Lib.hid (then_ BB.out hb3 BB.out.size); have O3 := Lib.hid (O0.out.keep hb3); clear hb3) | (with_reducible refine (H2.out _).mono ?_; rintro e w4 ⟨rfl, hb4⟩; have B4 := Lib.hid (then_ B3.out hb4 B3.out.size); have O4 := Lib.hid (O3.out.keep hb4); clear hb4))
    rw [T0.out]
    clear q1 q2 q3 hac H1 H2 O0 O3 B3 BB hAz hCz
    go_loopw [4, 5] (fun t i wr => ∃ k : Nat, k ≤ 8 ∧ i = .int .i64 (k : Int) ∧ t = .string (X k) ∧ Own wr w.heap.size 38 (stC (.slice ka u kc) vr (.slice (some ⟨g, 0, none⟩) fn fc) r) ∧ Below w.heap.size w wr) (fun t i wr => 8 - (intOf i).toNat)
    case atStart => exact ⟨0, by omega, rfl, rfl, O4.out, B4.out⟩
    case round =>
      obtain ⟨k, hk, rfl, rfl, hP, hB⟩ := hrel
      by_cases hlt : k < 8
      · have R3 := Lib.hid (H3.out k hlt)
        have hx : wr.cell? ⟨w.heap.size, 3 + k, none⟩ = some (.int .u64 (r k : Int)) := by rw [hP.at_.1, stC_at _ _ _ _ hlt]
        have h8 : ((⟨(putL (r k) 8).toArray⟩ : ByteArray)).size = 8 := by rw [put_text_size, putL_len]
        have hXk := TZ.out k
        have TSk := Lib.hid (TS.out k)
        obtain ⟨Y, hY⟩ : ∃ Y, Y = (⟨(putL (r k) 8).toArray⟩ : ByteArray) := ⟨_, rfl⟩
        rw [← hY] at h8 R3 TSk
        clear hY
        have hl : (X k).size + Y.size ≤ 9223372036854775807 := by omega
        replace hP := Lib.hid hP
        replace hB := Lib.hid hB
        go_wp2_with (go_at_call 96; with_reducible refine (R3.out _).mono ?_; rintro e w5 ⟨rfl, hb5⟩; have P5 := Lib.hid (hP.out.keep hb5); have B5 := Lib.hid (then_ hB.out hb5 hB.out.size); clear hb5)
        go_roundw
        case rel => exact ⟨k + 1, by omega, by go_num, by rw [TSk.out], P5.out, B5.out⟩
        case measure => simp [intOf]; omega
      · obtain rfl : k = 8 := by omega
        replace hB := Lib.hid hB
        clear hP
        go_wp2_with (go_at_call 94; refine (HF.out _).mono ?_; rintro e w5 ⟨rfl, hb5⟩; have B5 := Lib.hid (then_ hB.out hb5 hB.out.size); clear hb5)
        go_ret
        exact ⟨rfl, B5.out⟩
end
end Go.Proofs.YtndhmidgnpobjaaGreatDoor
end
