
/- The contracts of a pager's Alloc. Conditions: those that each theorem names. -/
import Derived.Test.YtgfccjijbhoefaaGreatDoorPgrZ
namespace Go.Proofs.YtgfccjijbhoefaaGreatDoor
open Go.ChangeShapes Go.WideShapes Go.ChangeAt Go.RowKit
set_option linter.unusedVariables false
set_option linter.unusedSimpArgs false

theorem put_hd {P : PS} (h : P.Ok) (u f : Nat) (r : Nat → Nat) (L : List (Nat × Pag)) (hL : ∀ q ∈ L, q.1 ≠ 0) : (P.put ((0, (1, hroom u f r)) :: L)).view 0 = ((1, hroom u f r), 0) := by
  have e : fl (hroom u f r) = hroom u f r := fl_full _ (hroom_size u f r)
  have key : ∀ (L T : List (Nat × Pag)), asc T → (∀ q ∈ L, q.1 ≠ 0) → lk T 0 = some (1, hroom u f r) → lk (insAll T (L.map wh)) 0 = some (1, hroom u f r) := by
    intro L
    induction L with
    | nil => intro T _ _ h; exact h
    | cons q L ih =>
      intro T hT hq h
      refine ih _ (asc_ins _ _ hT) (fun q' h' => hq q' (by simp [h'])) ?_
      rw [lk_ins _ _ _ _ hT, if_neg (show ¬ (wh q).1 = 0 from hq q (by simp))]
      exact h
  have h1 := key L (ins 0 (1, fl (hroom u f r)) P.T) (asc_ins _ _ h.T.1) hL (by rw [lk_ins _ _ _ _ h.T.1, if_pos rfl, e])
  unfold PS.view
  show (match lk (insAll (ins 0 (1, fl (hroom u f r)) P.T) (L.map wh)) 0 with | some x => (x, 0) | none => P.base 0) = _
  rw [h1]
theorem PS.root_lt (P : PS) (i : Nat) : P.root i < 18446744073709551616 := rdR_lt _ i
theorem put_hd_ok {P : PS} (h : P.Ok) {u f : Nat} (h1 : 1 ≤ u) (h2 : u ≤ P.most) (h3 : f < u) (r : Nat → Nat) (hr : ∀ i, i < 8 → r i < 18446744073709551616) (L : List (Nat × Pag)) (hL : ∀ q ∈ L, q.1 ≠ 0) :
    IsHd P.most ((P.put ((0, (1, hroom u f r)) :: L)).view 0).1 ∧ ((P.put ((0, (1, hroom u f r)) :: L)).view 0).2 = 0 := by
  rw [put_hd h u f r L hL]
  have := h.most
  exact ⟨IsHd.mk' h1 h2 h3 (by omega) hr, rfl⟩
/-- what is taken -/
theorem PS.tk_ok {P : PS} (h : P.Ok) (h0 : P.tk.2.1 = 0) : 1 ≤ P.tk.1 ∧ P.tk.1 < P.most ∧ 1 ≤ P.tk.2.2.1 ∧ P.tk.2.2.1 ≤ P.most ∧ P.tk.2.2.2 < P.tk.2.2.1 := by
  have hu := h.used
  unfold PS.tk at h0 ⊢
  by_cases hf : P.free = 0
  · rw [if_pos hf] at h0 ⊢
    by_cases hm : P.most ≤ P.used
    · rw [if_pos hm] at h0; simp at h0
    · rw [if_neg hm]; simp only; omega
  · rw [if_neg hf] at h0 ⊢
    by_cases hv : (P.view P.free).2 = 0
    · rw [if_pos hv] at h0 ⊢
      cases hn : nxt P.used (P.view P.free).1 with
      | none => rw [hn] at h0; simp at h0
      | some n =>
        simp only
        have : n < P.used := by
          unfold nxt at hn
          split at hn
          · rename_i c; injection hn with hn; omega
          · cases hn
        omega
    · rw [if_neg hv] at h0
      simp only at h0
      omega
section
variable {w w' w2 w3 : World} {B Bp d p c : Nat} {P P' : PS}
/-- a block of one's own was written into -/
theorem Ask.thenQ {c1 c2 q : Nat} (h : Ask w w2 B Bp d p c1 P) (k : AskQ w2 w3 B Bp d p c2 q P') (hq : w.heap.size ≤ q) : Ask w w3 B Bp d p c2 P' := ⟨k.1, h.2.trans k.2 fun b hb hf => by
  rcases hf with e | hf
  · omega
  · by_cases c : Po.PT w Bp b
    · exact c
    · exact pt_congr (h.2.block b hb c) hf⟩
theorem alloc_nil (k : Int) (w : World) : Calls Tryz.prog 14 #[.pointer none, .int .i64 k] w fun e w' => e = .returned (.tuple #[.int .i64 0, .int .i64 1]) ∧ w = w' := by
  go_enter Tryz.func14, Tryz.ntmps14
  go_wp2
  go_ret2
  exact ⟨rfl, rfl⟩
end
/-- Alloc, as the document says it -/
def PS.kd (k : Int) : Bool := decide (2 ≤ k) && decide (k ≤ 254)
def PS.alL (P : PS) (k : Int) : List (Nat × Pag) := [(0, (1, hroom P.tk.2.2.1 P.tk.2.2.2 P.root)), (P.tk.1, (k.toNat, ⟨#[]⟩))]
def PS.alE (P : PS) (k : Int) : Int := if PS.kd k then if P.s.down then 11 else if P.tk.2.1 = 0 then P.chgE (P.alL k) else P.tk.2.1 else 1
def PS.alN (P : PS) (k : Int) : Nat := if P.alE k = 0 then P.tk.1 else 0
def PS.al (P : PS) (k : Int) : PS := if PS.kd k then if P.s.down then P else if P.tk.2.1 = 0 then P.chg (P.alL k) else P else P
section
variable {w w' w2 w3 : World} {B Bp d p c : Nat} {P P' : PS}
theorem alloc_kind (h : PagerAt w B Bp d p c P) (k : Int) (hk : PS.kd k = false) : Calls Tryz.prog 14 #[.pointer (some ⟨p, 0, none⟩), .int .i64 k] w fun e w' => e = .returned (.tuple #[.int .i64 0, .int .i64 1]) ∧ w = w' := by
  have HK := Lib.hid (fun W => kind_any k W)
  have e : (decide (2 ≤ k) && decide (k ≤ 254)) = false := hk
  rw [e] at HK
  clear e hk h
  go_enter Tryz.func14, Tryz.ntmps14
  go_wp2_with (go_at_call 60; refine (HK.out _).mono ?_; rintro e w3 ⟨rfl, rfl⟩)
  go_ret2
  exact ⟨rfl, rfl⟩
theorem alloc_down (h : PagerAt w B Bp d p c P) (k : Int) (hk : PS.kd k = true) (hd : P.s.down = true) : Calls Tryz.prog 14 #[.pointer (some ⟨p, 0, none⟩), .int .i64 k] w fun e w' => e = .returned (.tuple #[.int .i64 0, .int .i64 11]) ∧ w = w' := by
  have HK := Lib.hid (fun W => kind_any k W)
  have e : (decide (2 ≤ k) && decide (k ≤ 254)) = true := hk
  rw [e] at HK
  have HD := Lib.hid (pdown_any h)
  rw [hd] at HD
  obtain ⟨lg, lm, pl, ho⟩ := h.cells
  obtain ⟨q1, q2, q3⟩ := ho.at_
  clear e hk h hd ho
  go_enter Tryz.func14, Tryz.ntmps14
  go_wp2_with (first | (go_at_call 60; refine (HK.out _).mono ?_; rintro e w3 ⟨rfl, rfl⟩) | (go_at_call 52; refine HD.out.mono ?_; rintro e w2 ⟨rfl, rfl⟩))
  go_ret2
  exact ⟨rfl, rfl⟩
set_option maxRecDepth 10000 in
set_option maxHeartbeats 1000000 in
theorem alloc_up (h : PagerAt w B Bp d p c P) (k : Int) (hk : PS.kd k = true) (hd : P.s.down = false) (hc : c + 6 < 1000000) : Calls Tryz.prog 14 #[.pointer (some ⟨p, 0, none⟩), .int .i64 k] w fun e w' => e = .returned (.tuple #[.int .i64 (P.alN k : Int), .int .i64 (P.alE k)]) ∧ Ask w w' B Bp d p (c + 6) (P.al k) := by
  have hok := h.ok
  have HK := Lib.hid (fun W => kind_any k W)
  have e : (decide (2 ≤ k) && decide (k ≤ 254)) = true := hk
  rw [e] at HK
  have hk2 : 2 ≤ k ∧ k ≤ 254 := by simpa using e
  have HD := Lib.hid (pdown_any h)
  rw [hd] at HD
  have HH := phead_any h hd (by omega)
  unfold hV hC at HH
  replace HH := Lib.hid HH
  obtain ⟨tn, te, tu, tf, htk⟩ : ∃ a b c d, P.tk = (a, b, c, d) := by
    rcases P.tk with ⟨a, b, c, d⟩
    exact ⟨a, b, c, d, rfl⟩
  have TKO := fun h0 => PS.tk_ok hok h0
  obtain ⟨r, hr⟩ : ∃ r, r = P.root := ⟨_, rfl⟩
  have hrl : ∀ i, r i < 18446744073709551616 := fun i => by rw [hr]; exact P.root_lt i
  have AL : P.alL k = [(0, (1, hroom tu tf r)), (tn, (k.toNat, ⟨#[]⟩))] := by unfold PS.alL; rw [htk, ← hr]
  have EE : P.alE k = (if P.tk.2.1 = 0 then P.chgE (P.alL k) else P.tk.2.1) ∧ P.al k = if P.tk.2.1 = 0 then P.chg (P.alL k) else P := by unfold PS.alE PS.al; simp only [hk, hd, if_true, Bool.false_eq_true, if_false]; exact ⟨trivial, trivial⟩
  have EN : P.alN k = if P.alE k = 0 then P.tk.1 else 0 := rfl
  have TK : ∀ W, PagerAt W B Bp d p (c + 2) P → Calls Tryz.prog 62 #[.pointer (some ⟨p, 0, none⟩), .pointer (some ⟨W.heap.size, 0, none⟩)] (W.alloc (.cells (hC P.used P.free P.root) 89)) fun e w' => e = .returned (.tuple #[.int .i64 (P.tk.1 : Int), .int .i64 P.tk.2.1]) ∧ Own w' W.heap.size 89 (hC P.tk.2.2.1 P.tk.2.2.2 P.root) ∧ AskQ (W.alloc (.cells (hC P.used P.free P.root) 89)) w' B Bp d p (c + 4) W.heap.size P := fun W hW => ptake_any (hW.below (box_one W _ _)) hd (by omega) W.heap.size (Own.made W _ _)
  rw [htk] at EE EN TK TKO
  rw [AL] at EE
  simp only at EE EN TK TKO
  replace EE := Lib.hid EE
  replace EN := Lib.hid EN
  replace TK := Lib.hid TK
  have CH := fun (h0 : te = 0) W (hW : PagerAt W B Bp d p (c + 4) P) => change_any (hW.below (box_one W 87 #[.int .i64 0, .int .i64 1, .string (hroom tu tf r), .int .i64 (tn : Int), .int .i64 k, .string ⟨#[]⟩])) [(0, (1, hroom tu tf r)), (tn, (k.toNat, ⟨#[]⟩))] (by simp) (fun q hq => by
    obtain ⟨a1, a2, a3, a4, a5⟩ := TKO h0
    simp only [List.mem_cons, List.not_mem_nil, or_false] at hq
    rcases hq with rfl | rfl
    · exact ⟨by have := hok.most; simp only; omega, by simp, by simp, by simp only; rw [hroom_size]; omega⟩
    · exact ⟨a2, by simp only; omega, by simp only; omega, Nat.zero_le _⟩) (by omega) (by
    obtain ⟨a1, a2, a3, a4, a5⟩ := TKO h0
    exact put_hd_ok hok a3 a4 a5 r (fun i _ => hrl i) _ (fun q hq => by simp only [List.mem_singleton] at hq; subst hq; simp only; omega)) W.heap.size _ (Own.made W _ _) (fun i q hq => by
    have ek : ((k.toNat : Nat) : Int) = k := Int.toNat_of_nonneg (by omega)
    rcases i with _ | _ | i
    · simp only [List.getElem?_cons_zero, Option.some.injEq] at hq
      subst hq
      simp
    · simp only [List.getElem?_cons_succ, List.getElem?_cons_zero, Option.some.injEq] at hq
      subst hq
      simp [ek]
    · simp at hq)
  have HS : ∀ h0 : te = 0, ∀ W, Calls Tryz.prog 49 #[hV tu tf r] W fun e w' => e = .returned (shV 0 (1, hroom tu tf r)) ∧ Below W.heap.size W w' := fun h0 W => by
    obtain ⟨a1, a2, a3, a4, a5⟩ := TKO h0
    have := hok.most
    exact hsheet_any _ _ _ W (by omega) (by omega) fun i _ => hrl i
  obtain ⟨lg, lm, pl, ho⟩ := h.cells
  obtain ⟨q1, q2, q3⟩ := ho.at_
  obtain ⟨u, hu⟩ : ∃ u, u = P.used := ⟨_, rfl⟩
  obtain ⟨f, hf⟩ : ∃ f, f = P.free := ⟨_, rfl⟩
  rw [← hu, ← hf, ← hr] at HH TK
  unfold hV hC at HS
  unfold hC at TK
  clear h hk hd e ho hu hf hr htk hok TKO AL hrl
  by_cases h0 : te = 0
  · subst h0
    replace CH := CH rfl
    replace HS : ∀ W, Calls Tryz.prog 49 #[.agg #[.int .i64 (tu : Int), .int .i64 (tf : Int), .int .u64 (r 0 : Int), .int .u64 (r 1 : Int), .int .u64 (r 2 : Int), .int .u64 (r 3 : Int), .int .u64 (r 4 : Int), .int .u64 (r 5 : Int), .int .u64 (r 6 : Int), .int .u64 (r 7 : Int)]] W fun e w' => e = .returned (.agg #[.int .i64 0, .int .i64 1, .string (hroom tu tf r)]) ∧ Below W.heap.size W w' := HS rfl
    replace HS := Lib.hid HS
    rw [if_pos rfl, if_pos rfl] at EE
    rw [show ([(0, (1, hroom tu tf r)), (tn, (k.toNat, (⟨#[]⟩ : ByteArray)))] : List (Nat × Pag)).length = 2 from rfl] at CH
    have ce := P.chgE [(0, (1, hroom tu tf r)), (tn, (k.toNat, (⟨#[]⟩ : ByteArray)))]
    have HCE : P.chgE [(0, (1, hroom tu tf r)), (tn, (k.toNat, (⟨#[]⟩ : ByteArray)))] = 0 ∨ P.chgE [(0, (1, hroom tu tf r)), (tn, (k.toNat, (⟨#[]⟩ : ByteArray)))] = 10 := by
      unfold PS.chgE
      split
      · exact .inl rfl
      · exact .inr rfl
    obtain ⟨P', hP'⟩ : ∃ P', P' = P.chg [(0, (1, hroom tu tf r)), (tn, (k.toNat, (⟨#[]⟩ : ByteArray)))] := ⟨_, rfl⟩
    obtain ⟨y, hy⟩ : ∃ y, y = P.chgE [(0, (1, hroom tu tf r)), (tn, (k.toNat, (⟨#[]⟩ : ByteArray)))] := ⟨_, rfl⟩
    rw [← hP', ← hy] at EE CH
    rw [← hy] at HCE
    replace CH := Lib.hid CH
    clear hk2 hP' hy ce
    obtain ⟨hr, hhr⟩ : ∃ s, s = hroom tu tf r := ⟨_, rfl⟩
    rw [← hhr] at CH HS
    clear hhr
    rcases HCE with rfl | rfl
    · have E2 : Hid (P.alN k = tn) := Lib.hid (by rw [EN.out, EE.out.1, if_pos rfl])
      go_enter Tryz.func14, Tryz.ntmps14
      go_wp2_with (first | (go_at_call 60; refine (HK.out _).mono ?_; rintro e w3 ⟨rfl, rfl⟩) | (go_at_call 52; refine HD.out.mono ?_; rintro e w2 ⟨rfl, rfl⟩) | (go_at_call 61; refine HH.out.mono ?_; rintro e w2 ⟨rfl, hA⟩; have A2 := Lib.hid hA; clear hA) | (go_at_call 62; refine (TK.out _ A2.out.1).mono ?_; rintro e w4 ⟨rfl, hq4, hA4⟩; have hA5 : Ask w w4 B Bp d p (c + 4) P := (A2.out.below (box_one w2 _ _)).thenQ hA4 A2.out.2.size; have A4 := Lib.hid hA5; clear hA4 hA5; obtain ⟨s1, s2, s3⟩ := hq4.at_; clear hq4) | (go_at_call 49; refine (HS.out _).mono ?_; rintro e w5 ⟨rfl, hb5⟩; have A5 := Lib.hid (A4.out.below hb5); clear hb5) | (go_at_call 63; refine (CH.out _ A5.out.1).mono ?_; rintro e w6 ⟨rfl, hA6⟩; have hA7 : Ask w w6 B Bp d p (c + 6) P' := A5.out.then2 (Ask.from_ (box_one w5 _ _) hA6); have A6 := Lib.hid hA7; clear hA6 hA7))
      go_ret2
      rw [EE.out.1, EE.out.2, E2.out]
      exact ⟨rfl, A6.out⟩
    · have E2 : Hid (P.alN k = 0) := Lib.hid (by rw [EN.out, EE.out.1, if_neg (by decide)])
      go_enter Tryz.func14, Tryz.ntmps14
      go_wp2_with (first | (go_at_call 60; refine (HK.out _).mono ?_; rintro e w3 ⟨rfl, rfl⟩) | (go_at_call 52; refine HD.out.mono ?_; rintro e w2 ⟨rfl, rfl⟩) | (go_at_call 61; refine HH.out.mono ?_; rintro e w2 ⟨rfl, hA⟩; have A2 := Lib.hid hA; clear hA) | (go_at_call 62; refine (TK.out _ A2.out.1).mono ?_; rintro e w4 ⟨rfl, hq4, hA4⟩; have hA5 : Ask w w4 B Bp d p (c + 4) P := (A2.out.below (box_one w2 _ _)).thenQ hA4 A2.out.2.size; have A4 := Lib.hid hA5; clear hA4 hA5; obtain ⟨s1, s2, s3⟩ := hq4.at_; clear hq4) | (go_at_call 49; refine (HS.out _).mono ?_; rintro e w5 ⟨rfl, hb5⟩; have A5 := Lib.hid (A4.out.below hb5); clear hb5) | (go_at_call 63; refine (CH.out _ A5.out.1).mono ?_; rintro e w6 ⟨rfl, hA6⟩; have hA7 : Ask w w6 B Bp d p (c + 6) P' := A5.out.then2 (Ask.from_ (box_one w5 _ _) hA6); have A6 := Lib.hid hA7; clear hA6 hA7))
      go_ret2
      rw [EE.out.1, EE.out.2, E2.out]
      exact ⟨rfl, A6.out⟩
  · rw [if_neg h0, if_neg h0] at EE
    have h1 : (te != 0) = true := by rw [bne_iff_ne]; exact h0
    have E2 : Hid (P.alN k = 0) := Lib.hid (by rw [EN.out, EE.out.1, if_neg h0])
    clear CH HS hk2
    go_enter Tryz.func14, Tryz.ntmps14
    go_wp2_with (first | (go_at_call 60; refine (HK.out _).mono ?_; rintro e w3 ⟨rfl, rfl⟩) | (go_at_call 52; refine HD.out.mono ?_; rintro e w2 ⟨rfl, rfl⟩) | (go_at_call 61; refine HH.out.mono ?_; rintro e w2 ⟨rfl, hA⟩; have A2 := Lib.hid hA; clear hA) | (go_at_call 62; refine (TK.out _ A2.out.1).mono ?_; rintro e w4 ⟨rfl, hq4, hA4⟩; have A4 := Lib.hid hA4; clear hA4))
    go_ret2
    rw [EE.out.1, EE.out.2, E2.out]
    exact ⟨rfl, ((A2.out.below (box_one w2 _ _)).thenQ A4.out A2.out.2.size).more (by omega)⟩
theorem alloc_any' (h : PagerAt w B Bp d p c P) (k : Int) (hc : c + 6 < 1000000) : Calls Tryz.prog 14 #[.pointer (some ⟨p, 0, none⟩), .int .i64 k] w fun e w' => e = .returned (.tuple #[.int .i64 (P.alN k : Int), .int .i64 (P.alE k)]) ∧ Ask w w' B Bp d p (c + 6) (P.al k) := by
  cases hk : PS.kd k with
  | false =>
    have e1 : P.alE k = 1 := by unfold PS.alE; simp only [hk, Bool.false_eq_true, if_false]
    have e2 : P.al k = P := by unfold PS.al; simp only [hk, Bool.false_eq_true, if_false]
    have e3 : P.alN k = 0 := by unfold PS.alN; rw [e1, if_neg (by decide)]
    rw [e1, e2, e3]
    refine (alloc_kind h k hk).mono ?_
    rintro e w' ⟨rfl, rfl⟩
    exact ⟨rfl, (Ask.same h).more (by omega)⟩
  | true =>
    cases hd : P.s.down with
    | true =>
      have e1 : P.alE k = 11 := by unfold PS.alE; simp only [hk, hd, if_true]
      have e2 : P.al k = P := by unfold PS.al; simp only [hk, hd, if_true]
      have e3 : P.alN k = 0 := by unfold PS.alN; rw [e1, if_neg (by decide)]
      rw [e1, e2, e3]
      refine (alloc_down h k hk hd).mono ?_
      rintro e w' ⟨rfl, rfl⟩
      exact ⟨rfl, (Ask.same h).more (by omega)⟩
    | false => exact alloc_up h k hk hd hc
end
end Go.Proofs.YtgfccjijbhoefaaGreatDoor
