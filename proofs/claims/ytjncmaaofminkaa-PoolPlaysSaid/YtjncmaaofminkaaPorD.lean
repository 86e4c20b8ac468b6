
/- The contract of the document's Put. Conditions: those that each theorem names. -/
import Derived.Test.YtjncmaaofminkaaPorC
namespace Go.Proofs.Ytjncmaaofminkaa
open Go.ChangeShapes Go.WideShapes Go.ChangeAt Go.RowKit
set_option linter.unusedVariables false
set_option linter.unusedSimpArgs false

/-- the first of those from k on that may go -/
def ff (R : List RF) (k : Nat) : Int := match (R.drop k).findIdx? free with
  | none => -1
  | some j => ((k + j : Nat) : Int)
theorem ff_end (R : List RF) : ff R R.length = -1 := by unfold ff; simp
theorem ff_yes (R : List RF) (k : Nat) (hk : k < R.length) (h : free (R[k]'hk) = true) : ff R k = (k : Int) := by
  unfold ff
  rw [List.drop_eq_getElem_cons hk, List.findIdx?_cons, h]
  simp
theorem ff_no (R : List RF) (k : Nat) (hk : k < R.length) (h : free (R[k]'hk) = false) : ff R k = ff R (k + 1) := by
  unfold ff
  rw [List.drop_eq_getElem_cons hk, List.findIdx?_cons, h]
  cases (R.drop (k + 1)).findIdx? free with
  | none => rfl
  | some j => simp; omega
theorem ff_none {R : List RF} (h : victim R = none) : ff R 0 = -1 := by
  unfold ff
  rw [List.drop_zero, List.findIdx?_eq_none_iff.2 (victim_none h)]
theorem ff_some {S T : List RF} {x : RF} (h : free x = true) (hS : ∀ y ∈ S, free y = false) : ff (S ++ x :: T) 0 = (S.length : Int) := by
  unfold ff
  rw [List.drop_zero]
  have : (S ++ x :: T).findIdx? free = some S.length := by
    rw [List.findIdx?_eq_some_iff_getElem]
    refine ⟨by simp, by simpa using h, fun j hj => ?_⟩
    have h1 : (S ++ x :: T)[j]'(by simp; omega) = S[j]'hj := by rw [List.getElem_append_left]
    rw [h1, hS _ (List.getElem_mem hj)]
    simp
  rw [this]
  simp
section
variable {w w' W w5 : World} {B p n c : Nat} {v v1 v' : Value} {R R1 R2 S T : List RF} {f : RF}
/-- one more frame behind all -/
theorem Left.push {o : Obj} (hr : RefAt W B p n v1 R1) (hc : Chg (fref p v) w W) (hv : ∀ g, v1.ownBlock = some g → v.ownBlock = some g ∨ w.heap.size ≤ g) (hgrow : (W.alloc o).grownBy w5 v1.ownBlock)
    (hown : w5.ownsRow B 60 4 v' (R1.length + 1) (fcs R1 ++ fc f)) (hloc : v'.ownBlock = v1.ownBlock ∨ v'.ownBlock = some (W.heap.size + 1)) :
    Left w (w5.setCell ⟨p, 1, none⟩ v') B p n v (R1 ++ [f]) ∧ Own w5 p 39 #[.int .i64 (n : Int), v1] := by
  have g5 : Chg (fun q => v1.ownBlock = some q) W w5 := ((Chg.refl _ W).alloc _).grown hgrow fun q e => .inl e
  have p5 : Own w5 p 39 #[.int .i64 (n : Int), v1] := g5.own hr.own fun e => hr.ne e rfl
  refine ⟨⟨v', RefAt.pushed p5 hr.base hown, ?_, fun g hg => ?_⟩, p5⟩
  · have a1 : Chg (fun q => v1.ownBlock = some q ∨ q = p) W (w5.setCell ⟨p, 1, none⟩ v') := (g5.mono fun q _ e => .inl e).same ((chg_at w5 p 1 _).mono fun q _ e => .inr e)
    refine hc.trans a1 fun q hq e => ?_
    rcases e with e | e
    · rcases hv q e with h | h
      · exact .inr h
      · omega
    · exact .inl e
  · rcases hloc with h | h
    · exact hv g (by rw [← h]; exact hg)
    · right
      have h2 : W.heap.size + 1 = g := by rw [h] at hg; injection hg
      have := hc.size
      omega
set_option maxRecDepth 10000 in
set_option maxHeartbeats 1000000 in
theorem rput_any (h : RefAt w B p n v R) (hR : (R.map (·.no)).Nodup) (hl : R.length ≤ 100000) (hn : n ≤ 65536) (no : Int) (s : ByteArray) : Calls Try.prog 17 #[.pointer (some ⟨p, 0, none⟩), .int .i64 no, .string s] w fun e w' =>
    e = .returned (.int .i64 (putR R n no s).1) ∧ Left w w' B p n v (putR R n no s).2 := by
  have HF := rfind_any h no (by omega)
  have H := Lib.hid h
  cases hk : look R no with
  | some x =>
    have E := Lib.hid (show putR R n no s = (7, R) by unfold putR; rw [hk])
    obtain ⟨rfl, S, T, rfl⟩ := look_some hk
    rw [idx_mid hR] at HF
    replace HF := Lib.hid HF
    clear h hk hR hl
    go_enter Try.func17, Try.ntmps17
    go_wp2_with (go_at_call 30; refine HF.out.mono ?_; rintro e w' ⟨rfl, rfl⟩)
    go_ret
    rw [E.out]
    exact ⟨rfl, Left.same H.out⟩
  | none =>
    have E := Lib.hid (show putR R n no s = addR R n no s false by unfold putR; rw [hk])
    rw [idx_none fun x hx e => look_none hk (List.mem_map.2 ⟨x, hx, e⟩)] at HF
    replace HF := Lib.hid HF
    have hbw : B ≤ w.heap.size := by have := h.base; have := h.own.in_; omega
    have HRN := Lib.hid hR
    obtain ⟨a, cp, rfl, hc1, hc2, hcell⟩ := h.slice
    obtain ⟨N, hN⟩ : ∃ N, N = R.length := ⟨_, rfl⟩
    have HN := Lib.hid hN
    have HC := Lib.hid hcell
    have P0 : Own w p 39 #[.int .i64 (n : Int), .slice a N cp] := by rw [hN]; exact h.own
    have P0' := Lib.hid P0
    obtain ⟨o1, o2, o3⟩ := P0.at_
    rw [← hN] at hl hc1
    unfold maxLen at hc2
    have HBW := Lib.hid hbw
    clear h hk hR hN hcell P0 hbw
    by_cases hfull : N < n
    · have E2 := Lib.hid (show addR R n no s false = (0, R ++ [⟨no, s, false, 0⟩]) by unfold addR roomR; rw [if_pos (by rw [← HN.out]; exact hfull)])
      go_enter Try.func17, Try.ntmps17
      go_upto_region 3 with (go_at_call 30; refine HF.out.mono ?_; rintro e w' ⟨rfl, rfl⟩)
      go_quiet (fail)
      rename_i nq
      obtain ⟨W, hW⟩ : ∃ W, W = w.drewN nq := ⟨_, rfl⟩
      rw [← hW]
      have H2 : RefAt W B p n (.slice a R.length cp) R := hW ▸ H.out.keep ((Chg.refl (fun _ => False) w).drewN nq) fun _ _ => id
      have C2 : Chg (fref p (.slice a R.length cp)) w W := hW ▸ (Chg.refl _ w).drewN nq
      have Z2 : ∀ g, (Value.slice a R.length cp).ownBlock = some g → (Value.slice a R.length cp).ownBlock = some g ∨ w.heap.size ≤ g := fun g hg => .inl hg
      clear hW HC o1 o2 o3
      replace H2 := Lib.hid H2
      replace C2 := Lib.hid C2
      replace Z2 := Lib.hid Z2
      obtain ⟨len, hlen⟩ : ∃ len, len = N := ⟨_, rfl⟩
      subst hlen
      obtain ⟨va, hva⟩ : ∃ va, va = a := ⟨_, rfl⟩
      subst hva
      obtain ⟨vc, hvc⟩ : ∃ vc, vc = cp := ⟨_, rfl⟩
      subst hvc
      have HL := HN
      obtain ⟨i0, hi0, hz0', hzz1, hzz2⟩ := info_parts info_fr
      have hrow : W.ownsRow B 60 4 (.slice va len vc) len (fcs R) := by have := H2.out.row; rw [← HL.out] at this; exact this
      have P3 : Own W p 39 #[.int .i64 (n : Int), .slice va len vc] := by have := H2.out.own; rw [← HL.out] at this; exact this
      obtain ⟨u1, u2, u3⟩ := P3.at_
      have hbw2 : B ≤ W.heap.size := by have := HBW.out; have := C2.out.size; omega
      go_wp2_with (at_builtin; refine wpList_append_own_at _ rfl _ _ 37 rfl B 60 i0 (.agg #[.int .i64 0, .string ⟨#[]⟩, .bool false, .int .i64 0]) 4 40 Try.underlying37 hi0 hz0' hzz1 hzz2 rfl (by decide) (.slice va len vc) len (fcs R) rfl (hrow.alloc _) ⟨W.heap.size, 0, none⟩ 1 1 [.int .i64 no, .string s, .bool false, .int .i64 0] rfl rfl ?c1 ?c2 (by unfold maxLen; omega) (by omega) (by simp; omega) ?_)
      case c1 => intro j u hu; exact own_cells (Own.made W _ _) j (by simpa using hu)
      case c2 => exact fc_cells ⟨no, s, false, 0⟩
      intro v' w5 hown hgrow hnil hloc
      obtain ⟨xa, xc, rfl⟩ : ∃ xa xc, v' = .slice xa (len + 1) xc := by
        rcases hown.2 with ⟨rfl, h⟩ | ⟨g, cap, cur, rfl, _⟩
        · omega
        · exact ⟨_, _, rfl⟩
      obtain ⟨L5, p5⟩ := Left.push (f := ⟨no, s, false, 0⟩) (v1 := .slice va R.length vc) H2.out C2.out Z2.out (by rw [← HL.out]; exact hgrow) (by rw [← HL.out]; exact hown) (by rw [← HL.out]; exact hloc.imp id fun h => h.trans (by simp))
      rw [← HL.out] at p5
      obtain ⟨t1, t2, t3⟩ := p5.at_
      replace L5 := Lib.hid L5
      clear hown hgrow hnil hloc p5 hrow P3 u1 u2 u3
      go_wp2
      go_ret
      rw [E.out, E2.out]
      exact ⟨rfl, L5.out⟩
    · have hge : (n : Int) ≤ (N : Int) := by omega
      go_enter Try.func17, Try.ntmps17
      go_upto_region 3 with (go_at_call 30; refine HF.out.mono ?_; rintro e w' ⟨rfl, rfl⟩)
      go_quiet (fail)
      rename_i nq
      obtain ⟨W, hW⟩ : ∃ W, W = w.drewN nq := ⟨_, rfl⟩
      rw [← hW]
      have H2 : RefAt W B p n (.slice a R.length cp) R := hW ▸ H.out.keep ((Chg.refl (fun _ => False) w).drewN nq) fun _ _ => id
      have C2 : Chg (fun _ => False) w W := hW ▸ (Chg.refl (fun _ => False) w).drewN nq
      clear hW HC
      obtain ⟨_, _, e1, -, -, hcell⟩ := H2.slice
      obtain ⟨rfl, -, rfl⟩ := Value.slice.inj e1
      have HC := Lib.hid hcell
      have P2 : Own W p 39 #[.int .i64 (n : Int), .slice a N cp] := by rw [HN.out]; exact H2.own
      obtain ⟨o1, o2, o3⟩ := P2.at_
      replace H2 := Lib.hid H2
      clear e1 hcell P2
      have hst : ff R (((N : Int) - 1 + 1).toNat) = -1 := by
        have : ((N : Int) - 1 + 1).toNat = R.length := by have := HN.out; omega
        rw [this]; exact ff_end R
      have HST := Lib.hid hst
      clear hst
      go_wp2
      go_loop [7, 8] (fun at_ i => ∃ (z : Int) (y : Int), -1 ≤ z ∧ z < N ∧ i = .int .i64 z ∧ at_ = .int .i64 y ∧ y = ff R (z + 1).toNat) (fun at_ i => (intOf i + 1).toNat)
      case atStart => exact ⟨(N : Int) - 1, -1, by omega, by omega, rfl, rfl, HST.out.symm⟩
      case round =>
        obtain ⟨z, y, hz1, hz2, rfl, rfl, hy⟩ := hrel
        have HY := Lib.hid hy
        clear hy
        by_cases h0 : 0 ≤ z
        · obtain ⟨k, rfl⟩ : ∃ k : Nat, z = (k : Int) := ⟨z.toNat, by omega⟩
          have hkN : k < N := by omega
          have hlt2 : k < R.length := by rw [← HN.out]; exact hkN
          obtain ⟨g, rfl, -, -, -, c2, c3⟩ := HC.out k hlt2
          obtain ⟨x, hx⟩ : ∃ x, x = R[k]'hlt2 := ⟨_, rfl⟩
          rw [← hx] at c2 c3
          have e2 : ((k : Int) + 1).toNat = k + 1 := by omega
          rw [e2] at HY
          have e3 : ((k : Int) - 1 + 1).toNat = k := by omega
          have EY := Lib.hid (ff_yes R k hlt2)
          have EN := Lib.hid (ff_no R k hlt2)
          rw [← hx] at EY EN
          have E3 := Lib.hid e3
          clear hx e2 e3
          obtain ⟨x1, x2, x3, x4⟩ := x
          simp only at c2 c3
          cases x3 with
          | true =>
            have EZ := Lib.hid (EN.out (by simp [free]))
            clear EY EN
            go_wp2
            go_round
            case rel => exact ⟨(k : Int) - 1, y, by omega, by omega, by go_num, rfl, by rw [E3.out, EZ.out]; exact HY.out⟩
            case measure => simp [intOf] <;> omega
          | false =>
            by_cases h4 : x4 = 0
            · have EZ := Lib.hid (EY.out (by simp [free, h4]))
              have t4 : ((x4 : Int) == 0) = true := by simp; omega
              clear EY EN h4
              go_wp2
              go_round
              case rel => exact ⟨(k : Int) - 1, (k : Int), by omega, by omega, by go_num, rfl, by rw [E3.out, EZ.out]⟩
              case measure => simp [intOf] <;> omega
            · have EZ := Lib.hid (EN.out (by simp [free]; omega))
              have t4 : ((x4 : Int) == 0) = false := by simp; omega
              clear EY EN h4
              go_wp2
              go_round
              case rel => exact ⟨(k : Int) - 1, y, by omega, by omega, by go_num, rfl, by rw [E3.out, EZ.out]; exact HY.out⟩
              case measure => simp [intOf] <;> omega
        · obtain rfl : z = -1 := by omega
          change Hid (y = ff R 0) at HY
          have hnf : ¬ R.length < n := by rw [← HN.out]; omega
          cases hv : victim R with
          | none =>
            have E2 := Lib.hid (show addR R n no s false = (8, R) by unfold addR roomR; rw [if_neg hnf, hv]; rfl)
            have hy := HY.out
            rw [ff_none hv] at hy
            subst hy
            clear hv hnf HY
            go_wp2
            go_ret
            rw [E.out, E2.out]
            exact ⟨rfl, _, H2.out, C2.mono fun q _ e => e.elim, fun g hg => .inl hg⟩
          | some x =>
            obtain ⟨hfx, S, T, hST, hS⟩ := victim_some hv
            have hnod := HRN.out
            rw [hST] at hnod
            have E2 := Lib.hid (show addR R n no s false = (0, (S ++ T) ++ [⟨no, s, false, 0⟩]) by
              unfold addR roomR
              rw [if_neg hnf, hv]
              show (0, del R x.no ++ [_]) = _
              rw [hST, del_at hnod])
            have hy := HY.out
            rw [hST, ff_some hfx hS] at hy
            subst hy
            have hSl : S.length < R.length := by rw [hST]; simp
            have HWO := without_any H2.out (by rw [← HN.out]; omega) (Nat.le_trans HBW.out C2.size) S.length hSl
            have e5 : butAt R S.length R.length = S ++ T := by rw [hST]; exact butAt_all S T x
            rw [e5] at HWO
            obtain ⟨fv, hfv⟩ : ∃ fv, fv = fca (R[S.length]'hSl) := ⟨_, rfl⟩
            rw [← hfv] at HWO
            clear hfv
            have hll : (S ++ T).length ≤ 100000 := by
              have h9 := HN.out
              rw [hST] at h9
              simp at h9 ⊢
              omega
            have HWO' := Lib.hid HWO
            obtain ⟨m, hm⟩ : ∃ m, m = S.length := ⟨_, rfl⟩
            rw [← hm] at HWO' 
            have hmN : m < N := by rw [hm, HN.out]; exact hSl
            rw [← hm]
            have hm0 : (0 : Int) ≤ (m : Int) := by omega
            clear hv hnf HY HWO e5 hSl hST hnod hm HST
            go_upto_region 13 with (go_at_call 31; refine HWO'.out.mono ?_; rintro e w1 ⟨rfl, v1, r1, c1, z1⟩; have R1 := Lib.hid r1; have C1 := Lib.hid c1; have Z1 := Lib.hid z1; clear r1 c1 z1)
            obtain ⟨va, vc, rfl, hv1, hv2, -⟩ := R1.out.slice
            obtain ⟨len, hlen⟩ : ∃ len, len = (S ++ T).length := ⟨_, rfl⟩
            have HL := Lib.hid hlen
            rw [← hlen] at hll hv1
            have C3 := Lib.hid (show Chg (fref p (.slice a R.length cp)) w w1 from (C2.mono fun q _ e => e.elim).same (C1.out.mono fun q _ e => .inl e))
            have Z3 := Lib.hid (show ∀ g, (Value.slice va (S ++ T).length vc).ownBlock = some g → (Value.slice a R.length cp).ownBlock = some g ∨ w.heap.size ≤ g from fun g hg => .inr (Nat.le_trans C2.size (Z1.out g hg)))
            clear hlen HC o1 o2 o3
            obtain ⟨i0, hi0, hz0', hzz1, hzz2⟩ := info_parts info_fr
            have hrow : w1.ownsRow B 60 4 (.slice va len vc) len (fcs (S ++ T)) := by have := R1.out.row; rw [← HL.out] at this; exact this
            have P3 : Own w1 p 39 #[.int .i64 (n : Int), .slice va len vc] := by have := R1.out.own; rw [← HL.out] at this; exact this
            obtain ⟨u1, u2, u3⟩ := P3.at_
            have hbw2 : B ≤ w1.heap.size := by have := HBW.out; have := C3.out.size; omega
            go_wp2_with (at_builtin; refine wpList_append_own_at _ rfl _ _ 37 rfl B 60 i0 (.agg #[.int .i64 0, .string ⟨#[]⟩, .bool false, .int .i64 0]) 4 40 Try.underlying37 hi0 hz0' hzz1 hzz2 rfl (by decide) (.slice va len vc) len (fcs (S ++ T)) rfl (hrow.alloc _) ⟨w1.heap.size, 0, none⟩ 1 1 [.int .i64 no, .string s, .bool false, .int .i64 0] rfl rfl ?c1 ?c2 (by unfold maxLen; omega) (by omega) (by simp; omega) ?_)
            case c1 => intro j u hu; exact own_cells (Own.made w1 _ _) j (by simpa using hu)
            case c2 => exact fc_cells ⟨no, s, false, 0⟩
            intro v' w5 hown hgrow hnil hloc
            obtain ⟨xa, xc, rfl⟩ : ∃ xa xc, v' = .slice xa (len + 1) xc := by
              rcases hown.2 with ⟨rfl, h⟩ | ⟨g, cap, cur, rfl, _⟩
              · omega
              · exact ⟨_, _, rfl⟩
            obtain ⟨L5, p5⟩ := Left.push (f := ⟨no, s, false, 0⟩) (v1 := .slice va (S ++ T).length vc) R1.out C3.out Z3.out (by rw [← HL.out]; exact hgrow) (by rw [← HL.out]; exact hown) (by rw [← HL.out]; exact hloc.imp id fun h => h.trans (by simp))
            rw [← HL.out] at p5
            obtain ⟨t1, t2, t3⟩ := p5.at_
            replace L5 := Lib.hid L5
            clear hown hgrow hnil hloc p5 hrow P3 u1 u2 u3
            go_wp2
            go_ret
            rw [E.out, E2.out]
            exact ⟨rfl, L5.out⟩
end
end Go.Proofs.Ytjncmaaofminkaa
