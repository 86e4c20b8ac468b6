
/- The contract of the document's Set. Conditions: those that each theorem names. -/
import Derived.Test.YtjncmaaofminkaaPorD
namespace Go.Proofs.Ytjncmaaofminkaa
open Go.ChangeShapes Go.WideShapes Go.ChangeAt Go.RowKit
set_option linter.unusedVariables false
set_option linter.unusedSimpArgs false

section
variable {w w' W w5 : World} {B p n c : Nat} {v v1 v' : Value} {R R1 R2 S T : List RF} {f : RF}
theorem RefAt.drew_ (h : RefAt w B p n v R) : RefAt w.drew B p n v R := h.keep ((Chg.refl (fun _ => False) w).drew) fun _ _ => id
set_option maxRecDepth 10000 in
set_option maxHeartbeats 2000000 in
theorem rset_any (h : RefAt w B p n v R) (hR : OkR R n c) (hn : n ≤ 65536) (no : Int) (s : ByteArray) (hs : s.size ≤ 281474976710656) : Calls Try.prog 18 #[.pointer (some ⟨p, 0, none⟩), .int .i64 no, .string s] w fun e w' =>
    e = .returned (.int .i64 (setR R n no s).1) ∧ Left w w' B p n v (setR R n no s).2 := by
  have hl : R.length ≤ 65536 := Nat.le_trans hR.few hn
  have HF := rfind_any h no (by omega)
  have hbw : B ≤ w.heap.size := by have := h.base; have := h.own.in_; omega
  cases hk : look R no with
  | some x =>
    obtain ⟨hxn, S, T, hST⟩ := look_some hk
    have E := Lib.hid (show setR R n no s = (0, S ++ T ++ [⟨no, s, true, x.pins⟩]) by
      unfold setR
      rw [hk]
      show (0, del R no ++ [_]) = _
      have := hR.nos
      rw [hST] at this
      rw [hST, ← hxn, del_at this])
    subst hST
    obtain ⟨no', sx, dx, px⟩ := x
    simp only at hxn E
    subst hxn
    have HN1 := Lib.hid hR.nos
    rw [idx_mid (f := ⟨no', sx, dx, px⟩) hR.nos] at HF
    replace HF := Lib.hid HF
    have H1 := Lib.hid h
    have C1 := Lib.hid (Chg.refl (fref p v) w)
    have Z1 := Lib.hid (show ∀ g, v.ownBlock = some g → v.ownBlock = some g ∨ w.heap.size ≤ g from fun g hg => .inl hg)
    have HB1 := Lib.hid hbw
    have hs0 : S.length ≤ 65536 := by simp at hl; omega
    clear h hk hR hbw
    obtain ⟨q0, hq0⟩ : ∃ q0, q0 = S.length := ⟨_, rfl⟩
    rw [← hq0] at HF
    clear hq0
    go_enter Try.func18, Try.ntmps18
    go_upto_region 5 with (go_at_call 30; refine HF.out.mono ?_; rintro e w' ⟨rfl, rfl⟩)
    have HF2 := rfind_any H1.out no' (by simp; simp at hl; omega)
    rw [idx_mid (f := ⟨no', sx, dx, px⟩) HN1.out] at HF2
    have HW2 := without_any H1.out (by simp; simp at hl; omega) HB1.out S.length (by simp)
    rw [get_mid, butAt_all] at HW2
    simp only [fca] at HW2
    have hll : (S ++ T).length ≤ 65536 := by simp at hl ⊢; omega
    obtain ⟨m, hm⟩ : ∃ m, m = S.length := ⟨_, rfl⟩
    rw [← hm] at HF2 HW2 hs0
    replace HF2 := Lib.hid HF2
    replace HW2 := Lib.hid HW2
    clear hm
    go_upto_region 8 with (first
      | (go_at_call 30; refine HF2.out.mono ?_; rintro e w' ⟨rfl, rfl⟩)
      | (go_at_call 31; refine HW2.out.mono ?_; rintro e w2 ⟨rfl, v2, r2, c2, z2⟩; have R2 := Lib.hid r2; have C2 := Lib.hid c2; have Z2 := Lib.hid z2; clear r2 c2 z2))
    go_name_world W0 hW0
    have O7 : Own W0 w2.heap.size 60 #[.int .i64 no', .string s, .bool true, .int .i64 (px : Int)] := hW0 ▸ Own.made _ _ _
    have b0 : Below w2.heap.size w2 W0 := hW0 ▸ (Below.refl _ _).alloc (Nat.le_refl _) _
    have r0 := R2.out.below b0
    obtain ⟨va, vc, rfl, hv1, hv2, -⟩ := r0.slice
    obtain ⟨len, hlen⟩ : ∃ len, len = (S ++ T).length := ⟨_, rfl⟩
    have HL := Lib.hid hlen
    rw [← hlen] at hll hv1
    have hz1 := C2.out.size
    clear hW0 hlen
    have R0 := Lib.hid r0
    have B0 := Lib.hid b0
    replace O7 := Lib.hid O7
    clear r0 b0
    have P0 : Own W0 p 39 #[.int .i64 (n : Int), .slice va len vc] := by have := R0.out.own; rw [← HL.out] at this; exact this
    have P0' := Lib.hid P0
    clear P0
    refine wp_region_seq (fun W => Own W p 39 #[.int .i64 (n : Int), .slice va len vc] ∧ Own W w2.heap.size 60 #[.int .i64 no', .string s, .bool true, .int .i64 (px : Int)]) (0 :: 1 :: 2 :: 3 :: 4 :: 5 :: 8 :: 9 :: []) (4 :: 5 :: []) (0 :: 1 :: 2 :: 3 :: 4 :: 5 :: 6 :: 7 :: 8 :: 9 :: 10 :: []) (by kernel_rfl) (by kernel_rfl) rfl (by kernel_rfl) rfl (⟨P0'.out, O7.out⟩) (by simp only [picked, List.filterMap_cons, List.filterMap_nil, List.getElem?_cons_zero, List.getElem?_cons_succ, Option.map_some]; exact rfl) ?_
    iterate 6
      refine seq_want (v := ?_) rfl rfl (fun W hS => ?_) ?_
      rotate_left
      · first
          | (conv => lhs; simp [go_sem]
             first | done | exact rfl)
          | (have hS := hS rfl
             obtain ⟨q1, q2⟩ := hS
             obtain ⟨q1, q3, q4⟩ := q1.at_
             obtain ⟨q2, q5, q6⟩ := q2.at_
             conv => lhs; simp [go_sem, *]
             first | done | exact rfl)
      simp only [Act.put, List.setIfInBounds_toArray, List.set_cons_zero, List.set_cons_succ]
    refine seq_on rfl rfl fun K hK => ?_
    go_wp2
    refine hK _ _ ⟨(P0'.out.more _).drawn, (O7.out.more _).drawn⟩ ?_
    clear hK K
    refine seq_on rfl rfl fun K hK => ?_
    obtain ⟨i0, hi0, hz0', hzz1, hzz2⟩ := info_parts info_fr
    have hrow : W0.ownsRow B 60 4 (.slice va len vc) len (fcs (S ++ T)) := by have := R0.out.row; rw [← HL.out] at this; exact this
    have zb := B0.out.size
    have hbw := HB1.out
    go_wp2_with (at_builtin; refine wpList_append_own_at _ rfl _ _ 37 rfl B 60 i0 (.agg #[.int .i64 0, .string ⟨#[]⟩, .bool false, .int .i64 0]) 4 40 Try.underlying37 hi0 hz0' hzz1 hzz2 rfl (by decide) (.slice va len vc) len (fcs (S ++ T)) rfl (hrow.alloc _) ⟨W0.heap.size, 0, none⟩ 1 1 [.int .i64 no', .string s, .bool true, .int .i64 (px : Int)] rfl rfl ?c1 ?c2 (by unfold maxLen; omega) (by omega) (by show B ≤ (W0.alloc _).heap.size; simp; omega) ?_)
    case c1 => intro j u hu; exact own_cells (Own.made W0 _ _).drawn j (by simpa using hu)
    case c2 => exact fc_cells ⟨no', s, true, px⟩
    intro v' w5 hown hgrow hnil hloc
    obtain ⟨xa, xc, rfl⟩ : ∃ xa xc, v' = .slice xa (len + 1) xc := by
      rcases hown.2 with ⟨rfl, h⟩ | ⟨g, cap, cur, rfl, _⟩
      · omega
      · exact ⟨_, _, rfl⟩
    go_wp2
    have g5 : Chg (fun q => (Value.slice va len vc).ownBlock = some q) W0 w5 := (((Chg.refl _ W0).alloc _).drew).grown hgrow fun q e => .inl e
    have hZ0 : ∀ g, (Value.slice va (S ++ T).length vc).ownBlock = some g → v.ownBlock = some g ∨ w.heap.size ≤ g := fun g hg => .inr (by have h1 := Z2.out g hg; have h2 := C1.out.size; omega)
    have hC0 : Chg (fref p v) w W0.drew := ((C1.out.same (C2.out.mono fun q _ e => .inl e)).call B0.out).drew
    obtain ⟨L5, p5⟩ := Left.push (w5 := w5) (f := ⟨no', s, true, px⟩) R0.out.drew_ hC0 hZ0 (by rw [← HL.out]; exact hgrow) (by rw [← HL.out]; exact hown) (by rw [← HL.out]; exact hloc.imp id fun h => h.trans (by simp))
    rw [← HL.out] at p5
    have o5 : Own w5 w2.heap.size 60 _ := g5.own O7.out fun e => by
      have h1 := R2.out.in_ (q := w2.heap.size) (.inr (by rw [← HL.out]; exact e))
      omega
    refine hK _ _ ⟨p5, o5⟩ ?_
    clear hK K
    iterate 2
      refine seq_want (v := ?_) rfl rfl (fun W hS => ?_) ?_
      rotate_left
      · first
          | (conv => lhs; simp [go_sem]
             first | done | exact rfl)
          | (have hS := hS rfl
             obtain ⟨q1, q2⟩ := hS
             obtain ⟨q1, q3, q4⟩ := q1.at_
             obtain ⟨q2, q5, q6⟩ := q2.at_
             conv => lhs; simp [go_sem, *]
             first | done | exact rfl)
      simp only [Act.put, List.setIfInBounds_toArray, List.set_cons_zero, List.set_cons_succ]
    refine seq_last rfl rfl (by kernel_rfl) rfl fun K hK => ?_
    obtain ⟨t1, t2, t3⟩ := p5.at_
    go_wp2
    refine hK _ _ ?_
    clear hK K
    refine seq_end ?_
    replace L5 := Lib.hid L5
    clear hown hgrow hnil hloc g5 p5 o5 t1 t2 t3 hrow hZ0 hC0
    go_wp2
    go_ret
    rw [E.out]
    exact ⟨rfl, L5.out⟩
  | none =>
    have hno := look_none hk
    have E := Lib.hid (show setR R n no s = addR R n no s true by unfold setR; rw [hk])
    have EP := Lib.hid (show putR R n no s = addR R n no s false by unfold putR; rw [hk])
    rw [idx_none fun x hx e => hno (List.mem_map.2 ⟨x, hx, e⟩)] at HF
    replace HF := Lib.hid HF
    have HP := rput_any h hR.nos (by omega) hn no s
    cases hr : roomR R n with
    | none =>
      have E2 := Lib.hid (show addR R n no s true = (8, R) by unfold addR; rw [hr])
      have E3 : addR R n no s false = (8, R) := by unfold addR; rw [hr]
      rw [EP.out, E3] at HP
      replace HP := Lib.hid HP
      clear h hk hR hbw hr E3 hno
      go_enter Try.func18, Try.ntmps18
      go_wp2_with (first
        | (go_at_call 30; refine HF.out.mono ?_; rintro e w' ⟨rfl, rfl⟩)
        | (go_at_call 17; refine HP.out.mono ?_; rintro e w1 ⟨rfl, hl1⟩))
      go_ret
      rw [E.out, E2.out]
      exact ⟨rfl, hl1⟩
    | some S =>
      obtain ⟨T, hT⟩ : ∃ T : List RF, T = [] := ⟨_, rfl⟩
      have E2 := Lib.hid (show addR R n no s true = (0, S ++ T ++ [⟨no, s, true, 0⟩]) by unfold addR; rw [hr, hT]; simp)
      have E3 : addR R n no s false = (0, S ++ (⟨no, s, false, 0⟩ : RF) :: T) := by unfold addR; rw [hr, hT]
      have hok := addR_ok (no := no) (s := s) (d := false) hR hno hs
      rw [E3] at hok
      rw [EP.out, E3] at HP
      replace HP := Lib.hid HP
      have HN1 := Lib.hid (show ((S ++ (⟨no, s, false, 0⟩ : RF) :: T).map (·.no)).Nodup from hok.nos)
      have hl0 : (S ++ (⟨no, s, false, 0⟩ : RF) :: T).length ≤ 65536 := Nat.le_trans hok.few hn
      have hs0 : S.length ≤ 65536 := by simp at hl0; omega
      have HBW := Lib.hid hbw
      clear h hk hR hbw hr E3 hno hok hT hl
      go_enter Try.func18, Try.ntmps18
      go_upto_region 5 with (first
        | (go_at_call 30; refine HF.out.mono ?_; rintro e w' ⟨rfl, rfl⟩)
        | (go_at_call 17; refine HP.out.mono ?_; rintro e w1 ⟨rfl, v1, r1, c1, z1⟩; have H1 := Lib.hid r1; have C1 := Lib.hid c1; have Z1 := Lib.hid z1; clear r1 c1 z1))
      have HB1 := Lib.hid (Nat.le_trans HBW.out C1.out.size)
      have HF2 := rfind_any H1.out no (by simp; simp at hl0; omega)
      rw [idx_mid (f := ⟨no, s, false, 0⟩) HN1.out] at HF2
      have HW2 := without_any H1.out (by simp; simp at hl0; omega) HB1.out S.length (by simp)
      rw [get_mid, butAt_all] at HW2
      simp only [fca] at HW2
      have hll : (S ++ T).length ≤ 65536 := by simp at hl0 ⊢; omega
      obtain ⟨m, hm⟩ : ∃ m, m = S.length := ⟨_, rfl⟩
      rw [← hm] at HF2 HW2 hs0
      replace HF2 := Lib.hid HF2
      replace HW2 := Lib.hid HW2
      clear hm
      go_upto_region 8 with (first
        | (go_at_call 30; refine HF2.out.mono ?_; rintro e w' ⟨rfl, rfl⟩)
        | (go_at_call 31; refine HW2.out.mono ?_; rintro e w2 ⟨rfl, v2, r2, c2, z2⟩; have R2 := Lib.hid r2; have C2 := Lib.hid c2; have Z2 := Lib.hid z2; clear r2 c2 z2))
      go_name_world W0 hW0
      have O7 : Own W0 w2.heap.size 60 #[.int .i64 no, .string s, .bool true, .int .i64 0] := hW0 ▸ Own.made _ _ _
      have b0 : Below w2.heap.size w2 W0 := hW0 ▸ (Below.refl _ _).alloc (Nat.le_refl _) _
      have r0 := R2.out.below b0
      obtain ⟨va, vc, rfl, hv1, hv2, -⟩ := r0.slice
      obtain ⟨len, hlen⟩ : ∃ len, len = (S ++ T).length := ⟨_, rfl⟩
      have HL := Lib.hid hlen
      rw [← hlen] at hll hv1
      have hz1 := C2.out.size
      clear hW0 hlen
      have R0 := Lib.hid r0
      have B0 := Lib.hid b0
      replace O7 := Lib.hid O7
      clear r0 b0
      have P0 : Own W0 p 39 #[.int .i64 (n : Int), .slice va len vc] := by have := R0.out.own; rw [← HL.out] at this; exact this
      have P0' := Lib.hid P0
      clear P0
      refine wp_region_seq (fun W => Own W p 39 #[.int .i64 (n : Int), .slice va len vc] ∧ Own W w2.heap.size 60 #[.int .i64 no, .string s, .bool true, .int .i64 0]) (0 :: 1 :: 2 :: 3 :: 4 :: 5 :: 8 :: 9 :: []) (4 :: 5 :: []) (0 :: 1 :: 2 :: 3 :: 4 :: 5 :: 6 :: 7 :: 8 :: 9 :: 10 :: []) (by kernel_rfl) (by kernel_rfl) rfl (by kernel_rfl) rfl (⟨P0'.out, O7.out⟩) (by simp only [picked, List.filterMap_cons, List.filterMap_nil, List.getElem?_cons_zero, List.getElem?_cons_succ, Option.map_some]; exact rfl) ?_
      iterate 6
        refine seq_want (v := ?_) rfl rfl (fun W hS => ?_) ?_
        rotate_left
        · first
            | (conv => lhs; simp [go_sem]
               first | done | exact rfl)
            | (have hS := hS rfl
               obtain ⟨q1, q2⟩ := hS
               obtain ⟨q1, q3, q4⟩ := q1.at_
               obtain ⟨q2, q5, q6⟩ := q2.at_
               conv => lhs; simp [go_sem, *]
               first | done | exact rfl)
        simp only [Act.put, List.setIfInBounds_toArray, List.set_cons_zero, List.set_cons_succ]
      refine seq_on rfl rfl fun K hK => ?_
      go_wp2
      refine hK _ _ ⟨(P0'.out.more _).drawn, (O7.out.more _).drawn⟩ ?_
      clear hK K
      refine seq_on rfl rfl fun K hK => ?_
      obtain ⟨i0, hi0, hz0', hzz1, hzz2⟩ := info_parts info_fr
      have hrow : W0.ownsRow B 60 4 (.slice va len vc) len (fcs (S ++ T)) := by have := R0.out.row; rw [← HL.out] at this; exact this
      have zb := B0.out.size
      have hbw := HB1.out
      go_wp2_with (at_builtin; refine wpList_append_own_at _ rfl _ _ 37 rfl B 60 i0 (.agg #[.int .i64 0, .string ⟨#[]⟩, .bool false, .int .i64 0]) 4 40 Try.underlying37 hi0 hz0' hzz1 hzz2 rfl (by decide) (.slice va len vc) len (fcs (S ++ T)) rfl (hrow.alloc _) ⟨W0.heap.size, 0, none⟩ 1 1 [.int .i64 no, .string s, .bool true, .int .i64 0] rfl rfl ?c1 ?c2 (by unfold maxLen; omega) (by omega) (by show B ≤ (W0.alloc _).heap.size; simp; omega) ?_)
      case c1 => intro j u hu; exact own_cells (Own.made W0 _ _).drawn j (by simpa using hu)
      case c2 => exact fc_cells ⟨no, s, true, 0⟩
      intro v' w5 hown hgrow hnil hloc
      obtain ⟨xa, xc, rfl⟩ : ∃ xa xc, v' = .slice xa (len + 1) xc := by
        rcases hown.2 with ⟨rfl, h⟩ | ⟨g, cap, cur, rfl, _⟩
        · omega
        · exact ⟨_, _, rfl⟩
      go_wp2
      have g5 : Chg (fun q => (Value.slice va len vc).ownBlock = some q) W0 w5 := (((Chg.refl _ W0).alloc _).drew).grown hgrow fun q e => .inl e
      have hZ0 : ∀ g, (Value.slice va (S ++ T).length vc).ownBlock = some g → v.ownBlock = some g ∨ w.heap.size ≤ g := fun g hg => .inr (by have h1 := Z2.out g hg; have h2 := C1.out.size; omega)
      have hC0 : Chg (fref p v) w W0.drew := ((C1.out.same (C2.out.mono fun q _ e => .inl e)).call B0.out).drew
      obtain ⟨L5, p5⟩ := Left.push (w5 := w5) (f := ⟨no, s, true, 0⟩) R0.out.drew_ hC0 hZ0 (by rw [← HL.out]; exact hgrow) (by rw [← HL.out]; exact hown) (by rw [← HL.out]; exact hloc.imp id fun h => h.trans (by simp))
      rw [← HL.out] at p5
      have o5 : Own w5 w2.heap.size 60 _ := g5.own O7.out fun e => by
        have h1 := R2.out.in_ (q := w2.heap.size) (.inr (by rw [← HL.out]; exact e))
        omega
      refine hK _ _ ⟨p5, o5⟩ ?_
      clear hK K
      iterate 2
        refine seq_want (v := ?_) rfl rfl (fun W hS => ?_) ?_
        rotate_left
        · first
            | (conv => lhs; simp [go_sem]
               first | done | exact rfl)
            | (have hS := hS rfl
               obtain ⟨q1, q2⟩ := hS
               obtain ⟨q1, q3, q4⟩ := q1.at_
               obtain ⟨q2, q5, q6⟩ := q2.at_
               conv => lhs; simp [go_sem, *]
               first | done | exact rfl)
        simp only [Act.put, List.setIfInBounds_toArray, List.set_cons_zero, List.set_cons_succ]
      refine seq_last rfl rfl (by kernel_rfl) rfl fun K hK => ?_
      obtain ⟨t1, t2, t3⟩ := p5.at_
      go_wp2
      refine hK _ _ ?_
      clear hK K
      refine seq_end ?_
      replace L5 := Lib.hid L5
      clear hown hgrow hnil hloc g5 p5 o5 t1 t2 t3 hrow hZ0 hC0
      go_wp2
      go_ret
      rw [E.out, E2.out]
      exact ⟨rfl, L5.out⟩
end
end Go.Proofs.Ytjncmaaofminkaa
