
/- The contracts of the document's Get and Put. Conditions: those that each theorem names. -/
import Derived.Test.YtjncmaaofminkaaPorB
namespace Go.Proofs.Ytjncmaaofminkaa
open Go.ChangeShapes Go.WideShapes Go.ChangeAt Go.RowKit
set_option linter.unusedVariables false
set_option linter.unusedSimpArgs false

/-- what a call leaves of the document's pool -/
def Left (w w' : World) (B p n : Nat) (v : Value) (R : List RF) : Prop := ∃ v', RefAt w' B p n v' R ∧ Chg (fref p v) w w' ∧ ∀ g, v'.ownBlock = some g → v.ownBlock = some g ∨ w.heap.size ≤ g
section
variable {w w' w1 w2 : World} {B p n c : Nat} {v : Value} {R R1 R2 S T : List RF} {f : RF}
theorem Left.same (h : RefAt w B p n v R) : Left w w B p n v R := ⟨v, h, Chg.refl _ _, fun g hg => .inl hg⟩
theorem Left.then_ {v1 : Value} (hc : Chg (fref p v) w w1) (hv : ∀ g, v1.ownBlock = some g → v.ownBlock = some g ∨ w.heap.size ≤ g) (h : Left w1 w2 B p n v1 R2) : Left w w2 B p n v R2 := by
  obtain ⟨v2, h1, h2, h3⟩ := h
  refine ⟨v2, h1, hc.trans h2 fun q hq e => ?_, fun g hg => ?_⟩
  · rcases e with e | e
    · exact .inl e
    · rcases hv q e with h | h
      · exact .inr h
      · omega
  · rcases h3 g hg with h | h
    · exact hv g h
    · exact .inr (Nat.le_trans hc.size h)
theorem idx_mid (hn : ((S ++ f :: T).map (·.no)).Nodup) : idx (S ++ f :: T) f.no = (S.length : Int) :=
  idx_at (by simp) (by simp) fun x hx => by
    rw [List.take_left] at hx
    exact (nos_apart hn).1 x hx
theorem get_mid : (S ++ f :: T)[S.length]'(by simp) = f := by simp
/-- the pool's row is one longer -/
theorem RefAt.pushed {v' : Value} (ho : Own w p 39 #[.int .i64 (n : Int), v]) (hp : B ≤ p) (hr : w.ownsRow B 60 4 v' (R.length + 1) (fcs R ++ fc f)) : RefAt (w.setCell ⟨p, 1, none⟩ v') B p n v' (R ++ [f]) := by
  refine ⟨Own.put ho 1 _, ownsRow_keepB (v := v') (by rw [List.length_append, fcs_app]; simpa [fcs] using hr) fun g hg => (chg_at w p 1 v').block g (hr.lt g hg).2 fun e => ?_, hp⟩
  subst e
  rcases hr.2 with ⟨rfl, _⟩ | ⟨g', cap, cur, rfl, _, h1, _⟩
  · cases hg
  · obtain rfl : g' = g := by simpa [Value.ownBlock] using hg
    unfold Own at ho
    rw [ho] at h1
    injection h1 with h1
    injection h1 with h1 h2
    exact absurd h2 (by decide)
theorem own_cells {W : World} {q : Nat} {T : TypeId} {cs : Array Value} (h : Own W q T cs) (j : Nat) {u : Value} (hu : cs[j]? = some u) : W.cell? ((⟨q, 0, none⟩ : Addr).add j) = some u := by
  have e : (⟨q, 0, none⟩ : Addr).add j = ⟨q, j, none⟩ := by unfold Addr.add; split <;> simp_all
  rw [e]
  exact (h.at_.1 j).trans hu
theorem fc_cells (f : RF) : ∀ u ∈ fc f, u.oneCell' = true := by intro u hu; simp [fc] at hu; rcases hu with rfl | rfl | rfl | rfl <;> rfl
set_option maxRecDepth 10000 in
set_option maxHeartbeats 1000000 in
theorem rget_any (h : RefAt w B p n v R) (hR : (R.map (·.no)).Nodup) (hl : R.length ≤ 100000) (no : Int) : Calls Try.prog 16 #[.pointer (some ⟨p, 0, none⟩), .int .i64 no] w fun e w' =>
    e = .returned (.tuple #[.string (getR R no).1.1, .bool (getR R no).1.2]) ∧ Left w w' B p n v (getR R no).2 := by
  have HF := rfind_any h no (by omega)
  cases hk : look R no with
  | none =>
    have E := Lib.hid (show getR R no = ((⟨#[]⟩, false), R) by unfold getR; rw [hk])
    rw [idx_none fun x hx e => look_none hk (List.mem_map.2 ⟨x, hx, e⟩)] at HF
    replace HF := Lib.hid HF
    have H := Lib.hid h
    clear h hk hR
    go_enter Try.func16, Try.ntmps16
    go_wp2_with (go_at_call 30; refine HF.out.mono ?_; rintro e w' ⟨rfl, rfl⟩)
    go_ret2
    rw [E.out]
    exact ⟨rfl, Left.same H.out⟩
  | some x =>
    obtain ⟨rfl, S, T, rfl⟩ := look_some hk
    have E := Lib.hid (show getR (S ++ x :: T) x.no = ((x.s, true), S ++ T ++ [x]) by unfold getR; rw [hk]; simp only; rw [del_at hR])
    rw [idx_mid hR] at HF
    replace HF := Lib.hid HF
    have hbw : B ≤ w.heap.size := by have := h.base; have := h.own.in_; omega
    have HW := without_any h (by omega) hbw S.length (by simp)
    rw [get_mid, butAt_all] at HW
    replace HW := Lib.hid HW
    have H := Lib.hid h
    have hll : (S ++ T).length ≤ 100000 := by simp at hl ⊢; omega
    obtain ⟨no, s, d, pn⟩ := x
    simp only at HF E ⊢
    simp only [fca] at HW
    have HBW := Lib.hid hbw
    have hm0 : ((S.length : Int) < 0) = False := by simp
    obtain ⟨m, hm⟩ : ∃ m, m = S.length := ⟨_, rfl⟩
    rw [← hm] at HF HW
    have hl2 : m ≤ 100000 := by simp at hl; omega
    clear h hk hR hl hbw hm hm0
    go_enter Try.func16, Try.ntmps16
    go_upto_region 5 with (first
      | (go_at_call 30; refine HF.out.mono ?_; rintro e w' ⟨rfl, rfl⟩)
      | (go_at_call 31; refine HW.out.mono ?_; rintro e w1 ⟨rfl, v1, r1, c1, z1⟩; have R1 := Lib.hid r1; have C1 := Lib.hid c1; have Z1 := Lib.hid z1; clear r1 c1 z1))
    go_name_world W0 hW0
    have O7 : Own W0 w1.heap.size 60 #[.int .i64 no, .string s, .bool d, .int .i64 (pn : Int)] := hW0 ▸ Own.made _ _ _
    have b0 : Below w1.heap.size w1 W0 := hW0 ▸ (Below.refl _ _).alloc (Nat.le_refl _) _
    have r0 := R1.out.below b0
    obtain ⟨va, vc, rfl, hv1, hv2, -⟩ := r0.slice
    obtain ⟨len, hlen⟩ : ∃ len, len = (S ++ T).length := ⟨_, rfl⟩
    have HL := Lib.hid hlen
    rw [← hlen] at hll hv1
    have hz1 := C1.out.size
    have hpl := H.out.own.in_
    clear hW0 hlen
    have R0 := Lib.hid r0
    have B0 := Lib.hid b0
    replace O7 := Lib.hid O7
    clear r0 b0
    refine wp_region_seq (fun W => Own W p 39 #[.int .i64 (n : Int), .slice va len vc] ∧ Own W w1.heap.size 60 #[.int .i64 no, .string s, .bool d, .int .i64 (pn : Int)]) (0 :: 1 :: 2 :: 3 :: 4 :: 5 :: 8 :: 9 :: []) (4 :: 5 :: []) (0 :: 1 :: 2 :: 3 :: 4 :: 5 :: 6 :: 7 :: 8 :: 9 :: 10 :: []) (by kernel_rfl) (by kernel_rfl) rfl (by kernel_rfl) rfl (⟨by have := R0.out.own; rw [← HL.out] at this; exact this, O7.out⟩) (by simp only [picked, List.filterMap_cons, List.filterMap_nil, List.getElem?_cons_zero, List.getElem?_cons_succ, Option.map_some]; exact rfl) ?_
    iterate 6
      refine seq_want (v := ?_) rfl rfl (fun W hS => ?_) ?_
      rotate_left
      · first
          | (conv => lhs; simp [go_sem]
             first | done | exact rfl)
          | (have hS := hS rfl
             obtain ⟨q1, q2⟩ := hS
             obtain ⟨q1, q3, q4⟩ := q1.at_
             obtain ⟨q2, q5, q6⟩ := q2.at_
             conv => lhs; simp [go_sem, *]
             first | done | exact rfl)
      simp only [Act.put, List.setIfInBounds_toArray, List.set_cons_zero, List.set_cons_succ]
    refine seq_on rfl rfl fun K hK => ?_
    go_wp2
    have P0 : Own W0 p 39 #[.int .i64 (n : Int), .slice va len vc] := by have := R0.out.own; rw [← HL.out] at this; exact this
    refine hK _ _ ⟨(P0.more _).drawn, (O7.out.more _).drawn⟩ ?_
    clear hK K
    refine seq_on rfl rfl fun K hK => ?_
    obtain ⟨i0, hi0, hz0', hzz1, hzz2⟩ := info_parts info_fr
    have hrow : W0.ownsRow B 60 4 (.slice va len vc) len (fcs (S ++ T)) := by have := R0.out.row; rw [← HL.out] at this; exact this
    have zb := B0.out.size
    have hbw := HBW.out
    go_wp2_with (at_builtin; refine wpList_append_own_at _ rfl _ _ 37 rfl B 60 i0 (.agg #[.int .i64 0, .string ⟨#[]⟩, .bool false, .int .i64 0]) 4 40 Try.underlying37 hi0 hz0' hzz1 hzz2 rfl (by decide) (.slice va len vc) len (fcs (S ++ T)) rfl (hrow.alloc _) ⟨W0.heap.size, 0, none⟩ 1 1 [.int .i64 no, .string s, .bool d, .int .i64 (pn : Int)] rfl rfl ?c1 ?c2 (by unfold maxLen; omega) (by omega) (by show B ≤ (W0.alloc _).heap.size; simp; omega) ?_)
    case c1 => intro j u hu; exact own_cells (Own.made W0 _ _).drawn j (by simpa using hu)
    case c2 => exact fc_cells ⟨no, s, d, pn⟩
    intro v' w5 hown hgrow hnil hloc
    obtain ⟨xa, xc, rfl⟩ : ∃ xa xc, v' = .slice xa (len + 1) xc := by
      rcases hown.2 with ⟨rfl, h⟩ | ⟨g, cap, cur, rfl, _⟩
      · omega
      · exact ⟨_, _, rfl⟩
    go_wp2
    have g5 : Chg (fun q => (Value.slice va len vc).ownBlock = some q) W0 w5 := (((Chg.refl _ W0).alloc _).drew).grown hgrow fun q e => .inl e
    have hne : ∀ q, (Value.slice va len vc).ownBlock = some q → w.heap.size ≤ q := fun q hq => Z1.out q (by rw [← HL.out]; exact hq)
    have p5 : Own w5 p 39 #[.int .i64 (n : Int), .slice va len vc] := g5.own P0 fun e => by have := hne p e; omega
    have o5 : Own w5 w1.heap.size 60 _ := g5.own O7.out fun e => by
      have h1 := R1.out.in_ (q := w1.heap.size) (.inr (by rw [← HL.out]; exact e))
      omega
    refine hK _ _ ⟨p5, o5⟩ ?_
    clear hK K
    iterate 2
      refine seq_want (v := ?_) rfl rfl (fun W hS => ?_) ?_
      rotate_left
      · first
          | (conv => lhs; simp [go_sem]
             first | done | exact rfl)
          | (have hS := hS rfl
             obtain ⟨q1, q2⟩ := hS
             obtain ⟨q1, q3, q4⟩ := q1.at_
             obtain ⟨q2, q5, q6⟩ := q2.at_
             conv => lhs; simp [go_sem, *]
             first | done | exact rfl)
      simp only [Act.put, List.setIfInBounds_toArray, List.set_cons_zero, List.set_cons_succ]
    refine seq_last rfl rfl (by kernel_rfl) rfl fun K hK => ?_
    obtain ⟨t1, t2, t3⟩ := p5.at_
    go_wp2
    refine hK _ _ ?_
    clear hK K
    refine seq_end ?_
    have o6 := (chg_at w5 p 1 (.slice xa (len + 1) xc)).own o5 (by omega)
    have r6 : RefAt (w5.setCell ⟨p, 1, none⟩ (.slice xa (len + 1) xc)) B p n (.slice xa (len + 1) xc) (S ++ T ++ [⟨no, s, d, pn⟩]) := RefAt.pushed p5 H.out.base (by rw [← HL.out]; exact hown)
    have c6 : Chg (fref p v) w (w5.setCell ⟨p, 1, none⟩ (.slice xa (len + 1) xc)) := by
      have a1 : Chg (fun q => w.heap.size ≤ q ∨ q = p) W0 (w5.setCell ⟨p, 1, none⟩ (.slice xa (len + 1) xc)) := (g5.mono fun q _ e => .inl (hne q e)).same ((chg_at w5 p 1 _).mono fun q _ e => .inr e)
      refine ((C1.out.mono fun q _ e => .inl e).call B0.out).trans a1 fun q hq e => ?_
      rcases e with e | e
      · omega
      · exact .inl e
    have z6 : ∀ g, (Value.slice xa (len + 1) xc).ownBlock = some g → v.ownBlock = some g ∨ w.heap.size ≤ g := fun g hg => by
      rcases hloc with h | h
      · exact .inr (hne g (by rw [← h]; exact hg))
      · right
        rw [h] at hg
        have h2 : W0.heap.size + 1 = g := by injection hg
        omega
    obtain ⟨q1, q2, q3⟩ := o6.at_
    have R6 := Lib.hid r6
    have C6 := Lib.hid c6
    have Z6 := Lib.hid z6
    clear hown hgrow hnil hloc g5 hne p5 o5 t1 t2 t3 o6 r6 c6 z6 P0 hrow
    go_wp2
    go_ret2
    rw [E.out]
    exact ⟨rfl, _, R6.out, C6.out, Z6.out⟩
end
end Go.Proofs.Ytjncmaaofminkaa
