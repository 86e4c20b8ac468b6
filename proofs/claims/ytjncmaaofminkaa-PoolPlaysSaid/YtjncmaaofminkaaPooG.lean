
/- The contracts of a pool's Dirty and Drop. Conditions: those that each theorem names. -/
import Derived.Test.YtjncmaaofminkaaPooF
namespace Go.Proofs.Ytjncmaaofminkaa
open Go.ChangeShapes Go.WideShapes Go.ChangeAt Go.RowKit
set_option linter.unusedVariables false
set_option linter.unusedSimpArgs false

theorem info_in : (Try.prog.info? 3).map (fun i => (i.zero, i.size, i.bytes)) = some (some (.int .i64 0), 1, 8) := by kernel_rfl
theorem one_cell (W : World) (T : TypeId) (x : Value) (j : Nat) {u : Value} (hu : [x][j]? = some u) : (W.alloc (.cells #[x] T)).cell? ((⟨W.heap.size, 0, none⟩ : Addr).add j) = some u := by
  have e : (⟨W.heap.size, 0, none⟩ : Addr).add j = ⟨W.heap.size, j, none⟩ := by unfold Addr.add; split <;> simp_all
  rw [e]
  have := (Own.made W T #[x]).at_.1 j
  exact this.trans (by simpa using hu)
def ints (l : List Int) : List Value := l.map (.int .i64)
/-- the numbers of those that are dirty -/
def dn (l : List Fr) : List Int := ((l.map (·.rf)).filter (·.dirty)).map (·.no)
theorem dn_yes (l : List Fr) {f : Fr} (h : f.rf.dirty = true) : dn (l ++ [f]) = dn l ++ [f.rf.no] := by simp [dn, h]
theorem dn_no (l : List Fr) {f : Fr} (h : f.rf.dirty = false) : dn (l ++ [f]) = dn l := by simp [dn, h]
theorem dn_len (l : List Fr) : (dn l).length ≤ l.length := by
  unfold dn
  rw [List.length_map]
  exact Nat.le_trans (List.length_filter_le _ _) (by simp)
section
variable {w w' : World} {B p m n u c : Nat} {L S T : List Fr} {f : Fr} {R : List RF}
theorem nodup_inj : ∀ {l : List RF}, (l.map (·.no)).Nodup → ∀ {x y : RF}, x ∈ l → y ∈ l → x.no = y.no → x = y
  | a :: l, h, x, y, hx, hy, e => by
    rw [List.map_cons, List.nodup_cons] at h
    rcases List.mem_cons.1 hx with h1 | h1
    · rcases List.mem_cons.1 hy with h2 | h2
      · rw [h1, h2]
      · have h3 : x.no ∈ l.map (·.no) := List.mem_map.2 ⟨y, h2, e.symm⟩
        rw [h1] at h3
        exact absurd h3 h.1
    · rcases List.mem_cons.1 hy with h2 | h2
      · have h3 : y.no ∈ l.map (·.no) := List.mem_map.2 ⟨x, h1, e⟩
        rw [h2] at h3
        exact absurd h3 h.1
      · exact nodup_inj h.2 h1 h2 e
/-- the sort of a row of one's own -/
theorem sort_any {base : Nat} {v : Value} {xs : List Int} (h : w.ownsRow base 3 1 v xs.length (ints xs)) (hx : xs.length ≤ 1000000) :
    Calls Try.prog 32 #[v] w fun e w' => e = .returned (.tuple #[]) ∧ w'.ownsRow base 3 1 v xs.length (ints (sortI xs)) ∧ Chg (fun q => v.ownBlock = some q) w w' := by
  rcases h.2 with ⟨rfl, h0⟩ | ⟨g, cap, cur, rfl, hg, hb, h1, h2, h3, h4⟩
  · have hx0 : xs = [] := List.eq_nil_of_length_eq_zero h0
    subst hx0
    refine (Try.slices_Sort_int_none _ _ _).mono ?_
    rintro e w' ⟨rfl, rfl⟩
    exact ⟨rfl, by simpa [sortI] using h, Chg.refl _ _⟩
  · have h4' : cur.toList.take xs.length = xs.map (Value.int .i64) := by rw [Nat.mul_one] at h4; exact h4
    refine (Try.slices_Sort_int g 0 cap xs w (holds_of_blockI hb h4') (Array.getElem?_eq_some_iff.1 hb).1 (by omega)).mono ?_
    rintro e w' ⟨rfl, q, os, rfl⟩
    refine ⟨rfl, ownsRow_sortedI (ts := sortI xs) (by unfold sortI; exact (List.mergeSort_perm _ _).length_eq) hg hb h1 h2 h3, (Chg.refl _ w).grown (grownBy_sortedI _) fun k hk => .inl (by cases hk; rfl)⟩
set_option maxRecDepth 10000 in
set_option maxHeartbeats 1000000 in
theorem dirty_any (h : PoolAt w B p n c R) : Calls Try.prog 23 #[.pointer (some ⟨p, 0, none⟩)] w fun e w' =>
    ∃ v, e = .returned v ∧ w'.ownsRow w.heap.size 3 1 v (dirtyR R).length (ints (dirtyR R)) ∧ Below w.heap.size w w' := by
  obtain ⟨m, u, L, hM, hO, hu, hL, hR, h1, h2⟩ := h
  have hfew := few_L hL hR
  have QD : Hid (∀ done : List Fr, done.Perm L → dirtyR R = sortI (dn done)) := fun done hp => by
    unfold dirtyR
    rw [← hL]
    exact sortI_perm ((((hp.map (·.rf)).filter _).map _).symm)
  obtain ⟨o1, o2, o3⟩ := hM.own.at_
  unfold pcell at o1
  have HM := Lib.hid hM.map
  have H := Lib.hid hM
  have FIN := Lib.hid (fun q hq => hM.in_ (q := q) hq)
  obtain ⟨N, hN⟩ : ∃ N, N = L.length := ⟨_, rfl⟩
  have hN2 : N ≤ 65536 := by omega
  have LN := Lib.hid hN
  clear hM hO hL hR hu h1 h2 hfew hN
  go_enter Try.func23, Try.ntmps23
  go_wp2_with (first
    | (at_range; refine wp_range_map _ rfl _ _ rfl _ _ Try.underlying47 .i64 m _ rfl HM.out ?_; intro w0 hr0 hb0 hs0)
    | go_in)
  go_frame
  have R0 := Lib.hid hr0
  have B0 := Lib.hid hb0
  clear hr0 hb0
  go_loopw [3] (fun x wr => ∃ (out : Value) (done rest : List Fr), out = x ∧ (done ++ rest).Perm L ∧ wr.ownsRow w.heap.size 3 1 out (dn done).length (ints (dn done)) ∧ Rng wr w.heap.size m .i64 (L.map ent) (rest.map ent) ∧ Below w.heap.size w wr)
    (fun _ wr => wr.rangeLeft m w.heap.size)
  case atStart => exact ⟨_, [], L, rfl, List.Perm.refl _, World.ownsRow_nil _ _ _ _, R0.out, B0.out⟩
  case round =>
    obtain ⟨out, done, rest, hxo, hp, hrow, hr, hc⟩ := hrel
    subst hxo
    have hdl : (dn done).length + rest.length ≤ N := by
      have h1 := dn_len done
      have h2 := hp.length_eq
      rw [List.length_append, ← LN.out] at h2
      omega
    have hop := H.out.own.keep hc
    obtain ⟨q1, q2, q3⟩ := hop.at_
    unfold pcell at q1
    have HR := Lib.hid hr
    have HC := Lib.hid hc
    have HP := Lib.hid hp
    have HW := Lib.hid hrow
    clear hr hc hp hop hrow o1 o2 o3
    go_wp2_with (first
      | (at_next; refine wp_next_map _ rfl _ rfl .i64 m w.heap.size _ _ rfl HR.out ?_ ?_)
      | go_in)
    · intro he
      obtain rfl : rest = [] := by cases rest with
        | nil => rfl
        | cons x r => cases he
      clear he
      have HS := Lib.hid (sort_any HW.out (by omega))
      have hp := HP.out
      rw [List.append_nil] at hp
      have HQ := Lib.hid (QD.out done hp)
      clear hp
      go_wp2_with (go_at_call 32; refine HS.out.mono ?_; rintro e w2 ⟨rfl, hw2, hc2⟩)
      go_ret
      refine ⟨_, rfl, ?_, ?_⟩
      · rw [HQ.out]
        have e : (sortI (dn done)).length = (dn done).length := (List.mergeSort_perm _ _).length_eq
        rw [e]
        exact hw2
      · exact ((Chg.of HC.out).trans hc2 fun q hq e => absurd (HW.out.lt q e).1 (by omega)).below (S := fun _ => False) (Nat.le_refl _) fun q e => e.elim
    · intro s i v t w1 he hr1 hc1 hs1 hen
      obtain ⟨S, f, T, rfl, rfl, hie, rfl⟩ := split_map ent rest he
      have h1 : i = f.rf.no := congrArg Prod.fst hie
      have h2 : v = .pointer (some ⟨f.blk, 0, none⟩) := congrArg Prod.snd hie
      subst h1 h2
      have hfL : f ∈ L := HP.out.mem_iff.1 (by simp)
      have hfin := FIN.out f.blk (.inr (.inr (List.mem_map.2 ⟨f, hfL, rfl⟩)))
      have hml := FIN.out m (.inr (.inl rfl))
      have hpl := FIN.out p (.inl rfl)
      have hb1 : Below w.heap.size w w1 := ((Chg.of (S := (· = w.heap.size)) HC.out).same hc1).below (Nat.le_refl _) (fun q e => by omega)
      have hof : Own w1 f.blk 55 (fcell f) := (H.out.fr f hfL).keep hb1
      have hop : Own w1 p 49 (pcell n m u) := H.out.own.keep hb1
      have hw1 : w1.ownsRow w.heap.size 3 1 out (dn done).length (ints (dn done)) := ownsRow_keepB HW.out fun g hg => hc1.block g (HW.out.lt g hg).2 fun e => HR.out.ne_row HW.out hg e.symm
      have hp1 : ((done ++ [f]) ++ (S ++ T)).Perm L := by
        refine List.Perm.trans ?_ HP.out
        rw [List.append_assoc]
        refine List.Perm.append_left done ?_
        exact (List.perm_middle (a := f) (l₁ := S) (l₂ := T)).symm
      have hr2 : Rng w1 w.heap.size m .i64 (L.map ent) ((S ++ T).map ent) := by rw [List.map_append]; exact hr1
      have hlen : (S ++ T).length < (S ++ f :: T).length := by simp
      have hms := hr2.left
      have hms0 := HR.out.left
      rw [List.length_map] at hms hms0
      have HM0 := Lib.hid hms0
      have HLT := Lib.hid hlen
      have HMS := Lib.hid hms
      have R2 := Lib.hid hr2
      have P1 := Lib.hid hp1
      have W1 := Lib.hid hw1
      have B1 := Lib.hid hb1
      obtain ⟨f1, f2, f3⟩ := hof.at_
      unfold fcell at f1
      obtain ⟨df, hdf⟩ : ∃ df, df = f.rf.dirty := ⟨_, rfl⟩
      rw [← hdf] at f1
      have DF := Lib.hid hdf
      have hdl2 : (dn done).length + 1 ≤ N := by simp at hdl; omega
      clear he hie hr1 hc1 hof hop hb1 hp1 hr2 hlen hms hms0 q1 q2 q3 hw1 hdf HW HC hdl hs1
      cases df with
      | false =>
        have e1 := dn_no done DF.out.symm
        replace e1 := Lib.hid e1
        go_wp2
        go_roundw
        case rel => exact ⟨_, done ++ [f], S ++ T, rfl, P1.out, by rw [e1.out]; exact W1.out, R2.out, B1.out⟩
        case measure => rw [HMS.out, HM0.out]; exact HLT.out
      | true =>
        have e1 := dn_yes done DF.out.symm
        replace e1 := Lib.hid e1
        obtain ⟨i0, hi0, hz0, hz1, hz2⟩ := info_parts info_in
        have hw1 := W1.out
        have hbs := B1.out.size
        go_wp2_with (at_builtin; refine wpList_append_own_at _ rfl _ _ 43 rfl w.heap.size 3 i0 (.int .i64 0) 1 8 Try.underlying43 hi0 hz0 hz1 hz2 rfl (by decide) out (dn done).length (ints (dn done)) rfl (hw1.alloc _) ⟨w1.heap.size, 0, none⟩ 1 1 [.int .i64 f.rf.no] rfl rfl ?c1 ?c2 (by unfold maxLen; omega) (by omega) (by simp; omega) ?_)
        case c1 => intro j u hu; exact one_cell _ _ _ _ hu
        case c2 => intro u hu; simp at hu; subst hu; rfl
        intro v' w5 hown hgrow hnil hloc
        have hg5 : Chg (fun q => out.ownBlock = some q) w1 w5 := ((Chg.refl _ w1).alloc _).grown hgrow fun q e => .inl e
        have hb5 : Below w.heap.size w w5 := ((Chg.of (S := fun q => w.heap.size ≤ q) B1.out).same (hg5.mono fun q _ e => (hw1.lt q e).1)).below (Nat.le_refl _) fun q e => e
        have hr5 : Rng w5 w.heap.size m .i64 (L.map ent) ((S ++ T).map ent) := R2.out.keep (hg5.block m (by omega) fun e => by have := (hw1.lt m e).1; omega) (hg5.block w.heap.size R2.out.in_ fun e => R2.out.ne_row hw1 e rfl)
        have ho5 : w5.ownsRow w.heap.size 3 1 v' (dn (done ++ [f])).length (ints (dn (done ++ [f]))) := by
          rw [e1.out]
          unfold ints at hown ⊢
          rw [List.map_append, List.length_append]
          exact hown
        have hm5 := hr5.left
        rw [List.length_map] at hm5
        have M5 := Lib.hid hm5
        have B5 := Lib.hid hb5
        have R5 := Lib.hid hr5
        have O5 := Lib.hid ho5
        clear hown hgrow hnil hloc hg5 hb5 hr5 ho5 hm5 hw1
        go_wp2
        go_roundw
        case rel => exact ⟨_, done ++ [f], S ++ T, rfl, P1.out, O5.out, R5.out, B5.out⟩
        case measure => rw [M5.out, HM0.out]; exact HLT.out
theorem drop_nil (w : World) : Calls Try.prog 14 #[.pointer none] w fun e w' => e = .returned (.tuple #[]) ∧ w = w' := by
  go_enter Try.func14, Try.ntmps14
  go_wp2_with (go_at_call 23; refine (dirty_nil _).mono ?_; rintro e w' ⟨rfl, rfl⟩)
  refine wp_loop_rounds 1 ?_
  rw [rounds_succ]
  go_wp2
  go_end0
  exact ⟨rfl, rfl⟩
/-- the numbers in ds are struck -/
def strike (ds : List Int) (l : List Fr) : List Fr := l.filter fun f => !ds.contains f.rf.no
theorem strike_snoc (ds : List Int) (i : Int) (l : List Fr) : (strike ds l).filter (fun f => f.rf.no != i) = strike (ds ++ [i]) l := by
  unfold strike
  rw [List.filter_filter]
  refine List.filter_congr fun x _ => ?_
  rw [List.contains_append]
  by_cases hxi : x.rf.no = i
  · cases ds.contains x.rf.no <;> simp [hxi, bne]
  · have h1 : (x.rf.no == i) = false := by simpa using hxi
    have h2 : [i].contains x.rf.no = false := by simp; exact hxi
    rw [h2]
    cases ds.contains x.rf.no <;> simp [h1, bne]
theorem strike_dirty (hR : ((L.map (·.rf)).map (·.no)).Nodup) : strike (dirtyR (L.map (·.rf))) L = L.filter fun f => !f.rf.dirty := by
  unfold strike
  refine List.filter_congr fun x hx => ?_
  congr 1
  have hm : ∀ i, i ∈ dirtyR (L.map (·.rf)) ↔ i ∈ ((L.map (·.rf)).filter (·.dirty)).map (·.no) := fun i => by
    unfold dirtyR sortI
    exact (List.mergeSort_perm _ _).mem_iff
  cases hd : x.rf.dirty with
  | true =>
    rw [List.contains_iff_mem, hm]
    exact List.mem_map.2 ⟨x.rf, List.mem_filter.2 ⟨List.mem_map.2 ⟨x, hx, rfl⟩, hd⟩, rfl⟩
  | false =>
    rw [← Bool.not_eq_true, List.contains_iff_mem, hm]
    intro h
    obtain ⟨y, hy, hyn⟩ := List.mem_map.1 h
    obtain ⟨hy1, hy2⟩ := List.mem_filter.1 hy
    have := nodup_inj hR hy1 (List.mem_map.2 ⟨x, hx, rfl⟩) hyn
    rw [this, hd] at hy2
    cases hy2
set_option maxRecDepth 10000 in
set_option maxHeartbeats 1000000 in
theorem drop_any (h : PoolAt w B p n c R) : Calls Try.prog 14 #[.pointer (some ⟨p, 0, none⟩)] w fun e w' => e = .returned (.tuple #[]) ∧ PoolAt w' B p n c (dropR R) ∧ Chg (PT w B) w w' := by
  have HD := Lib.hid (dirty_any h)
  obtain ⟨m, u, L, hM, hO, hu, hL, hR, h1, h2⟩ := h
  have QP : Hid (∀ W, Mem W B p m n u (strike (dirtyR R) L) → PoolAt W B p n c (dropR R)) := fun W hW => by
    rw [← hL] at hR hW ⊢
    rw [strike_dirty hR.nos] at hW
    refine ⟨m, u, _, hW, ⟨List.Pairwise.sublist List.filter_sublist hO.rise, fun x hx => hO.last x (List.mem_filter.1 hx).1⟩, hu, ?_, dropR_ok hR, h1, h2⟩
    unfold dropR
    rw [List.filter_map]
    rfl
  obtain ⟨ds, hds⟩ : ∃ ds, ds = dirtyR R := ⟨_, rfl⟩
  rw [← hds] at HD QP
  have H := Lib.hid hM
  have FIN := Lib.hid (fun q hq => hM.in_ (q := q) hq)
  have hml := hM.map.in_
  have hpl := hM.own.in_
  have hdl : ds.length ≤ 65536 := by
    have e : ds.length = ((R.filter (·.dirty)).map (·.no)).length := by rw [hds]; exact (List.mergeSort_perm _ _).length_eq
    have := hR.few
    rw [e, List.length_map]
    exact Nat.le_trans (List.length_filter_le _ _) (by omega)
  obtain ⟨dl, hdl2⟩ : ∃ dl, dl = ds.length := ⟨_, rfl⟩
  have DL := Lib.hid hdl2
  rw [← hdl2] at HD hdl
  clear hM hO hL hR hu h1 h2 hds hdl2
  go_enter Try.func14, Try.ntmps14
  go_wp2_with fail
  refine HD.out.mono ?_
  rintro e w1 ⟨v, rfl, hrow, hb1⟩
  have M1 := Lib.hid (H.out.below hb1)
  have hne := M1.out.ne_map
  have hz1 := hb1.size
  have B1 := Lib.hid hb1
  obtain ⟨va, vc, rfl, hvc, hvm⟩ : ∃ va vc, v = .slice va dl vc ∧ dl ≤ vc ∧ vc ≤ maxLen := by
    rcases hrow.2 with ⟨rfl, h0⟩ | ⟨g, cap, cur, rfl, _, _, h1, h2, _⟩
    · exact ⟨none, 0, by rw [h0], by omega, by unfold maxLen; omega⟩
    · exact ⟨_, _, rfl, h1, h2⟩
  have HW := Lib.hid hrow
  clear hrow hb1
  go_wp2_with fail
  go_loopw [7] (fun i wr => ∃ k : Nat, k ≤ dl ∧ i = .int .i64 k ∧ Mem wr B p m n u (strike (ds.take k) L) ∧ Chg (· = m) w1 wr) (fun i wr => dl - (intOf i).toNat)
  case atStart => exact ⟨0, by omega, rfl, by
    have e : strike (ds.take 0) L = L := by unfold strike; simp
    rw [e]; exact M1.out, Chg.refl _ _⟩
  case round =>
    obtain ⟨k, hk, rfl, hm, hc⟩ := hrel
    obtain ⟨q1, q2, q3⟩ := hm.own.at_
    unfold pcell at q1
    have MK := Lib.hid hm
    have CK := Lib.hid hc
    clear hm hc
    by_cases hlt : k < dl
    · obtain ⟨g, hg, hgw, hcell⟩ : ∃ g, va = some ⟨g, 0, none⟩ ∧ w.heap.size ≤ g ∧ w1.cell? ⟨g, k, none⟩ = some (.int .i64 (ds.getD k 0)) := by
        rcases HW.out.2 with ⟨h0, h1⟩ | ⟨g, cap, cur, h0, hg, hb, h1, h2, h3, h4⟩
        · omega
        · refine ⟨g, (Value.slice.inj h0).1, hg, ?_⟩
          have h5 : (cur.toList.take (dl * 1))[k]? = (ints ds)[k]? := by rw [h4]
          rw [Nat.mul_one, List.getElem?_take_of_lt hlt] at h5
          have hkd : k < ds.length := by rw [← DL.out]; exact hlt
          simp only [World.cell?, hb, Option.isSome_none, Bool.false_eq_true, if_false]
          rw [← Array.getElem?_toList, h5]
          simp [ints, hkd]
      subst hg
      have hcell2 := CK.out.cell hcell (by omega)
      obtain ⟨x, hx⟩ : ∃ x, x = ds.getD k 0 := ⟨_, rfl⟩
      rw [← hx] at hcell2
      have hst : (strike (ds.take k) L).filter (fun f => f.rf.no != x) = strike (ds.take (k + 1)) L := by
        have hkd : k < ds.length := by rw [← DL.out]; exact hlt
        rw [strike_snoc, List.take_succ_eq_append_getElem hkd, hx]
        simp [List.getD, hkd]
      have ST := Lib.hid hst
      have hm2 := MK.out.map
      clear hcell hx hst
      go_wp2_with (first | (at_delete; refine wp_delete_map _ rfl _ _ _ _ rfl _ Try.underlying47 .i64 Try.underlying3 m _ _ rfl rfl hm2 ?_; intro w2 hmm2 hc2 hs2) | go_in)
      rw [filter_ent, ST.out] at hmm2
      have hM2 : Mem w2 B p m n u (strike (ds.take (k + 1)) L) := MK.out.sub hc2 hmm2 (by rw [← ST.out]; exact List.filter_sublist)
      have M2 := Lib.hid hM2
      have C2 := Lib.hid (CK.out.same hc2)
      clear hmm2 hc2 hs2 hM2 hm2
      go_wp2
      go_roundw
      case rel => exact ⟨k + 1, by omega, by go_num, M2.out, C2.out⟩
      case measure => simp [intOf]; omega
    · have hkd : k = ds.length := by have := DL.out; omega
      have hfin := MK.out
      rw [hkd, List.take_length] at hfin
      have HF := Lib.hid hfin
      clear hkd hfin
      go_wp2
      go_end0
      refine ⟨rfl, QP.out _ HF.out, ?_⟩
      exact H.out.chg (((Chg.of B1.out).trans CK.out fun q hq e => .inr (.inl e)))
end
end Go.Proofs.Ytjncmaaofminkaa
