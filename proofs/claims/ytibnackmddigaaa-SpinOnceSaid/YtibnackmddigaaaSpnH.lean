
/- The contract of Rings. Conditions: at most 30,000 vertices, and edges. -/
import Derived.Test.YtibnackmddigaaaSpnG
namespace Go.Proofs.Ytibnackmddigaaa.Pl
open Go.ChangeShapes Go.WideShapes Go.ChangeAt Go.RowKit Go.Proofs.Ytibnackmddigaaa.Mp
set_option linter.unusedVariables false
set_option linter.unusedSimpArgs false

theorem nodup_le : ∀ {l H : List Hf}, l.Nodup → (∀ x ∈ l, x ∈ H) → l.length ≤ H.length
  | [], _, _, _ => Nat.zero_le _
  | x :: l, H, hn, hs => by
    rw [List.nodup_cons] at hn
    have hx : x ∈ H := hs x (by simp)
    have h1 := nodup_le (l := l) (H := H.erase x) hn.2 fun y hy => (List.mem_erase_of_ne (fun e => hn.1 (by rw [← e]; exact hy))).2 (hs y (by simp [hy]))
    rw [List.length_erase_of_mem hx] at h1
    have := List.length_pos_of_mem hx
    rw [List.length_cons]
    omega
def lenV : Value → Nat
  | .slice _ n _ => n
  | _ => 0
/-- what Rings keeps in memory -/
structure RngS (w : World) (B mm q5 mb : Nat) (hv : Value) (H : List Hf) (L : List (Hf × Value)) (met : List Hf) (B3 : Nat) (rv : Value) (PL : List (Value × List Hf)) : Prop where
  mt : MtG w mm met
  box : Own w q5 76 #[.map (some mm)]
  beh : MapG w mb hV L
  two : mm ≠ mb
  hal : HOwn w B hv H
  rin : RgAt w B3 rv PL
def RZ (mm q5 mb : Nat) (hv rv : Value) (PL : List (Value × List Hf)) (q : Nat) : Prop := q = mm ∨ q = q5 ∨ q = mb ∨ hv.ownBlock = some q ∨ rv.ownBlock = some q ∨ ∃ x ∈ PL, x.1.ownBlock = some q
section
variable {w w' : World} {B mm q5 mb B3 : Nat} {hv rv : Value} {H met : List Hf} {L : List (Hf × Value)} {PL : List (Value × List Hf)}
theorem RngS.keep {S : Nat → Prop} (h : RngS w B mm q5 mb hv H L met B3 rv PL) (hc : Chg S w w') (hS : ∀ q, S q → ¬ RZ mm q5 mb hv rv PL q) : RngS w' B mm q5 mb hv H L met B3 rv PL :=
  ⟨MapG.keep h.mt (hc.block _ (MapG.in_ h.mt) fun k => hS _ k (.inl rfl)), hc.own h.box fun k => hS _ k (.inr (.inl rfl)), h.beh.keep (hc.block _ h.beh.in_ fun k => hS _ k (.inr (.inr (.inl rfl)))), h.two,
   h.hal.keep hc fun g hg k => hS _ k (.inr (.inr (.inr (.inl hg)))), h.rin.keep hc (fun g hg k => hS _ k (.inr (.inr (.inr (.inr (.inl hg)))))) fun x hx g hg k => hS _ k (.inr (.inr (.inr (.inr (.inr ⟨x, hx, hg⟩)))))⟩
theorem RngS.below (h : RngS w B mm q5 mb hv H L met B3 rv PL) (hb : Below w.heap.size w w') : RngS w' B mm q5 mb hv H L met B3 rv PL := h.keep (Chg.of (S := fun _ => False) hb) fun _ k => k.elim
theorem RngS.foot (h : RngS w B mm q5 mb hv H L met B3 rv PL) {q : Nat} (k : RZ mm q5 mb hv rv PL q) : q < w.heap.size := by
  rcases k with rfl | rfl | rfl | k | k | ⟨x, hx, k⟩
  · exact MapG.in_ h.mt
  · exact h.box.in_
  · exact h.beh.in_
  · exact h.hal.lt k
  · exact (h.rin.foot.1 q k).2
  · exact (h.rin.foot.2 x hx q k).2
theorem row_obj {T : TypeId} {k n : Nat} {v : Value} {xs : List Value} (h : w.ownsRow B T k v n xs) {g b : Nat} {es : Array MapEntry} {ck : Nat} (hg : v.ownBlock = some g) (hb : w.heap[b]? = some (.map es ck)) : g ≠ b := by
  rintro rfl
  obtain ⟨_, cur, ho⟩ := row_own h hg
  unfold Own at ho
  rw [hb] at ho
  cases ho
theorem RngS.put (h : RngS w B mm q5 mb hv H L met B3 rv PL) (hc : Chg (· = mm) w w') {met' : List Hf} (hm : MtG w' mm met') : RngS w' B mm q5 mb hv H L met' B3 rv PL := by
  obtain ⟨es, ck, e⟩ := mapG_obj h.mt
  exact ⟨hm, hc.own h.box fun k => (MapG.ne h.mt h.box) k.symm, h.beh.keep (hc.block _ h.beh.in_ fun k => h.two k.symm), h.two, h.hal.keep hc fun g hg k => row_obj h.hal hg e k,
   h.rin.keep hc (fun g hg k => row_obj h.rin.1 hg e k) fun x hx g hg k => row_obj (h.rin.2 x hx) hg e k⟩
theorem RngS.grow (h : RngS w B mm q5 mb hv H L met B3 rv PL) {v9 : Value} {PL' : List (Value × List Hf)} (hg : w.grownBy w' rv.ownBlock) (hr : w'.ownsRow B3 40 1 v9 PL'.length (PL'.map (·.1))) (hx : ∀ x ∈ PL', HOwn w B3 x.1 x.2) : RngS w' B mm q5 mb hv H L met B3 v9 PL' := by
  have hc : Chg (fun q => rv.ownBlock = some q) w w' := (Chg.refl _ _).grown hg fun k hk => .inl hk
  have key : ∀ {q : Nat} {T : TypeId} {cs : Array Value}, Own w q T cs → T ≠ 40 → ¬ rv.ownBlock = some q := fun ho hT e => by
    obtain ⟨_, cur, ho2⟩ := row_own h.rin.1 e
    exact own_ne ho ho2 hT rfl
  have keym : ∀ {q : Nat}, (∃ es ck, w.heap[q]? = some (.map es ck)) → ¬ rv.ownBlock = some q := fun ⟨es, ck, e2⟩ e => row_obj h.rin.1 e e2 rfl
  have keyr : ∀ {v : Value} {l : List Hf} {B : Nat}, HOwn w B v l → HOwn w' B v l := fun ho => ho.keep hc fun g hg k => by
    obtain ⟨_, cur, ho2⟩ := ho.own hg
    exact key ho2 (by decide) k
  exact ⟨MapG.keep h.mt (hc.block _ (MapG.in_ h.mt) (keym (mapG_obj h.mt))), hc.own h.box (key h.box (by decide)), h.beh.keep (hc.block _ h.beh.in_ (keym (mapG_obj h.beh))), h.two, keyr h.hal, hr, fun x k => keyr (hx x k)⟩
theorem new_one (W : World) (T : TypeId) (x : Value) (j : Nat) {t : Value} (hu : [x][j]? = some t) : (W.alloc (.cells #[x] T)).cell? ((⟨W.heap.size, 0, none⟩ : Addr).add j) = some t := by
  have e : (⟨W.heap.size, 0, none⟩ : Addr).add j = ⟨W.heap.size, j, none⟩ := by unfold Addr.add; split <;> simp_all
  rw [e]
  have := (Own.made W T #[x]).at_.1 j
  exact this.trans (by simpa using hu)
theorem met_snoc (met : List Hf) (h : Hf) : (met.map fun h => (h, Value.agg #[])) ++ [(h, .agg #[])] = (met ++ [h]).map fun h => (h, Value.agg #[]) := by simp
end
section
variable {v e : Value} {vs : List Vx} {es : List Eg} {w : World}
set_option maxRecDepth 10000 in
set_option maxHeartbeats 1000000 in
theorem rings_any (hv : VIn w v vs) (he : EIn w e es) (hn : vs.length ≤ 30000) (hm : es.length ≤ 30000) : Calls Try.prog 10 #[.agg #[v, e]] w fun r w' =>
    ∃ u PL, r = .returned u ∧ RgAt w' w.heap.size u PL ∧ PL.map (·.2) = rg (pvs vs es) (pes vs es) ∧ Below w.heap.size w w' := by
  have WV := Lib.hid (fun (W : World) (hW : Below w.heap.size w W) => weave_any (TIn.below hv hW) (TIn.below he hW) hn hm)
  have FO := Lib.hid (fun (W : World) (B p : Nat) (Z : Nat → Prop) (h : Web W B p (wys (pvs vs es) (pes vs es)) Z) => follow_any (pfl vs es).1 (pfl vs es).2 h (Nat.le_trans (pes_len vs es) hm))
  have LN : Hid ((hfs (pes vs es)).length ≤ 60000) := Lib.hid (by rw [hfs_len]; have := pes_len vs es; omega)
  have ND : Hid ((hfs (pes vs es)).Nodup) := Lib.hid (hfs_nodup (pfl vs es).2.rise)
  have RG : Hid (rg (pvs vs es) (pes vs es) = ringsR (nx (pvs vs es) (pes vs es)) ((hfs (pes vs es)).length + 1) (hfs (pes vs es)) []) := Lib.hid (by unfold rg; rw [hfs_len])
  have NM : Hid (∀ h ∈ hfs (pes vs es), nx (pvs vs es) (pes vs es) h ∈ hfs (pes vs es)) := Lib.hid fun h hh => (nx_mem hh).1
  have HW0 : Hid ((wys (pvs vs es) (pes vs es)).map (·.1) = hfs (pes vs es)) := Lib.hid (wys_halves _ _)
  obtain ⟨a, c, rfl⟩ := hv.sl
  obtain ⟨a', c', rfl⟩ := he.sl
  have BB := Lib.hid (bx1 w 30 #[.slice a vs.length c, .slice a' es.length c'])
  clear hv he
  obtain ⟨RR, hRR⟩ : ∃ RR, RR = rg (pvs vs es) (pes vs es) := ⟨_, rfl⟩
  rw [← hRR] at RG ⊢
  clear hRR
  generalize nx (pvs vs es) (pes vs es) = f at *
  generalize wys (pvs vs es) (pes vs es) = P at *
  generalize hfs (pes vs es) = H at *
  generalize vs.length = n0 at *
  generalize es.length = m0 at *
  have hmk := @run_makeMap Try.prog
  go_enter Try.func10, Try.ntmps10
  go_upto_region 3 with (first
    | (go_at_call 36; refine (FO.out _ _ _ _ HW.out).mono ?_; rintro e w3 ⟨mb, L, rfl, hmb, mw, fl, b3⟩; have MW := Lib.hid mw; have FL := Lib.hid fl; have B3 := Lib.hid b3; clear hmb mw fl b3)
    | (go_at_call 35; refine (WV.out _ BB.out).mono ?_; rintro e w2 ⟨p, Z, rfl, hw, b2⟩; have HW := Lib.hid hw; have B2 := Lib.hid (then_ BB.out b2 BB.out.size); clear hw b2))
  obtain ⟨m2, m3, hv, M, hW2, -, -⟩ := HW.out
  have hW3 := hW2.below B3.out
  have hal := hW3.halves
  have hown := hW3.own
  rw [HW0.out] at hal
  have HB3 := then_ B2.out B3.out B2.out.size
  obtain ⟨W4, hW4⟩ : ∃ W4, W4 = (w3.alloc (.map #[] 0)).alloc (.cells #[.map (some w3.heap.size)] 76) := ⟨_, rfl⟩
  have b4 : Below w3.heap.size w3 W4 := by rw [hW4]; repeat' (first | (with_reducible exact Below.refl _ _) | (with_reducible assumption) | (with_reducible refine below_drewN ?_ _) | (with_reducible refine Below.drew ?_) | (with_reducible refine Below.alloc ?_ ?_ _) | (with_reducible refine Below.setCell ?_ ?_ _) | (with_reducible refine then_ ?_ (by with_reducible assumption) ?_) | (with_reducible exact Nat.le_refl _) | (with_reducible exact Nat.le_succ _) | (with_reducible exact Nat.le_succ_of_le (by with_reducible assumption)) | omega | (simp; done) | (simp; omega) | (exact Nat.le_succ _) | (exact Nat.le_succ_of_le (by with_reducible assumption)))
  have RS : Hid (RngS W4 (w.alloc (.cells #[.slice a n0 c, .slice a' m0 c'] 30)).heap.size w3.heap.size (w3.heap.size + 1) mb hv H L [] W4.heap.size (.slice none 0 0) []) := Lib.hid ⟨by rw [hW4]; exact MapG.keep (MapG.made w3 hV) (Below.heap_alloc _ _ _ (by simp)), by rw [hW4]; exact Own.made_at (by simp), MW.out.keep (b4.block _ MW.out.in_), fun e => by have := MW.out.in_; omega, hal.below b4, RgAt.nil _ _⟩
  have OW := Lib.hid (hown.keep b4)
  have HB4 := Lib.hid (then_ HB3 b4 HB3.size)
  have MM : Hid (w.heap.size ≤ w3.heap.size) := Lib.hid HB3.size
  obtain ⟨ah, ch, hsh⟩ := hal.shape
  subst hsh
  clear hW2 hW3 hal hown HB3 b4 MW HW B2 B3 WV FO HW0
  go_upto_region 6 with fail
  rw [← hW4]
  clear hW4
  obtain ⟨n, hnn⟩ : ∃ n, n = H.length := ⟨_, rfl⟩
  rw [← hnn] at RG LN RS OW
  have HN := Lib.hid hnn
  clear hnn
  obtain ⟨o1, o2, o3⟩ := OW.out.at_
  have SZ4 : Hid (w.heap.size ≤ W4.heap.size) := Lib.hid HB4.out.size
  generalize w3.heap.size = mm at *
  generalize hB0 : (w.alloc (.cells #[.slice a n0 c, .slice a' m0 c'] 30)).heap.size = B0 at *
  clear hB0
  have HBZ : Hid (W4.heap.size ≤ W4.heap.size) := Lib.hid (Nat.le_refl _)
  obtain ⟨b4, hb⟩ : ∃ b4, b4 = W4.heap.size := ⟨_, rfl⟩
  rw [← hb] at SZ4 RS
  replace HBZ : Hid (b4 ≤ W4.heap.size) := Lib.hid (Nat.le_of_eq hb)
  clear hb
  have hnb : n ≤ 60000 := LN.out
  go_wp2
  go_loopw [7, 23] (fun rv j wr => ∃ (k : Nat) (met : List Hf) (PL : List (Value × List Hf)), k ≤ n ∧ j = .int .i64 (k : Int) ∧ Hid (∃ ar cr, rv = .slice ar PL.length cr) ∧ Hid (RngS wr B0 mm (mm + 1) mb (.slice ah n ch) H L met b4 rv PL) ∧ Hid (RR = PL.map (·.2) ++ ringsR f (n + 1) (H.drop k) met) ∧ Hid (met.Nodup ∧ ∀ x ∈ met, x ∈ H) ∧ Hid (PL.length ≤ k) ∧ Hid (b4 ≤ wr.heap.size) ∧ Hid (Below w.heap.size w wr)) (fun rv j wr => n - (intOf j).toNat)
  case atStart => exact ⟨0, [], [], by omega, rfl, Lib.hid ⟨none, 0, rfl⟩, RS, Lib.hid (by rw [List.drop_zero]; exact RG.out), Lib.hid ⟨List.nodup_nil, fun x hx => by cases hx⟩, Lib.hid (Nat.zero_le _), HBZ, HB4⟩
  case round =>
    clear RS HB4 OW o1 o2 o3
    obtain ⟨k, met, PL, hk, rfl, HSH, HS, HR, HM, HPL, HSZ, HB⟩ := hrel
    by_cases hlt : k < n
    · have hkl : k < H.length := by rw [← HN.out]; exact hlt
      obtain ⟨ar, cr, hsh⟩ := HSH.out
      subst hsh
      clear HSH
      obtain ⟨gh, ch2, hsl, -, -, -, -⟩ := hOwn_cells HS.out.hal (by omega)
      obtain rfl : ah = some ⟨gh, 0, none⟩ := by injection hsl
      clear hsl
      obtain ⟨y1, y2⟩ := hOwn_cell HS.out.hal hkl
      have DR := Lib.hid (List.drop_eq_getElem_cons hkl)
      have XH : Hid (H[k]'hkl ∈ H) := Lib.hid (List.getElem_mem hkl)
      obtain ⟨x, hx⟩ : ∃ x, x = H[k]'hkl := ⟨_, rfl⟩
      rw [← hx] at y1 y2 DR XH
      clear hx
      rw [DR.out] at HR
      obtain ⟨xe, xb⟩ := x
      simp only at y1 y2
      obtain ⟨W6, hW6⟩ : ∃ W6, W6 = (wr.alloc (.cells #[.int .i64 xe, .bool xb] 42)).alloc (.cells #[.int .i64 xe, .bool xb] 42) := ⟨_, rfl⟩
      have BX : Hid (Below wr.heap.size wr W6) := Lib.hid (by rw [hW6]; repeat' (first | (with_reducible exact Below.refl _ _) | (with_reducible assumption) | (with_reducible refine below_drewN ?_ _) | (with_reducible refine Below.drew ?_) | (with_reducible refine Below.alloc ?_ ?_ _) | (with_reducible refine Below.setCell ?_ ?_ _) | (with_reducible refine then_ ?_ (by with_reducible assumption) ?_) | (with_reducible exact Nat.le_refl _) | (with_reducible exact Nat.le_succ _) | (with_reducible exact Nat.le_succ_of_le (by with_reducible assumption)) | omega | (simp; done) | (simp; omega) | (exact Nat.le_succ _) | (exact Nat.le_succ_of_le (by with_reducible assumption))))
      have FTR : Hid (∀ q, RZ mm (mm + 1) mb (.slice (some ⟨gh, 0, none⟩) n ch) (.slice ar PL.length cr) PL q → q < wr.heap.size) := Lib.hid fun q k => HS.out.foot k
      have HS6 := Lib.hid (HS.out.below BX.out)
      have HB6 := Lib.hid (then_ HB.out BX.out HB.out.size)
      have Q6 : Hid (Own W6 (wr.heap.size + 1) 42 #[.int .i64 xe, .bool xb]) := Lib.hid (by rw [hW6]; exact Own.made_at (by simp))
      have SZ6 : Hid (w.heap.size ≤ wr.heap.size ∧ wr.heap.size ≤ W6.heap.size ∧ b4 ≤ wr.heap.size) := Lib.hid ⟨HB.out.size, BX.out.size, HSZ.out⟩
      clear HS HB HSZ
      go_upto_region 9 with fail
      go_wp2
      rw [← hW6]
      clear hW6 BX
      generalize hB1 : wr.heap.size = B1 at *
      clear hB1
      go_loopw [10, 11] (fun v10 s11 wq => ∃ (r : List Hf) (h : Hf) (g11 : Nat), s11 = .pointer (some ⟨g11, 0, none⟩) ∧ Hid (∃ aq cq, v10 = .slice aq r.length cq) ∧ Hid (h ∈ H) ∧ Hid (HOwn wq B1 v10 r) ∧ Hid (Own wq g11 42 #[.int .i64 h.1, .bool h.2]) ∧ Hid (B1 ≤ g11 ∧ ∀ g, v10.ownBlock = some g → g ≠ g11) ∧ Hid (RngS wq B0 mm (mm + 1) mb (.slice (some ⟨gh, 0, none⟩) n ch) H L (met ++ r) b4 (.slice ar PL.length cr) PL) ∧ Hid (walkR f (n + 1) met (xe, xb) = r ++ walkR f (n + 1 - r.length) (met ++ r) h) ∧ Hid ((met ++ r).Nodup ∧ ∀ x ∈ met ++ r, x ∈ H) ∧ Hid (Below w.heap.size w wq)) (fun v10 s11 wq => n + 1 - lenV v10)
      case atStart => exact ⟨[], (xe, xb), _, rfl, Lib.hid ⟨none, 0, rfl⟩, XH, Lib.hid (HOwn.nil _ _), Q6, Lib.hid ⟨by omega, fun g hg => by cases hg⟩, Lib.hid (by rw [List.append_nil]; exact HS6.out), Lib.hid (by rw [List.append_nil]; rfl), Lib.hid (by rw [List.append_nil]; exact HM.out), HB6⟩
      case round =>
        clear HS6 HB6 Q6
        obtain ⟨r, h, g11, rfl, HSH, HH, HO, HQ, HG, HS, HWK, HND, HB⟩ := hrel
        obtain ⟨aq, cq, hsh⟩ := HSH.out
        subst hsh
        have IM := Lib.hid (isMet_any h wr HS.out.mt HS.out.box)
        obtain ⟨h1, h2⟩ := h
        unfold hV at IM
        simp only at IM HQ
        obtain ⟨u1, u2⟩ := half_at HQ.out
        by_cases hmem : (h1, h2) ∈ met ++ r
        · have WK : Hid (walkR f (n + 1) met (xe, xb) = r) := Lib.hid (by rw [HWK.out, walkR_stop _ _ _ _ hmem, List.append_nil])
          rw [decide_eq_true hmem] at IM
          clear hmem HWK
          by_cases hr0 : r = []
          · subst hr0
            have HR1 : Hid (RR = PL.map (·.2) ++ ringsR f (n + 1) (H.drop (k + 1)) met) := Lib.hid (by rw [HR.out, ringsR, WK.out, if_pos rfl])
            rw [List.append_nil] at HS
            go_upto_region 17 with (go_at_call 37; refine IM.out.mono ?_; rintro e w2 ⟨rfl, b2⟩; have B2 := Lib.hid b2; clear b2)
            have HS2 := Lib.hid (HS.out.below B2.out)
            have HB2 := Lib.hid (then_ HB.out B2.out HB.out.size)
            have SZ2 : Hid (b4 ≤ w2.heap.size) := Lib.hid (by have := HQ.out.in_; have := HG.out.1; have := SZ6.out; have := B2.out.size; omega)
            go_wp2
            go_roundw
            case rel => exact ⟨k + 1, met, PL, by omega, by go_num, Lib.hid ⟨ar, cr, rfl⟩, HS2, HR1, HM, Lib.hid (by have := HPL.out; omega), SZ2, HB2⟩
            case measure => simp [intOf] <;> omega
          · have hrp : 0 < r.length := List.length_pos_iff.2 hr0
            have HR1 : Hid (RR = (PL ++ [(Value.slice aq r.length cq, r)]).map (·.2) ++ ringsR f (n + 1) (H.drop (k + 1)) (met ++ r)) := Lib.hid (by rw [HR.out, ringsR, WK.out, if_neg hr0, List.map_append, List.append_assoc]; rfl)
            obtain ⟨i1, hi1, hy0, hy1, hy2⟩ := info_of info_Row
            obtain ⟨l, hl⟩ : ∃ l, l = r.length := ⟨_, rfl⟩
            rw [← hl] at hrp HR1 HO HG
            have HL := Lib.hid hl
            go_upto_region 17 with (go_at_call 37; refine IM.out.mono ?_; rintro e w2 ⟨rfl, b2⟩; have B2 := Lib.hid b2; clear b2)
            rw [← hl]
            clear hl
            have HS2 := Lib.hid (HS.out.below B2.out)
            have HB2 := Lib.hid (then_ HB.out B2.out HB.out.size)
            have HO2 := Lib.hid (HO.out.below B2.out)
            have SZ2 : Hid (b4 ≤ w2.heap.size ∧ b4 ≤ B1) := Lib.hid (by have := HQ.out.in_; have := HG.out.1; have := SZ6.out; have := B2.out.size; omega)
            have BX : Hid (Below w2.heap.size w2 (w2.alloc (.cells #[.slice aq l cq] 40))) := Lib.hid (bx1 _ _ _)
            have HS3 := Lib.hid (HS2.out.below BX.out)
            have HO3 := Lib.hid (HO2.out.below BX.out)
            have HB3 := Lib.hid (then_ HB2.out BX.out HB2.out.size)
            have PLN := HPL.out
            obtain ⟨pl, hpl⟩ : ∃ pl, pl = PL.length := ⟨_, rfl⟩
            rw [← hpl] at PLN HS3 ⊢
            have HPLN := Lib.hid hpl
            clear hpl HS HO HQ HB HS2 HO2 HB2 IM u1 u2
            have hlt2 : (0 : Int) < (l : Int) := by omega
            go_wp2_with (at_builtin; refine wpList_append_own_at _ rfl _ _ 28 rfl b4 40 i1 (.slice none 0 0) 1 24 Try.underlying28 hi1 hy0 hy1 hy2 rfl (by decide) (.slice ar pl cr) pl (PL.map (·.1)) rfl (by have := HS3.out.rin.1; rw [← HPLN.out] at this; exact this) ⟨w2.heap.size, 0, none⟩ 1 1 [.slice aq l cq] rfl rfl (fun j u hu => new_one w2 _ _ j hu) (by intro u hu; simp at hu; subst hu; rfl) (by unfold maxLen; omega) (by omega) (by have := SZ2.out.1; have := BX.out.size; omega) ?_; intro v9 w9 hown hgrow hnil hloc; obtain ⟨ya, yc, rfl⟩ := row_shape hown; have HO9 := Lib.hid hown; have HG9 := Lib.hid hgrow; clear hown hgrow hnil hloc)
            have NEW := Lib.hid (HS3.out.grow (PL' := PL ++ [(.slice aq l cq, r)]) HG9.out (by
              have := HO9.out
              rw [List.length_append, List.map_append, ← HPLN.out]
              exact this) (fun x hx => by
              rcases List.mem_append.1 hx with hx | hx
              · exact HS3.out.rin.2 x hx
              · rw [List.mem_singleton] at hx
                rw [hx]
                have ho := HO3.out
                exact ⟨ho.1, ho.2.imp id fun ⟨g, cap, cur, e1, e2, e3⟩ => ⟨g, cap, cur, e1, Nat.le_trans SZ2.out.2 e2, e3⟩⟩))
            have HB9 := Lib.hid (HB3.out.grown HG9.out HB3.out.size fun q k => by have := (HS3.out.rin.foot.1 q k).1; have := SZ4.out; omega)
            have SZ9 : Hid (b4 ≤ w9.heap.size) := Lib.hid (by have := SZ2.out.1; have := BX.out.size; have := HG9.out.size; omega)
            have HSH9 : Hid (∃ a c, Value.slice ya (pl + 1) yc = .slice a (PL ++ [(Value.slice aq l cq, r)]).length c) := Lib.hid ⟨ya, yc, by rw [List.length_append, ← HPLN.out]; rfl⟩
            have LE9 : Hid ((PL ++ [(Value.slice aq l cq, r)]).length ≤ k + 1) := Lib.hid (by rw [List.length_append, ← HPLN.out, List.length_singleton]; omega)
            go_wp2
            go_roundw
            case rel => exact ⟨k + 1, met ++ r, PL ++ [(.slice aq l cq, r)], by omega, by go_num, HSH9, NEW, HR1, HND, LE9, SZ9, HB9⟩
            case measure => simp [intOf] <;> omega
        · rw [decide_eq_false hmem] at IM
          have RL : Hid (met.length + r.length < n) := Lib.hid (by
            have h3 : (met ++ r ++ [(h1, h2)]).Nodup := by
              rw [List.nodup_append]
              refine ⟨HND.out.1, by simp, fun a ha b hb => ?_⟩
              rw [List.mem_singleton] at hb
              rintro rfl
              exact hmem (hb ▸ ha)
            have := nodup_le h3 (H := H) fun x hx => by
              rcases List.mem_append.1 hx with hx | hx
              · exact HND.out.2 x hx
              · rw [List.mem_singleton] at hx
                rw [hx]
                exact HH.out
            rw [List.length_append, List.length_append, List.length_singleton, ← HN.out] at this
            omega)
          have WK : Hid (walkR f (n + 1) met (xe, xb) = (r ++ [(h1, h2)]) ++ walkR f (n + 1 - (r ++ [(h1, h2)]).length) (met ++ (r ++ [(h1, h2)])) (f (h1, h2))) := Lib.hid (by
            have e1 : n + 1 - r.length = (n + 1 - (r ++ [(h1, h2)]).length) + 1 := by rw [List.length_append, List.length_singleton]; have := RL.out; omega
            rw [HWK.out, e1, walkR_step _ _ _ _ hmem, ← List.append_assoc met, List.append_assoc r]
            rfl)
          have ND2 : Hid ((met ++ (r ++ [(h1, h2)])).Nodup ∧ ∀ x ∈ met ++ (r ++ [(h1, h2)]), x ∈ H) := Lib.hid (by
            rw [← List.append_assoc]
            refine ⟨?_, fun x hx => ?_⟩
            · rw [List.nodup_append]
              refine ⟨HND.out.1, by simp, fun a ha b hb => ?_⟩
              rw [List.mem_singleton] at hb
              rintro rfl
              exact hmem (hb ▸ ha)
            · rcases List.mem_append.1 hx with hx | hx
              · exact HND.out.2 x hx
              · rw [List.mem_singleton] at hx
                rw [hx]
                exact HH.out)
          have LKN : Hid (lkG ((met ++ r).map fun h => (h, Value.agg #[])) (h1, h2) = none) := Lib.hid (by rw [lk_met, if_neg hmem])
          have LKB : Hid (lkG L (h1, h2) = some (hV (f (h1, h2)))) := Lib.hid ((FL.out _).1 HH.out)
          have FH : Hid (f (h1, h2) ∈ H) := Lib.hid (NM.out _ HH.out)
          clear hmem HWK HND
          go_upto_region 13 with (go_at_call 37; refine IM.out.mono ?_; rintro e w2 ⟨rfl, b2⟩; have B2 := Lib.hid b2; clear b2)
          have HS2 := Lib.hid (HS.out.below B2.out)
          have Q2 := Lib.hid (HQ.out.keep B2.out)
          have HO2 := Lib.hid (HO.out.below B2.out)
          have HB2 := Lib.hid (then_ HB.out B2.out HB.out.size)
          have GL : Hid (g11 < w2.heap.size) := Lib.hid Q2.out.in_
          obtain ⟨w5, r5, p5, c5, z5⟩ := MapG.put HS2.out.mt (t := 76) Try.underlying76 key_half (h1, h2) (.agg #[]) LKN.out
          have HS5 : Hid (RngS w5 B0 mm (mm + 1) mb (.slice (some ⟨gh, 0, none⟩) n ch) H L (met ++ (r ++ [(h1, h2)])) b4 (.slice ar PL.length cr) PL) := Lib.hid (HS2.out.put c5 (by
            unfold MtG
            rw [← List.append_assoc, ← met_snoc]
            exact p5))
          have Q5 := Lib.hid (c5.own Q2.out fun k => (MapG.ne HS2.out.mt Q2.out) k.symm)
          have HO5 := Lib.hid (HO2.out.keep c5 fun g hg k => by
            obtain ⟨es2, ck2, e2⟩ := mapG_obj HS2.out.mt
            exact row_obj HO2.out hg e2 k)
          have HB5 := Lib.hid (HB2.out.trans (c5.below HB2.out.size fun q k => by rw [k]; exact MM.out))
          have Z5 : Hid (w2.heap.size ≤ w5.heap.size) := Lib.hid c5.size
          obtain ⟨x1, x2, x3⟩ := HS2.out.box.at_
          obtain ⟨v1, v2⟩ := half_at Q2.out
          unfold hV at r5
          simp only at r5
          go_upto_region 14 with fail
          clear r5 p5 c5 z5 x1 x2 x3 v1 v2 u1 u2 HS HQ HO HB HS2 Q2 HO2 HB2 IM LKN B2
          obtain ⟨i0, hi0, hz0, hz1, hz2⟩ := info_of info_Half
          obtain ⟨v1, v2⟩ := half_at Q5.out
          have BX : Hid (Below w5.heap.size w5 (w5.alloc (.cells #[.int .i64 h1, .bool h2] 42))) := Lib.hid (bx1 _ _ _)
          have HS6 := Lib.hid (HS5.out.below BX.out)
          have Q6 := Lib.hid (Q5.out.keep BX.out)
          have HO6 := Lib.hid (HO5.out.below BX.out)
          have HB6 := Lib.hid (then_ HB5.out BX.out HB5.out.size)
          obtain ⟨l, hl⟩ : ∃ l, l = r.length := ⟨_, rfl⟩
          have RLL := RL.out
          rw [← hl] at HG HO6 RLL ⊢
          have HL := Lib.hid hl
          clear hl HO5 HS5
          have hB1 : Hid (B1 ≤ w5.heap.size) := Lib.hid (by have := HG.out.1; have := GL.out; have := Z5.out; omega)
          go_upto_region 15 with (at_builtin; refine wpList_append_own_at _ rfl _ _ 40 rfl B1 42 i0 (.agg #[.int .i64 0, .bool false]) 2 16 Try.underlying40 hi0 hz0 hz1 hz2 rfl (by decide) (.slice aq l cq) l (hC r) rfl (by have := HO6.out; unfold HOwn at this; rw [← HL.out] at this; exact this) ⟨w5.heap.size, 0, none⟩ 1 1 [.int .i64 h1, .bool h2] rfl rfl (fun j u hu => new_two w5 _ _ _ j hu) (by intro u hu; simp at hu; rcases hu with rfl | rfl <;> rfl) (by unfold maxLen; omega) (by omega) (by have := BX.out.size; have := hB1.out; omega) ?_; intro v9 w9 hown hgrow hnil hloc; obtain ⟨ya, yc, rfl⟩ := row_shape hown; have HO9 := Lib.hid hown; have HG9 := Lib.hid hgrow; clear hown hgrow hnil hloc)
          have C9 : Hid (Chg (fun q => (Value.slice aq l cq).ownBlock = some q) (w5.alloc (.cells #[.int .i64 h1, .bool h2] 42)) w9) := Lib.hid ((Chg.refl _ _).grown HG9.out fun k hk => .inl hk)
          have Q9 := Lib.hid (C9.out.own Q6.out fun k => HG.out.2 _ k rfl)
          have HS9 := Lib.hid (HS6.out.keep C9.out fun q k k2 => by
            have k3 := (HO6.out.own k).1
            have := FTR.out q k2
            omega)
          have HB9 := Lib.hid (HB6.out.trans (C9.out.below HB6.out.size fun q k => by
            have k3 := (HO6.out.own k).1
            have := SZ6.out
            omega))
          have HN9 : Hid (HOwn w9 B1 (.slice ya (l + 1) yc) (r ++ [(h1, h2)])) := Lib.hid (by
            have := HO9.out
            unfold HOwn
            rw [hC_app, hC_one, List.length_append, ← HL.out]
            exact this)
          have ZZ : Hid (B1 ≤ w9.heap.size) := Lib.hid (by have := hB1.out; have := BX.out.size; have := HG9.out.size; omega)
          clear HS6 Q6 HO6 HB6 HO9 HG9 C9 v1 v2 Q5 HB5
          obtain ⟨v1, v2⟩ := half_at Q9.out
          go_upto_region 12 with fail
          have BX2 := Lib.hid (bx1 w9 42 #[.int .i64 h1, .bool h2])
          have HS10 := Lib.hid (HS9.out.below BX2.out)
          have HB10 := Lib.hid (then_ HB9.out BX2.out HB9.out.size)
          have HN10 := Lib.hid (HN9.out.below BX2.out)
          have Q10 := Lib.hid (Own.made w9 42 #[.int .i64 h1, .bool h2])
          have NB : Hid (∀ g, (Value.slice ya (l + 1) yc).ownBlock = some g → g < w9.heap.size) := Lib.hid fun g hg => HN9.out.lt hg
          clear HS9 HB9 HN9 Q9 v1 v2 BX
          generalize hW10 : w9.alloc (.cells #[.int .i64 h1, .bool h2] 42) = W10 at *
          clear hW10 BX2
          generalize w9.heap.size = q12 at *
          have LK := mapG_get HS10.out.beh (t := 74) Try.underlying74 key_half (zero_half W10) (h1, h2)
          rw [LKB.out, Option.getD_some] at LK
          obtain ⟨fe, hfe⟩ : ∃ fe, fe = f (h1, h2) := ⟨_, rfl⟩
          rw [← hfe] at LK WK FH
          clear hfe
          obtain ⟨f1, f2⟩ := fe
          unfold hV at LK
          simp only at LK
          obtain ⟨v1, v2, v3⟩ := Q10.out.at_
          have C11 : Hid (Chg (· = q12) W10 ((W10.setCell ⟨q12, 0, none⟩ (.int .i64 f1)).setCell ⟨q12, 1, none⟩ (.bool f2))) := Lib.hid (((Chg.refl (· = q12) W10).set ⟨q12, 0, none⟩ (.inl rfl) _).set ⟨q12, 1, none⟩ (.inl rfl) _)
          have Q11 : Hid (Own ((W10.setCell ⟨q12, 0, none⟩ (.int .i64 f1)).setCell ⟨q12, 1, none⟩ (.bool f2)) q12 42 #[.int .i64 f1, .bool f2]) := Lib.hid (((Q10.out.put 0 _).put 1 _).as (by simp))
          have HS11 := Lib.hid (HS10.out.keep C11.out fun q k k2 => by
            have := FTR.out q k2
            have := ZZ.out
            omega)
          have HN11 := Lib.hid (HN10.out.keep C11.out fun g hg k => by have := NB.out g hg; omega)
          have HB11 := Lib.hid (HB10.out.trans (C11.out.below HB10.out.size fun q k => by have := SZ6.out; have := ZZ.out; omega))
          have HG11 : Hid (B1 ≤ q12 ∧ ∀ g, (Value.slice ya (l + 1) yc).ownBlock = some g → g ≠ q12) := Lib.hid ⟨ZZ.out, fun g hg => by have := NB.out g hg; omega⟩
          have HH11 : Hid (∃ a c, Value.slice ya (l + 1) yc = .slice a (r ++ [(h1, h2)]).length c) := Lib.hid ⟨ya, yc, by rw [List.length_append, ← HL.out]; rfl⟩
          go_wp2
          go_roundw
          case rel => exact ⟨r ++ [(h1, h2)], (f1, f2), q12, rfl, HH11, FH, HN11, Q11, HG11, HS11, WK, ND2, HB11⟩
          case measure =>
            have := HL.out
            show n + 1 - (l + 1) < n + 1 - r.length
            omega
    · obtain rfl : k = n := by omega
      have FIN : Hid (RR = PL.map (·.2)) := Lib.hid (by rw [HR.out, List.drop_eq_nil_of_le (by rw [HN.out]; exact Nat.le_refl _)]; simp [ringsR])
      obtain ⟨ar, cr, rfl⟩ := HSH.out
      go_wp2
      go_ret
      exact ⟨_, PL, rfl, ⟨⟨HS.out.rin.1.1, HS.out.rin.1.2.imp id fun ⟨g, cap, cur, e1, e2, e3⟩ => ⟨g, cap, cur, e1, Nat.le_trans SZ4.out e2, e3⟩⟩, fun x hx => ⟨(HS.out.rin.2 x hx).1, (HS.out.rin.2 x hx).2.imp id fun ⟨g, cap, cur, e1, e2, e3⟩ => ⟨g, cap, cur, e1, Nat.le_trans SZ4.out e2, e3⟩⟩⟩, FIN.out.symm, HB.out⟩
end
end Go.Proofs.Ytibnackmddigaaa.Pl