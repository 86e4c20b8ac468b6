
/- The contracts of the twelfth reference's Read and Same. Conditions: strings within Go's own limit; slots that stand in memory. -/
import Derived.Test.YteepggjbgdjchaaDoorSlrB
namespace Go.Proofs.YteepggjbgdjchaaDoor
open Go.ChangeShapes Go.WideShapes Go.ChangeAt Go.RowKit
set_option linter.unusedVariables false
set_option linter.unusedSimpArgs false

theorem info_rslot : (Tryd.prog.info? 38).map (fun i => (i.zero, i.size, i.bytes)) = some (some (.agg #[.bool false, .string ⟨#[]⟩]), 2, 24) := by kernel_rfl
/-- the reference's slots in a slice that grows -/
def RsRow (w : World) (B : Nat) (v : Value) (L : List Sl) : Prop := w.ownsRow B 38 2 v L.length (cl L)
theorem RsRow.nil (w : World) (B : Nat) : RsRow w B (.slice none 0 0) [] := World.ownsRow_nil _ _ _ _
theorem RsRow.shape {w : World} {B : Nat} {v : Value} {L : List Sl} (h : RsRow w B v L) : ∃ a c, v = .slice a L.length c ∧ L.length ≤ c ∧ c ≤ maxLen := by
  rcases h.2 with ⟨rfl, h2⟩ | ⟨g, cap, cur, rfl, _, _, r1, r2, _⟩
  · exact ⟨none, 0, by rw [h2], by omega, Nat.zero_le _⟩
  · exact ⟨_, _, rfl, r1, r2⟩
theorem rs_keep {w w' : World} {B : Nat} {v : Value} {L : List Sl} (h : RsRow w B v L) (hk : ∀ g, v.ownBlock = some g → w'.heap[g]? = w.heap[g]?) : RsRow w' B v L := by
  refine ⟨h.1, ?_⟩
  rcases h.2 with h2 | ⟨g, cap, cur, rfl, r1, r2, r3⟩
  · exact .inl h2
  · exact .inr ⟨g, cap, cur, rfl, r1, (hk g rfl).trans r2, r3⟩
theorem RsRow.below {w w' : World} {B : Nat} {v : Value} {L : List Sl} (h : RsRow w B v L) (hb : Below w.heap.size w w') : RsRow w' B v L := rs_keep h fun g hg => hb.block g (World.ownsRow.lt h g hg).2
theorem RsRow.in_ {w : World} {B : Nat} {v : Value} {L : List Sl} (h : RsRow w B v L) (hz : ∀ x ∈ L, x.2.size ≤ maxLen) : SlIn w v L := by
  rcases h.2 with ⟨rfl, h2⟩ | ⟨g, cap, cur, rfl, r1, r2, r3, r4, r5, r6⟩
  · obtain rfl : L = [] := List.length_eq_zero_iff.1 h2
    exact SlIn.nil w
  · have ho : Own w g 38 cur := r2
    have key : ∀ j, j < L.length * 2 → cur[j]? = (cl L)[j]? := fun j hj => by rw [← r6, List.getElem?_take_of_lt hj, Array.getElem?_toList]
    refine ⟨_, _, rfl, r3, r4, .inr ⟨g, 0, rfl, ho.in_, fun i hi => ?_⟩⟩
    have c := cl_at L i hi
    rw [Nat.zero_add]
    exact ⟨(ho.at_.1 _).trans ((key _ (by omega)).trans c.1), (ho.at_.1 _).trans ((key _ (by omega)).trans c.2), hz _ (List.getElem_mem hi)⟩
theorem sl_cells (W : World) (T : TypeId) (x y : Value) (j : Nat) {u : Value} (hu : [x, y][j]? = some u) : (W.alloc (.cells #[x, y] T)).cell? ((⟨W.heap.size, 0, none⟩ : Addr).add j) = some u := by
  have e : (⟨W.heap.size, 0, none⟩ : Addr).add j = ⟨W.heap.size, j, none⟩ := by unfold Addr.add; split <;> simp_all
  rw [e]
  have := (Own.made W T #[x, y]).at_.1 j
  exact this.trans (by simpa using hu)
/-- how the reference reads a number -/
theorem rnm_any (s : ByteArray) (i : Nat) (w : World) (h : 2 * i + 2 ≤ s.size) : Calls Tryd.prog 33 #[.string (s.extract (2 * i) (2 * i + 2))] w fun e w' => e = .returned (.int .u64 (nm s i : Nat)) ∧ Below w.heap.size w w' := by
  have hz : (s.extract (2 * i) (2 * i + 2)).size = 2 := by rw [ByteArray.size_extract]; omega
  refine (rget_any _ w (by omega)).mono ?_
  rintro e w' h2
  have hn : nm s i = getN (s.extract (2 * i) (2 * i + 2)) 0 2 := by
    unfold nm
    rw [if_pos h, getN_extract s (2 * i) 2 h]
  rw [hn]
  rw [hz] at h2
  first | exact h2 | exact ⟨h2.1, h2.2 ▸ Below.refl _ _⟩
/-- one more, by append -/
theorem RsRow.push {w3 : World} {B : Nat} {v' : Value} {L : List Sl} (x : Sl) (hown : w3.ownsRow B 38 2 v' (L.length + 1) (cl L ++ [.bool x.1, .string x.2])) : RsRow w3 B v' (L ++ [x]) := by
  unfold RsRow
  rw [List.length_append, List.length_singleton, cl_app]
  exact hown
set_option maxRecDepth 10000 in
set_option maxHeartbeats 2000000 in
theorem rread_any (s : ByteArray) (w : World) (hs : s.size ≤ 140737488355328) : Calls Tryd.prog 19 #[.string s] w fun e w' => ∃ v, e = .returned (.tuple #[v, .bool (rd s).isSome]) ∧ (∀ L, rd s = some L → RsRow w' w.heap.size v L) ∧ Below w.heap.size w w' := by
  obtain ⟨i0, hi0, hss⟩ := Option.map_eq_some_iff.1 info_rslot
  injection hss with hz0 hss
  injection hss with hz1 hz2
  have RN := Lib.hid (fun (i : Nat) (h : 2 * i + 2 ≤ s.size) W => rnm_any s i W h)
  have RD0 := Lib.hid (fun h => rd_no s h)
  have RDB := Lib.hid (fun h1 h2 k hk h => rd_bad (s := s) h1 h2 (k := k) hk h)
  have RDK := Lib.hid (fun h1 h2 => rd_pk s h1 h2)
  have HIS := Lib.hid (fun hn k l a hk h => stp_is s hn k l a hk h)
  have S0 : Hid (stp s 0 = some ([], 2 + 2 * nm s 0)) := Lib.hid rfl
  have S1 : Hid (∀ k l a, stp s k = some (l, a) → stp s (k + 1) = if nm s (k + 1) = 0 then some (l ++ [emS], a) else if s.size < a + nm s (k + 1) - 1 then none else some (l ++ [(true, s.extract a (a + nm s (k + 1) - 1))], a + nm s (k + 1) - 1)) := Lib.hid fun k l a h => by
    rw [stp, h]
  obtain ⟨D, hD⟩ : ∃ D, D = rd s := ⟨_, rfl⟩
  rw [← hD] at RD0 RDB RDK ⊢
  have HB0 := Lib.hid (Below.refl w.heap.size w)
  clear hD
  by_cases h1 : s.size = 496
  · have RN0 := Lib.hid (fun W => RN.out 0 (by omega) W)
    rw [show s.extract (2 * 0) (2 * 0 + 2) = s.extract 0 2 from rfl] at RN0
    obtain ⟨n, hn⟩ : ∃ n, n = nm s 0 := ⟨_, rfl⟩
    have hnl := nm_lt s 0
    rw [← hn] at RN0 S0 RD0 RDB RDK HIS hnl
    have hn' := Lib.hid hn
    have hss : (s.size : Int) = 496 := by omega
    have h1' := Lib.hid h1
    have hsl0 : ∀ W : World, (Instr.slice 9 (.string s) none (some (.int .i64 2)) none).run Tryd.prog W = .ok (.string (s.extract 0 2)) W := fun W => by
      have := run_slice_string_to_if (P := Tryd.prog) W 9 s .i64 2 Tryd.underlying9
      rw [if_pos (by omega)] at this
      exact this
    obtain ⟨X0, hX0⟩ : ∃ X0, X0 = s.extract 0 2 := ⟨_, rfl⟩
    rw [← hX0] at RN0 hsl0
    have wn : IntKind.i64.wrap (n : Int) = n := by rw [IntKind.wrap_i64]; omega
    clear hn hX0
    by_cases h2 : 2 + 2 * n ≤ 496
    · have h2' := Lib.hid h2
      have q2 : ¬ (494 : Int) < 2 * (n : Int) := by omega
      go_enter Tryd.func19, Tryd.ntmps19
      go_upto_region 9 with (go_at_call 33; refine (RN0.out _).mono ?_; rintro e w1 ⟨rfl, hb1⟩; have B1 := Lib.hid hb1; clear hb1)
      clear RN0 hsl0 HB0
      go_loopw [5, 6, 7] (fun at_ v i wr => ∃ (k a : Nat) (L : List Sl), k ≤ n ∧ i = .int .i64 (k : Int) ∧ at_ = .int .i64 (a : Int) ∧ Hid (stp s k = some (L, a)) ∧ Hid (RsRow wr w.heap.size v L) ∧ Hid (Below w.heap.size w wr)) (fun at_ v i wr => n - (intOf i).toNat)
      case atStart => exact ⟨0, 2 + 2 * n, [], by omega, rfl, by go_num, S0, Lib.hid (RsRow.nil _ _), B1⟩
      case round =>
        clear B1
        obtain ⟨k, a, L, hk, rfl, rfl, hS, hR, hB⟩ := hrel
        have hI := HIS.out (by omega) k L a hk hS.out
        have ha := hI.le
        have hll := hI.len
        have hrec : ∀ x ∈ L, x.2.size ≤ maxLen := fun x hx => by
          have := rec_le L x hx
          have := hI.end_
          unfold maxLen
          omega
        replace hrec := Lib.hid hrec
        obtain ⟨va, vc, rfl, hv1, hv2⟩ := hR.out.shape
        have hll' := Lib.hid hll
        have hLn : L.length ≤ 247 := by omega
        have zb := hB.out.size
        clear hI
        by_cases hlt : k < n
        · have hst := S1.out k L a hS.out
          have HNk := RN.out (k + 1) (by omega)
          have htl := nm_lt s (k + 1)
          obtain ⟨t, ht⟩ : ∃ t, t = nm s (k + 1) := ⟨_, rfl⟩
          rw [← ht] at HNk hst htl
          have hslk : ∀ W : World, (Instr.slice 9 (.string s) (some (.int .i64 (2 + 2 * (k : Int)))) (some (.int .i64 (4 + 2 * (k : Int)))) none).run Tryd.prog W = .ok (.string (s.extract (2 * (k + 1)) (2 * (k + 1) + 2))) W := fun W => slice_both W s _ _ (by omega) (by omega) _ _ (by omega) (by omega)
          obtain ⟨XK, hXK⟩ : ∃ XK, XK = s.extract (2 * (k + 1)) (2 * (k + 1) + 2) := ⟨_, rfl⟩
          rw [← hXK] at HNk hslk
          replace HNk := Lib.hid HNk
          have wt : IntKind.i64.wrap (t : Int) = t := by rw [IntKind.wrap_i64]; omega
          clear ht hXK hll
          by_cases h0 : t = 0
          · subst h0
            rw [if_pos rfl] at hst
            replace hst := Lib.hid hst
            go_upto_region 13 with (go_at_call 33; refine (HNk.out _).mono ?_; rintro e w2 ⟨rfl, hb2⟩; have B2 := Lib.hid (then_ hB.out hb2 hB.out.size); have R2 := Lib.hid (hR.out.below hb2); clear hb2)
            go_wp2_with (at_builtin; go_loud (refine wpList_append_own_at _ rfl _ _ 36 rfl w.heap.size 38 i0 (.agg #[.bool false, .string ⟨#[]⟩]) 2 24 Tryd.underlying36 hi0 hz0 hz1 hz2 rfl (by decide) _ L.length (cl L) rfl (World.ownsRow.alloc (show World.ownsRow _ _ _ _ _ _ _ from R2.out) _) ⟨w2.heap.size, 0, none⟩ 1 1 [.bool false, .string ⟨#[]⟩] rfl rfl (fun j u hu => sl_cells _ _ _ _ j hu) (by intro u hu; simp at hu; rcases hu with rfl | rfl <;> rfl) (by unfold maxLen; omega) (by omega) (by have := B2.out.size; simp; omega) ?_))
            intro v' w4 hown hgr _ hl
            have R4 := RsRow.push (false, ⟨#[]⟩) hown
            have HB4 : Below w.heap.size w w4 := (B2.out.alloc B2.out.size (.cells #[.bool false, .string ⟨#[]⟩] 38)).grown hgr (by simp; have := B2.out.size; omega) (fun g hg => (R2.out.lt g hg).1)
            have HB5 := Lib.hid HB4
            obtain ⟨a4, c4, rfl, -, -⟩ := R4.shape
            replace R4 := Lib.hid R4
            clear hown hgr hl HB4
            go_wp2
            go_roundw
            case rel => exact ⟨k + 1, a, L ++ [emS], by omega, by go_num, rfl, hst, R4, HB5⟩
            case measure => simp [intOf]; omega
          · rw [if_neg h0] at hst
            have q3 : ¬ ((t : Int) = 0) := by omega
            by_cases h3 : s.size < a + t - 1
            · rw [if_pos h3] at hst
              have hbad : Hid (D = none) := Lib.hid (RDB.out h1'.out h2'.out (k + 1) (by omega) hst)
              have q4 : (496 : Int) < (a : Int) + (t : Int) - 1 := by omega
              clear hst h3 h0
              go_wp2_with (go_at_call 33; refine (HNk.out _).mono ?_; rintro e w2 ⟨rfl, hb2⟩; have B2 := Lib.hid (then_ hB.out hb2 hB.out.size); clear hb2)
              go_ret2
              exact ⟨_, by rw [hbad.out]; rfl, fun L h => by rw [hbad.out] at h; (cases h), B2.out⟩
            · rw [if_neg h3] at hst
              have q4 : ¬ (496 : Int) < (a : Int) + (t : Int) - 1 := by omega
              have hsl : ∀ W : World, (Instr.slice 9 (.string s) (some (.int .i64 (a : Int))) (some (.int .i64 ((a : Int) + (t : Int) - 1))) none).run Tryd.prog W = .ok (.string (s.extract a (a + t - 1))) W := fun W => slice_both W s a (a + t - 1) (by omega) (by omega) _ _ rfl (by omega)
              have hend' := Lib.hid (show ((a + t - 1 : Nat) : Int) = (a : Int) + (t : Int) - 1 by omega)
              obtain ⟨X, hX⟩ : ∃ X, X = s.extract a (a + t - 1) := ⟨_, rfl⟩
              rw [← hX] at hsl hst
              replace hst := Lib.hid hst
              clear hX h3 h0
              go_upto_region 16 with (go_at_call 33; refine (HNk.out _).mono ?_; rintro e w2 ⟨rfl, hb2⟩; have B2 := Lib.hid (then_ hB.out hb2 hB.out.size); have R2 := Lib.hid (hR.out.below hb2); clear hb2)
              go_wp2_with (at_builtin; go_loud (refine wpList_append_own_at _ rfl _ _ 36 rfl w.heap.size 38 i0 (.agg #[.bool false, .string ⟨#[]⟩]) 2 24 Tryd.underlying36 hi0 hz0 hz1 hz2 rfl (by decide) _ L.length (cl L) rfl (World.ownsRow.alloc (show World.ownsRow _ _ _ _ _ _ _ from R2.out) _) ⟨w2.heap.size, 0, none⟩ 1 1 [.bool true, .string X] rfl rfl (fun j u hu => sl_cells _ _ _ _ j hu) (by intro u hu; simp at hu; rcases hu with rfl | rfl <;> rfl) (by unfold maxLen; omega) (by omega) (by have := B2.out.size; simp; omega) ?_))
              intro v' w4 hown hgr _ hl
              have R4 := RsRow.push (true, X) hown
              have HB4 : Below w.heap.size w w4 := (B2.out.alloc B2.out.size (.cells #[.bool true, .string X] 38)).grown hgr (by simp; have := B2.out.size; omega) (fun g hg => (R2.out.lt g hg).1)
              have HB5 := Lib.hid HB4
              obtain ⟨a4, c4, rfl, -, -⟩ := R4.shape
              replace R4 := Lib.hid R4
              clear hown hgr hl HB4
              go_wp2
              go_roundw
              case rel => exact ⟨k + 1, a + t - 1, L ++ [(true, X)], by omega, by go_num, by rw [hend'.out], hst, R4, HB5⟩
              case measure => simp [intOf]; omega
        · obtain rfl : k = n := by omega
          have hrk := RDK.out h1'.out h2'.out
          rw [hS.out] at hrk
          simp only at hrk
          have HP := Lib.hid (fun W (hb : Below wr.heap.size wr W) => rpack_any _ L W ((hR.out.in_ hrec.out).below hb))
          obtain ⟨p, c, hp⟩ : ∃ p c, pk L = (p, c) := ⟨_, _, rfl⟩
          rw [hp] at HP hrk
          simp only at HP
          clear hp hll
          have FIN : Hid (∀ W : World, Below wr.heap.size wr W → (∀ L', D = some L' → L' = L) → ∃ v, Ending.returned (.tuple #[.slice va L.length vc, .bool D.isSome]) = .returned (.tuple #[v, .bool D.isSome]) ∧ (∀ L', D = some L' → RsRow W w.heap.size v L') ∧ Below w.heap.size w W) := Lib.hid fun W hb hL => ⟨_, rfl, fun L' h => by rw [hL L' h]; exact hR.out.below hb, then_ hB.out hb hB.out.size⟩
          by_cases hc : c = 0
          · subst hc
            by_cases hps : p = s
            · subst hps
              rw [if_pos rfl] at hrk
              subst hrk
              have F2 : Hid (∀ W : World, Below wr.heap.size wr W → _) := Lib.hid fun W hb => FIN.out W hb (fun L' h => by injection h with h; exact h.symm)
              clear FIN
              go_wp2_with (go_at_call 18; refine (HP.out _ (Below.refl _ _)).mono ?_; rintro e w3 ⟨rfl, hb3⟩; have FF := Lib.hid (F2.out _ hb3); clear hb3)
              go_ret2
              exact FF.out
            · rw [if_neg (fun h => hps (by injection h))] at hrk
              subst hrk
              have q5 := str_ne hps
              have F2 : Hid (∀ W : World, Below wr.heap.size wr W → _) := Lib.hid fun W hb => FIN.out W hb (fun L' h => by cases h)
              clear FIN hps
              go_wp2_with (go_at_call 18; refine (HP.out _ (Below.refl _ _)).mono ?_; rintro e w3 ⟨rfl, hb3⟩; have FF := Lib.hid (F2.out _ hb3); clear hb3)
              go_ret2
              exact FF.out
          · rw [if_neg (fun h => hc (by injection h))] at hrk
            subst hrk
            have q5 : ¬ ((c : Int) = 0) := by omega
            have F2 : Hid (∀ W : World, Below wr.heap.size wr W → _) := Lib.hid fun W hb => FIN.out W hb (fun L' h => by cases h)
            clear FIN hc
            go_wp2_with (go_at_call 18; refine (HP.out _ (Below.refl _ _)).mono ?_; rintro e w3 ⟨rfl, hb3⟩; have FF := Lib.hid (F2.out _ hb3); clear hb3)
            go_ret2
            exact FF.out
    · have q2 : (494 : Int) < 2 * (n : Int) := by omega
      have hno : Hid (D = none) := Lib.hid (RD0.out (fun h => h2 h.2))
      clear h2 h1
      go_enter Tryd.func19, Tryd.ntmps19
      go_wp2_with (go_at_call 33; refine (RN0.out _).mono ?_; rintro e w1 ⟨rfl, hb1⟩; have B1 := Lib.hid hb1; clear hb1)
      go_ret2
      exact ⟨_, by rw [hno.out]; rfl, fun L h => by rw [hno.out] at h; (cases h), B1.out⟩
  · have q1 : ¬ ((s.size : Int) = 496) := by omega
    have hno : Hid (D = none) := Lib.hid (RD0.out (fun h => h1 h.1))
    clear h1
    go_enter Tryd.func19, Tryd.ntmps19
    go_wp2
    go_ret2
    exact ⟨_, by rw [hno.out]; rfl, fun L h => by rw [hno.out] at h; (cases h), HB0.out⟩
end Go.Proofs.YteepggjbgdjchaaDoor
