
/- The contracts of fill, makeRoom, add and New. Conditions: those that each theorem names. -/
import Derived.Test.YtjncmaaofminkaaPooB
namespace Go.Proofs.Ytjncmaaofminkaa
open Go.ChangeShapes Go.WideShapes Go.ChangeAt Go.RowKit
set_option linter.unusedVariables false
set_option linter.unusedSimpArgs false

/-- a frame that is filled -/
def filled (f : Fr) (s : ByteArray) (d : Bool) (u : Nat) : Fr := ⟨⟨f.rf.no, s, d, f.rf.pins⟩, u, f.blk⟩
def roomL (L : List Fr) (n : Nat) : Option (List Fr) := if L.length < n then some L else match victim (L.map (·.rf)) with
  | none => none
  | some v => some (L.filter fun f => f.rf.no != v.no)
section
variable {w : World} {B p m n u : Nat} {L S T : List Fr} {f : Fr}
set_option maxRecDepth 10000 in
theorem fill_any (h : Mem w B p m n u (S ++ f :: T)) (hu : u ≤ 1000000) (s : ByteArray) (hs : s.size ≤ 281474976710656) (d : Bool) :
    Calls Try.prog 27 #[.pointer (some ⟨p, 0, none⟩), .pointer (some ⟨f.blk, 0, none⟩), .string s, .bool d] w fun e w' =>
      e = .returned (.tuple #[]) ∧ Mem w' B p m n (u + 1) (S ++ filled f s d (u + 1) :: T) ∧ Chg (fun q => q = p ∨ q = f.blk) w w' := by
  have hf : f ∈ S ++ f :: T := by simp
  have H := Lib.hid h
  have HF := Lib.hid hf
  have HS := Lib.hid hs
  clear h hf hs
  go_enter Try.func27, Try.ntmps27
  go_upto_region 1 with (go_at_call 29; refine (clone_any s _ HS.out).mono ?_; rintro e w1 ⟨rfl, hb⟩; have M1 := Lib.hid (H.out.below hb); have B1 := Lib.hid hb; clear hb; obtain ⟨p1, p2, p3⟩ := (M1.out.fr f HF.out).at_; unfold fcell at p1)
  have F1 := M1.out.fr f HF.out
  have M2 := M1.out.turn (g := ⟨⟨f.rf.no, s, f.rf.dirty, f.rf.pins⟩, f.used, f.blk⟩) (chg_at _ f.blk 0 (.string s)) (Own.put F1 0 _) rfl rfl
  have F2 := M2.fr ⟨⟨f.rf.no, s, f.rf.dirty, f.rf.pins⟩, f.used, f.blk⟩ (by simp)
  have M3 := M2.turn (g := ⟨⟨f.rf.no, s, d, f.rf.pins⟩, f.used, f.blk⟩) (chg_at _ f.blk 1 (.bool d)) (Own.put F2 1 _) rfl rfl
  have C3 : Chg (fun q => q = p ∨ q = f.blk) w ((w1.setCell ⟨f.blk, 0, none⟩ (.string s)).setCell ⟨f.blk, 1, none⟩ (.bool d)) :=
    (Chg.of B1.out).same (((chg_at _ _ _ _).same (chg_at _ _ _ _)).mono fun q _ e => .inr e)
  generalize (w1.setCell ⟨f.blk, 0, none⟩ (.string s)).setCell ⟨f.blk, 1, none⟩ (.bool d) = W at *
  have HU := Lib.hid (use_any M3 hu)
  replace C3 := Lib.hid C3
  clear M1 B1 F1 M2 F2 M3 p1 p2 p3
  go_wp2_with (go_at_call 28; refine HU.out.mono ?_; rintro e w2 ⟨rfl, hm2, hc2⟩)
  go_end0
  exact ⟨rfl, hm2, C3.out.same hc2⟩
theorem Mem.sub {L' : List Fr} (h : Mem w B p m n u L) {w' : World} (hc : Chg (· = m) w w') (hm : MapOf w' m .i64 (L'.map ent)) (hs : L'.Sublist L) : Mem w' B p m n u L' :=
  ⟨hc.own h.own h.ne_map.symm, hm, fun f hf => hc.own (h.fr f (hs.subset hf)) (h.ne_fr (hs.subset hf)).symm, (hs.map _).nodup h.apart, fun q hq => h.base q (hq.imp_right fun h => h.imp_right fun h => (hs.map _).subset h)⟩
theorem filter_ent (L : List Fr) (i : Int) : (L.map ent).filter (fun p => p.1 != i) = (L.filter fun f => f.rf.no != i).map ent := by
  rw [List.filter_map]; rfl
set_option maxRecDepth 10000 in
theorem makeRoom_any (h : Mem w B p m n u L) (hO : Ord u L) (hu : u ≤ 1000000) (hn : n ≤ 65536) (hl : L.length ≤ n) :
    Calls Try.prog 33 #[.pointer (some ⟨p, 0, none⟩)] w fun e w' =>
      e = .returned (.bool (roomL L n).isSome) ∧ Mem w' B p m n u ((roomL L n).getD L) ∧ Chg (fpool p m L) w w' := by
  have HL := fun ty => h.map.len (P := Try.prog) Try.underlying47 ty
  rw [List.length_map] at HL
  obtain ⟨o1, o2, o3⟩ := h.own.at_
  unfold pcell at o1
  have H := Lib.hid h
  have HOR := Lib.hid hO
  clear h hO
  obtain ⟨len, hlen⟩ : ∃ len, len = L.length := ⟨_, rfl⟩
  rw [← hlen] at HL hl
  have LN := Lib.hid hlen
  by_cases hlt : len < n
  · have E := Lib.hid (show roomL L n = some L by unfold roomL; rw [if_pos (by rw [← hlen]; exact hlt)])
    clear hlen
    go_enter Try.func33, Try.ntmps33
    go_upto_region 1 with fail
    refine wp_region_seq (fun W => Mem W B p m n u L) (0 :: 1 :: 2 :: 3 :: 4 :: 5 :: 6 :: 7 :: 8 :: 9 :: []) (3 :: 4 :: 8 :: []) (0 :: 1 :: 2 :: 3 :: 4 :: 5 :: 6 :: 7 :: 8 :: 9 :: []) (by kernel_rfl) (by kernel_rfl) rfl (by kernel_rfl) rfl (H.out.drew) (by simp only [picked, List.filterMap_cons, List.filterMap_nil, List.getElem?_cons_zero, List.getElem?_cons_succ, Option.map_some]; exact rfl) ?_
    iterate 10
      refine seq_want (v := ?_) rfl rfl (fun W hS => ?_) ?_
      rotate_left
      · first
          | (conv => lhs; simp [go_sem, hlt]
             first | done | exact rfl)
          | (have hS := hS rfl
             have HQ := fun ty => hS.map.len (P := Try.prog) Try.underlying47 ty
             rw [List.length_map, ← LN.out] at HQ
             obtain ⟨q1, q2, q3⟩ := hS.own.at_
             unfold pcell at q1
             conv => lhs; simp [go_sem, *, hlt]
             first | done | exact rfl)
      simp only [Act.put, List.setIfInBounds_toArray, List.set_cons_zero, List.set_cons_succ]
    refine seq_end ?_
    go_wp2
    go_ret
    rw [E.out]
    exact ⟨rfl, H.out.drew, (Chg.refl _ w).drew⟩
  · have hlt : ¬ ((len : Int) < (n : Int)) := by omega
    have hno : ¬ L.length < n := by rw [← hlen]; omega
    cases hv : victim (L.map (·.rf)) with
    | none =>
      have E := Lib.hid (show roomL L n = none by unfold roomL; rw [if_neg hno, hv])
      have hR : oldR L = (0, false) := by unfold oldR; rw [hv]
      have hR2 := Lib.hid hR
      clear hlen hv hR hno
      go_enter Try.func33, Try.ntmps33
      go_upto_region 1 with fail
      refine wp_region_seq (fun W => Mem W B p m n u L) (0 :: 1 :: 2 :: 3 :: 4 :: 5 :: 6 :: 7 :: 8 :: 9 :: []) (3 :: 4 :: 8 :: []) (0 :: 1 :: 2 :: 3 :: 4 :: 5 :: 6 :: 7 :: 8 :: 9 :: []) (by kernel_rfl) (by kernel_rfl) rfl (by kernel_rfl) rfl (H.out.drew) (by simp only [picked, List.filterMap_cons, List.filterMap_nil, List.getElem?_cons_zero, List.getElem?_cons_succ, Option.map_some]; exact rfl) ?_
      iterate 10
        refine seq_want (v := ?_) rfl rfl (fun W hS => ?_) ?_
        rotate_left
        · first
            | (conv => lhs; simp [go_sem, hlt]
               first | done | exact rfl)
            | (have hS := hS rfl
               have HQ := fun ty => hS.map.len (P := Try.prog) Try.underlying47 ty
               rw [List.length_map, ← LN.out] at HQ
               obtain ⟨q1, q2, q3⟩ := hS.own.at_
               unfold pcell at q1
               conv => lhs; simp [go_sem, *, hlt]
               first | done | exact rfl)
        simp only [Act.put, List.setIfInBounds_toArray, List.set_cons_zero, List.set_cons_succ]
      refine seq_end ?_
      have hw0 : Mem w.drew B p m n u L := H.out.drew
      obtain ⟨o1, o2, o3⟩ := hw0.own.at_
      unfold pcell at o1
      replace hw0 := Lib.hid hw0
      replace HO := Lib.hid (oldest_any hw0.out HOR.out hu)
      rw [hR2.out] at HO
      go_wp2_with (go_at_call 37; refine HO.out.mono ?_; rintro e w1 ⟨rfl, hb1⟩)
      go_ret
      rw [E.out]
      exact ⟨rfl, hw0.out.below hb1, ((Chg.refl _ w).drew).call hb1⟩
    | some v =>
      have E := Lib.hid (show roomL L n = some (L.filter fun f => f.rf.no != v.no) by unfold roomL; rw [if_neg hno, hv])
      have hR : oldR L = (v.no, true) := by unfold oldR; rw [hv]
      have hR2 := Lib.hid hR
      clear hlen hv hR hno
      go_enter Try.func33, Try.ntmps33
      go_upto_region 1 with fail
      refine wp_region_seq (fun W => Mem W B p m n u L) (0 :: 1 :: 2 :: 3 :: 4 :: 5 :: 6 :: 7 :: 8 :: 9 :: []) (3 :: 4 :: 8 :: []) (0 :: 1 :: 2 :: 3 :: 4 :: 5 :: 6 :: 7 :: 8 :: 9 :: []) (by kernel_rfl) (by kernel_rfl) rfl (by kernel_rfl) rfl (H.out.drew) (by simp only [picked, List.filterMap_cons, List.filterMap_nil, List.getElem?_cons_zero, List.getElem?_cons_succ, Option.map_some]; exact rfl) ?_
      iterate 10
        refine seq_want (v := ?_) rfl rfl (fun W hS => ?_) ?_
        rotate_left
        · first
            | (conv => lhs; simp [go_sem, hlt]
               first | done | exact rfl)
            | (have hS := hS rfl
               have HQ := fun ty => hS.map.len (P := Try.prog) Try.underlying47 ty
               rw [List.length_map, ← LN.out] at HQ
               obtain ⟨q1, q2, q3⟩ := hS.own.at_
               unfold pcell at q1
               conv => lhs; simp [go_sem, *, hlt]
               first | done | exact rfl)
        simp only [Act.put, List.setIfInBounds_toArray, List.set_cons_zero, List.set_cons_succ]
      refine seq_end ?_
      have hw0 : Mem w.drew B p m n u L := H.out.drew
      obtain ⟨o1, o2, o3⟩ := hw0.own.at_
      unfold pcell at o1
      replace hw0 := Lib.hid hw0
      have HO := Lib.hid (oldest_any hw0.out HOR.out hu)
      rw [hR2.out] at HO
      go_upto_region 5 with (go_at_call 37; refine HO.out.mono ?_; rintro e w1 ⟨rfl, hb1⟩; have M1 := Lib.hid (hw0.out.below hb1); have B1 := Lib.hid hb1; clear hb1; obtain ⟨p1, p2, p3⟩ := M1.out.own.at_; unfold pcell at p1)
      go_wp2_with (first | (at_delete; refine wp_delete_map _ rfl _ _ _ _ rfl _ Try.underlying47 .i64 Try.underlying3 m _ _ rfl rfl M1.out.map ?_; intro w2 hm2 hc2 hs2) | go_in)
      go_ret
      rw [E.out]
      rw [filter_ent] at hm2
      exact ⟨rfl, M1.out.sub hc2 hm2 List.filter_sublist, ((((Chg.refl _ w).drew).call B1.out).same (hc2.mono fun q _ e => .inr (.inl e)))⟩
end
end Go.Proofs.Ytjncmaaofminkaa
