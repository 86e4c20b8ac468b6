import Derived.Test.YthijgebmoadgkaaGreatDoorPooA
import Derived.BigQuiet
import Derived.Carry
set_option linter.unusedVariables false
set_option linter.unusedSimpArgs false
section
namespace Go.Proofs.YthijgebmoadgkaaGreatDoor.Po
open Go.ChangeShapes Go.WideShapes Go.ChangeAt Go.RowKit
theorem split_map {α β : Type} (g : α -> β) : ∀ (L : List α) {s : List β} {x : β} {t : List β}, L.map g = s ++ x :: t -> ∃ S f T, L = S ++ f :: T /\ s = S.map g /\ x = g f /\ t = T.map g := by
 intro L s x t h;obtain ⟨S, l2, rfl, h1, h2⟩ := List.map_eq_append_iff.1 h;obtain ⟨f, T, rfl, h3, h4⟩ := List.map_eq_cons_iff.1 h2;exact ⟨S, f, T, rfl, h1.symm, h3.symm, h4.symm⟩
section
variable {w : World} {B p m n u : Nat} {L S T : List Fr} {f : Fr}
theorem zHi (w : World) (f : Fr) (h : Own w f.blk 269 (qA f)) : Calls Tryz.prog 321 #[.pointer (some ⟨f.blk, 0, none⟩)] w fun e w' => e = .returned (.bool (free f.rf)) /\ w = w' := by
 obtain ⟨o1, o2, o3⟩ := h.at_;unfold qA at o1;obtain ⟨⟨no, s, d, pn⟩, us, b⟩ := f;simp only at o1 o2 o3 ⊢;clear h;cases d with
 | true =>
   go_enter Tryz.func321, Tryz.ntmps321;go_wp2;go_ret;exact ⟨xP (by simp [free]), rfl⟩
 | false =>
   go_enter Tryz.func321, Tryz.ntmps321;go_wp2;go_ret;exact ⟨xP (by simp [free]; rw [Bool.eq_iff_iff]; simp), rfl⟩
def Vr (u : Nat) (done : List Fr) (least : Nat) (at_ : Int) : Prop :=
 ((least = u + 1 /\ at_ = 0) \/ ∃ f ∈ done, free f.rf = true /\ least = f.used /\ at_ = f.rf.no) /\ ∀ g ∈ done, free g.rf = true -> least <= g.used
theorem Vr.start (u : Nat) : Vr u [] (u + 1) 0 := ⟨.inl ⟨rfl, rfl⟩, fun g hg => by cases hg⟩
theorem Vr.take {u : Nat} {done : List Fr} {least : Nat} {at_ : Int} (h : Vr u done least at_) {f : Fr} (hl : f.used < least) (hf : free f.rf = true) : Vr u (done ++ [f]) f.used f.rf.no :=
 ⟨.inr ⟨f, by simp, hf, rfl, rfl⟩, fun g hg h1 => by
   rcases List.mem_append.1 hg with hg | hg
   · have := h.2 g hg h1; omega
   · simp at hg; subst hg; exact Nat.le_refl _⟩
theorem Vr.pass {u : Nat} {done : List Fr} {least : Nat} {at_ : Int} (h : Vr u done least at_) {f : Fr} (hl : ¬ f.used < least \/ free f.rf = false) : Vr u (done ++ [f]) least at_ :=
 ⟨h.1.imp_right fun ⟨g, hg, r⟩ => ⟨g, by simp [hg], r⟩, fun g hg h1 => by
   rcases List.mem_append.1 hg with hg | hg
   · exact h.2 g hg h1
   · simp at hg; subst hg;rcases hl with hl | hl
     · omega
     · rw [hl] at h1; cases h1⟩
def zCy (L : List Fr) : Int × Bool := match victim (L.map (·.rf)) with
 | none => (0, false)
 | some v => (v.no, true)
theorem Vr.ends (hO : Ord u L) {done : List Fr} (hp : done.Perm L) {least : Nat} {at_ : Int} (h : Vr u done least at_) : (at_, decide (least <= u)) = zCy L := by
 have hm : ∀ g, g ∈ done ↔ g ∈ L := fun g => hp.mem_iff
 unfold zCy;cases hv : victim (L.map (·.rf)) with
 | none =>
   rcases h.1 with ⟨rfl, rfl⟩ | ⟨f, hf, h1, _⟩
   · simp
   · have := zC5 hv f.rf (List.mem_map.2 ⟨f, (hm f).1 hf, rfl⟩);rw [this] at h1; cases h1
 | some v =>
   obtain ⟨hfree, S, T, hL, hS⟩ := victim_some hv;obtain ⟨S', fv, T', rfl, rfl, rfl, rfl⟩ := split_map (·.rf) L hL;have h1 := h.2 fv ((hm fv).2 (by simp)) hfree;have h2 := hO.last fv (by simp);rcases h.1 with ⟨rfl, rfl⟩ | ⟨f, hf, h3, rfl, rfl⟩
   · omega
   · have hr := hO.rise;rw [List.pairwise_append, List.pairwise_cons] at hr;rcases List.mem_append.1 ((hm f).1 hf) with h4 | h4
     · have := hS f.rf (List.mem_map.2 ⟨f, h4, rfl⟩);rw [this] at h3; cases h3
     · rcases List.mem_cons.1 h4 with rfl | h4
       · simp; omega
       · have := hr.2.1.1 f h4;omega
set_option maxRecDepth 10000 in
set_option maxHeartbeats 1000000 in
theorem Xj (h : Mem w B p m n u L) (hO : Ord u L) (hu : u <= 1000000) : Calls Tryz.prog 320 #[.pointer (some ⟨p, 0, none⟩), .func (.func 321) #[] #[]] w fun e w' =>
   e = .returned (.tuple #[.int .i64 (zCy L).1, .bool (zCy L).2]) /\ Below w.heap.size w w' := by
 obtain ⟨o1, o2, o3⟩ := h.own.at_;unfold vP at o1;have HM := Lh h.map;have H := Lh h;have HO := Lh hO;have FIN := Lh (fun q hq => h.in_ (q := q) hq);clear h hO;go_enter Tryz.func320, Tryz.ntmps320;go_wp2_with (first
   | (at_range; refine jT _ rfl _ _ rfl _ _ Tryz.underlying253 .i64 m _ rfl HM.out ?_; intro w0 hr0 hb0 hs0)
   | go_in)
 go_frame
 have R0 := Lh hr0;have B0 := Lh hb0;clear hr0 hb0;go_loopw [6, 7] (fun least at_ wr => ∃ (l : Nat) (a : Int) (done rest : List Fr), least = .int .i64 (l : Int) /\ at_ = .int .i64 a /\ (done ++ rest).Perm L /\ Vr u done l a /\ Rng wr w.heap.size m .i64 (L.map ent) (rest.map ent) /\ Below w.heap.size w wr)
   (fun _ _ wr => wr.rangeLeft m w.heap.size)
 case atStart => exact ⟨u + 1, 0, [], L, by simp, rfl, List.Perm.refl _, Vr.start u, R0.out, B0.out⟩
 case round =>
   obtain ⟨l, a, done, rest, rfl, rfl, hp, hbest, hr, hb⟩ := hrel;have hb' := H.out.own.keep hb;obtain ⟨q1, q2, q3⟩ := hb'.at_;unfold vP at q1;have HR := Lh hr;have HB := Lh hb;have HP := Lh hp;have BS := Lh hbest;clear hr hb hp hbest hb' o1 o2 o3;go_wp2_with (first
     | (at_next; refine qK _ rfl _ rfl .i64 m w.heap.size _ _ rfl HR.out ?_ ?_)
     | go_in)
   · intro he;obtain rfl : rest = [] := by cases rest with
       | nil => rfl
       | cons x r => cases he
     have hend := (BS.out).ends HO.out (by have := HP.out; rw [List.append_nil] at this; exact this);replace hend := Lh hend;clear he;go_upto_region 7 with fail;go_quiet (fail)
     go_wp2;go_ret2;refine ⟨?_, zM HB.out _⟩;rw [<- hend.out];simp
   · intro s i v t w1 he hr1 hc1 hs1 hen;obtain ⟨S, f, T, rfl, rfl, hie, rfl⟩ := split_map ent rest he;have h1 : i = f.rf.no := congrArg Prod.fst hie;have h2 : v = .pointer (some ⟨f.blk, 0, none⟩) := congrArg Prod.snd hie;subst h1 h2;have hfL : f ∈ L := HP.out.mem_iff.1 (by simp);have hpin := FIN.out p (.inl rfl);have hfin := FIN.out f.blk (.inr (.inr (List.mem_map.2 ⟨f, hfL, rfl⟩)));have hof : Own w1 f.blk 269 (qA f) := hc1.own ((H.out.fr f hfL).keep HB.out) (by omega);have hop : Own w1 p 255 (vP n m u) := hc1.own (H.out.own.keep HB.out) (by omega);have hb1 : Below w.heap.size w w1 := ((Chg.of (S := (· = w.heap.size)) HB.out).same hc1).below (Nat.le_refl _) (fun q e => by omega);have hus := HO.out.last f hfL;have hp1 : ((done ++ [f]) ++ (S ++ T)).Perm L := by
       refine List.Perm.trans ?_ HP.out;rw [List.append_assoc];refine List.Perm.append_left done ?_;exact (List.perm_middle (a := f) (l₁ := S) (l₂ := T)).symm
     have hr2 : Rng w1 w.heap.size m .i64 (L.map ent) ((S ++ T).map ent) := by rw [List.map_append]; exact hr1
     have hlen : (S ++ T).length < (S ++ f :: T).length := by simp
     have hms := hr2.left;have hms0 := HR.out.left;rw [List.length_map] at hms hms0;have HM0 := Lh hms0;have HLT := Lh hlen;have HMS := Lh hms;have R2 := Lh hr2;have B1 := Lh hb1;have P1 := Lh hp1;have OF := Lh hof;obtain ⟨f1, f2, f3⟩ := hof.at_;unfold qA at f1;obtain ⟨r1, r2, r3⟩ := hop.at_;unfold vP at r1;have MG := Lh (zHi w1 f hof);obtain ⟨us, hus2⟩ : ∃ us, us = f.used := ⟨_, rfl⟩
     rw [<- hus2] at f1 hus;have US := Lh hus2;clear he hie hr1 hc1 hof hop hb1 hp1 hr2 hlen hms hms0 q1 q2 q3 hus2;by_cases hlt : us < l
     · obtain ⟨fr, hfr⟩ : ∃ b, b = free f.rf := ⟨_, rfl⟩
       have FR := Lh hfr;rw [<- hfr] at MG;clear hfr;cases fr with
       | true =>
         have BS2 := Lh (BS.out.take (f := f) (by rw [<- US.out]; exact hlt) FR.out.symm);go_wp2_with (first | (go_at_call 321; refine MG.out.mono ?_; rintro e w' ⟨rfl, rfl⟩) | go_in)
         go_roundw
         case rel => exact ⟨us, f.rf.no, done ++ [f], S ++ T, rfl, rfl, P1.out, by rw [US.out]; exact BS2.out, R2.out, B1.out⟩
         case measure => rw [HMS.out, HM0.out]; exact HLT.out
       | false =>
         have BS2 := Lh (BS.out.pass (f := f) (.inr FR.out.symm));go_wp2_with (first | (go_at_call 321; refine MG.out.mono ?_; rintro e w' ⟨rfl, rfl⟩) | go_in)
         go_roundw
         case rel => exact ⟨l, a, done ++ [f], S ++ T, rfl, rfl, P1.out, BS2.out, R2.out, B1.out⟩
         case measure => rw [HMS.out, HM0.out]; exact HLT.out
     · have BS2 := Lh (BS.out.pass (f := f) (.inl (by rw [<- US.out]; exact hlt)));go_wp2;go_roundw
       case rel => exact ⟨l, a, done ++ [f], S ++ T, rfl, rfl, P1.out, BS2.out, R2.out, B1.out⟩
       case measure => rw [HMS.out, HM0.out]; exact HLT.out
end
end Go.Proofs.YthijgebmoadgkaaGreatDoor.Po
end
section
namespace Go.Proofs.YthijgebmoadgkaaGreatDoor.Po
open Go.ChangeShapes Go.WideShapes Go.ChangeAt Go.RowKit
def zE8 (f : Fr) (s : ByteArray) (d : Bool) (u : Nat) : Fr := ⟨⟨f.rf.no, s, d, f.rf.pins⟩, u, f.blk⟩
def roomL (L : List Fr) (n : Nat) : Option (List Fr) := if L.length < n then some L else match victim (L.map (·.rf)) with
 | none => none
 | some v => some (L.filter fun f => f.rf.no != v.no)
section
variable {w : World} {B p m n u : Nat} {L S T : List Fr} {f : Fr}
set_option maxRecDepth 10000 in
theorem zDf (h : Mem w B p m n u (S ++ f :: T)) (hu : u <= 1000000) (s : ByteArray) (hs : s.size <= 281474976710656) (d : Bool) :
   Calls Tryz.prog 245 #[.pointer (some ⟨p, 0, none⟩), .pointer (some ⟨f.blk, 0, none⟩), .string s, .bool d] w fun e w' =>
     e = .returned (.tuple #[]) /\ Mem w' B p m n (u + 1) (S ++ zE8 f s d (u + 1) :: T) /\ Chg (fun q => q = p \/ q = f.blk) w w' := by
 have hf : f ∈ S ++ f :: T := by simp
 have H := Lh h;have HF := Lh hf;have HS := Lh hs;clear h hf hs;go_enter Tryz.func245, Tryz.ntmps245;go_upto_region 1 with (go_at_call 224; refine (uG s _ HS.out).mono ?_; rintro e w1 ⟨rfl, hb⟩; have M1 := Lh (H.out.below hb); have B1 := Lh hb; clear hb; obtain ⟨p1, p2, p3⟩ := (M1.out.fr f HF.out).at_; unfold qA at p1)
 have F1 := M1.out.fr f HF.out;have M2 := M1.out.turn (g := ⟨⟨f.rf.no, s, f.rf.dirty, f.rf.pins⟩, f.used, f.blk⟩) (jM _ f.blk 0 (.string s)) (Own.put F1 0 _) rfl rfl;have F2 := M2.fr ⟨⟨f.rf.no, s, f.rf.dirty, f.rf.pins⟩, f.used, f.blk⟩ (by simp);have M3 := M2.turn (g := ⟨⟨f.rf.no, s, d, f.rf.pins⟩, f.used, f.blk⟩) (jM _ f.blk 1 (.bool d)) (Own.put F2 1 _) rfl rfl;have C3 : Chg (fun q => q = p \/ q = f.blk) w ((w1.setCell ⟨f.blk, 0, none⟩ (.string s)).setCell ⟨f.blk, 1, none⟩ (.bool d)) :=
   (Chg.of B1.out).same (((jM _ _ _ _).same (jM _ _ _ _)).mono fun q _ e => .inr e)
 generalize (w1.setCell ⟨f.blk, 0, none⟩ (.string s)).setCell ⟨f.blk, 1, none⟩ (.bool d) = W at *
 have HU := Lh (zGq M3 hu);replace C3 := Lh C3;clear M1 B1 F1 M2 F2 M3 p1 p2 p3;go_wp2_with (go_at_call 241; refine HU.out.mono ?_; rintro e w2 ⟨rfl, hm2, hc2⟩)
 go_end0
 exact ⟨rfl, hm2, C3.out.same hc2⟩
theorem Mem.sub {L' : List Fr} (h : Mem w B p m n u L) {w' : World} (hc : Chg (· = m) w w') (hm : zW w' m .i64 (L'.map ent)) (hs : L'.Sublist L) : Mem w' B p m n u L' :=
 ⟨hc.own h.own h.ne_map.symm, hm, fun f hf => hc.own (h.fr f (hs.subset hf)) (h.ne_fr (hs.subset hf)).symm, (hs.map _).nodup h.apart, fun q hq => h.base q (hq.imp_right fun h => h.imp_right fun h => (hs.map _).subset h)⟩
theorem Ym (L : List Fr) (i : Int) : (L.map ent).filter (fun p => p.1 != i) = (L.filter fun f => f.rf.no != i).map ent := by
 rw [List.filter_map]; rfl
set_option maxRecDepth 10000 in
theorem Qd (h : Mem w B p m n u L) (hO : Ord u L) (hu : u <= 1000000) (hn : n <= 65536) (hl : L.length <= n) :
   Calls Tryz.prog 283 #[.pointer (some ⟨p, 0, none⟩)] w fun e w' =>
     e = .returned (.bool (roomL L n).isSome) /\ Mem w' B p m n u ((roomL L n).getD L) /\ Chg (qQ p m L) w w' := by
 have HL := fun ty => h.map.len (P := Tryz.prog) Tryz.underlying253 ty
 rw [List.length_map] at HL;obtain ⟨o1, o2, o3⟩ := h.own.at_;unfold vP at o1;have H := Lh h;have HOR := Lh hO;clear h hO;obtain ⟨len, hlen⟩ : ∃ len, len = L.length := ⟨_, rfl⟩
 rw [<- hlen] at HL hl;have LN := Lh hlen;by_cases hlt : len < n
 · have E := Lh (show roomL L n = some L by unfold roomL; rw [if_pos (by rw [<- hlen]; exact hlt)]);clear hlen;go_enter Tryz.func283, Tryz.ntmps283;go_upto_region 1 with fail;refine zA (fun W => Mem W B p m n u L) (0 :: 1 :: 2 :: 3 :: 4 :: 5 :: 6 :: 7 :: 8 :: 9 :: []) (3 :: 4 :: 8 :: []) (0 :: 1 :: 2 :: 3 :: 4 :: 5 :: 6 :: 7 :: 8 :: 9 :: []) (by kernel_rfl) (by kernel_rfl) rfl (by kernel_rfl) rfl (H.out.drew) (by simp only [zU, List.filterMap_cons, List.filterMap_nil, List.getElem?_cons_zero, List.getElem?_cons_succ, Option.map_some]; exact rfl) ?_;iterate 10
     refine zC (v := ?_) rfl rfl (fun W hS => ?_) ?_;rotate_left
     · first
         | (conv => lhs; simp [go_sem, hlt]
            first | done | exact rfl)
         | (have hS := hS rfl
            have HQ := fun ty => hS.map.len (P := Tryz.prog) Tryz.underlying253 ty
            rw [List.length_map, <- LN.out] at HQ;obtain ⟨q1, q2, q3⟩ := hS.own.at_;unfold vP at q1;conv => lhs; simp [go_sem, *, hlt]
            first | done | exact rfl)
     simp only [Act.put, lA, lZ, lS]
   refine zR ?_;go_wp2;go_ret;rw [E.out];exact ⟨rfl, H.out.drew, (Chg.refl _ w).drew⟩
 · have hlt : ¬ ((len : Int) < (n : Int)) := by omega
   have hno : ¬ L.length < n := by rw [<- hlen]; omega
   cases hv : victim (L.map (·.rf)) with
   | none =>
     have E := Lh (show roomL L n = none by unfold roomL; rw [if_neg hno, hv]);have hR : zCy L = (0, false) := by unfold zCy; rw [hv]
     have hR2 := Lh hR;clear hlen hv hR hno;go_enter Tryz.func283, Tryz.ntmps283;go_upto_region 1 with fail;refine zA (fun W => Mem W B p m n u L) (0 :: 1 :: 2 :: 3 :: 4 :: 5 :: 6 :: 7 :: 8 :: 9 :: []) (3 :: 4 :: 8 :: []) (0 :: 1 :: 2 :: 3 :: 4 :: 5 :: 6 :: 7 :: 8 :: 9 :: []) (by kernel_rfl) (by kernel_rfl) rfl (by kernel_rfl) rfl (H.out.drew) (by simp only [zU, List.filterMap_cons, List.filterMap_nil, List.getElem?_cons_zero, List.getElem?_cons_succ, Option.map_some]; exact rfl) ?_;iterate 10
       refine zC (v := ?_) rfl rfl (fun W hS => ?_) ?_;rotate_left
       · first
           | (conv => lhs; simp [go_sem, hlt]
              first | done | exact rfl)
           | (have hS := hS rfl
              have HQ := fun ty => hS.map.len (P := Tryz.prog) Tryz.underlying253 ty
              rw [List.length_map, <- LN.out] at HQ;obtain ⟨q1, q2, q3⟩ := hS.own.at_;unfold vP at q1;conv => lhs; simp [go_sem, *, hlt]
              first | done | exact rfl)
       simp only [Act.put, lA, lZ, lS]
     refine zR ?_;have hw0 : Mem w.drew B p m n u L := H.out.drew;obtain ⟨o1, o2, o3⟩ := hw0.own.at_;unfold vP at o1;replace hw0 := Lh hw0;replace HO := Lh (Xj hw0.out HOR.out hu);rw [hR2.out] at HO;go_wp2_with (go_at_call 320; refine HO.out.mono ?_; rintro e w1 ⟨rfl, hb1⟩)
     go_ret;rw [E.out];exact ⟨rfl, hw0.out.below hb1, ((Chg.refl _ w).drew).call hb1⟩
   | some v =>
     have E := Lh (show roomL L n = some (L.filter fun f => f.rf.no != v.no) by unfold roomL; rw [if_neg hno, hv]);have hR : zCy L = (v.no, true) := by unfold zCy; rw [hv]
     have hR2 := Lh hR;clear hlen hv hR hno;go_enter Tryz.func283, Tryz.ntmps283;go_upto_region 1 with fail;refine zA (fun W => Mem W B p m n u L) (0 :: 1 :: 2 :: 3 :: 4 :: 5 :: 6 :: 7 :: 8 :: 9 :: []) (3 :: 4 :: 8 :: []) (0 :: 1 :: 2 :: 3 :: 4 :: 5 :: 6 :: 7 :: 8 :: 9 :: []) (by kernel_rfl) (by kernel_rfl) rfl (by kernel_rfl) rfl (H.out.drew) (by simp only [zU, List.filterMap_cons, List.filterMap_nil, List.getElem?_cons_zero, List.getElem?_cons_succ, Option.map_some]; exact rfl) ?_;iterate 10
       refine zC (v := ?_) rfl rfl (fun W hS => ?_) ?_;rotate_left
       · first
           | (conv => lhs; simp [go_sem, hlt]
              first | done | exact rfl)
           | (have hS := hS rfl
              have HQ := fun ty => hS.map.len (P := Tryz.prog) Tryz.underlying253 ty
              rw [List.length_map, <- LN.out] at HQ;obtain ⟨q1, q2, q3⟩ := hS.own.at_;unfold vP at q1;conv => lhs; simp [go_sem, *, hlt]
              first | done | exact rfl)
       simp only [Act.put, lA, lZ, lS]
     refine zR ?_;have hw0 : Mem w.drew B p m n u L := H.out.drew;obtain ⟨o1, o2, o3⟩ := hw0.own.at_;unfold vP at o1;replace hw0 := Lh hw0;have HO := Lh (Xj hw0.out HOR.out hu);rw [hR2.out] at HO;go_upto_region 5 with (go_at_call 320; refine HO.out.mono ?_; rintro e w1 ⟨rfl, hb1⟩; have M1 := Lh (hw0.out.below hb1); have B1 := Lh hb1; clear hb1; obtain ⟨p1, p2, p3⟩ := M1.out.own.at_; unfold vP at p1)
     go_wp2_with (first | (at_delete; refine Ja _ rfl _ _ _ _ rfl _ Tryz.underlying253 .i64 Tryz.underlying3 m _ _ rfl rfl M1.out.map ?_; intro w2 hm2 hc2 hs2) | go_in)
     go_ret;rw [E.out];rw [Ym] at hm2;exact ⟨rfl, M1.out.sub hc2 hm2 List.filter_sublist, ((((Chg.refl _ w).drew).call B1.out).same (hc2.mono fun q _ e => .inr (.inl e)))⟩
end
end Go.Proofs.YthijgebmoadgkaaGreatDoor.Po
end
section
namespace Go.Proofs.YthijgebmoadgkaaGreatDoor.Po
open Go.ChangeShapes Go.WideShapes Go.ChangeAt Go.RowKit
theorem Zn {L L' : List Fr} {n : Nat} (h : roomL L n = some L') : L'.Sublist L := by
 unfold roomL at h;split at h
 · injection h with h; subst h; exact List.Sublist.refl _
 · split at h
   · cases h
   · injection h with h; subst h; exact List.filter_sublist
theorem zF4 (L : List Fr) (n : Nat) : (roomL L n).map (·.map (·.rf)) = roomR (L.map (·.rf)) n := by
 unfold roomL roomR;rw [List.length_map];split
 · rfl
 · cases victim (L.map (·.rf)) with
   | none => rfl
   | some v =>
     show some ((L.filter fun f => f.rf.no != v.no).map (·.rf)) = some ((L.map (·.rf)).filter fun f => f.no != v.no)
     rw [List.filter_map];rfl
theorem Ord.push {u : Nat} {L L' : List Fr} (h : Ord u L) (hs : L'.Sublist L) {f : Fr} (hf : f.used = u + 1) : Ord (u + 1) (L' ++ [f]) := by
 refine ⟨?_, fun x hx => ?_⟩
 · rw [List.pairwise_append];refine ⟨List.Pairwise.sublist hs h.rise, by simp, fun x hx y hy => ?_⟩;simp at hy;subst hy;have := h.last x (hs.subset hx);omega
 · rcases List.mem_append.1 hx with hx | hx
   · have := h.last x (hs.subset hx); omega
   · simp at hx; subst hx; omega
section
variable {w : World} {B p m n u : Nat} {L S T : List Fr} {f : Fr}
theorem Mem.below_base (h : Mem w B p m n u L) : B <= w.heap.size := by
 have h1 := h.base p (.inl rfl);have h2 := h.own.in_;omega
set_option maxRecDepth 10000 in
theorem zDm (h : Mem w B p m n u L) (hO : Ord u L) (hu : u <= 1000000) (hn : n <= 65536) (hl : L.length <= n) (no : Int) (s : ByteArray) (d : Bool) (hE : roomL L n = none) :
   Calls Tryz.prog 242 #[.pointer (some ⟨p, 0, none⟩), .int .i64 no, .string s, .bool d] w fun e w' => e = .returned (.int .i64 8) /\ Mem w' B p m n u L /\ Chg (qQ p m L) w w' := by
 have HM := Qd h hO hu hn hl;simp only [hE, Option.isSome_none, Option.getD_none] at HM;replace HM := Lh HM;clear h hO hE;go_enter Tryz.func242, Tryz.ntmps242;go_wp2_with (go_at_call 283; refine HM.out.mono ?_; rintro e w1 ⟨rfl, hm1, hc1⟩)
 go_ret;exact ⟨rfl, hm1, hc1⟩
set_option maxRecDepth 10000 in
theorem zDx (h : Mem w B p m n u L) (hO : Ord u L) (hu : u <= 1000000) (hn : n <= 65536) (hl : L.length <= n) (no : Int) (hno : no ∉ (L.map (·.rf)).map (·.no)) (s : ByteArray) (hs : s.size <= 281474976710656) (d : Bool) {L' : List Fr} (hE : roomL L n = some L') :
   Calls Tryz.prog 242 #[.pointer (some ⟨p, 0, none⟩), .int .i64 no, .string s, .bool d] w fun e w' =>
     e = .returned (.int .i64 0) /\ (∃ b, Mem w' B p m n (u + 1) (L' ++ [⟨⟨no, s, d, 0⟩, u + 1, b⟩])) /\ Chg (qQ p m L) w w' := by
 have HM := Qd h hO hu hn hl;have hsub := Zn hE;simp only [hE, Option.isSome_some, Option.getD_some] at HM;replace HM := Lh HM;have HB := Lh h.below_base;have HPI := Lh h.own.in_;have HSB := Lh hsub;have hno2 : ∀ v, (no, v) ∉ L'.map ent := fun v hv => hno (by
   obtain ⟨x, hx, e⟩ := List.mem_map.1 hv;have : x.rf.no = no := congrArg Prod.fst e;rw [<- this];exact List.mem_map.2 ⟨x.rf, List.mem_map.2 ⟨x, hsub.subset hx, rfl⟩, rfl⟩)
 have HN := Lh hno2;clear h hO hE hsub hno hno2;go_enter Tryz.func242, Tryz.ntmps242;go_upto_region 6 with (go_at_call 283; refine HM.out.mono ?_; rintro e w1 ⟨rfl, hm1, hc1⟩; have M1 := Lh hm1; have C1 := Lh hc1; clear hm1 hc1)
 go_name_world W0 hW0;have B0 : Below w1.heap.size w1 W0 := hW0 ▸ (Below.refl _ _).alloc (Nat.le_refl _) _;have M0 := M1.out.below B0;have O0 : Own W0 w1.heap.size 269 (qA ⟨⟨no, ⟨#[]⟩, false, 0⟩, 0, w1.heap.size⟩) := hW0 ▸ Own.made _ _ _;have z1 : w.heap.size <= w1.heap.size := C1.out.size;clear hW0;obtain ⟨W1, hmu, hm1, hc1, hs1⟩ := M0.map.put (P := Tryz.prog) Tryz.underlying253 Tryz.underlying3 (.pointer (some ⟨w1.heap.size, 0, none⟩)) HN.out;have O1 : Own W1 w1.heap.size 269 (qA ⟨⟨no, ⟨#[]⟩, false, 0⟩, 0, w1.heap.size⟩) := hc1.own O0 (M0.map.ne O0).symm;have M5 : Mem W1 B p m n u (L' ++ ⟨⟨no, ⟨#[]⟩, false, 0⟩, 0, w1.heap.size⟩ :: []) := by
   refine ⟨hc1.own M0.own M0.ne_map.symm, by rw [List.map_append]; exact hm1, fun x hx => ?_, ?_, fun q hq => ?_⟩
   · rcases List.mem_append.1 hx with hx | hx
     · exact hc1.own (M0.fr x hx) (M0.ne_fr hx).symm
     · simp at hx; subst hx; exact O1
   · rw [List.map_append, List.nodup_append];refine ⟨M0.apart, by simp, fun x hx y hy => ?_⟩;simp at hy;subst hy;have := M1.out.in_ (q := x) (.inr (.inr hx));omega
   · have hbb := HB.out;rcases hq with rfl | rfl | hq
     · exact M0.base _ (.inl rfl)
     · exact M0.base _ (.inr (.inl rfl))
     · rw [List.map_append, List.mem_append] at hq;rcases hq with hq | hq
       · exact M0.base _ (.inr (.inr hq))
       · simp at hq; omega
 have HF := Lh (zDf M5 hu s hs d);have C5 : Chg (qQ p m L) w W1 := (C1.out.call B0).trans hc1 fun q _ e => .inr (.inl e)
 replace C5 := Lh C5;obtain ⟨o1, o2, o3⟩ := M0.own.at_;unfold vP at o1;clear M1 C1 M0 O0 O1 M5 hm1 hc1 B0 hs1;go_wp2_with (go_at_call 245; refine HF.out.mono ?_; rintro e w2 ⟨rfl, hm2, hc2⟩)
 go_ret;have hpi := HPI.out;refine ⟨rfl, ⟨w1.heap.size, hm2⟩, C5.out.trans hc2 fun q hq e => ?_⟩;rcases e with rfl | e
 · exact .inl rfl
 · have e2 : q = w1.heap.size := e;omega
set_option maxRecDepth 10000 in
theorem new_any (n : Nat) (h1 : 1 <= n) (h2 : n <= 65536) (w : World) (B : Nat) (hB : B <= w.heap.size) : Calls Tryz.prog 81 #[.int .i64 (n : Int)] w fun e w' => ∃ p m, e = .returned (.tuple #[.pointer (some ⟨p, 0, none⟩), .int .i64 0]) /\ Mem w' B p m n 0 [] /\ Below w.heap.size w w' := by
 have hmm := @run_makeMap Tryz.prog;go_enter Tryz.func81, Tryz.ntmps81;go_wp2;go_ret2;have M0 := zW.made w .i64;have B0 : Below w.heap.size w (w.alloc (.map #[] 0)) := (Below.refl _ _).alloc (Nat.le_refl _) _;refine ⟨w.heap.size + 1, w.heap.size, by simp, ⟨Own.made_at (by simp), M0.keep (Below.heap_alloc _ _ _ M0.in_), by simp, by simp, fun q hq => ?_⟩, B0.alloc (by simp) _⟩;rcases hq with rfl | rfl | hq
 · omega
 · omega
 · simp at hq
end
end Go.Proofs.YthijgebmoadgkaaGreatDoor.Po
end
