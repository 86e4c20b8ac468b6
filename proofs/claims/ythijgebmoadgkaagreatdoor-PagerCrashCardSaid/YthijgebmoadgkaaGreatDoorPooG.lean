import Derived.Test.YthijgebmoadgkaaGreatDoorPooD
import Derived.Sort.OwnSortedInts
set_option linter.unusedVariables false
set_option linter.unusedSimpArgs false
section
namespace Go.Proofs.YthijgebmoadgkaaGreatDoor.Po
open Go.ChangeShapes Go.WideShapes Go.ChangeAt Go.RowKit
def PoolAt (w : World) (B p n c : Nat) (R : List RF) : Prop := ∃ m u L, Mem w B p m n u L /\ Ord u L /\ u <= c /\ L.map (·.rf) = R /\ OkR R n c /\ 1 <= n /\ n <= 65536
def PT (w : World) (B q : Nat) : Prop := B <= q /\ ((∃ es ck, w.heap[q]? = some (.map es ck)) \/ (∃ cs, Own w q 255 cs) \/ ∃ cs, Own w q 269 cs)
section
variable {w w' : World} {B p m n u c : Nat} {L S T : List Fr} {f : Fr} {R : List RF}
theorem Mem.pt (h : Mem w B p m n u L) {q : Nat} (hq : qQ p m L q) : PT w B q := by
 refine ⟨h.base q hq, ?_⟩;rcases hq with rfl | rfl | hq
 · exact .inr (.inl ⟨_, h.own⟩)
 · obtain ⟨es, ck, hb, _⟩ := h.map;exact .inl ⟨es, ck, hb⟩
 · obtain ⟨f, hf, rfl⟩ := List.mem_map.1 hq;exact .inr (.inr ⟨_, h.fr f hf⟩)
theorem Mem.chg (h : Mem w B p m n u L) (hc : Chg (qQ p m L) w w') : Chg (PT w B) w w' := hc.mono fun q _ hq => h.pt hq
theorem Mem.chg2 (h : Mem w B p m n u (S ++ f :: T)) (hc : Chg (fun q => q = p \/ q = f.blk) w w') : Chg (PT w B) w w' := hc.mono fun q _ hq => h.pt (by
 rcases hq with rfl | rfl
 · exact .inl rfl
 · exact .inr (.inr (by simp)))
theorem PoolAt.keep (h : PoolAt w B p n c R) {Z : Nat -> Prop} (hc : Chg Z w w') (hZ : ∀ q, PT w B q -> ¬ Z q) : PoolAt w' B p n c R := by
 obtain ⟨m, u, L, h1, h2⟩ := h;exact ⟨m, u, L, h1.keep hc fun q hq => hZ q (h1.pt hq), h2⟩
theorem PoolAt.below (h : PoolAt w B p n c R) (hb : Below w.heap.size w w') : PoolAt w' B p n c R := h.keep (Chg.of (S := fun _ => False) hb) fun _ _ => id
theorem PoolAt.more (h : PoolAt w B p n c R) {d : Nat} (hd : c <= d) : PoolAt w B p n d R := by
 obtain ⟨m, u, L, h1, h2, h3, h4, h5, h6⟩ := h;exact ⟨m, u, L, h1, h2, by omega, h4, h5.more d hd, h6⟩
theorem PoolAt.base (h : PoolAt w B p n c R) : B <= w.heap.size := by
 obtain ⟨m, u, L, h1, _⟩ := h;exact h1.below_base
theorem PoolAt.ok (h : PoolAt w B p n c R) : OkR R n c := by
 obtain ⟨m, u, L, h1, h2, h3, h4, h5, h6⟩ := h;exact h5
theorem zBo {no : Int} {x : RF} (hL : L.map (·.rf) = R) (h : look R no = some x) : ∃ S f T, L = S ++ f :: T /\ f.rf = x /\ x.no = no := by
 obtain ⟨h1, S', T', h2⟩ := look_some h;rw [<- hL] at h2;obtain ⟨S, f, T, h3, -, h4, -⟩ := split_map (·.rf) L h2;exact ⟨S, f, T, h3, h4.symm, h1⟩
theorem zAu {S T : List Fr} {f : Fr} : (S ++ f :: T).Perm (S ++ T ++ [f]) := by
 rw [List.append_assoc];refine List.Perm.append_left S ?_;exact (List.perm_append_singleton f T).symm
theorem zGs {S T : List Fr} {f : Fr} (h : (((S ++ f :: T).map (·.rf)).map (·.no)).Nodup) : del ((S ++ f :: T).map (·.rf)) f.rf.no = (S ++ T).map (·.rf) := by
 rw [List.map_append, List.map_cons] at h ⊢;rw [del_at h, List.map_append]
theorem zGf {S T : List Fr} {f : Fr} : (S ++ T).Sublist (S ++ f :: T) := (List.Sublist.refl S).append (List.sublist_cons_self f T)
set_option maxRecDepth 10000 in
theorem get_any (h : PoolAt w B p n c R) (no : Int) (hc : c < 1000000) : Calls Tryz.prog 167 #[.pointer (some ⟨p, 0, none⟩), .int .i64 no] w fun e w' =>
   e = .returned (.tuple #[.string (getR R no).1.1, .bool (getR R no).1.2]) /\ PoolAt w' B p n (c + 1) (getR R no).2 /\ Chg (PT w B) w w' := by
 have H0 := Lh (h.more (Nat.le_succ c));obtain ⟨m, u, L, hM, hO, hu, hL, hR, h1, h2⟩ := h;cases hl : look R no with
 | none =>
   have E := Lh (show getR R no = ((⟨#[]⟩, false), R) by unfold getR; rw [hl]);have HF := Lh (find_none hM (no := no) (by rw [hL]; exact look_none hl));clear hM hO hL hR hl hu;go_enter Tryz.func167, Tryz.ntmps167;go_wp2_with (go_at_call 240; refine HF.out.mono ?_; rintro e w' ⟨rfl, rfl⟩)
   go_ret2;rw [E.out];exact ⟨rfl, H0.out, Chg.refl _ _⟩
 | some x =>
   obtain ⟨S, f, T, rfl, rfl, rfl⟩ := zBo hL hl;have E := Lh (show getR R f.rf.no = ((f.rf.s, true), del R f.rf.no ++ [f.rf]) by unfold getR; rw [hl]);have HF := Lh (find_some hM);have HU := Lh (zGq hM (by omega));have hsz : f.rf.s.size <= 281474976710656 := hR.size f.rf (by rw [<- hL]; simp);have Q : Hid (∀ W, Mem W B p m n (u + 1) (S ++ used f (u + 1) :: T) -> PoolAt W B p n (c + 1) (del R f.rf.no ++ [f.rf])) := by
     intro W hW;refine ⟨m, u + 1, S ++ T ++ [used f (u + 1)], hW.perm zAu, hO.push zGf rfl, by omega, ?_, ?_, h1, h2⟩
     · rw [<- hL] at hR ⊢;rw [zGs hR.nos, List.map_append];rfl
     · have := (zLr hR f.rf.no).more (c + 1) (by omega);rw [E.out] at this;exact this
   have HM := Lh hM;have SZ := Lh hsz;clear hM hO hL hR hl hu hsz;go_enter Tryz.func167, Tryz.ntmps167;go_upto_region 5 with (first | (go_at_call 240; refine HF.out.mono ?_; rintro e w' ⟨rfl, rfl⟩) | (go_at_call 241; refine HU.out.mono ?_; rintro e w1 ⟨rfl, hm1, hc1⟩; have M1 := Lh hm1; have C1 := Lh hc1; clear hm1 hc1; obtain ⟨p1, p2, p3⟩ := (M1.out.fr (used f (u + 1)) (by simp)).at_; unfold qA used at p1; simp only at p1; unfold used at p2 p3; simp only at p2 p3))
   go_wp2_with (go_at_call 224; refine (uG _ _ SZ.out).mono ?_; rintro e w2 ⟨rfl, hb2⟩)
   go_ret2;rw [E.out];exact ⟨rfl, (Q.out _ M1.out).below hb2, (HM.out.chg2 C1.out).call hb2⟩
theorem zNg (hO : Ord u L) (hu : u <= c) (hL : L.map (·.rf) = R) (hR : OkR R n c) (h1 : 1 <= n) (h2 : n <= 65536) {no : Int} (hno : no ∉ R.map (·.no)) {s : ByteArray} (hs : s.size <= 281474976710656) {d : Bool} {L' : List Fr} (hE : roomL L n = some L') {W : World} {b : Nat}
   (hW : Mem W B p m n (u + 1) (L' ++ [⟨⟨no, s, d, 0⟩, u + 1, b⟩])) : (addR R n no s d).1 = 0 /\ PoolAt W B p n (c + 1) (addR R n no s d).2 := by
 have h := zF4 L n;rw [hE, hL] at h;have e : addR R n no s d = (0, L'.map (·.rf) ++ [⟨no, s, d, 0⟩]) := by
   unfold addR;rw [<- h];rfl
 have hk := (zF3 (s := s) (d := d) hR hno hs).more (c + 1) (by omega);rw [e] at hk ⊢;exact ⟨rfl, m, u + 1, _, hW, hO.push (Zn hE) rfl, by omega, by rw [List.map_append]; rfl, hk, h1, h2⟩
theorem zAv (hL : L.map (·.rf) = R) {no : Int} {s : ByteArray} {d : Bool} (hE : roomL L n = none) : addR R n no s d = (8, R) := by
 have h := zF4 L n;rw [hE, hL] at h;unfold addR;rw [<- h];rfl
theorem zJd (hL : L.map (·.rf) = R) (hR : OkR R n c) : L.length <= n := by
 have := hR.few;rw [<- hL, List.length_map] at this;exact this
set_option maxRecDepth 10000 in
theorem put_any (h : PoolAt w B p n c R) (no : Int) (s : ByteArray) (hs : s.size <= 281474976710656) (hc : c < 1000000) : Calls Tryz.prog 171 #[.pointer (some ⟨p, 0, none⟩), .int .i64 no, .string s] w fun e w' =>
   e = .returned (.int .i64 (putR R n no s).1) /\ PoolAt w' B p n (c + 1) (putR R n no s).2 /\ Chg (PT w B) w w' := by
 have H0 := Lh (h.more (Nat.le_succ c));obtain ⟨m, u, L, hM, hO, hu, hL, hR, h1, h2⟩ := h;cases hl : look R no with
 | some x =>
   have E := Lh (show putR R n no s = (7, R) by unfold putR; rw [hl]);obtain ⟨S, f, T, rfl, rfl, rfl⟩ := zBo hL hl;have HF := Lh (find_some hM);clear hM hO hL hR hl hu;go_enter Tryz.func171, Tryz.ntmps171;go_wp2_with (go_at_call 240; refine HF.out.mono ?_; rintro e w' ⟨rfl, rfl⟩)
   go_ret;rw [E.out];exact ⟨rfl, H0.out, Chg.refl _ _⟩
 | none =>
   have E := Lh (show putR R n no s = addR R n no s false by unfold putR; rw [hl]);have hno := look_none hl;have HF := Lh (find_none hM (no := no) (by rw [hL]; exact hno));have hfew := zJd hL hR;cases hE : roomL L n with
   | none =>
     have HA := Lh (zDm hM hO (by omega) h2 hfew no s false hE);have E2 := Lh (zAv (no := no) (s := s) (d := false) hL hE);have QP : Hid (∀ W, Mem W B p m n u L -> PoolAt W B p n (c + 1) R) := fun W hW => ⟨m, u, L, hW, hO, by omega, hL, hR.more _ (by omega), h1, h2⟩
     have HM := Lh hM;clear hM hO hL hR hl hu hno hE hfew;go_enter Tryz.func171, Tryz.ntmps171;go_wp2_with (first | (go_at_call 240; refine HF.out.mono ?_; rintro e w' ⟨rfl, rfl⟩) | (go_at_call 242; refine HA.out.mono ?_; rintro e w1 ⟨rfl, hm1, hc1⟩))
     go_ret;rw [E.out, E2.out];exact ⟨rfl, QP.out _ hm1, HM.out.chg hc1⟩
   | some L' =>
     have HA := Lh (zDx hM hO (by omega) h2 hfew no (by rw [hL]; exact hno) s hs false hE);have QP : Hid (∀ W b, Mem W B p m n (u + 1) (L' ++ [⟨⟨no, s, false, 0⟩, u + 1, b⟩]) -> (addR R n no s false).1 = 0 /\ PoolAt W B p n (c + 1) (addR R n no s false).2) := fun W b hW => zNg hO hu hL hR h1 h2 hno hs hE hW
     have HM := Lh hM;clear hM hO hL hR hl hu hno hE hfew;go_enter Tryz.func171, Tryz.ntmps171;go_wp2_with (first | (go_at_call 240; refine HF.out.mono ?_; rintro e w' ⟨rfl, rfl⟩) | (go_at_call 242; refine HA.out.mono ?_; rintro e w1 ⟨rfl, ⟨b, hm1⟩, hc1⟩))
     go_ret;obtain ⟨q1, q2⟩ := QP.out _ _ hm1;rw [E.out];exact ⟨jK q1.symm, q2, HM.out.chg hc1⟩
set_option maxRecDepth 10000 in
theorem set_any (h : PoolAt w B p n c R) (no : Int) (s : ByteArray) (hs : s.size <= 281474976710656) (hc : c < 1000000) : Calls Tryz.prog 177 #[.pointer (some ⟨p, 0, none⟩), .int .i64 no, .string s] w fun e w' =>
   e = .returned (.int .i64 (setR R n no s).1) /\ PoolAt w' B p n (c + 1) (setR R n no s).2 /\ Chg (PT w B) w w' := by
 obtain ⟨m, u, L, hM, hO, hu, hL, hR, h1, h2⟩ := h;cases hl : look R no with
 | some x =>
   obtain ⟨S, f, T, rfl, rfl, rfl⟩ := zBo hL hl;have E := Lh (show setR R n f.rf.no s = (0, del R f.rf.no ++ [⟨f.rf.no, s, true, f.rf.pins⟩]) by unfold setR; rw [hl]);have HF := Lh (find_some hM);have HU := Lh (zDf hM (by omega) s hs true);have Q : Hid (∀ W, Mem W B p m n (u + 1) (S ++ zE8 f s true (u + 1) :: T) -> PoolAt W B p n (c + 1) (del R f.rf.no ++ [⟨f.rf.no, s, true, f.rf.pins⟩])) := by
     intro W hW;refine ⟨m, u + 1, S ++ T ++ [zE8 f s true (u + 1)], hW.perm zAu, hO.push zGf rfl, by omega, ?_, ?_, h1, h2⟩
     · rw [<- hL] at hR ⊢;rw [zGs hR.nos, List.map_append];rfl
     · have := (zNb hR f.rf.no hs).more (c + 1) (by omega);rw [E.out] at this;exact this
   have HM := Lh hM;clear hM hO hL hR hl hu;go_enter Tryz.func177, Tryz.ntmps177;go_wp2_with (first | (go_at_call 240; refine HF.out.mono ?_; rintro e w' ⟨rfl, rfl⟩) | (go_at_call 245; refine HU.out.mono ?_; rintro e w1 ⟨rfl, hm1, hc1⟩))
   go_ret;rw [E.out];exact ⟨rfl, Q.out _ hm1, HM.out.chg2 hc1⟩
 | none =>
   have E := Lh (show setR R n no s = addR R n no s true by unfold setR; rw [hl]);have hno := look_none hl;have HF := Lh (find_none hM (no := no) (by rw [hL]; exact hno));have hfew := zJd hL hR;cases hE : roomL L n with
   | none =>
     have HA := Lh (zDm hM hO (by omega) h2 hfew no s true hE);have E2 := Lh (zAv (no := no) (s := s) (d := true) hL hE);have QP : Hid (∀ W, Mem W B p m n u L -> PoolAt W B p n (c + 1) R) := fun W hW => ⟨m, u, L, hW, hO, by omega, hL, hR.more _ (by omega), h1, h2⟩
     have HM := Lh hM;clear hM hO hL hR hl hu hno hE hfew;go_enter Tryz.func177, Tryz.ntmps177;go_wp2_with (first | (go_at_call 240; refine HF.out.mono ?_; rintro e w' ⟨rfl, rfl⟩) | (go_at_call 242; refine HA.out.mono ?_; rintro e w1 ⟨rfl, hm1, hc1⟩))
     go_ret;rw [E.out, E2.out];exact ⟨rfl, QP.out _ hm1, HM.out.chg hc1⟩
   | some L' =>
     have HA := Lh (zDx hM hO (by omega) h2 hfew no (by rw [hL]; exact hno) s hs true hE);have QP : Hid (∀ W b, Mem W B p m n (u + 1) (L' ++ [⟨⟨no, s, true, 0⟩, u + 1, b⟩]) -> (addR R n no s true).1 = 0 /\ PoolAt W B p n (c + 1) (addR R n no s true).2) := fun W b hW => zNg hO hu hL hR h1 h2 hno hs hE hW
     have HM := Lh hM;clear hM hO hL hR hl hu hno hE hfew;go_enter Tryz.func177, Tryz.ntmps177;go_wp2_with (first | (go_at_call 240; refine HF.out.mono ?_; rintro e w' ⟨rfl, rfl⟩) | (go_at_call 242; refine HA.out.mono ?_; rintro e w1 ⟨rfl, ⟨b, hm1⟩, hc1⟩))
     go_ret;obtain ⟨q1, q2⟩ := QP.out _ _ hm1;rw [E.out];exact ⟨jK q1.symm, q2, HM.out.chg hc1⟩
end
end Go.Proofs.YthijgebmoadgkaaGreatDoor.Po
end
section
namespace Go.Proofs.YthijgebmoadgkaaGreatDoor.Po
open Go.ChangeShapes Go.WideShapes Go.ChangeAt Go.RowKit
def cl (f : Fr) : Fr := ⟨clean f.rf, f.used, f.blk⟩
theorem ownsRow_keepB {w w' : World} {B : Nat} {e : TypeId} {size : Nat} {v : Value} {n : Nat} {xs : List Value} (h : w.ownsRow B e size v n xs) (hk : ∀ g, v.ownBlock = some g -> w'.heap[g]? = w.heap[g]?) : w'.ownsRow B e size v n xs := by
 refine ⟨h.1, ?_⟩;rcases h.2 with h2 | ⟨g, cap, cur, rfl, r1, r2, r3⟩
 · exact .inl h2
 · exact .inr ⟨g, cap, cur, rfl, r1, (hk g rfl).trans r2, r3⟩
section
variable {w w' : World} {B p m n u c : Nat} {L S T : List Fr} {f : Fr} {R : List RF}
set_option maxRecDepth 10000 in
set_option maxHeartbeats 1000000 in
theorem clean_any (h : PoolAt w B p n c R) : Calls Tryz.prog 93 #[.pointer (some ⟨p, 0, none⟩)] w fun e w' => e = .returned (.tuple #[]) /\ PoolAt w' B p n c (cleanR R) /\ Chg (PT w B) w w' := by
 obtain ⟨m, u, L, hM, hO, hu, hL, hR, h1, h2⟩ := h;have QP : Hid (∀ W, Mem W B p m n u (L.map cl) -> PoolAt W B p n c (cleanR R)) := fun W hW => by
   refine ⟨m, u, _, hW, ⟨?_, ?_⟩, hu, ?_, zIa hR, h1, h2⟩
   · rw [List.pairwise_map]; exact hO.rise
   · intro x hx;obtain ⟨y, hy, rfl⟩ := List.mem_map.1 hx;exact hO.last y hy
   · rw [<- hL, List.map_map];show L.map (fun f => clean f.rf) = (L.map (·.rf)).map clean
     rw [List.map_map]; rfl
 obtain ⟨o1, o2, o3⟩ := hM.own.at_;unfold vP at o1;have HM := Lh hM.map;have H := Lh hM;have FIN := Lh (fun q hq => hM.in_ (q := q) hq);clear hM hO hL hR hu h1 h2;go_enter Tryz.func93, Tryz.ntmps93;go_wp2_with (first
   | (at_range; refine jT _ rfl _ _ rfl _ _ Tryz.underlying253 .i64 m _ rfl HM.out ?_; intro w0 hr0 hb0 hs0)
   | go_in)
 go_frame
 have R0 := Lh hr0;have B0 := Lh hb0;clear hr0 hb0;go_loopw [] (fun wr => ∃ (done rest : List Fr), (done ++ rest).Perm L /\ Mem wr B p m n u (done.map cl ++ rest) /\ Rng wr w.heap.size m .i64 (L.map ent) (rest.map ent) /\ Chg (qQ p m L) w wr)
   (fun wr => wr.rangeLeft m w.heap.size)
 case atStart => exact ⟨[], L, List.Perm.refl _, H.out.below B0.out, R0.out, Chg.of B0.out⟩
 case round =>
   obtain ⟨done, rest, hp, hm, hr, hc⟩ := hrel;obtain ⟨q1, q2, q3⟩ := hm.own.at_;unfold vP at q1;have HR := Lh hr;have HC := Lh hc;have HP := Lh hp;have MM := Lh hm;clear hr hc hp hm o1 o2 o3;go_wp2_with (first
     | (at_next; refine qK _ rfl _ rfl .i64 m w.heap.size _ _ rfl HR.out ?_ ?_)
     | go_in)
   · intro he;obtain rfl : rest = [] := by cases rest with
       | nil => rfl
       | cons x r => cases he
     clear he;go_wp2;go_end0
     have hp := HP.out;rw [List.append_nil] at hp;have hm := MM.out;rw [List.append_nil] at hm;exact ⟨rfl, QP.out _ (hm.perm (hp.map cl)), H.out.chg HC.out⟩
   · intro s i v t w1 he hr1 hc1 hs1 hen;obtain ⟨S, f, T, rfl, rfl, hie, rfl⟩ := split_map ent rest he;have h1 : i = f.rf.no := congrArg Prod.fst hie;have h2 : v = .pointer (some ⟨f.blk, 0, none⟩) := congrArg Prod.snd hie;subst h1 h2;have hfL : f ∈ L := HP.out.mem_iff.1 (by simp);have hfin := FIN.out f.blk (.inr (.inr (List.mem_map.2 ⟨f, hfL, rfl⟩)));have hml := FIN.out m (.inr (.inl rfl));have hbl : ∀ q, qQ p m (done.map cl ++ (S ++ f :: T)) q -> q < w.heap.size := fun q hq => by
       rcases hq with rfl | rfl | hq
       · exact FIN.out _ (.inl rfl)
       · exact FIN.out _ (.inr (.inl rfl))
       · refine FIN.out _ (.inr (.inr ?_));have e : (done.map cl ++ (S ++ f :: T)).map (·.blk) = (done ++ (S ++ f :: T)).map (·.blk) := by simp [cl]
         rw [e] at hq;exact (HP.out.map _).mem_iff.1 hq
     have m1 : Mem w1 B p m n u ((done.map cl ++ S) ++ f :: T) := by
       rw [List.append_assoc];exact MM.out.keep hc1 fun q hq e => by have := hbl q hq; omega
     have hof := m1.fr f (by simp);have hne := m1.ne_fr (f := f) (by simp);have m2 : Mem (w1.setCell ⟨f.blk, 1, none⟩ (.bool false)) B p m n u ((done.map cl ++ S) ++ cl f :: T) := m1.turn (jM w1 f.blk 1 _) (Own.put hof 1 _) rfl rfl;have p2 : ((done.map cl ++ S) ++ cl f :: T).Perm ((done ++ [f]).map cl ++ (S ++ T)) := by
       rw [List.map_append, List.append_assoc, List.append_assoc];refine List.Perm.append_left _ ?_;exact List.perm_middle (a := cl f) (l₁ := S) (l₂ := T)
     have hp1 : ((done ++ [f]) ++ (S ++ T)).Perm L := by
       refine List.Perm.trans ?_ HP.out;rw [List.append_assoc];refine List.Perm.append_left done ?_;exact (List.perm_middle (a := f) (l₁ := S) (l₂ := T)).symm
     have hr2 : Rng (w1.setCell ⟨f.blk, 1, none⟩ (.bool false)) w.heap.size m .i64 (L.map ent) ((S ++ T).map ent) := by
       rw [List.map_append];exact hr1.keep ((jM w1 f.blk 1 (.bool false)).block m (by have := hc1.size; have := HC.out.size; omega) hne) ((jM w1 f.blk 1 (.bool false)).block w.heap.size hr1.in_ (by omega))
     have hc2 : Chg (qQ p m L) w (w1.setCell ⟨f.blk, 1, none⟩ (.bool false)) :=
       (HC.out.trans hc1 fun q hq e => absurd e (by omega)).same ((jM w1 f.blk 1 _).mono fun q _ e => .inr (.inr (List.mem_map.2 ⟨f, hfL, e.symm⟩)))
     have hlen : (S ++ T).length < (S ++ f :: T).length := by simp
     have hms := hr2.left;have hms0 := HR.out.left;rw [List.length_map] at hms hms0;have HM0 := Lh hms0;have HLT := Lh hlen;have HMS := Lh hms;have R2 := Lh hr2;have P1 := Lh hp1;have M2 := Lh (m2.perm p2);have C2 := Lh hc2;obtain ⟨f1, f2, f3⟩ := hof.at_;unfold qA at f1;clear he hie hr1 hc1 hof hp1 hr2 hlen hms hms0 q1 q2 q3 m1 m2 p2 hc2 hbl;go_wp2;go_roundw
     case rel => exact ⟨done ++ [f], S ++ T, P1.out, M2.out, R2.out, C2.out⟩
     case measure => rw [HMS.out, HM0.out]; exact HLT.out
end
end Go.Proofs.YthijgebmoadgkaaGreatDoor.Po
end
section
namespace Go.Proofs.YthijgebmoadgkaaGreatDoor.Po
open Go.ChangeShapes Go.WideShapes Go.ChangeAt Go.RowKit
theorem info_in : (Tryz.prog.info? 3).map (fun i => (i.zero, i.size, i.bytes)) = some (some (.int .i64 0), 1, 8) := by kernel_rfl
theorem one_cell (W : World) (T : TypeId) (x : Value) (j : Nat) {u : Value} (hu : [x][j]? = some u) : (W.alloc (.cells #[x] T)).cell? ((⟨W.heap.size, 0, none⟩ : Addr).add j) = some u := by
 have e : (⟨W.heap.size, 0, none⟩ : Addr).add j = ⟨W.heap.size, j, none⟩ := by unfold Addr.add; split <;> simp_all
 rw [e];have := (Own.made W T #[x]).at_.1 j;exact this.trans (by simpa using hu)
def ints (l : List Int) : List Value := l.map (.int .i64)
def dn (l : List Fr) : List Int := ((l.map (·.rf)).filter (·.dirty)).map (·.no)
theorem zN7 (l : List Fr) {f : Fr} (h : f.rf.dirty = true) : dn (l ++ [f]) = dn l ++ [f.rf.no] := by simp [dn, h]
theorem dn_no (l : List Fr) {f : Fr} (h : f.rf.dirty = false) : dn (l ++ [f]) = dn l := by simp [dn, h]
theorem zNu (l : List Fr) : (dn l).length <= l.length := by
 unfold dn;rw [List.length_map];exact Nat.le_trans (List.length_filter_le _ _) (by simp)
section
variable {w w' : World} {B p m n u c : Nat} {L S T : List Fr} {f : Fr} {R : List RF}
theorem nodup_inj : ∀ {l : List RF}, (l.map (·.no)).Nodup -> ∀ {x y : RF}, x ∈ l -> y ∈ l -> x.no = y.no -> x = y
 | a :: l, h, x, y, hx, hy, e => by
   rw [List.map_cons, List.nodup_cons] at h;rcases List.mem_cons.1 hx with h1 | h1
   · rcases List.mem_cons.1 hy with h2 | h2
     · rw [h1, h2]
     · have h3 : x.no ∈ l.map (·.no) := List.mem_map.2 ⟨y, h2, e.symm⟩;rw [h1] at h3;exact absurd h3 h.1
   · rcases List.mem_cons.1 hy with h2 | h2
     · have h3 : y.no ∈ l.map (·.no) := List.mem_map.2 ⟨x, h1, e⟩;rw [h2] at h3;exact absurd h3 h.1
     · exact nodup_inj h.2 h1 h2 e
theorem sort_any {base : Nat} {v : Value} {xs : List Int} (h : w.ownsRow base 3 1 v xs.length (ints xs)) (hx : xs.length <= 1000000) :
   Calls Tryz.prog 175 #[v] w fun e w' => e = .returned (.tuple #[]) /\ w'.ownsRow base 3 1 v xs.length (ints (sortI xs)) /\ Chg (fun q => v.ownBlock = some q) w w' := by
 rcases h.2 with ⟨rfl, h0⟩ | ⟨g, cap, cur, rfl, hg, hb, h1, h2, h3, h4⟩
 · have hx0 : xs = [] := List.eq_nil_of_length_eq_zero h0;subst hx0;refine (Tryz.slices_Sort_int_none _ _ _).mono ?_;rintro e w' ⟨rfl, rfl⟩;exact ⟨rfl, by simpa [sortI] using h, Chg.refl _ _⟩
 · have h4' : cur.toList.take xs.length = xs.map (Value.int .i64) := by rw [Nat.mul_one] at h4; exact h4
   refine (Tryz.slices_Sort_int g 0 cap xs w (holds_of_blockI hb h4') (Array.getElem?_eq_some_iff.1 hb).1 (by omega)).mono ?_;rintro e w' ⟨rfl, q, os, rfl⟩;refine ⟨rfl, ownsRow_sortedI (ts := sortI xs) (by unfold sortI; exact (List.mergeSort_perm _ _).length_eq) hg hb h1 h2 h3, (Chg.refl _ w).grown (grownBy_sortedI _) fun k hk => .inl (by cases hk; rfl)⟩
set_option maxRecDepth 10000 in
set_option maxHeartbeats 1000000 in
theorem dirty_any (h : PoolAt w B p n c R) : Calls Tryz.prog 174 #[.pointer (some ⟨p, 0, none⟩)] w fun e w' =>
   ∃ v, e = .returned v /\ w'.ownsRow w.heap.size 3 1 v (dirtyR R).length (ints (dirtyR R)) /\ Below w.heap.size w w' := by
 obtain ⟨m, u, L, hM, hO, hu, hL, hR, h1, h2⟩ := h;have hfew := zJd hL hR;have QD : Hid (∀ done : List Fr, done.Perm L -> dirtyR R = sortI (dn done)) := fun done hp => by
   unfold dirtyR;rw [<- hL];exact sortI_perm ((((hp.map (·.rf)).filter _).map _).symm)
 obtain ⟨o1, o2, o3⟩ := hM.own.at_;unfold vP at o1;have HM := Lh hM.map;have H := Lh hM;have FIN := Lh (fun q hq => hM.in_ (q := q) hq);obtain ⟨N, hN⟩ : ∃ N, N = L.length := ⟨_, rfl⟩
 have hN2 : N <= 65536 := by omega
 have LN := Lh hN;clear hM hO hL hR hu h1 h2 hfew hN;go_enter Tryz.func174, Tryz.ntmps174;go_wp2_with (first
   | (at_range; refine jT _ rfl _ _ rfl _ _ Tryz.underlying253 .i64 m _ rfl HM.out ?_; intro w0 hr0 hb0 hs0)
   | go_in)
 go_frame
 have R0 := Lh hr0;have B0 := Lh hb0;clear hr0 hb0;go_loopw [3] (fun x wr => ∃ (out : Value) (done rest : List Fr), out = x /\ (done ++ rest).Perm L /\ wr.ownsRow w.heap.size 3 1 out (dn done).length (ints (dn done)) /\ Rng wr w.heap.size m .i64 (L.map ent) (rest.map ent) /\ Below w.heap.size w wr)
   (fun _ wr => wr.rangeLeft m w.heap.size)
 case atStart => exact ⟨_, [], L, rfl, List.Perm.refl _, World.ownsRow_nil _ _ _ _, R0.out, B0.out⟩
 case round =>
   obtain ⟨out, done, rest, hxo, hp, hrow, hr, hc⟩ := hrel;subst hxo;have hdl : (dn done).length + rest.length <= N := by
     have h1 := zNu done;have h2 := hp.length_eq;rw [List.length_append, <- LN.out] at h2;omega
   have hop := H.out.own.keep hc;obtain ⟨q1, q2, q3⟩ := hop.at_;unfold vP at q1;have HR := Lh hr;have HC := Lh hc;have HP := Lh hp;have HW := Lh hrow;clear hr hc hp hop hrow o1 o2 o3;go_wp2_with (first
     | (at_next; refine qK _ rfl _ rfl .i64 m w.heap.size _ _ rfl HR.out ?_ ?_)
     | go_in)
   · intro he;obtain rfl : rest = [] := by cases rest with
       | nil => rfl
       | cons x r => cases he
     clear he;have HS := Lh (sort_any HW.out (by omega));have hp := HP.out;rw [List.append_nil] at hp;have HQ := Lh (QD.out done hp);clear hp;go_wp2_with (go_at_call 175; refine HS.out.mono ?_; rintro e w2 ⟨rfl, hw2, hc2⟩)
     go_ret;refine ⟨_, rfl, ?_, ?_⟩
     · rw [HQ.out];have e : (sortI (dn done)).length = (dn done).length := (List.mergeSort_perm _ _).length_eq;rw [e];exact hw2
     · exact ((Chg.of HC.out).trans hc2 fun q hq e => absurd (HW.out.lt q e).1 (by omega)).below (S := fun _ => False) (Nat.le_refl _) fun q e => e.elim
   · intro s i v t w1 he hr1 hc1 hs1 hen;obtain ⟨S, f, T, rfl, rfl, hie, rfl⟩ := split_map ent rest he;have h1 : i = f.rf.no := congrArg Prod.fst hie;have h2 : v = .pointer (some ⟨f.blk, 0, none⟩) := congrArg Prod.snd hie;subst h1 h2;have hfL : f ∈ L := HP.out.mem_iff.1 (by simp);have hfin := FIN.out f.blk (.inr (.inr (List.mem_map.2 ⟨f, hfL, rfl⟩)));have hml := FIN.out m (.inr (.inl rfl));have hpl := FIN.out p (.inl rfl);have hb1 : Below w.heap.size w w1 := ((Chg.of (S := (· = w.heap.size)) HC.out).same hc1).below (Nat.le_refl _) (fun q e => by omega);have hof : Own w1 f.blk 269 (qA f) := (H.out.fr f hfL).keep hb1;have hop : Own w1 p 255 (vP n m u) := H.out.own.keep hb1;have hw1 : w1.ownsRow w.heap.size 3 1 out (dn done).length (ints (dn done)) := ownsRow_keepB HW.out fun g hg => hc1.block g (HW.out.lt g hg).2 fun e => HR.out.ne_row HW.out hg e.symm
     have hp1 : ((done ++ [f]) ++ (S ++ T)).Perm L := by
       refine List.Perm.trans ?_ HP.out;rw [List.append_assoc];refine List.Perm.append_left done ?_;exact (List.perm_middle (a := f) (l₁ := S) (l₂ := T)).symm
     have hr2 : Rng w1 w.heap.size m .i64 (L.map ent) ((S ++ T).map ent) := by rw [List.map_append]; exact hr1
     have hlen : (S ++ T).length < (S ++ f :: T).length := by simp
     have hms := hr2.left;have hms0 := HR.out.left;rw [List.length_map] at hms hms0;have HM0 := Lh hms0;have HLT := Lh hlen;have HMS := Lh hms;have R2 := Lh hr2;have P1 := Lh hp1;have W1 := Lh hw1;have B1 := Lh hb1;obtain ⟨f1, f2, f3⟩ := hof.at_;unfold qA at f1;obtain ⟨df, hdf⟩ : ∃ df, df = f.rf.dirty := ⟨_, rfl⟩
     rw [<- hdf] at f1;have DF := Lh hdf;have hdl2 : (dn done).length + 1 <= N := by simp at hdl; omega
     clear he hie hr1 hc1 hof hop hb1 hp1 hr2 hlen hms hms0 q1 q2 q3 hw1 hdf HW HC hdl hs1;cases df with
     | false =>
       have e1 := dn_no done DF.out.symm;replace e1 := Lh e1;go_wp2;go_roundw
       case rel => exact ⟨_, done ++ [f], S ++ T, rfl, P1.out, by rw [e1.out]; exact W1.out, R2.out, B1.out⟩
       case measure => rw [HMS.out, HM0.out]; exact HLT.out
     | true =>
       have e1 := zN7 done DF.out.symm;replace e1 := Lh e1;obtain ⟨i0, hi0, hz0, hz1, hz2⟩ := info_parts info_in;have hw1 := W1.out;have hbs := B1.out.size;go_wp2_with (at_builtin; refine wpList_append_own_at _ rfl _ _ 33 rfl w.heap.size 3 i0 (.int .i64 0) 1 8 Tryz.underlying33 hi0 hz0 hz1 hz2 rfl (by decide) out (dn done).length (ints (dn done)) rfl (hw1.alloc _) ⟨w1.heap.size, 0, none⟩ 1 1 [.int .i64 f.rf.no] rfl rfl ?c1 ?c2 (by unfold maxLen; omega) (by omega) (by simp; omega) ?_)
       case c1 => intro j u hu; exact one_cell _ _ _ _ hu
       case c2 => intro u hu; simp at hu; subst hu; rfl
       intro v' w5 hown hgrow hnil hloc;have hg5 : Chg (fun q => out.ownBlock = some q) w1 w5 := ((Chg.refl _ w1).alloc _).grown hgrow fun q e => .inl e
       have hb5 : Below w.heap.size w w5 := ((Chg.of (S := fun q => w.heap.size <= q) B1.out).same (hg5.mono fun q _ e => (hw1.lt q e).1)).below (Nat.le_refl _) fun q e => e
       have hr5 : Rng w5 w.heap.size m .i64 (L.map ent) ((S ++ T).map ent) := R2.out.keep (hg5.block m (by omega) fun e => by have := (hw1.lt m e).1; omega) (hg5.block w.heap.size R2.out.in_ fun e => R2.out.ne_row hw1 e rfl);have ho5 : w5.ownsRow w.heap.size 3 1 v' (dn (done ++ [f])).length (ints (dn (done ++ [f]))) := by
         rw [e1.out];unfold ints at hown ⊢;rw [List.map_append, List.length_append];exact hown
       have hm5 := hr5.left;rw [List.length_map] at hm5;have M5 := Lh hm5;have B5 := Lh hb5;have R5 := Lh hr5;have O5 := Lh ho5;clear hown hgrow hnil hloc hg5 hb5 hr5 ho5 hm5 hw1;go_wp2;go_roundw
       case rel => exact ⟨_, done ++ [f], S ++ T, rfl, P1.out, O5.out, R5.out, B5.out⟩
       case measure => rw [M5.out, HM0.out]; exact HLT.out
def jL (ds : List Int) (l : List Fr) : List Fr := l.filter fun f => !ds.contains f.rf.no
theorem zCt (ds : List Int) (i : Int) (l : List Fr) : (jL ds l).filter (fun f => f.rf.no != i) = jL (ds ++ [i]) l := by
 unfold jL;rw [List.filter_filter];refine List.filter_congr fun x _ => ?_
 rw [List.contains_append];by_cases hxi : x.rf.no = i
 · cases ds.contains x.rf.no <;> simp [hxi, bne]
 · have h1 : (x.rf.no == i) = false := by simpa using hxi
   have h2 : [i].contains x.rf.no = false := by simp; exact hxi
   rw [h2];cases ds.contains x.rf.no <;> simp [h1, bne]
theorem zB6 (hR : ((L.map (·.rf)).map (·.no)).Nodup) : jL (dirtyR (L.map (·.rf))) L = L.filter fun f => !f.rf.dirty := by
 unfold jL;refine List.filter_congr fun x hx => ?_
 congr 1
 have hm : ∀ i, i ∈ dirtyR (L.map (·.rf)) ↔ i ∈ ((L.map (·.rf)).filter (·.dirty)).map (·.no) := fun i => by
   unfold dirtyR sortI;exact (List.mergeSort_perm _ _).mem_iff
 cases hd : x.rf.dirty with
 | true =>
   rw [List.contains_iff_mem, hm];exact List.mem_map.2 ⟨x.rf, List.mem_filter.2 ⟨List.mem_map.2 ⟨x, hx, rfl⟩, hd⟩, rfl⟩
 | false =>
   rw [<- Bool.not_eq_true, List.contains_iff_mem, hm];intro h;obtain ⟨y, hy, hyn⟩ := List.mem_map.1 h;obtain ⟨hy1, hy2⟩ := List.mem_filter.1 hy;have := nodup_inj hR hy1 (List.mem_map.2 ⟨x, hx, rfl⟩) hyn;rw [this, hd] at hy2;cases hy2
set_option maxRecDepth 10000 in
set_option maxHeartbeats 1000000 in
theorem drop_any (h : PoolAt w B p n c R) : Calls Tryz.prog 94 #[.pointer (some ⟨p, 0, none⟩)] w fun e w' => e = .returned (.tuple #[]) /\ PoolAt w' B p n c (dropR R) /\ Chg (PT w B) w w' := by
 have HD := Lh (dirty_any h);obtain ⟨m, u, L, hM, hO, hu, hL, hR, h1, h2⟩ := h;have QP : Hid (∀ W, Mem W B p m n u (jL (dirtyR R) L) -> PoolAt W B p n c (dropR R)) := fun W hW => by
   rw [<- hL] at hR hW ⊢;rw [zB6 hR.nos] at hW;refine ⟨m, u, _, hW, ⟨List.Pairwise.sublist List.filter_sublist hO.rise, fun x hx => hO.last x (List.mem_filter.1 hx).1⟩, hu, ?_, zJv hR, h1, h2⟩;unfold dropR;rw [List.filter_map];rfl
 obtain ⟨ds, hds⟩ : ∃ ds, ds = dirtyR R := ⟨_, rfl⟩
 rw [<- hds] at HD QP;have H := Lh hM;have FIN := Lh (fun q hq => hM.in_ (q := q) hq);have hml := hM.map.in_;have hpl := hM.own.in_;have hdl : ds.length <= 65536 := by
   have e : ds.length = ((R.filter (·.dirty)).map (·.no)).length := by rw [hds]; exact (List.mergeSort_perm _ _).length_eq
   have := hR.few;rw [e, List.length_map];exact Nat.le_trans (List.length_filter_le _ _) (by omega)
 obtain ⟨dl, hdl2⟩ : ∃ dl, dl = ds.length := ⟨_, rfl⟩
 have DL := Lh hdl2;rw [<- hdl2] at HD hdl;clear hM hO hL hR hu h1 h2 hds hdl2;go_enter Tryz.func94, Tryz.ntmps94;go_wp2_with fail;refine HD.out.mono ?_;rintro e w1 ⟨v, rfl, hrow, hb1⟩;have M1 := Lh (H.out.below hb1);have hne := M1.out.ne_map;have hz1 := hb1.size;have B1 := Lh hb1;obtain ⟨va, vc, rfl, hvc, hvm⟩ : ∃ va vc, v = .slice va dl vc /\ dl <= vc /\ vc <= maxLen := by
   rcases hrow.2 with ⟨rfl, h0⟩ | ⟨g, cap, cur, rfl, _, _, h1, h2, _⟩
   · exact ⟨none, 0, by rw [h0], by omega, by unfold maxLen; omega⟩
   · exact ⟨_, _, rfl, h1, h2⟩
 have HW := Lh hrow;clear hrow hb1;go_wp2_with fail;go_loopw [7] (fun i wr => ∃ k : Nat, k <= dl /\ i = .int .i64 k /\ Mem wr B p m n u (jL (ds.take k) L) /\ Chg (· = m) w1 wr) (fun i wr => dl - (intOf i).toNat)
 case atStart => exact ⟨0, by omega, rfl, by
   have e : jL (ds.take 0) L = L := by unfold jL; simp
   rw [e]; exact M1.out, Chg.refl _ _⟩
 case round =>
   obtain ⟨k, hk, rfl, hm, hc⟩ := hrel;obtain ⟨q1, q2, q3⟩ := hm.own.at_;unfold vP at q1;have MK := Lh hm;have CK := Lh hc;clear hm hc;by_cases hlt : k < dl
   · obtain ⟨g, hg, hgw, hcell⟩ : ∃ g, va = some ⟨g, 0, none⟩ /\ w.heap.size <= g /\ w1.cell? ⟨g, k, none⟩ = some (.int .i64 (ds.getD k 0)) := by
       rcases HW.out.2 with ⟨h0, h1⟩ | ⟨g, cap, cur, h0, hg, hb, h1, h2, h3, h4⟩
       · omega
       · refine ⟨g, (Value.slice.inj h0).1, hg, ?_⟩;have h5 : (cur.toList.take (dl * 1))[k]? = (ints ds)[k]? := by rw [h4]
         rw [Nat.mul_one, List.getElem?_take_of_lt hlt] at h5;have hkd : k < ds.length := by rw [<- DL.out]; exact hlt
         simp only [World.cell?, hb, Option.isSome_none, Bool.false_eq_true, if_false];rw [<- Array.getElem?_toList, h5];simp [ints, hkd]
     subst hg;have hcell2 := CK.out.cell hcell (by omega);obtain ⟨x, hx⟩ : ∃ x, x = ds.getD k 0 := ⟨_, rfl⟩
     rw [<- hx] at hcell2;have hst : (jL (ds.take k) L).filter (fun f => f.rf.no != x) = jL (ds.take (k + 1)) L := by
       have hkd : k < ds.length := by rw [<- DL.out]; exact hlt
       rw [zCt, List.take_succ_eq_append_getElem hkd, hx];simp [List.getD, hkd]
     have ST := Lh hst;have hm2 := MK.out.map;clear hcell hx hst;go_wp2_with (first | (at_delete; refine Ja _ rfl _ _ _ _ rfl _ Tryz.underlying253 .i64 Tryz.underlying3 m _ _ rfl rfl hm2 ?_; intro w2 hmm2 hc2 hs2) | go_in)
     rw [Ym, ST.out] at hmm2;have hM2 : Mem w2 B p m n u (jL (ds.take (k + 1)) L) := MK.out.sub hc2 hmm2 (by rw [<- ST.out]; exact List.filter_sublist);have M2 := Lh hM2;have C2 := Lh (CK.out.same hc2);clear hmm2 hc2 hs2 hM2 hm2;go_wp2;go_roundw
     case rel => exact ⟨k + 1, by omega, by go_num, M2.out, C2.out⟩
     case measure => simp [intOf]; omega
   · have hkd : k = ds.length := by have := DL.out; omega
     have hfin := MK.out;rw [hkd, List.take_length] at hfin;have HF := Lh hfin;clear hkd hfin;go_wp2;go_end0
     refine ⟨rfl, QP.out _ HF.out, ?_⟩;exact H.out.chg (((Chg.of B1.out).trans CK.out fun q hq e => .inr (.inl e)))
end
end Go.Proofs.YthijgebmoadgkaaGreatDoor.Po
end
