
/- The contracts of a pool's Get, Put, Set, Pin, Unpin and Len, over what it holds alone. Conditions: those that each theorem names. -/
import Derived.Test.YtjncmaaofminkaaPooD
namespace Go.Proofs.Ytjncmaaofminkaa
open Go.ChangeShapes Go.WideShapes Go.ChangeAt Go.RowKit
set_option linter.unusedVariables false
set_option linter.unusedSimpArgs false

/-- the pool at block p holds R -/
def PoolAt (w : World) (B p n c : Nat) (R : List RF) : Prop := ∃ m u L, Mem w B p m n u L ∧ Ord u L ∧ u ≤ c ∧ L.map (·.rf) = R ∧ OkR R n c ∧ 1 ≤ n ∧ n ≤ 65536
/-- a pool's blocks, by what lies in them -/
def PT (w : World) (B q : Nat) : Prop := B ≤ q ∧ ((∃ es ck, w.heap[q]? = some (.map es ck)) ∨ (∃ cs, Own w q 49 cs) ∨ ∃ cs, Own w q 55 cs)
section
variable {w w' : World} {B p m n u c : Nat} {L S T : List Fr} {f : Fr} {R : List RF}
theorem Mem.pt (h : Mem w B p m n u L) {q : Nat} (hq : fpool p m L q) : PT w B q := by
  refine ⟨h.base q hq, ?_⟩
  rcases hq with rfl | rfl | hq
  · exact .inr (.inl ⟨_, h.own⟩)
  · obtain ⟨es, ck, hb, _⟩ := h.map
    exact .inl ⟨es, ck, hb⟩
  · obtain ⟨f, hf, rfl⟩ := List.mem_map.1 hq
    exact .inr (.inr ⟨_, h.fr f hf⟩)
theorem Mem.chg (h : Mem w B p m n u L) (hc : Chg (fpool p m L) w w') : Chg (PT w B) w w' := hc.mono fun q _ hq => h.pt hq
theorem Mem.chg2 (h : Mem w B p m n u (S ++ f :: T)) (hc : Chg (fun q => q = p ∨ q = f.blk) w w') : Chg (PT w B) w w' := hc.mono fun q _ hq => h.pt (by
  rcases hq with rfl | rfl
  · exact .inl rfl
  · exact .inr (.inr (by simp)))
theorem PoolAt.keep (h : PoolAt w B p n c R) {Z : Nat → Prop} (hc : Chg Z w w') (hZ : ∀ q, PT w B q → ¬ Z q) : PoolAt w' B p n c R := by
  obtain ⟨m, u, L, h1, h2⟩ := h
  exact ⟨m, u, L, h1.keep hc fun q hq => hZ q (h1.pt hq), h2⟩
theorem PoolAt.below (h : PoolAt w B p n c R) (hb : Below w.heap.size w w') : PoolAt w' B p n c R := h.keep (Chg.of (S := fun _ => False) hb) fun _ _ => id
theorem PoolAt.more (h : PoolAt w B p n c R) {d : Nat} (hd : c ≤ d) : PoolAt w B p n d R := by
  obtain ⟨m, u, L, h1, h2, h3, h4, h5, h6⟩ := h
  exact ⟨m, u, L, h1, h2, by omega, h4, h5.more d hd, h6⟩
theorem PoolAt.base (h : PoolAt w B p n c R) : B ≤ w.heap.size := by
  obtain ⟨m, u, L, h1, _⟩ := h
  exact h1.below_base
theorem PoolAt.ok (h : PoolAt w B p n c R) : OkR R n c := by
  obtain ⟨m, u, L, h1, h2, h3, h4, h5, h6⟩ := h
  exact h5
/-- where a frame stands -/
theorem at_look {no : Int} {x : RF} (hL : L.map (·.rf) = R) (h : look R no = some x) : ∃ S f T, L = S ++ f :: T ∧ f.rf = x ∧ x.no = no := by
  obtain ⟨h1, S', T', h2⟩ := look_some h
  rw [← hL] at h2
  obtain ⟨S, f, T, h3, -, h4, -⟩ := split_map (·.rf) L h2
  exact ⟨S, f, T, h3, h4.symm, h1⟩
theorem perm_end' {S T : List Fr} {f : Fr} : (S ++ f :: T).Perm (S ++ T ++ [f]) := by
  rw [List.append_assoc]
  refine List.Perm.append_left S ?_
  exact (List.perm_append_singleton f T).symm
theorem del_mid {S T : List Fr} {f : Fr} (h : (((S ++ f :: T).map (·.rf)).map (·.no)).Nodup) : del ((S ++ f :: T).map (·.rf)) f.rf.no = (S ++ T).map (·.rf) := by
  rw [List.map_append, List.map_cons] at h ⊢
  rw [del_at h, List.map_append]
theorem upd_mid {S T : List Fr} {f g : Fr} (h : (((S ++ f :: T).map (·.rf)).map (·.no)).Nodup) (q : RF → RF) (hg : g.rf = q f.rf) : upd ((S ++ f :: T).map (·.rf)) f.rf.no q = (S ++ g :: T).map (·.rf) := by
  rw [List.map_append, List.map_cons] at h ⊢
  rw [upd_at h, List.map_append, List.map_cons, hg]
theorem Ord.mid {u : Nat} {S T : List Fr} {f g : Fr} (hO : Ord u (S ++ f :: T)) (hg : g.used = f.used) : Ord u (S ++ g :: T) := by
  refine ⟨?_, fun x hx => ?_⟩
  · have := hO.rise
    rw [List.pairwise_append, List.pairwise_cons] at this ⊢
    rw [hg]
    exact ⟨this.1, ⟨this.2.1.1, this.2.1.2⟩, fun x hx y hy => by
      rcases List.mem_cons.1 hy with rfl | hy
      · rw [hg]; exact this.2.2 x hx f (by simp)
      · exact this.2.2 x hx y (by simp [hy])⟩
  · rcases List.mem_append.1 hx with hx | hx
    · exact hO.last x (by simp [hx])
    · rcases List.mem_cons.1 hx with rfl | hx
      · rw [hg]; exact hO.last f (by simp)
      · exact hO.last x (by simp [hx])
theorem sub_mid {S T : List Fr} {f : Fr} : (S ++ T).Sublist (S ++ f :: T) := (List.Sublist.refl S).append (List.sublist_cons_self f T)
set_option maxRecDepth 10000 in
theorem get_any (h : PoolAt w B p n c R) (no : Int) (hc : c < 1000000) : Calls Try.prog 11 #[.pointer (some ⟨p, 0, none⟩), .int .i64 no] w fun e w' =>
    e = .returned (.tuple #[.string (getR R no).1.1, .bool (getR R no).1.2]) ∧ PoolAt w' B p n (c + 1) (getR R no).2 ∧ Chg (PT w B) w w' := by
  have H0 := Lib.hid (h.more (Nat.le_succ c))
  obtain ⟨m, u, L, hM, hO, hu, hL, hR, h1, h2⟩ := h
  cases hl : look R no with
  | none =>
    have E := Lib.hid (show getR R no = ((⟨#[]⟩, false), R) by unfold getR; rw [hl])
    have HF := Lib.hid (find_none hM (no := no) (by rw [hL]; exact look_none hl))
    clear hM hO hL hR hl hu
    go_enter Try.func11, Try.ntmps11
    go_wp2_with (go_at_call 25; refine HF.out.mono ?_; rintro e w' ⟨rfl, rfl⟩)
    go_ret2
    rw [E.out]
    exact ⟨rfl, H0.out, Chg.refl _ _⟩
  | some x =>
    obtain ⟨S, f, T, rfl, rfl, rfl⟩ := at_look hL hl
    have E := Lib.hid (show getR R f.rf.no = ((f.rf.s, true), del R f.rf.no ++ [f.rf]) by unfold getR; rw [hl])
    have HF := Lib.hid (find_some hM)
    have HU := Lib.hid (use_any hM (by omega))
    have hsz : f.rf.s.size ≤ 281474976710656 := hR.size f.rf (by rw [← hL]; simp)
    have Q : Hid (∀ W, Mem W B p m n (u + 1) (S ++ used f (u + 1) :: T) → PoolAt W B p n (c + 1) (del R f.rf.no ++ [f.rf])) := by
      intro W hW
      refine ⟨m, u + 1, S ++ T ++ [used f (u + 1)], hW.perm perm_end', hO.push sub_mid rfl, by omega, ?_, ?_, h1, h2⟩
      · rw [← hL] at hR ⊢
        rw [del_mid hR.nos, List.map_append]
        rfl
      · have := (getR_ok hR f.rf.no).more (c + 1) (by omega)
        rw [E.out] at this
        exact this
    have HM := Lib.hid hM
    have SZ := Lib.hid hsz
    clear hM hO hL hR hl hu hsz
    go_enter Try.func11, Try.ntmps11
    go_upto_region 5 with (first | (go_at_call 25; refine HF.out.mono ?_; rintro e w' ⟨rfl, rfl⟩) | (go_at_call 28; refine HU.out.mono ?_; rintro e w1 ⟨rfl, hm1, hc1⟩; have M1 := Lib.hid hm1; have C1 := Lib.hid hc1; clear hm1 hc1; obtain ⟨p1, p2, p3⟩ := (M1.out.fr (used f (u + 1)) (by simp)).at_; unfold fcell used at p1; simp only at p1; unfold used at p2 p3; simp only at p2 p3))
    go_wp2_with (go_at_call 29; refine (clone_any _ _ SZ.out).mono ?_; rintro e w2 ⟨rfl, hb2⟩)
    go_ret2
    rw [E.out]
    exact ⟨rfl, (Q.out _ M1.out).below hb2, (HM.out.chg2 C1.out).call hb2⟩
/-- what stands behind an add -/
theorem added (hO : Ord u L) (hu : u ≤ c) (hL : L.map (·.rf) = R) (hR : OkR R n c) (h1 : 1 ≤ n) (h2 : n ≤ 65536) {no : Int} (hno : no ∉ R.map (·.no)) {s : ByteArray} (hs : s.size ≤ 281474976710656) {d : Bool} {L' : List Fr} (hE : roomL L n = some L') {W : World} {b : Nat}
    (hW : Mem W B p m n (u + 1) (L' ++ [⟨⟨no, s, d, 0⟩, u + 1, b⟩])) : (addR R n no s d).1 = 0 ∧ PoolAt W B p n (c + 1) (addR R n no s d).2 := by
  have h := roomL_R L n
  rw [hE, hL] at h
  have e : addR R n no s d = (0, L'.map (·.rf) ++ [⟨no, s, d, 0⟩]) := by
    unfold addR
    rw [← h]
    rfl
  have hk := (addR_ok (s := s) (d := d) hR hno hs).more (c + 1) (by omega)
  rw [e] at hk ⊢
  exact ⟨rfl, m, u + 1, _, hW, hO.push (roomL_sub hE) rfl, by omega, by rw [List.map_append]; rfl, hk, h1, h2⟩
theorem not_added (hL : L.map (·.rf) = R) {no : Int} {s : ByteArray} {d : Bool} (hE : roomL L n = none) : addR R n no s d = (8, R) := by
  have h := roomL_R L n
  rw [hE, hL] at h
  unfold addR
  rw [← h]
  rfl
theorem few_L (hL : L.map (·.rf) = R) (hR : OkR R n c) : L.length ≤ n := by
  have := hR.few
  rw [← hL, List.length_map] at this
  exact this
set_option maxRecDepth 10000 in
theorem put_any (h : PoolAt w B p n c R) (no : Int) (s : ByteArray) (hs : s.size ≤ 281474976710656) (hc : c < 1000000) : Calls Try.prog 12 #[.pointer (some ⟨p, 0, none⟩), .int .i64 no, .string s] w fun e w' =>
    e = .returned (.int .i64 (putR R n no s).1) ∧ PoolAt w' B p n (c + 1) (putR R n no s).2 ∧ Chg (PT w B) w w' := by
  have H0 := Lib.hid (h.more (Nat.le_succ c))
  obtain ⟨m, u, L, hM, hO, hu, hL, hR, h1, h2⟩ := h
  cases hl : look R no with
  | some x =>
    have E := Lib.hid (show putR R n no s = (7, R) by unfold putR; rw [hl])
    obtain ⟨S, f, T, rfl, rfl, rfl⟩ := at_look hL hl
    have HF := Lib.hid (find_some hM)
    clear hM hO hL hR hl hu
    go_enter Try.func12, Try.ntmps12
    go_wp2_with (go_at_call 25; refine HF.out.mono ?_; rintro e w' ⟨rfl, rfl⟩)
    go_ret
    rw [E.out]
    exact ⟨rfl, H0.out, Chg.refl _ _⟩
  | none =>
    have E := Lib.hid (show putR R n no s = addR R n no s false by unfold putR; rw [hl])
    have hno := look_none hl
    have HF := Lib.hid (find_none hM (no := no) (by rw [hL]; exact hno))
    have hfew := few_L hL hR
    cases hE : roomL L n with
    | none =>
      have HA := Lib.hid (add_full hM hO (by omega) h2 hfew no s false hE)
      have E2 := Lib.hid (not_added (no := no) (s := s) (d := false) hL hE)
      have QP : Hid (∀ W, Mem W B p m n u L → PoolAt W B p n (c + 1) R) := fun W hW => ⟨m, u, L, hW, hO, by omega, hL, hR.more _ (by omega), h1, h2⟩
      have HM := Lib.hid hM
      clear hM hO hL hR hl hu hno hE hfew
      go_enter Try.func12, Try.ntmps12
      go_wp2_with (first | (go_at_call 25; refine HF.out.mono ?_; rintro e w' ⟨rfl, rfl⟩) | (go_at_call 26; refine HA.out.mono ?_; rintro e w1 ⟨rfl, hm1, hc1⟩))
      go_ret
      rw [E.out, E2.out]
      exact ⟨rfl, QP.out _ hm1, HM.out.chg hc1⟩
    | some L' =>
      have HA := Lib.hid (add_room hM hO (by omega) h2 hfew no (by rw [hL]; exact hno) s hs false hE)
      have QP : Hid (∀ W b, Mem W B p m n (u + 1) (L' ++ [⟨⟨no, s, false, 0⟩, u + 1, b⟩]) → (addR R n no s false).1 = 0 ∧ PoolAt W B p n (c + 1) (addR R n no s false).2) := fun W b hW => added hO hu hL hR h1 h2 hno hs hE hW
      have HM := Lib.hid hM
      clear hM hO hL hR hl hu hno hE hfew
      go_enter Try.func12, Try.ntmps12
      go_wp2_with (first | (go_at_call 25; refine HF.out.mono ?_; rintro e w' ⟨rfl, rfl⟩) | (go_at_call 26; refine HA.out.mono ?_; rintro e w1 ⟨rfl, ⟨b, hm1⟩, hc1⟩))
      go_ret
      obtain ⟨q1, q2⟩ := QP.out _ _ hm1
      rw [E.out]
      exact ⟨ret_eq q1.symm, q2, HM.out.chg hc1⟩
set_option maxRecDepth 10000 in
theorem set_any (h : PoolAt w B p n c R) (no : Int) (s : ByteArray) (hs : s.size ≤ 281474976710656) (hc : c < 1000000) : Calls Try.prog 8 #[.pointer (some ⟨p, 0, none⟩), .int .i64 no, .string s] w fun e w' =>
    e = .returned (.int .i64 (setR R n no s).1) ∧ PoolAt w' B p n (c + 1) (setR R n no s).2 ∧ Chg (PT w B) w w' := by
  obtain ⟨m, u, L, hM, hO, hu, hL, hR, h1, h2⟩ := h
  cases hl : look R no with
  | some x =>
    obtain ⟨S, f, T, rfl, rfl, rfl⟩ := at_look hL hl
    have E := Lib.hid (show setR R n f.rf.no s = (0, del R f.rf.no ++ [⟨f.rf.no, s, true, f.rf.pins⟩]) by unfold setR; rw [hl])
    have HF := Lib.hid (find_some hM)
    have HU := Lib.hid (fill_any hM (by omega) s hs true)
    have Q : Hid (∀ W, Mem W B p m n (u + 1) (S ++ filled f s true (u + 1) :: T) → PoolAt W B p n (c + 1) (del R f.rf.no ++ [⟨f.rf.no, s, true, f.rf.pins⟩])) := by
      intro W hW
      refine ⟨m, u + 1, S ++ T ++ [filled f s true (u + 1)], hW.perm perm_end', hO.push sub_mid rfl, by omega, ?_, ?_, h1, h2⟩
      · rw [← hL] at hR ⊢
        rw [del_mid hR.nos, List.map_append]
        rfl
      · have := (setR_ok hR f.rf.no hs).more (c + 1) (by omega)
        rw [E.out] at this
        exact this
    have HM := Lib.hid hM
    clear hM hO hL hR hl hu
    go_enter Try.func8, Try.ntmps8
    go_wp2_with (first | (go_at_call 25; refine HF.out.mono ?_; rintro e w' ⟨rfl, rfl⟩) | (go_at_call 27; refine HU.out.mono ?_; rintro e w1 ⟨rfl, hm1, hc1⟩))
    go_ret
    rw [E.out]
    exact ⟨rfl, Q.out _ hm1, HM.out.chg2 hc1⟩
  | none =>
    have E := Lib.hid (show setR R n no s = addR R n no s true by unfold setR; rw [hl])
    have hno := look_none hl
    have HF := Lib.hid (find_none hM (no := no) (by rw [hL]; exact hno))
    have hfew := few_L hL hR
    cases hE : roomL L n with
    | none =>
      have HA := Lib.hid (add_full hM hO (by omega) h2 hfew no s true hE)
      have E2 := Lib.hid (not_added (no := no) (s := s) (d := true) hL hE)
      have QP : Hid (∀ W, Mem W B p m n u L → PoolAt W B p n (c + 1) R) := fun W hW => ⟨m, u, L, hW, hO, by omega, hL, hR.more _ (by omega), h1, h2⟩
      have HM := Lib.hid hM
      clear hM hO hL hR hl hu hno hE hfew
      go_enter Try.func8, Try.ntmps8
      go_wp2_with (first | (go_at_call 25; refine HF.out.mono ?_; rintro e w' ⟨rfl, rfl⟩) | (go_at_call 26; refine HA.out.mono ?_; rintro e w1 ⟨rfl, hm1, hc1⟩))
      go_ret
      rw [E.out, E2.out]
      exact ⟨rfl, QP.out _ hm1, HM.out.chg hc1⟩
    | some L' =>
      have HA := Lib.hid (add_room hM hO (by omega) h2 hfew no (by rw [hL]; exact hno) s hs true hE)
      have QP : Hid (∀ W b, Mem W B p m n (u + 1) (L' ++ [⟨⟨no, s, true, 0⟩, u + 1, b⟩]) → (addR R n no s true).1 = 0 ∧ PoolAt W B p n (c + 1) (addR R n no s true).2) := fun W b hW => added hO hu hL hR h1 h2 hno hs hE hW
      have HM := Lib.hid hM
      clear hM hO hL hR hl hu hno hE hfew
      go_enter Try.func8, Try.ntmps8
      go_wp2_with (first | (go_at_call 25; refine HF.out.mono ?_; rintro e w' ⟨rfl, rfl⟩) | (go_at_call 26; refine HA.out.mono ?_; rintro e w1 ⟨rfl, ⟨b, hm1⟩, hc1⟩))
      go_ret
      obtain ⟨q1, q2⟩ := QP.out _ _ hm1
      rw [E.out]
      exact ⟨ret_eq q1.symm, q2, HM.out.chg hc1⟩
set_option maxRecDepth 10000 in
theorem pin_any (h : PoolAt w B p n c R) (no : Int) (hc : c < 1000000) : Calls Try.prog 9 #[.pointer (some ⟨p, 0, none⟩), .int .i64 no] w fun e w' =>
    e = .returned (.bool (pinR R no).1) ∧ PoolAt w' B p n (c + 1) (pinR R no).2 ∧ Chg (PT w B) w w' := by
  have H0 := Lib.hid (h.more (Nat.le_succ c))
  obtain ⟨m, u, L, hM, hO, hu, hL, hR, h1, h2⟩ := h
  cases hl : look R no with
  | none =>
    have E := Lib.hid (show pinR R no = (false, R) by unfold pinR; rw [hl])
    have HF := Lib.hid (find_none hM (no := no) (by rw [hL]; exact look_none hl))
    clear hM hO hL hR hl hu
    go_enter Try.func9, Try.ntmps9
    go_wp2_with (go_at_call 25; refine HF.out.mono ?_; rintro e w' ⟨rfl, rfl⟩)
    go_ret
    rw [E.out]
    exact ⟨rfl, H0.out, Chg.refl _ _⟩
  | some x =>
    obtain ⟨S, f, T, rfl, rfl, rfl⟩ := at_look hL hl
    have hf : f ∈ S ++ f :: T := by simp
    have hpn : f.rf.pins ≤ c := hR.pins f.rf (by rw [← hL]; exact List.mem_map.2 ⟨f, hf, rfl⟩)
    have E := Lib.hid (show pinR R f.rf.no = (true, upd R f.rf.no up) by unfold pinR; rw [hl])
    have HF := Lib.hid (find_some hM)
    have M1 : Mem (w.setCell ⟨f.blk, 2, none⟩ (.int .i64 ((f.rf.pins : Int) + 1))) B p m n u (S ++ ⟨up f.rf, f.used, f.blk⟩ :: T) := hM.turn (chg_at w f.blk 2 _) (Own.put (hM.fr f hf) 2 _) rfl rfl
    have C1 : Chg (PT w B) w (w.setCell ⟨f.blk, 2, none⟩ (.int .i64 ((f.rf.pins : Int) + 1))) := hM.chg2 ((chg_at w f.blk 2 _).mono fun q _ e => .inr e)
    have P1 : PoolAt (w.setCell ⟨f.blk, 2, none⟩ (.int .i64 ((f.rf.pins : Int) + 1))) B p n (c + 1) (upd R f.rf.no up) := by
      refine ⟨m, u, _, M1, hO.mid rfl, by omega, ?_, ?_, h1, h2⟩
      · rw [← hL] at hR ⊢
        rw [upd_mid (g := ⟨up f.rf, f.used, f.blk⟩) hR.nos up rfl]
      · have := pinR_ok hR f.rf.no
        rw [E.out] at this
        exact this
    replace P1 := Lib.hid P1
    replace C1 := Lib.hid C1
    obtain ⟨o1, o2, o3⟩ := (hM.fr f hf).at_
    unfold fcell at o1
    clear hM hO hL hR hl hu M1 hf
    go_enter Try.func9, Try.ntmps9
    go_wp2_with (go_at_call 25; refine HF.out.mono ?_; rintro e w' ⟨rfl, rfl⟩)
    go_ret
    rw [E.out]
    exact ⟨rfl, P1.out, C1.out⟩
set_option maxRecDepth 10000 in
theorem unpin_any (h : PoolAt w B p n c R) (no : Int) (hc : c < 1000000) : Calls Try.prog 13 #[.pointer (some ⟨p, 0, none⟩), .int .i64 no] w fun e w' =>
    e = .returned (.bool (unpinR R no).1) ∧ PoolAt w' B p n (c + 1) (unpinR R no).2 ∧ Chg (PT w B) w w' := by
  have H0 := Lib.hid (h.more (Nat.le_succ c))
  obtain ⟨m, u, L, hM, hO, hu, hL, hR, h1, h2⟩ := h
  cases hl : look R no with
  | none =>
    have E := Lib.hid (show unpinR R no = (false, R) by unfold unpinR; rw [hl])
    have HF := Lib.hid (find_none hM (no := no) (by rw [hL]; exact look_none hl))
    clear hM hO hL hR hl hu
    go_enter Try.func13, Try.ntmps13
    go_wp2_with (go_at_call 25; refine HF.out.mono ?_; rintro e w' ⟨rfl, rfl⟩)
    go_ret
    rw [E.out]
    exact ⟨rfl, H0.out, Chg.refl _ _⟩
  | some x =>
    obtain ⟨S, f, T, rfl, rfl, rfl⟩ := at_look hL hl
    have hf : f ∈ S ++ f :: T := by simp
    have hpn : f.rf.pins ≤ c := hR.pins f.rf (by rw [← hL]; exact List.mem_map.2 ⟨f, hf, rfl⟩)
    have HF := Lib.hid (find_some hM)
    obtain ⟨pn, hpe⟩ : ∃ pn, pn = f.rf.pins := ⟨_, rfl⟩
    obtain ⟨o1, o2, o3⟩ := (hM.fr f hf).at_
    unfold fcell at o1
    rw [← hpe] at o1 hpn
    by_cases h0 : pn = 0
    · have E := Lib.hid (show unpinR R f.rf.no = (false, R) by unfold unpinR; rw [hl]; simp [← hpe, h0])
      have t0 : ((pn : Int) == 0) = true := by simp; omega
      clear hM hO hL hR hl hu hf hpe h0
      go_enter Try.func13, Try.ntmps13
      go_wp2_with (go_at_call 25; refine HF.out.mono ?_; rintro e w' ⟨rfl, rfl⟩)
      go_ret
      rw [E.out]
      exact ⟨rfl, H0.out, Chg.refl _ _⟩
    · have E := Lib.hid (show unpinR R f.rf.no = (true, upd R f.rf.no down) by unfold unpinR; rw [hl]; simp [← hpe, h0])
      have e1 : (Value.int .i64 ((pn : Int) - 1)) = .int .i64 ((f.rf.pins - 1 : Nat) : Int) := by rw [← hpe]; congr 1; omega
      have M1 : Mem (w.setCell ⟨f.blk, 2, none⟩ (.int .i64 ((pn : Int) - 1))) B p m n u (S ++ ⟨down f.rf, f.used, f.blk⟩ :: T) := by
        rw [e1]
        exact hM.turn (chg_at w f.blk 2 _) (Own.put (hM.fr f hf) 2 _) rfl rfl
      have C1 : Chg (PT w B) w (w.setCell ⟨f.blk, 2, none⟩ (.int .i64 ((pn : Int) - 1))) := hM.chg2 ((chg_at w f.blk 2 _).mono fun q _ e => .inr e)
      have P1 : PoolAt (w.setCell ⟨f.blk, 2, none⟩ (.int .i64 ((pn : Int) - 1))) B p n (c + 1) (upd R f.rf.no down) := by
        refine ⟨m, u, _, M1, hO.mid rfl, by omega, ?_, ?_, h1, h2⟩
        · rw [← hL] at hR ⊢
          rw [upd_mid (g := ⟨down f.rf, f.used, f.blk⟩) hR.nos down rfl]
        · have := (unpinR_ok hR f.rf.no).more (c + 1) (by omega)
          rw [E.out] at this
          exact this
      replace P1 := Lib.hid P1
      replace C1 := Lib.hid C1
      have t0 : ((pn : Int) == 0) = false := by simp; omega
      have hpos : 1 ≤ pn := by omega
      clear hM hO hL hR hl hu M1 hf hpe e1 h0
      go_enter Try.func13, Try.ntmps13
      go_wp2_with (go_at_call 25; refine HF.out.mono ?_; rintro e w' ⟨rfl, rfl⟩)
      go_ret
      rw [E.out]
      exact ⟨rfl, P1.out, C1.out⟩
theorem len_any (h : PoolAt w B p n c R) : Calls Try.prog 15 #[.pointer (some ⟨p, 0, none⟩)] w fun e w' => e = .returned (.int .i64 (R.length : Int)) ∧ w = w' := by
  obtain ⟨m, u, L, hM, hO, hu, hL, hR, h1, h2⟩ := h
  have HL := fun ty => hM.map.len (P := Try.prog) Try.underlying47 ty
  have e : (L.map ent).length = R.length := by rw [← hL]; simp
  rw [e] at HL
  obtain ⟨o1, o2, o3⟩ := hM.own.at_
  unfold pcell at o1
  have hfew := hR.few
  generalize R.length = len at *
  clear hM hO hL hR hu e
  go_enter Try.func15, Try.ntmps15
  go_wp2
  go_ret
  exact ⟨rfl, rfl⟩
end
end Go.Proofs.Ytjncmaaofminkaa
