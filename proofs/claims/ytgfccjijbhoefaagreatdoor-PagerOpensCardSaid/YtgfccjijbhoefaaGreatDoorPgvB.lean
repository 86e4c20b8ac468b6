/- merged: What a disk holds behind Format, and what Open finds there: plain mathematics. It speaks of no function. Conditions: a disk that isn't down and has no fuse. What calls make of a new pager on a disk without a fuse, and with one that is burnt: plain mathematics. It speaks of no function. Conditions: those that each theorem names. -/
import Derived.Test.YtgfccjijbhoefaaGreatDoorPguR
section
namespace Go.Proofs.YtgfccjijbhoefaaGreatDoor
open Go.ChangeShapes Go.WideShapes Go.ChangeAt Go.RowKit
set_option linter.unusedVariables false
set_option linter.unusedSimpArgs false

/-- the page 0 of a new disk -/
def hd0 : Pag := (1, hroom 1 0 fun _ => 0)
theorem hd0_ok : PagOk hd0 := ⟨by show 1 ≤ 1; omega, by show 1 ≤ 255; omega, hroom_size _ _ _⟩
theorem fmt_eq (ll : Nat) : fmtOps ll = putOps 0 (fun _ => zB 64) 2 ++ ([none] ++ (putOps 2 (fun _ => zB 64) ll ++ (pgOps ll 0 hd0 ++ ([none, some (1, mkB 1 (mkT 1 ll))] ++ [none])))) := by
  unfold fmtOps
  rw [allOps_succ, allOps_succ, allOps_succ]
  show ((allOps (fmtOp ll) 0 ++ putOps 0 (fun _ => zB 64) 2 ++ [none]) ++ (putOps 2 (fun _ => zB 64) ll ++ pgOps ll 0 hd0) ++ [none]) ++ [some (1, mkB 1 (mkT 1 ll))] ++ [none] = _
  simp [allOps]
theorem putFit {N at_ n : Nat} {g : Nat → ByteArray} (h : at_ + n ≤ N) (hg : ∀ i, i < n → (g i).size = 64) : ∀ o ∈ putOps at_ g n, fitD N o := by
  intro o ho
  obtain ⟨i, hi, rfl⟩ := List.mem_map.1 ho
  have hi := List.mem_range.1 hi
  exact ⟨by omega, hg i hi⟩
theorem putNo {at_ n k : Nat} {g : Nat → ByteArray} (h : k < at_ ∨ at_ + n ≤ k) : ∀ o ∈ putOps at_ g n, noD k o := by
  intro o ho
  obtain ⟨i, hi, rfl⟩ := List.mem_map.1 ho
  have hi := List.mem_range.1 hi
  show at_ + i ≠ k
  omega
section
variable {N ll : Nat}
theorem fmtFit (h10 : 10 ≤ ll) (hN : ll + 10 ≤ N) : ∀ o ∈ fmtOps ll, fitD N o := by
  intro o ho
  rw [fmt_eq] at ho
  rcases List.mem_append.1 ho with ho | ho
  · exact putFit (by omega) (fun _ _ => zB_size 64) o ho
  rcases List.mem_append.1 ho with ho | ho
  · obtain rfl : o = none := by simpa using ho
    trivial
  rcases List.mem_append.1 ho with ho | ho
  · exact putFit (by omega) (fun _ _ => zB_size 64) o ho
  rcases List.mem_append.1 ho with ho | ho
  · exact putFit (by omega) (fun i hi => Pg.secB_size _ _ (pgB_size _ _ _ (by have := hd0_ok.size; omega)) hi) o ho
  · simp at ho
    rcases ho with rfl | rfl | rfl
    · trivial
    · exact ⟨by omega, mkB_size _ _ (by rw [mkT_size]; omega)⟩
    · trivial
theorem fold_opt (k : Nat) (v : ByteArray) (l : List Dop) : ([none] ++ l).foldl (vwO k) v = l.foldl (vwO k) v := rfl
theorem fold_end (k : Nat) (v m : ByteArray) : ([none, some (1, m)] ++ [none] : List Dop).foldl (vwO k) v = if 1 = k then m else v := rfl
/-- the sectors behind Format -/
theorem fmt_secs (k : Nat) (v : ByteArray) : (fmtOps ll).foldl (vwO k) v = if k = 1 then mkB 1 (mkT 1 ll) else if k < 2 + ll then zB 64 else if k < 2 + ll + 8 then Pg.secB (pgB 1 0 (hroom 1 0 fun _ => 0)) (k - (2 + ll)) else v := by
  rw [fmt_eq, List.foldl_append, fold_opt, List.foldl_append, List.foldl_append, fold_end]
  by_cases c1 : k = 1
  · rw [if_pos c1.symm, if_pos c1]
  rw [if_neg (fun e => c1 e.symm), if_neg c1]
  by_cases c2 : k < 2
  · rw [if_pos (by omega), fold_ne k (pgOps ll 0 hd0) _ (putNo (.inl (by omega))), fold_ne k (putOps 2 _ ll) _ (putNo (.inl (by omega)))]
    have := fold_put 0 (fun _ => zB 64) k v 2
    rw [Nat.zero_add, if_pos c2] at this
    exact this
  by_cases c3 : k < 2 + ll
  · rw [if_pos c3, fold_ne k (pgOps ll 0 hd0) _ (putNo (.inl (by omega)))]
    have := fold_put 2 (fun _ => zB 64) (k - 2) ((putOps 0 (fun _ => zB 64) 2).foldl (vwO k) v) ll
    rw [show 2 + (k - 2) = k by omega, if_pos (by omega)] at this
    exact this
  rw [if_neg c3]
  have := fold_put (2 + ll + 0 * 8) (Pg.secB (pgB hd0.1 0 hd0.2)) (k - (2 + ll)) ((putOps 2 (fun _ => zB 64) ll).foldl (vwO k) ((putOps 0 (fun _ => zB 64) 2).foldl (vwO k) v)) 8
  rw [show 2 + ll + 0 * 8 + (k - (2 + ll)) = k by omega] at this
  refine this.trans ?_
  by_cases c4 : k < 2 + ll + 8
  · rw [if_pos (by omega), if_pos c4]; rfl
  · rw [if_neg (by omega), if_neg c4, fold_ne k (putOps 2 _ ll) _ (putNo (.inr (by omega))), fold_ne k (putOps 0 _ 2) _ (putNo (.inr (by omega)))]
theorem rres_at {s : St} (hd : s.down = false) {i : Nat} (hi : i < N) : rres N s (i : Int) = (vw s i, 0) := by
  unfold rres
  rw [if_neg (by rw [hd]; simp), if_neg (by omega)]
  rfl
theorem zero_mark : isM (zB 64) = true ∧ mN (zB 64) = 0 := by decide
theorem mkT_list (ll : Nat) (k : Nat) : (mkT 1 ll ++ zB k).data.toList = putL 1 8 ++ (putL ll 4 ++ List.replicate k 0) := by
  unfold mkT zB
  rw [app_list, app_list, List.append_assoc]
/-- what the marks of a new disk tell -/
theorem fmt_ctg (h10 : 10 ≤ ll) (hN : ll + 10 ≤ N) (h6 : N ≤ 65536) : ctg N (zB 64) (mkB 1 (mkT 1 ll)) = some (ll, 1, 1) := by
  have hs : (mkT 1 ll).size ≤ 48 := by rw [mkT_size]; omega
  have m1 := mkB_is 1 (mkT 1 ll) hs
  have m2 := mkB_num 1 (mkT 1 ll) (by omega) hs
  have m3 := mkB_text 1 (mkT 1 ll) hs
  rw [mkT_size] at m3
  obtain ⟨z1, z2⟩ := zero_mark
  have k1 : bK (zB 64) (mkB 1 (mkT 1 ll)) = 1 := by
    unfold bK
    rw [z1, m1, z2, m2]
    rfl
  have k2 : bN_ (zB 64) (mkB 1 (mkT 1 ll)) = 1 := by
    unfold bN_
    rw [k1, m2]
    rfl
  have k3 : bT (zB 64) (mkB 1 (mkT 1 ll)) = mkT 1 ll ++ zB 36 := by
    unfold bT
    rw [k1, m3]
    rfl
  have z : (mkT 1 ll ++ zB 36).size = 48 := by rw [ByteArray.size_append, mkT_size, zB_size]
  have g1 : getN (mkT 1 ll ++ zB 36) 0 8 = 1 := getN_putL _ 0 8 1 (by omega) (by omega) (by decide) (by rw [mkT_list, List.drop_zero, take_of (putL_len 1 8)])
  have g2 : getN (mkT 1 ll ++ zB 36) 8 4 = ll := getN_putL _ 8 4 ll (by omega) (by omega) (by show ll < 4294967296; omega) (by rw [mkT_list, drop_of (putL_len 1 8), take_of (putL_len ll 4)])
  have g3 : blank ((mkT 1 ll ++ zB 36).extract 12 (mkT 1 ll ++ zB 36).size) = true := by
    unfold blank
    rw [extract_list, z, mkT_list, ← List.append_assoc, drop_of (by rw [List.length_append, putL_len, putL_len])]
    simp
  unfold ctg
  rw [k1, k2, k3, g1, g2, if_pos ⟨by omega, by omega, g3, h10, hN⟩]
/-- what a disk is behind Format -/
theorem fmt_state {s : St} (h : Sd N s) (hd : s.down = false) (hf : s.fuse < 0) (h10 : 10 ≤ ll) (hN : ll + 10 ≤ N) : (runW N (fmtOps ll) (0, s)).1 = 0 ∧ (runW N (fmtOps ll) (0, s)).2.down = false ∧ (runW N (fmtOps ll) (0, s)).2.fuse = s.fuse ∧ (runW N (fmtOps ll) (0, s)).2.wr = [] ∧ Sd N (runW N (fmtOps ll) (0, s)).2 ∧
    ∀ k, vw (runW N (fmtOps ll) (0, s)).2 k = if k = 1 then mkB 1 (mkT 1 ll) else if k < 2 + ll then zB 64 else if k < 2 + ll + 8 then Pg.secB (pgB 1 0 (hroom 1 0 fun _ => 0)) (k - (2 + ll)) else vw s k := by
  have hfit := fmtFit (N := N) h10 hN
  have h1 := runW_up N (fmtOps ll) s hd hfit
  obtain ⟨e0, ef⟩ := h1.2 hf
  have hdn : (runW N (fmtOps ll) (0, s)).2.down = false := by
    rcases h1.1 with h | h
    · exact h.2
    · omega
  refine ⟨e0, hdn, ef, ?_, runW_sd N _ s h hfit, fun k => ?_⟩
  · have e : fmtOps ll = (allOps (fmtOp ll) 2 ++ fmtOp ll 2) ++ [none] := by unfold fmtOps; rw [allOps_succ]
    rw [e] at e0 ⊢
    exact runW_flush N _ s e0
  · rw [vw_run_ok N k _ s h hfit e0, fmt_secs]
/-- what Open finds on a new disk -/
theorem fmt_opn {s s' : St} (hd : s'.down = false) (h10 : 10 ≤ ll) (hN : ll + 10 ≤ N) (h6 : N ≤ 65536) (room : Nat)
    (hv : ∀ k, vw s' k = if k = 1 then mkB 1 (mkT 1 ll) else if k < 2 + ll then zB 64 else if k < 2 + ll + 8 then Pg.secB (pgB 1 0 (hroom 1 0 fun _ => 0)) (k - (2 + ll)) else vw s k) :
    opn N s' room = some (opP N s' room ll 1 1 []) ∧ (opP N s' room ll 1 1 []).base 0 = (hd0, 0) ∧ (opP N s' room ll 1 1 []).l = ⟨2, ll, 0, 1, false⟩ := by
  have v0 : vw s' 0 = zB 64 := by rw [hv, if_neg (by omega), if_pos (by omega)]
  have v1 : vw s' 1 = mkB 1 (mkT 1 ll) := by rw [hv, if_pos rfl]
  have v2 : vw s' 2 = zB 64 := by rw [hv, if_neg (by omega), if_pos (by omega)]
  have r0 : (rres N s' 0).1 = zB 64 := by rw [show (0 : Int) = ((0 : Nat) : Int) from rfl, rres_at hd (by omega), v0]
  have r1 : (rres N s' 1).1 = mkB 1 (mkT 1 ll) := by rw [show (1 : Int) = ((1 : Nat) : Int) from rfl, rres_at hd (by omega), v1]
  have t0 : standsAt (st s' 2) ll 1 = [] := stands_none _ _ _ (by show bN (vw s' (2 + 0)) 10 ≠ 1; rw [Nat.add_zero, v2]; decide)
  have b0 : (opP N s' room ll 1 1 []).base 0 = (hd0, 0) := by
    show dpg s' ll 0 = _
    exact dpg_page hd0_ok (by omega) fun i hi => by
      rw [hv, if_neg (by omega), if_neg (by omega), if_pos (by omega)]
      congr 1
      omega
  have hh : isHdB ((N - 2 - ll) / 8) hd0 = true := isHdB_iff.2 (IsHd.mk' (by omega) (by omega) (by omega) (by omega) fun i hi => by show 0 < _; omega)
  refine ⟨?_, b0, ?_⟩
  · unfold opn
    rw [r0, r1, fmt_ctg h10 hN h6]
    simp only
    rw [t0]
    show (if ((opP N s' room ll 1 1 []).base 0).2 = 0 ∧ isHdB ((N - 2 - ll) / 8) ((opP N s' room ll 1 1 []).base 0).1 = true then some (opP N s' room ll 1 1 []) else none) = _
    rw [b0, if_pos ⟨rfl, hh⟩]
  · unfold opP
    simp only
    rw [t0]
    rfl
end
end Go.Proofs.YtgfccjijbhoefaaGreatDoor
end
section
namespace Go.Proofs.YtgfccjijbhoefaaGreatDoor
open Go.ChangeShapes Go.WideShapes Go.ChangeAt Go.RowKit
set_option linter.unusedVariables false
set_option linter.unusedSimpArgs false

/-- a pager that Open made of a new disk -/
structure Newp (P : PS) (n m r : Nat) : Prop where
  N : P.N = n
  ll : P.ll = m
  seq : P.seq = 1
  room : P.room = r
  l : P.l = ⟨2, m, 0, 1, false⟩
  M : P.M = []
  T : P.T = []
  failed : P.failed = false
  up : P.s.down = false
  wr : P.s.wr = []
  hd : P.base 0 = (hd0, 0)
  fuse : P.s.fuse < 0
section
variable {P : PS} {N ll room : Nat}
theorem Newp.view (h : Newp P N ll room) : P.view 0 = (hd0, 0) := by
  unfold PS.view
  rw [h.T]
  exact h.hd
theorem Newp.used (h : Newp P N ll room) : P.used = 1 := by
  unfold PS.used
  rw [h.view]
  exact hroom_U 1 0 _ (by omega)
theorem Newp.free (h : Newp P N ll room) : P.free = 0 := by
  unfold PS.free
  rw [h.view]
  exact hroom_F 1 0 _ (by omega)
theorem Newp.most (h : Newp P N ll room) : P.most = (N - 2 - ll) / 8 := by
  unfold PS.most
  rw [h.N, h.ll]
theorem Newp.tk (h : Newp P N ll room) (h2 : 2 ≤ (N - 2 - ll) / 8) : P.tk = (1, 0, 2, 0) := by
  unfold PS.tk
  rw [if_pos h.free, h.most, h.used, if_neg (by omega), h.free]
/-- behind Alloc -/
theorem Newp.al (h : Newp P N ll room) (hk : P.Ok) (h2 : 2 ≤ (N - 2 - ll) / 8) : P.alE 2 = 0 ∧ P.alN 2 = 1 ∧ (P.al 2).T.length = 2 ∧ (P.al 2).s = P.s ∧ (P.al 2).l = P.l ∧ (P.al 2).M = P.M ∧ (P.al 2).seq = P.seq ∧ (P.al 2).failed = P.failed ∧ (P.al 2).N = P.N ∧ (P.al 2).ll = P.ll ∧ ((P.al 2).view 0).1.2 = hroom 2 0 P.root := by
  have ht := h.tk h2
  have hr2 := hk.r2
  have hL : P.alL 2 = [(0, (1, hroom 2 0 P.root)), (1, (2, ⟨#[]⟩))] := by unfold PS.alL; rw [ht]; rfl
  have hp : (P.put (P.alL 2)).T = [(0, (1, fl (hroom 2 0 P.root))), (1, (2, fl ⟨#[]⟩))] := by
    unfold PS.put
    rw [hL, h.T]
    rfl
  have hlen : (P.put (P.alL 2)).T.length ≤ P.room := by rw [hp]; exact hr2
  have e1 : P.alE 2 = 0 := by
    unfold PS.alE PS.chgE
    rw [if_pos (by decide), if_neg (by rw [h.up]; simp), ht, if_pos rfl, if_pos hlen]
  have e2 : P.al 2 = P.put (P.alL 2) := by
    unfold PS.al PS.chg
    rw [if_pos (by decide), if_neg (by rw [h.up]; simp), ht, if_pos rfl, if_pos hlen]
  have e3 : P.alN 2 = 1 := by
    unfold PS.alN
    rw [if_pos e1, ht]
  refine ⟨e1, e3, ?_⟩
  rw [e2]
  refine ⟨by rw [hp]; rfl, rfl, rfl, rfl, rfl, rfl, rfl, rfl, ?_⟩
  unfold PS.view
  rw [hp]
  exact fl_full _ (hroom_size 2 0 P.root)
end
section
variable {N : Nat} {s : St}
theorem run_live (hd : s.down = false) (hf : s.fuse < 0) (ops : List Dop) (ho : ∀ o ∈ ops, fitD N o) : (runW N ops (0, s)).1 = 0 ∧ (runW N ops (0, s)).2.fuse = s.fuse ∧ (runW N ops (0, s)).2.down = false := by
  have h1 := runW_up N ops s hd ho
  obtain ⟨e0, ef⟩ := h1.2 hf
  refine ⟨e0, ef, ?_⟩
  rcases h1.1 with h | h
  · exact h.2
  · omega
theorem prep_live (h : Sd N s) (hd : s.down = false) (hf : s.fuse < 0) (at_ q k en : Nat) (hat : at_ < N) (hen : en ≤ N) : (prepW N s at_ q k en).1 = 0 ∧ (prepW N s at_ q k en).2.fuse = s.fuse ∧ (prepW N s at_ q k en).2.down = false ∧ Sd N (prepW N s at_ q k en).2 := by
  have h1 := run_live hd hf (umOps s at_ q) (umFit h hat)
  have hr := prep_ran h hd at_ q k en hat hen
  have hsd := runW_sd N (umOps s at_ q) s h (umFit h hat)
  refine ⟨?_, ?_, ?_, hr.sd⟩
  all_goals rw [prepW_eq rfl]
  all_goals
    obtain ⟨x, hx⟩ : ∃ x, x = runW N (umOps s at_ q) (0, s) := ⟨_, rfl⟩
    rw [← hx] at h1 hsd ⊢
    by_cases c : x.1 = 0 ∧ at_ + k < en
    · have h2 := run_live (N := N) h1.2.2 (by rw [h1.2.1]; exact hf) (umOps x.2 (at_ + k) ((q + 1) % 18446744073709551616)) (umFit hsd (by omega))
      rw [if_pos c]
      first | exact h2.1 | exact h2.2.1.trans h1.2.1 | exact h2.2.2
    · rw [if_neg c]
      first | exact h1.1 | exact h1.2.1 | exact h1.2.2
/-- add, where there is room and no fuse -/
theorem add_live (h : Sd N s) (hd : s.down = false) (hf : s.fuse < 0) {l : LogS} (hk : l.Ok) (hlf : l.failed = false) (hfr : l.from_ = 2) (hN : 2 + l.size ≤ N) {ps : List ByteArray} (hp : arePg ps = true) (h64 : ps.length ≤ 64) (hle : 1 + 9 * ps.length ≤ l.left) :
    (addW N s l ps).1 = 0 ∧ (addW N s l ps).2.1.fuse = s.fuse ∧ (addW N s l ps).2.1.down = false ∧ (addW N s l ps).2.1.wr = [] ∧ (addW N s l ps).2.2 = l.plus ps.length := by
  have hl : l.left = l.size - l.used := by unfold LogS.left; rw [hlf]; simp
  have hu := hk.used
  obtain ⟨p1, p2, p3, p4⟩ := prep_live h hd hf (2 + l.used) l.next (1 + 9 * ps.length) (2 + l.size) (by omega) hN
  unfold addW
  rw [if_pos hle]
  obtain ⟨x, hx⟩ : ∃ x, x = prepW N s (2 + l.used) l.next (1 + 9 * ps.length) (2 + l.size) := ⟨_, rfl⟩
  rw [← hx] at p1 p2 p3 p4 ⊢
  rw [if_pos p1]
  have hsz : ∀ p ∈ ps, p.size = 512 := (of_decide_eq_true hp).2
  have r := run_live (N := N) p3 (by rw [p2]; exact hf) (txnOps (l.from_ + l.used) ps l.next) (txnOps_fit N _ ps _ hsz (by omega))
  have ew : (runW N (txnOps (l.from_ + l.used) ps l.next) (0, x.2)).2.wr = [] := by
    have e : txnOps (l.from_ + l.used) ps l.next = (opsTo (l.from_ + l.used) ps ps.length ++ [none, some (l.from_ + l.used, markB l.next ps.length)]) ++ [none] := by
      unfold txnOps
      rw [List.append_assoc]
      rfl
    have r0 := r.1
    rw [e] at r0 ⊢
    exact runW_flush N _ x.2 r0
  have ea : ares N x.2 l ps = (0, (runW N (txnOps (l.from_ + l.used) ps l.next) (0, x.2)).2, l.plus ps.length) := by
    unfold ares
    rw [if_neg (by rw [hp]; simp), if_neg (by rw [hlf]; simp), if_neg (by omega), if_neg (by omega), if_pos r.1]
  rw [ea]
  exact ⟨rfl, r.2.1.trans p2, r.2.2, ew, rfl⟩
end
section
variable {P : PS}
/-- Commit, where the log has room and no fuse burns -/
theorem com_live (h : P.Ok) (hs : Sd P.N P.s) (hd : P.s.down = false) (hf : P.s.fuse < 0) (hlf : P.l.failed = false) (hpf : P.failed = false) (h1 : P.T ≠ []) (h64 : P.T.length ≤ 64) (hle : 1 + 9 * P.T.length ≤ P.l.left) (hq : P.seq + 1 ≤ 18446744073709551615) :
    P.comE = 0 ∧ P.com.T = [] ∧ P.com.s.fuse = P.s.fuse ∧ P.com.s.down = false ∧ P.com.s.wr = [] ∧ P.com.l = P.l.plus P.T.length ∧ P.com.failed = false ∧ P.com.seq = P.seq ∧ P.com.N = P.N ∧ P.com.ll = P.ll ∧ P.com.room = P.room ∧ Sd P.N P.com.s ∧ ∀ no, no < P.most → P.com.base no = P.view no := by
  have hp := h.pgs h1
  have hlen := ppgs_len P
  have hsz := h.size
  have hfit := h.fit
  have k := PS.ent_kin h hs hd hlf h1 h64 hq
  obtain ⟨a1, a2, a3, a4, a5⟩ := add_live hs hd hf h.log hlf h.from_ (by omega) hp (by omega) (by omega)
  have eR : P.entR = ((P.addR P.pgs).1, P.addP P.pgs) := by unfold PS.entR; rw [if_pos hle]
  have e0 : P.entR.1 = 0 := by rw [eR]; exact a1
  have eE : P.ent = P.addP P.pgs := by
    unfold PS.ent PS.told
    rw [if_neg (by omega), eR]
  have eC : P.com = P.done := by
    unfold PS.com
    rw [if_neg (by
      rw [hpf]
      intro e
      rcases e with e | e | e
      · cases e
      · exact h1 e
      · omega), if_pos e0]
  have eX : P.comE = 0 := by
    unfold PS.comE
    rw [if_neg (by rw [hpf]; simp), if_neg h1, if_neg (by omega), e0]
  have hb : ∀ no, no < P.most → P.com.base no = P.view no := fun no hno => by rw [eC]; exact done_base h k.1 hno
  have hsd : Sd P.N P.com.s := by rw [eC]; exact k.2.1
  refine ⟨eX, by rw [eC]; rfl, ?_, ?_, ?_, ?_, ?_, ?_, ?_, ?_, ?_, hsd, hb⟩
  all_goals rw [eC]
  · show P.ent.s.fuse = _; rw [eE]; exact a2
  · show P.ent.s.down = _; rw [eE]; exact a3
  · show P.ent.s.wr = _; rw [eE]; exact a4
  · show P.ent.l = _; rw [eE, ← hlen]; exact a5
  · show P.ent.failed = _; rw [eE]; exact hpf
  · show P.ent.seq = _; rw [eE]; rfl
  · show P.ent.N = _; rw [eE]; rfl
  · show P.ent.ll = _; rw [eE]; rfl
  · show P.ent.room = _; rw [eE]; rfl
/-- Checkpoint, where no fuse burns -/
theorem ck_live (h : P.Ok) (hs : Sd P.N P.s) (hd : P.s.down = false) (hf : P.s.fuse < 0) (hlf : P.l.failed = false) (hT : P.T = []) :
    P.empR.1 = 0 ∧ PS.told P.empR.1 P.emp = P.emp ∧ P.emp.s.down = false ∧ P.emp.T = [] ∧ P.emp.s.fuse = P.s.fuse ∧ P.emp.failed = P.failed ∧ P.emp.view 0 = P.view 0 := by
  have hm := h.most
  have r := run_live hd hf (empOps P.ll P.M P.seq P.l.next) (empFit h.M hm.2.2 (by have := h.fit; omega))
  obtain ⟨k, -, -, -⟩ := PS.emp_kin h hs hd hlf
  have e0 : P.empR.1 = 0 := r.1
  have eE : P.emp = { P with s := P.empR.2, seq := P.seq + 1, M := [], l := { P.l with used := 0 } } := if_pos e0
  have hv : P.emp.view 0 = P.view 0 := by
    unfold PS.view
    rw [k.T, k.base 0 (by omega)]
  refine ⟨e0, by unfold PS.told; rw [if_neg (by omega)], ?_, ?_, ?_, ?_, hv⟩
  all_goals rw [eE]
  · exact r.2.2
  · exact hT
  · exact r.2.1
/-- a fuse that is burnt: the first call ends it -/
theorem dres_burnt {N : Nat} {s : St} (hd : s.down = false) (hf : s.fuse = 0) (o : Dop) (ho : fitD N o) : dres N s o = (11, { s with down := true }) := by
  have hb : burn s = (false, { s with down := true }) := by unfold burn; rw [if_pos hf]
  cases o with
  | some x =>
    obtain ⟨a, t⟩ := x
    obtain ⟨ha, ht⟩ := ho
    show wres N s (a : Int) t = _
    unfold wres
    rw [if_neg (by rw [hd]; simp), if_neg (by omega), hb]
    rfl
  | none =>
    show fres s = _
    unfold fres
    rw [if_neg (by rw [hd]; simp), hb]
    rfl
theorem run_burnt {N : Nat} {s : St} (hd : s.down = false) (hf : s.fuse = 0) : ∀ (ops : List Dop), ops ≠ [] → (∀ o ∈ ops, fitD N o) → runW N ops (0, s) = (11, { s with down := true })
  | [], h, _ => absurd rfl h
  | o :: ops, _, ho => by
    rw [runW_cons, dres_burnt hd hf o (ho o (by simp)), runW_stuck N ops _ (show (11 : Int) ≠ 0 by decide)]
/-- Checkpoint at such a fuse -/
theorem ck_burnt (h : P.Ok) (hd : P.s.down = false) (hf : P.s.fuse = 0) : P.empR.1 = 11 ∧ (PS.told P.empR.1 P.emp).s = { P.s with down := true } ∧ (PS.told P.empR.1 P.emp).failed = true := by
  have hm := h.most
  have e : P.empR = (11, { P.s with down := true }) := run_burnt hd hf _ (by rw [empOps_eq]; simp) (empFit h.M hm.2.2 (by have := h.fit; omega))
  have e0 : P.empR.1 = 11 := by rw [e]
  have e1 : P.emp = { P with s := P.empR.2 } := if_neg (by omega)
  refine ⟨e0, ?_, ?_⟩
  · rw [(told_s _ _).1, e1, e]
  · unfold PS.told
    rw [if_pos e0]
/-- another fuse -/
def PS.fused (P : PS) (f : Int) : PS := { P with s := { P.s with fuse := f } }
theorem fused_base (P : PS) (f : Int) (no : Nat) : (P.fused f).base no = P.base no := base_congr (P := P) (P' := P.fused f) rfl rfl fun i _ => vw_of rfl rfl _
theorem fused_view (P : PS) (f : Int) (no : Nat) : (P.fused f).view no = P.view no := by
  have := fused_base P f no
  unfold PS.view
  rw [this]
  rfl
theorem PS.Ok.fused (h : P.Ok) (f : Int) : (P.fused f).Ok :=
  { h with
    hd := by rw [fused_view]; exact h.hd
    hd0 := by rw [fused_view]; exact h.hd0
    bd := by rw [fused_base]; exact h.bd
    bd0 := by rw [fused_base]; exact h.bd0 }
theorem Coh.fused {R : List Po.RF} (h : Coh P R) (f : Int) : Coh (P.fused f) R := by
  refine ⟨fun g hg => ?_, h.all⟩
  obtain ⟨no, x, e, hn, hx, hs, hp, ht, hc⟩ := h.good g hg
  refine ⟨no, x, e, hn, hx, hs, hp, ht, fun hd => ?_⟩
  rw [fused_base]
  exact hc hd
end
end Go.Proofs.YtgfccjijbhoefaaGreatDoor
end
