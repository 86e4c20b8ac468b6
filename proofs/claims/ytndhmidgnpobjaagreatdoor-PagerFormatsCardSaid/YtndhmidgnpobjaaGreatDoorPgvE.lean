/- merged: What a disk holds behind Format, and what Open finds there: plain mathematics. It speaks of no function. Conditions: a disk that isn't down and has no fuse. What calls make of a new pager on a disk without a fuse, and with one that is burnt: plain mathematics. It speaks of no function. Conditions: those that each theorem names. The document's example of a pager: the contract of the law's awake, and of what comes ahead of it in the laws: a new disk, Format, Open. Conditions: those that each theorem names. What disk.Load refuses. Conditions: those that each theorem names. The contracts of a pager's asking calls, in the laws' words. Conditions: a disk that isn't down. -/
import Derived.Test.YtndhmidgnpobjaaGreatDoorPguR
import Derived.Test.YtndhmidgnpobjaaGreatDoorPgrA
section
namespace Go.Proofs.YtndhmidgnpobjaaGreatDoor
open Go.ChangeShapes Go.WideShapes Go.ChangeAt Go.RowKit
set_option linter.unusedVariables false
set_option linter.unusedSimpArgs false

/-- the page 0 of a new disk -/
def hd0 : Pag := (1, hroom 1 0 fun _ => 0)
theorem hd0_ok : PagOk hd0 := ⟨by show 1 ≤ 1; omega, by show 1 ≤ 255; omega, hroom_size _ _ _⟩
theorem fmt_eq (ll : Nat) : fmtOps ll = putOps 0 (fun _ => zB 64) 2 ++ ([none] ++ (putOps 2 (fun _ => zB 64) ll ++ (pgOps ll 0 hd0 ++ ([none, some (1, mkB 1 (mkT 1 ll))] ++ [none])))) := by
  unfold fmtOps
  rw [allOps_succ, allOps_succ, allOps_succ]
  show ((allOps (fmtOp ll) 0 ++ putOps 0 (fun _ => zB 64) 2 ++ [none]) ++ (putOps 2 (fun _ => zB 64) ll ++ pgOps ll 0 hd0) ++ [none]) ++ [some (1, mkB 1 (mkT 1 ll))] ++ [none] = _
  simp [allOps]
theorem putFit {N at_ n : Nat} {g : Nat → ByteArray} (h : at_ + n ≤ N) (hg : ∀ i, i < n → (g i).size = 64) : ∀ o ∈ putOps at_ g n, fitD N o := by
  intro o ho
  obtain ⟨i, hi, rfl⟩ := List.mem_map.1 ho
  have hi := List.mem_range.1 hi
  exact ⟨by omega, hg i hi⟩
theorem putNo {at_ n k : Nat} {g : Nat → ByteArray} (h : k < at_ ∨ at_ + n ≤ k) : ∀ o ∈ putOps at_ g n, noD k o := by
  intro o ho
  obtain ⟨i, hi, rfl⟩ := List.mem_map.1 ho
  have hi := List.mem_range.1 hi
  show at_ + i ≠ k
  omega
section
variable {N ll : Nat}
theorem fmtFit (h10 : 10 ≤ ll) (hN : ll + 10 ≤ N) : ∀ o ∈ fmtOps ll, fitD N o := by
  intro o ho
  rw [fmt_eq] at ho
  rcases List.mem_append.1 ho with ho | ho
  · exact putFit (by omega) (fun _ _ => zB_size 64) o ho
  rcases List.mem_append.1 ho with ho | ho
  · obtain rfl : o = none := by simpa using ho
    trivial
  rcases List.mem_append.1 ho with ho | ho
  · exact putFit (by omega) (fun _ _ => zB_size 64) o ho
  rcases List.mem_append.1 ho with ho | ho
  · exact putFit (by omega) (fun i hi => Pg.secB_size _ _ (pgB_size _ _ _ (by have := hd0_ok.size; omega)) hi) o ho
  · simp at ho
    rcases ho with rfl | rfl | rfl
    · trivial
    · exact ⟨by omega, mkB_size _ _ (by rw [mkT_size]; omega)⟩
    · trivial
theorem fold_opt (k : Nat) (v : ByteArray) (l : List Dop) : ([none] ++ l).foldl (vwO k) v = l.foldl (vwO k) v := rfl
theorem fold_end (k : Nat) (v m : ByteArray) : ([none, some (1, m)] ++ [none] : List Dop).foldl (vwO k) v = if 1 = k then m else v := rfl
/-- the sectors behind Format -/
theorem fmt_secs (k : Nat) (v : ByteArray) : (fmtOps ll).foldl (vwO k) v = if k = 1 then mkB 1 (mkT 1 ll) else if k < 2 + ll then zB 64 else if k < 2 + ll + 8 then Pg.secB (pgB 1 0 (hroom 1 0 fun _ => 0)) (k - (2 + ll)) else v := by
  rw [fmt_eq, List.foldl_append, fold_opt, List.foldl_append, List.foldl_append, fold_end]
  by_cases c1 : k = 1
  · rw [if_pos c1.symm, if_pos c1]
  rw [if_neg (fun e => c1 e.symm), if_neg c1]
  by_cases c2 : k < 2
  · rw [if_pos (by omega), fold_ne k (pgOps ll 0 hd0) _ (putNo (.inl (by omega))), fold_ne k (putOps 2 _ ll) _ (putNo (.inl (by omega)))]
    have := fold_put 0 (fun _ => zB 64) k v 2
    rw [Nat.zero_add, if_pos c2] at this
    exact this
  by_cases c3 : k < 2 + ll
  · rw [if_pos c3, fold_ne k (pgOps ll 0 hd0) _ (putNo (.inl (by omega)))]
    have := fold_put 2 (fun _ => zB 64) (k - 2) ((putOps 0 (fun _ => zB 64) 2).foldl (vwO k) v) ll
    rw [show 2 + (k - 2) = k by omega, if_pos (by omega)] at this
    exact this
  rw [if_neg c3]
  have := fold_put (2 + ll + 0 * 8) (Pg.secB (pgB hd0.1 0 hd0.2)) (k - (2 + ll)) ((putOps 2 (fun _ => zB 64) ll).foldl (vwO k) ((putOps 0 (fun _ => zB 64) 2).foldl (vwO k) v)) 8
  rw [show 2 + ll + 0 * 8 + (k - (2 + ll)) = k by omega] at this
  refine this.trans ?_
  by_cases c4 : k < 2 + ll + 8
  · rw [if_pos (by omega), if_pos c4]; rfl
  · rw [if_neg (by omega), if_neg c4, fold_ne k (putOps 2 _ ll) _ (putNo (.inr (by omega))), fold_ne k (putOps 0 _ 2) _ (putNo (.inr (by omega)))]
theorem rres_at {s : St} (hd : s.down = false) {i : Nat} (hi : i < N) : rres N s (i : Int) = (vw s i, 0) := by
  unfold rres
  rw [if_neg (by rw [hd]; simp), if_neg (by omega)]
  rfl
theorem zero_mark : isM (zB 64) = true ∧ mN (zB 64) = 0 := by decide
theorem mkT_list (ll : Nat) (k : Nat) : (mkT 1 ll ++ zB k).data.toList = putL 1 8 ++ (putL ll 4 ++ List.replicate k 0) := by
  unfold mkT zB
  rw [app_list, app_list, List.append_assoc]
/-- what the marks of a new disk tell -/
theorem fmt_ctg (h10 : 10 ≤ ll) (hN : ll + 10 ≤ N) (h6 : N ≤ 65536) : ctg N (zB 64) (mkB 1 (mkT 1 ll)) = some (ll, 1, 1) := by
  have hs : (mkT 1 ll).size ≤ 48 := by rw [mkT_size]; omega
  have m1 := mkB_is 1 (mkT 1 ll) hs
  have m2 := mkB_num 1 (mkT 1 ll) (by omega) hs
  have m3 := mkB_text 1 (mkT 1 ll) hs
  rw [mkT_size] at m3
  obtain ⟨z1, z2⟩ := zero_mark
  have k1 : bK (zB 64) (mkB 1 (mkT 1 ll)) = 1 := by
    unfold bK
    rw [z1, m1, z2, m2]
    rfl
  have k2 : bN_ (zB 64) (mkB 1 (mkT 1 ll)) = 1 := by
    unfold bN_
    rw [k1, m2]
    rfl
  have k3 : bT (zB 64) (mkB 1 (mkT 1 ll)) = mkT 1 ll ++ zB 36 := by
    unfold bT
    rw [k1, m3]
    rfl
  have z : (mkT 1 ll ++ zB 36).size = 48 := by rw [ByteArray.size_append, mkT_size, zB_size]
  have g1 : getN (mkT 1 ll ++ zB 36) 0 8 = 1 := getN_putL _ 0 8 1 (by omega) (by omega) (by decide) (by rw [mkT_list, List.drop_zero, take_of (putL_len 1 8)])
  have g2 : getN (mkT 1 ll ++ zB 36) 8 4 = ll := getN_putL _ 8 4 ll (by omega) (by omega) (by show ll < 4294967296; omega) (by rw [mkT_list, drop_of (putL_len 1 8), take_of (putL_len ll 4)])
  have g3 : blank ((mkT 1 ll ++ zB 36).extract 12 (mkT 1 ll ++ zB 36).size) = true := by
    unfold blank
    rw [extract_list, z, mkT_list, ← List.append_assoc, drop_of (by rw [List.length_append, putL_len, putL_len])]
    simp
  unfold ctg
  rw [k1, k2, k3, g1, g2, if_pos ⟨by omega, by omega, g3, h10, hN⟩]
/-- what a disk is behind Format -/
theorem fmt_state {s : St} (h : Sd N s) (hd : s.down = false) (hf : s.fuse < 0) (h10 : 10 ≤ ll) (hN : ll + 10 ≤ N) : (runW N (fmtOps ll) (0, s)).1 = 0 ∧ (runW N (fmtOps ll) (0, s)).2.down = false ∧ (runW N (fmtOps ll) (0, s)).2.fuse = s.fuse ∧ (runW N (fmtOps ll) (0, s)).2.wr = [] ∧ Sd N (runW N (fmtOps ll) (0, s)).2 ∧
    ∀ k, vw (runW N (fmtOps ll) (0, s)).2 k = if k = 1 then mkB 1 (mkT 1 ll) else if k < 2 + ll then zB 64 else if k < 2 + ll + 8 then Pg.secB (pgB 1 0 (hroom 1 0 fun _ => 0)) (k - (2 + ll)) else vw s k := by
  have hfit := fmtFit (N := N) h10 hN
  have h1 := runW_up N (fmtOps ll) s hd hfit
  obtain ⟨e0, ef⟩ := h1.2 hf
  have hdn : (runW N (fmtOps ll) (0, s)).2.down = false := by
    rcases h1.1 with h | h
    · exact h.2
    · omega
  refine ⟨e0, hdn, ef, ?_, runW_sd N _ s h hfit, fun k => ?_⟩
  · have e : fmtOps ll = (allOps (fmtOp ll) 2 ++ fmtOp ll 2) ++ [none] := by unfold fmtOps; rw [allOps_succ]
    rw [e] at e0 ⊢
    exact runW_flush N _ s e0
  · rw [vw_run_ok N k _ s h hfit e0, fmt_secs]
/-- what Open finds on a new disk -/
theorem fmt_opn {s s' : St} (hd : s'.down = false) (h10 : 10 ≤ ll) (hN : ll + 10 ≤ N) (h6 : N ≤ 65536) (room : Nat)
    (hv : ∀ k, vw s' k = if k = 1 then mkB 1 (mkT 1 ll) else if k < 2 + ll then zB 64 else if k < 2 + ll + 8 then Pg.secB (pgB 1 0 (hroom 1 0 fun _ => 0)) (k - (2 + ll)) else vw s k) :
    opn N s' room = some (opP N s' room ll 1 1 []) ∧ (opP N s' room ll 1 1 []).base 0 = (hd0, 0) ∧ (opP N s' room ll 1 1 []).l = ⟨2, ll, 0, 1, false⟩ := by
  have v0 : vw s' 0 = zB 64 := by rw [hv, if_neg (by omega), if_pos (by omega)]
  have v1 : vw s' 1 = mkB 1 (mkT 1 ll) := by rw [hv, if_pos rfl]
  have v2 : vw s' 2 = zB 64 := by rw [hv, if_neg (by omega), if_pos (by omega)]
  have r0 : (rres N s' 0).1 = zB 64 := by rw [show (0 : Int) = ((0 : Nat) : Int) from rfl, rres_at hd (by omega), v0]
  have r1 : (rres N s' 1).1 = mkB 1 (mkT 1 ll) := by rw [show (1 : Int) = ((1 : Nat) : Int) from rfl, rres_at hd (by omega), v1]
  have t0 : standsAt (st s' 2) ll 1 = [] := stands_none _ _ _ (by show bN (vw s' (2 + 0)) 10 ≠ 1; rw [Nat.add_zero, v2]; decide)
  have b0 : (opP N s' room ll 1 1 []).base 0 = (hd0, 0) := by
    show dpg s' ll 0 = _
    exact dpg_page hd0_ok (by omega) fun i hi => by
      rw [hv, if_neg (by omega), if_neg (by omega), if_pos (by omega)]
      congr 1
      omega
  have hh : isHdB ((N - 2 - ll) / 8) hd0 = true := isHdB_iff.2 (IsHd.mk' (by omega) (by omega) (by omega) (by omega) fun i hi => by show 0 < _; omega)
  refine ⟨?_, b0, ?_⟩
  · unfold opn
    rw [r0, r1, fmt_ctg h10 hN h6]
    simp only
    rw [t0]
    show (if ((opP N s' room ll 1 1 []).base 0).2 = 0 ∧ isHdB ((N - 2 - ll) / 8) ((opP N s' room ll 1 1 []).base 0).1 = true then some (opP N s' room ll 1 1 []) else none) = _
    rw [b0, if_pos ⟨rfl, hh⟩]
  · unfold opP
    simp only
    rw [t0]
    rfl
end
end Go.Proofs.YtndhmidgnpobjaaGreatDoor
end
section
namespace Go.Proofs.YtndhmidgnpobjaaGreatDoor
open Go.ChangeShapes Go.WideShapes Go.ChangeAt Go.RowKit
set_option linter.unusedVariables false
set_option linter.unusedSimpArgs false

/-- a pager that Open made of a new disk -/
structure Newp (P : PS) (n m r : Nat) : Prop where
  N : P.N = n
  ll : P.ll = m
  seq : P.seq = 1
  room : P.room = r
  l : P.l = ⟨2, m, 0, 1, false⟩
  M : P.M = []
  T : P.T = []
  failed : P.failed = false
  up : P.s.down = false
  wr : P.s.wr = []
  hd : P.base 0 = (hd0, 0)
  fuse : P.s.fuse < 0
section
variable {P : PS} {N ll room : Nat}
theorem Newp.view (h : Newp P N ll room) : P.view 0 = (hd0, 0) := by
  unfold PS.view
  rw [h.T]
  exact h.hd
theorem Newp.used (h : Newp P N ll room) : P.used = 1 := by
  unfold PS.used
  rw [h.view]
  exact hroom_U 1 0 _ (by omega)
theorem Newp.free (h : Newp P N ll room) : P.free = 0 := by
  unfold PS.free
  rw [h.view]
  exact hroom_F 1 0 _ (by omega)
theorem Newp.most (h : Newp P N ll room) : P.most = (N - 2 - ll) / 8 := by
  unfold PS.most
  rw [h.N, h.ll]
theorem Newp.tk (h : Newp P N ll room) (h2 : 2 ≤ (N - 2 - ll) / 8) : P.tk = (1, 0, 2, 0) := by
  unfold PS.tk
  rw [if_pos h.free, h.most, h.used, if_neg (by omega), h.free]
/-- behind Alloc -/
theorem Newp.al (h : Newp P N ll room) (hk : P.Ok) (h2 : 2 ≤ (N - 2 - ll) / 8) : P.alE 2 = 0 ∧ P.alN 2 = 1 ∧ (P.al 2).T.length = 2 ∧ (P.al 2).s = P.s ∧ (P.al 2).l = P.l ∧ (P.al 2).M = P.M ∧ (P.al 2).seq = P.seq ∧ (P.al 2).failed = P.failed ∧ (P.al 2).N = P.N ∧ (P.al 2).ll = P.ll ∧ ((P.al 2).view 0).1.2 = hroom 2 0 P.root := by
  have ht := h.tk h2
  have hr2 := hk.r2
  have hL : P.alL 2 = [(0, (1, hroom 2 0 P.root)), (1, (2, ⟨#[]⟩))] := by unfold PS.alL; rw [ht]; rfl
  have hp : (P.put (P.alL 2)).T = [(0, (1, fl (hroom 2 0 P.root))), (1, (2, fl ⟨#[]⟩))] := by
    unfold PS.put
    rw [hL, h.T]
    rfl
  have hlen : (P.put (P.alL 2)).T.length ≤ P.room := by rw [hp]; exact hr2
  have e1 : P.alE 2 = 0 := by
    unfold PS.alE PS.chgE
    rw [if_pos (by decide), if_neg (by rw [h.up]; simp), ht, if_pos rfl, if_pos hlen]
  have e2 : P.al 2 = P.put (P.alL 2) := by
    unfold PS.al PS.chg
    rw [if_pos (by decide), if_neg (by rw [h.up]; simp), ht, if_pos rfl, if_pos hlen]
  have e3 : P.alN 2 = 1 := by
    unfold PS.alN
    rw [if_pos e1, ht]
  refine ⟨e1, e3, ?_⟩
  rw [e2]
  refine ⟨by rw [hp]; rfl, rfl, rfl, rfl, rfl, rfl, rfl, rfl, ?_⟩
  unfold PS.view
  rw [hp]
  exact fl_full _ (hroom_size 2 0 P.root)
end
section
variable {N : Nat} {s : St}
theorem run_live (hd : s.down = false) (hf : s.fuse < 0) (ops : List Dop) (ho : ∀ o ∈ ops, fitD N o) : (runW N ops (0, s)).1 = 0 ∧ (runW N ops (0, s)).2.fuse = s.fuse ∧ (runW N ops (0, s)).2.down = false := by
  have h1 := runW_up N ops s hd ho
  obtain ⟨e0, ef⟩ := h1.2 hf
  refine ⟨e0, ef, ?_⟩
  rcases h1.1 with h | h
  · exact h.2
  · omega
theorem prep_live (h : Sd N s) (hd : s.down = false) (hf : s.fuse < 0) (at_ q k en : Nat) (hat : at_ < N) (hen : en ≤ N) : (prepW N s at_ q k en).1 = 0 ∧ (prepW N s at_ q k en).2.fuse = s.fuse ∧ (prepW N s at_ q k en).2.down = false ∧ Sd N (prepW N s at_ q k en).2 := by
  have h1 := run_live hd hf (umOps s at_ q) (umFit h hat)
  have hr := prep_ran h hd at_ q k en hat hen
  have hsd := runW_sd N (umOps s at_ q) s h (umFit h hat)
  refine ⟨?_, ?_, ?_, hr.sd⟩
  all_goals rw [prepW_eq rfl]
  all_goals
    obtain ⟨x, hx⟩ : ∃ x, x = runW N (umOps s at_ q) (0, s) := ⟨_, rfl⟩
    rw [← hx] at h1 hsd ⊢
    by_cases c : x.1 = 0 ∧ at_ + k < en
    · have h2 := run_live (N := N) h1.2.2 (by rw [h1.2.1]; exact hf) (umOps x.2 (at_ + k) ((q + 1) % 18446744073709551616)) (umFit hsd (by omega))
      rw [if_pos c]
      first | exact h2.1 | exact h2.2.1.trans h1.2.1 | exact h2.2.2
    · rw [if_neg c]
      first | exact h1.1 | exact h1.2.1 | exact h1.2.2
/-- add, where there is room and no fuse -/
theorem add_live (h : Sd N s) (hd : s.down = false) (hf : s.fuse < 0) {l : LogS} (hk : l.Ok) (hlf : l.failed = false) (hfr : l.from_ = 2) (hN : 2 + l.size ≤ N) {ps : List ByteArray} (hp : arePg ps = true) (h64 : ps.length ≤ 64) (hle : 1 + 9 * ps.length ≤ l.left) :
    (addW N s l ps).1 = 0 ∧ (addW N s l ps).2.1.fuse = s.fuse ∧ (addW N s l ps).2.1.down = false ∧ (addW N s l ps).2.1.wr = [] ∧ (addW N s l ps).2.2 = l.plus ps.length := by
  have hl : l.left = l.size - l.used := by unfold LogS.left; rw [hlf]; simp
  have hu := hk.used
  obtain ⟨p1, p2, p3, p4⟩ := prep_live h hd hf (2 + l.used) l.next (1 + 9 * ps.length) (2 + l.size) (by omega) hN
  unfold addW
  rw [if_pos hle]
  obtain ⟨x, hx⟩ : ∃ x, x = prepW N s (2 + l.used) l.next (1 + 9 * ps.length) (2 + l.size) := ⟨_, rfl⟩
  rw [← hx] at p1 p2 p3 p4 ⊢
  rw [if_pos p1]
  have hsz : ∀ p ∈ ps, p.size = 512 := (of_decide_eq_true hp).2
  have r := run_live (N := N) p3 (by rw [p2]; exact hf) (txnOps (l.from_ + l.used) ps l.next) (txnOps_fit N _ ps _ hsz (by omega))
  have ew : (runW N (txnOps (l.from_ + l.used) ps l.next) (0, x.2)).2.wr = [] := by
    have e : txnOps (l.from_ + l.used) ps l.next = (opsTo (l.from_ + l.used) ps ps.length ++ [none, some (l.from_ + l.used, markB l.next ps.length)]) ++ [none] := by
      unfold txnOps
      rw [List.append_assoc]
      rfl
    have r0 := r.1
    rw [e] at r0 ⊢
    exact runW_flush N _ x.2 r0
  have ea : ares N x.2 l ps = (0, (runW N (txnOps (l.from_ + l.used) ps l.next) (0, x.2)).2, l.plus ps.length) := by
    unfold ares
    rw [if_neg (by rw [hp]; simp), if_neg (by rw [hlf]; simp), if_neg (by omega), if_neg (by omega), if_pos r.1]
  rw [ea]
  exact ⟨rfl, r.2.1.trans p2, r.2.2, ew, rfl⟩
end
section
variable {P : PS}
/-- Commit, where the log has room and no fuse burns -/
theorem com_live (h : P.Ok) (hs : Sd P.N P.s) (hd : P.s.down = false) (hf : P.s.fuse < 0) (hlf : P.l.failed = false) (hpf : P.failed = false) (h1 : P.T ≠ []) (h64 : P.T.length ≤ 64) (hle : 1 + 9 * P.T.length ≤ P.l.left) (hq : P.seq + 1 ≤ 18446744073709551615) :
    P.comE = 0 ∧ P.com.T = [] ∧ P.com.s.fuse = P.s.fuse ∧ P.com.s.down = false ∧ P.com.s.wr = [] ∧ P.com.l = P.l.plus P.T.length ∧ P.com.failed = false ∧ P.com.seq = P.seq ∧ P.com.N = P.N ∧ P.com.ll = P.ll ∧ P.com.room = P.room ∧ Sd P.N P.com.s ∧ ∀ no, no < P.most → P.com.base no = P.view no := by
  have hp := h.pgs h1
  have hlen := ppgs_len P
  have hsz := h.size
  have hfit := h.fit
  have k := PS.ent_kin h hs hd hlf h1 h64 hq
  obtain ⟨a1, a2, a3, a4, a5⟩ := add_live hs hd hf h.log hlf h.from_ (by omega) hp (by omega) (by omega)
  have eR : P.entR = ((P.addR P.pgs).1, P.addP P.pgs) := by unfold PS.entR; rw [if_pos hle]
  have e0 : P.entR.1 = 0 := by rw [eR]; exact a1
  have eE : P.ent = P.addP P.pgs := by
    unfold PS.ent PS.told
    rw [if_neg (by omega), eR]
  have eC : P.com = P.done := by
    unfold PS.com
    rw [if_neg (by
      rw [hpf]
      intro e
      rcases e with e | e | e
      · cases e
      · exact h1 e
      · omega), if_pos e0]
  have eX : P.comE = 0 := by
    unfold PS.comE
    rw [if_neg (by rw [hpf]; simp), if_neg h1, if_neg (by omega), e0]
  have hb : ∀ no, no < P.most → P.com.base no = P.view no := fun no hno => by rw [eC]; exact done_base h k.1 hno
  have hsd : Sd P.N P.com.s := by rw [eC]; exact k.2.1
  refine ⟨eX, by rw [eC]; rfl, ?_, ?_, ?_, ?_, ?_, ?_, ?_, ?_, ?_, hsd, hb⟩
  all_goals rw [eC]
  · show P.ent.s.fuse = _; rw [eE]; exact a2
  · show P.ent.s.down = _; rw [eE]; exact a3
  · show P.ent.s.wr = _; rw [eE]; exact a4
  · show P.ent.l = _; rw [eE, ← hlen]; exact a5
  · show P.ent.failed = _; rw [eE]; exact hpf
  · show P.ent.seq = _; rw [eE]; rfl
  · show P.ent.N = _; rw [eE]; rfl
  · show P.ent.ll = _; rw [eE]; rfl
  · show P.ent.room = _; rw [eE]; rfl
/-- Checkpoint, where no fuse burns -/
theorem ck_live (h : P.Ok) (hs : Sd P.N P.s) (hd : P.s.down = false) (hf : P.s.fuse < 0) (hlf : P.l.failed = false) (hT : P.T = []) :
    P.empR.1 = 0 ∧ PS.told P.empR.1 P.emp = P.emp ∧ P.emp.s.down = false ∧ P.emp.T = [] ∧ P.emp.s.fuse = P.s.fuse ∧ P.emp.failed = P.failed ∧ P.emp.view 0 = P.view 0 := by
  have hm := h.most
  have r := run_live hd hf (empOps P.ll P.M P.seq P.l.next) (empFit h.M hm.2.2 (by have := h.fit; omega))
  obtain ⟨k, -, -, -⟩ := PS.emp_kin h hs hd hlf
  have e0 : P.empR.1 = 0 := r.1
  have eE : P.emp = { P with s := P.empR.2, seq := P.seq + 1, M := [], l := { P.l with used := 0 } } := if_pos e0
  have hv : P.emp.view 0 = P.view 0 := by
    unfold PS.view
    rw [k.T, k.base 0 (by omega)]
  refine ⟨e0, by unfold PS.told; rw [if_neg (by omega)], ?_, ?_, ?_, ?_, hv⟩
  all_goals rw [eE]
  · exact r.2.2
  · exact hT
  · exact r.2.1
end
end Go.Proofs.YtndhmidgnpobjaaGreatDoor
end
section
namespace Go.Proofs.YtndhmidgnpobjaaGreatDoor
open Go.ChangeShapes Go.WideShapes Go.ChangeAt Go.RowKit
set_option linter.unusedVariables false
set_option linter.unusedSimpArgs false

section
variable {w w' : World} {B Bp d p c N ll room : Nat} {s : St} {P : PS}
theorem DiskO.base (h : DiskO w B d N s) : B ≤ w.heap.size := by
  obtain ⟨sb, mb, sc, wv, hD, b1, -⟩ := h
  have := hD.own.in_
  omega
theorem DiskO.ok (h : DiskO w B d N s) : s.Ok N := by
  obtain ⟨sb, mb, sc, wv, hD, b1, -⟩ := h
  exact hD.ok
theorem ft_below (h0 : PagerAt w B Bp d p c P) (hB : B ≤ w.heap.size) (h : ∀ S, SureB w d S → SureB w' d S ∧ Chg (FT w B S) w w') : Below B w w' := by
  obtain ⟨S, hS, -⟩ := h0.sureB
  exact (h S hS).2.below hB fun q hq => hq.1
theorem pt_below (h : PagerAt w B Bp d p c P) (hc : Chg (Po.PT w Bp) w w') : Below B w w' := by
  obtain ⟨h1, h2, h3⟩ := h.base
  exact hc.below (by omega) fun q hq => by have := hq.1; omega
/-- a disk behind Format -/
def Formed (s' : St) (ll : Nat) : Prop := s'.down = false ∧ s'.fuse < 0 ∧ s'.wr = [] ∧ ∃ s : St, ∀ k, vw s' k = if k = 1 then mkB 1 (mkT 1 ll) else if k < 2 + ll then zB 64 else if k < 2 + ll + 8 then Pg.secB (pgB 1 0 (hroom 1 0 fun _ => 0)) (k - (2 + ll)) else vw s k
theorem fmt_o (h : DiskO w B d N s) (hd : s.down = false) (hf : s.fuse < 0) (hw : s.wr.length ≤ 300000) (h10 : 10 ≤ ll) (hN : ll + 10 ≤ N) : Calls Tryz.prog 14 #[.pointer (some ⟨d, 0, none⟩), .int .i64 (ll : Int)] w fun e w' => e = .returned (.int .i64 0) ∧ Below B w w' ∧ ∃ s', Formed s' ll ∧ DiskO w' B d N s' := by
  have hB := h.base
  obtain ⟨sb, mb, sc, wv, hD, b1, b2, b3, b4⟩ := h
  obtain ⟨e0, k1, k2, k3, k4, k5⟩ := fmt_state (Sd.of hD.ok) hd hf h10 hN
  refine (fmt_any hD ll h10 hN hw).mono ?_
  rintro e w' ⟨rfl, wv', hD', hc, hv⟩
  refine ⟨by rw [e0], ?_, _, ⟨k1, by rw [k2]; exact hf, k3, s, k5⟩, sb, mb, sc, wv', hD', b1, b2, b3, fun g hg => ?_⟩
  · exact hc.below hB fun q hq => by
      rcases hq with e | e | e | e
      · have e : q = d := e
        omega
      · have e : q = sb := e
        omega
      · have e : q = mb := e
        omega
      · exact b4 q e
  · rcases hv with e | e | ⟨g', e, hg'⟩
    · exact b4 g (e ▸ hg)
    · rw [e] at hg; cases hg
    · rw [e] at hg
      injection hg with hg
      omega
theorem open_o (h : DiskO w B d N s) (hF : Formed s ll) (h10 : 10 ≤ ll) (hN : ll + 10 ≤ N) (r : Nat) (h2 : 2 ≤ r) (h6 : r ≤ 65536) : Calls Tryz.prog 15 #[.pointer (some ⟨d, 0, none⟩), .int .i64 (r : Int)] w fun e w' => ∃ P p Bp, e = .returned (.tuple #[.pointer (some ⟨p, 0, none⟩), .int .i64 0]) ∧ Newp P N ll r ∧ PagerAt w' B Bp d p 2 P ∧ Below w.heap.size w w' := by
  have hok := h.ok
  obtain ⟨sb, mb, sc, wv, hD, b1, b2, b3, b4⟩ := h
  obtain ⟨f1, f2, f3, s0, hv⟩ := hF
  obtain ⟨o1, o2, o3⟩ := fmt_opn (s := s0) f1 h10 hN hok.max r hv
  refine (popen_any hD f1 b1 b2 b3 b4 r h2 h6).mono ?_
  rintro e w' ⟨⟨P, p, Bp, hP, rfl, hBp, hA⟩ | ⟨hn, -⟩, hb⟩
  · rw [o1] at hP
    injection hP with hP
    subst hP
    exact ⟨_, p, Bp, rfl, ⟨rfl, rfl, rfl, rfl, o3, rfl, rfl, rfl, f1, f3, o2, f2⟩, hA, hb⟩
  · rw [o1] at hn; cases hn
theorem PagerAt.sd (h : PagerAt w B Bp d p c P) : Sd P.N P.s := Sd.of h.disk.ok
theorem awk_alloc (h : PagerAt w B Bp d p c P) (hn : Newp P N ll room) (h2 : 2 ≤ (N - 2 - ll) / 8) (hc : c + 6 < 1000000) : Calls Tryz.prog 17 #[.pointer (some ⟨p, 0, none⟩), .int .i64 2] w fun e w' => e = .returned (.tuple #[.int .i64 1, .int .i64 0]) ∧ PagerAt w' B Bp d p (c + 6) (P.al 2) ∧ Below B w w' := by
  obtain ⟨e1, e2, -⟩ := hn.al h.ok h2
  have := alloc_any' h 2 hc
  rw [e1, e2] at this
  exact this.mono fun e w' ⟨a1, a2, a3⟩ => ⟨a1, a2, pt_below h a3⟩
theorem awk_commit (h : PagerAt w B Bp d p c (P.al 2)) (hk : P.Ok) (hn : Newp P N ll room) (h2 : 2 ≤ (N - 2 - ll) / 8) (hl : 19 ≤ ll) (hc : c + 2 < 1000000) : Calls Tryz.prog 22 #[.pointer (some ⟨p, 0, none⟩)] w fun e w' => e = .returned (.int .i64 0) ∧ (∃ Q, PagerAt w' B Bp d p (c + 2) Q ∧ Q.T = [] ∧ Q.s.fuse < 0 ∧ Q.s.down = false ∧ Q.s.wr = [] ∧ Q.l.failed = false ∧ Q.failed = false ∧ Q.seq = 1 ∧ Q.used = 2) ∧ Below B w w' := by
  obtain ⟨-, -, a1, a2, a3, a4, a5, a6, a7, a8, a9⟩ := hn.al hk h2
  obtain ⟨h1, h3, h4⟩ := h.base
  have hm := h.ok.most
  have hlf : (P.al 2).l.failed = false := by rw [a3, hn.l]
  have hup : (P.al 2).s.down = false := by rw [a2]; exact hn.up
  have hpf : (P.al 2).failed = false := by rw [a6]; exact hn.failed
  have hleft : 1 + 9 * (P.al 2).T.length ≤ (P.al 2).l.left := by
    rw [a1, a3, hn.l]
    show 1 + 9 * 2 ≤ ll - 0
    omega
  have hT : (P.al 2).T ≠ [] := fun e => by rw [e] at a1; cases a1
  have hq : (P.al 2).seq + 1 ≤ 18446744073709551615 := by rw [a5, hn.seq]; omega
  obtain ⟨k1, k2, k3, k4, k5, k6, k7, k8, k9, -, -, -, kv⟩ := com_live h.ok h.sd hup (by rw [a2]; exact hn.fuse) hlf hpf hT (by omega) hleft hq
  have CC := commit_live h hpf hup hlf hq (by rw [a2, hn.wr]; exact Nat.zero_le _) (by omega)
  rw [k1, a1] at CC
  refine CC.mono fun e w' ⟨b1, b2, b3⟩ => ⟨b1, ⟨_, b2, k2, ?_, k4, k5, ?_, k7, ?_, ?_⟩, ft_below h (by omega) b3⟩
  · rw [k3, a2]; exact hn.fuse
  · rw [k6]; exact hlf
  · rw [k8, a5]; exact hn.seq
  · have hv : (P.al 2).com.view 0 = (P.al 2).view 0 := by
      have := kv 0 (by omega)
      unfold PS.view at this ⊢
      rw [k2]
      exact this
    unfold PS.used
    rw [hv, a9]
    exact hroom_U 2 0 _ (by omega)
theorem awk_check {Q : PS} (h : PagerAt w B Bp d p c Q) (h1 : Q.T = []) (h2 : Q.s.fuse < 0) (h3 : Q.s.down = false) (h4 : Q.s.wr = []) (h5 : Q.l.failed = false) (h6 : Q.failed = false) (h7 : Q.seq = 1) : Calls Tryz.prog 24 #[.pointer (some ⟨p, 0, none⟩)] w fun e w' => e = .returned (.int .i64 0) ∧ (∃ Q', PagerAt w' B Bp d p c Q' ∧ Q'.s.down = false ∧ Q'.used = Q.used) ∧ Below B w w' := by
  obtain ⟨g1, g3, g4⟩ := h.base
  obtain ⟨k1, k2, k3, k4, k5, k6, k7⟩ := ck_live h.ok h.sd h3 h2 h5 h1
  have CC := check_live h h6 h1 h3 h5 (by omega) (by rw [h4]; exact Nat.zero_le _)
  rw [k2, k1] at CC
  exact CC.mono fun e w' ⟨b1, b2, b3⟩ => ⟨b1, ⟨_, b2, k3, by unfold PS.used; rw [k7]⟩, ft_below h (by omega) b3⟩
theorem awk_pages (h : PagerAt w B Bp d p c P) (hd : P.s.down = false) (u : Nat) (hu : P.used = u) (hc : c + 2 < 1000000) : Calls Tryz.prog 37 #[.pointer (some ⟨p, 0, none⟩)] w fun e w' => e = .returned (.int .i64 (u : Int)) ∧ PagerAt w' B Bp d p (c + 2) P ∧ Below B w w' := by
  have := pages_up h hd hc
  rw [hu] at this
  exact this.mono fun e w' ⟨a1, a2, a3⟩ => ⟨a1, a2, pt_below h a3⟩
theorem new_o (n : Nat) (h1 : 1 ≤ n) (h2 : n ≤ 65536) (w : World) : Calls Tryz.prog 13 #[.int .i64 (n : Int)] w fun e w' => ∃ d, e = .returned (.tuple #[.pointer (some ⟨d, 0, none⟩), .int .i64 0]) ∧ DiskO w' w.heap.size d n (fresh n) ∧ Below w.heap.size w w' := by
  refine (new_any w n h1 h2).mono ?_
  rintro e w' ⟨d, sb, mb, rfl, hD, hb, b1, b2, b3⟩
  exact ⟨d, rfl, ⟨sb, mb, _, _, hD, b1, b2, b3, fun g hg => by cases hg⟩, hb⟩
end
set_option maxRecDepth 10000 in
set_option maxHeartbeats 1000000 in
theorem paw_any (w : World) : Calls Tryz.prog 11 #[] w fun e w' => e = .returned (.bool true) ∧ Below w.heap.size w w' := by
  have HN := Lib.hid (new_o 100 (by decide) (by decide) w)
  go_enter Tryz.func11, Tryz.ntmps11
  go_upto_region 2 with (go_at_call 13; refine HN.out.mono ?_; rintro e w1 ⟨d, rfl, hd1, hb1⟩; have D1 := Lib.hid hd1; have B1 := Lib.hid hb1; clear hd1 hb1)
  go_upto_region 3 with (go_at_call 14; refine (fmt_o (ll := 20) D1.out rfl (by decide) (by decide) (by decide) (by decide)).mono ?_; rintro e w2 ⟨rfl, hb2, s2, hF2, hd2⟩; have D2 := Lib.hid hd2; have F2 := Lib.hid hF2; have B2 := Lib.hid (B1.out.trans hb2); clear hd2 hF2 hb2)
  go_upto_region 4 with (go_at_call 15; refine (open_o D2.out F2.out (by decide) (by decide) 8 (by decide) (by decide)).mono ?_; rintro e w3 ⟨P, p, Bp, rfl, hn, hp3, hb3⟩; have P3 := Lib.hid hp3; have N3 := Lib.hid hn; have B3 := Lib.hid (then_ B2.out hb3 B2.out.size); clear hp3 hn hb3)
  have HM := Lib.hid (show Calls Tryz.prog 38 #[.pointer (some ⟨p, 0, none⟩)] w3 fun e w' => e = .returned (.int .i64 9) ∧ Below w3.heap.size w3 w' from by
    have := pmost_any P3.out
    rw [N3.out.most] at this
    exact this)
  have OK3 := Lib.hid P3.out.ok
  go_upto_region 6 with (first
    | (go_at_call 38; refine HM.out.mono ?_; rintro e w4 ⟨rfl, hb4⟩; have P4 := Lib.hid (P3.out.below hb4); have B4 := Lib.hid (then_ B3.out hb4 B3.out.size); clear hb4)
    | (go_at_call 37; refine (awk_pages P4.out N3.out.up 1 N3.out.used (by decide)).mono ?_; rintro e w5 ⟨rfl, hp5, hb5⟩; have P5 := Lib.hid hp5; have B5 := Lib.hid (B4.out.trans hb5); clear hp5 hb5))
  go_upto_region 7 with (go_at_call 17; refine (awk_alloc P5.out N3.out (by decide) (by decide)).mono ?_; rintro e w6 ⟨rfl, hp6, hb6⟩; have P6 := Lib.hid hp6; have B6 := Lib.hid (B5.out.trans hb6); clear hp6 hb6)
  go_wp2_with (first
    | (go_at_call 22; refine (awk_commit P6.out OK3.out N3.out (by decide) (by decide) (by decide)).mono ?_; rintro e w7 ⟨rfl, ⟨Q, hp7, k1, k2, k3, k4, k5, k6, k7, k8⟩, hb7⟩; have K7 := Lib.hid (And.intro hp7 (And.intro k1 (And.intro k2 (And.intro k3 (And.intro k4 (And.intro k5 (And.intro k6 (And.intro k7 k8)))))))); have B7 := Lib.hid (B6.out.trans hb7); clear hp7 hb7 k1 k2 k3 k4 k5 k6 k7 k8)
    | (go_at_call 24; refine (awk_check K7.out.1 K7.out.2.1 K7.out.2.2.1 K7.out.2.2.2.1 K7.out.2.2.2.2.1 K7.out.2.2.2.2.2.1 K7.out.2.2.2.2.2.2.1 K7.out.2.2.2.2.2.2.2.1).mono ?_; rintro e w8 ⟨rfl, ⟨Q2, hp8, j1, j2⟩, hb8⟩; have K8 := Lib.hid (And.intro hp8 (And.intro j1 (j2.trans K7.out.2.2.2.2.2.2.2.2))); have B8 := Lib.hid (B7.out.trans hb8); clear hp8 hb8 j1 j2)
    | (go_at_call 37; refine (awk_pages K8.out.1 K8.out.2.1 2 K8.out.2.2 (by decide)).mono ?_; rintro e w9 ⟨rfl, hp9, hb9⟩; have B9 := Lib.hid (B8.out.trans hb9); clear hp9 hb9))
  go_ret
  exact ⟨rfl, B9.out⟩
end Go.Proofs.YtndhmidgnpobjaaGreatDoor
end
section
namespace Go.Proofs.YtndhmidgnpobjaaGreatDoor
open Go.ChangeShapes Go.WideShapes Go.ChangeAt Go.RowKit
set_option linter.unusedVariables false
set_option linter.unusedSimpArgs false

theorem load_no (w : World) (s : ByteArray) (h : ¬ s.size % 64 = 0 ∨ s.size = 0 ∨ 65536 * 64 < s.size) (hm : s.size ≤ 9223372036854775807) :
    Calls Tryz.prog 40 #[.string s] w fun e w' => e = .returned (.tuple #[.pointer none, .int .i64 1]) ∧ w = w' := by
  by_cases c : s.size % 64 = 0
  · have HI := isCount_any ((s.size : Int) / 64) w (wf_mk (by omega) (by omega))
    have e1 : (decide (1 ≤ (s.size : Int) / 64) && decide ((s.size : Int) / 64 ≤ 65536)) = false := by simp; omega
    rw [e1] at HI
    replace HI := Lib.hid HI
    have t1 : ((s.size : Int) % 64 == 0) = true := by simp; omega
    have t1' : ((s.size : Int) % 64 != 0) = false := by simp; omega
    clear e1 c h
    go_enter Tryz.func40, Tryz.ntmps40
    go_wp2_with (first | (go_at_call 57; refine HI.out.mono ?_; rintro e w' ⟨rfl, rfl⟩))
    go_ret2
    exact ⟨rfl, rfl⟩
  · have t1 : ((s.size : Int) % 64 == 0) = false := by simp; omega
    have t1' : ((s.size : Int) % 64 != 0) = true := by simp; simp at t1; exact t1
    clear c h
    go_enter Tryz.func40, Tryz.ntmps40
    go_wp2
    go_ret2
    exact ⟨rfl, rfl⟩
end Go.Proofs.YtndhmidgnpobjaaGreatDoor
end
section
namespace Go.Proofs.YtndhmidgnpobjaaGreatDoor
open Go.ChangeShapes Go.WideShapes Go.ChangeAt Go.RowKit
set_option linter.unusedVariables false
set_option linter.unusedSimpArgs false

section
variable {w w' : World} {B B0 Bp d p c : Nat} {P : PS}
end
end Go.Proofs.YtndhmidgnpobjaaGreatDoor
end
