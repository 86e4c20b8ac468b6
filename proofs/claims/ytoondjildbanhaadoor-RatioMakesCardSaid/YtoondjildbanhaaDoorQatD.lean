
/- The contract of croftref04.Make: of any two numbers that fit it is what mkP, mkQ, mkR say. -/
import Derived.Test.YtoondjildbanhaaDoorQatB
namespace Go.Proofs.YtoondjildbanhaaDoor
open Go.ChangeShapes Go.WideShapes Go.ChangeAt Go.RowKit
set_option linter.unusedVariables false
set_option linter.unusedSimpArgs false

theorem fit_20 {z : Int} (h : Fit z) : z.natAbs < 65536 ^ 20 := by
  have h1 := h.lo
  have h2 := h.hi
  have : (65536 : Nat) ^ 20 = 2135987035920910082395021706169552114602704522356652769947041607822219725780640550022962086936576 := by decide
  omega
theorem num_len {w : World} {S : Nat → Prop} {s : Bool} {a : Option Addr} {l c : Nat} {z : Int} (hv : NumP w S (.agg #[.bool s, .slice a l c]) z) (hz : z ≠ 0) : ((l : Int) == 0) = false := by
  obtain ⟨a', l', c', e, r⟩ := hv
  obtain ⟨-, rfl, rfl, rfl⟩ : s = _ ∧ a = a' ∧ l = l' ∧ c = c' := by simpa using e
  have h1 := r.hlen
  have h2 := vl_digs z.natAbs
  rw [beq_eq_false_iff_ne]
  intro h3
  have h4 : digs z.natAbs = [] := List.length_eq_zero_iff.1 (by omega)
  rw [h4] at h2
  simp [vl] at h2
  omega
theorem num_len0 {w : World} {S : Nat → Prop} {s : Bool} {a : Option Addr} {l c : Nat} (hv : NumP w S (.agg #[.bool s, .slice a l c]) 0) : ((l : Int) == 0) = true := by
  obtain ⟨a', l', c', e, r⟩ := hv
  obtain ⟨-, rfl, rfl, rfl⟩ : s = _ ∧ a = a' ∧ l = l' ∧ c = c' := by simpa using e
  have h1 := r.hlen
  have h2 : digs (0 : Int).natAbs = [] := by decide +kernel
  rw [h2] at h1
  simp at h1
  simp [← h1]
theorem made_mk (S : Nat → Prop) (v v' : Value) (n d : Int) (w : World) (hn : NumP w S v n) (hd : NumP w S v' d) (hd0 : d ≠ 0) (fn : Fit n) (fd : Fit d) :
    Calls Tryd.prog 42 #[v, v'] w fun e w' => e = .returned (.tuple #[.agg #[.int .u64 (L0 (mkP n d)), .int .u64 (L1 (mkP n d)), .int .u64 (L2 (mkP n d)), .int .u64 (L3 (mkP n d)), .int .u64 (L0 (mkQ n d)), .int .u64 (L1 (mkQ n d)), .int .u64 (L2 (mkQ n d)), .int .u64 (L3 (mkQ n d))], .int .i64 (mkR n d)]) ∧ Below w.heap.size w w' := by
  have hs : d.tdiv (gz n d) < 0 ↔ d < 0 := by
    have g0 := gz_pos (n := n) hd0
    have e := tdiv_dvd (gz_dvd_right n d)
    constructor
    · intro h
      refine Classical.byContradiction fun h2 => ?_
      have := Int.tdiv_nonneg (show 0 ≤ d by omega) (Int.le_of_lt g0)
      omega
    · intro h
      refine Classical.byContradiction fun h2 => ?_
      have := Int.mul_nonneg (show 0 ≤ d.tdiv (gz n d) by omega) (Int.le_of_lt g0)
      omega
  have h3 : (if d.tdiv (gz n d) < 0 then -(n.tdiv (gz n d)) else n.tdiv (gz n d)) = mkN n d := by
    unfold mkN
    by_cases h : d < 0
    · rw [if_pos h, if_pos (hs.2 h)]
    · rw [if_neg h, if_neg (fun k => h (hs.1 k))]
  have h4 : (if d.tdiv (gz n d) < 0 then -(d.tdiv (gz n d)) else d.tdiv (gz n d)) = mkD n d := by
    unfold mkD
    by_cases h : d < 0
    · rw [if_pos h, if_pos (hs.2 h)]
    · rw [if_neg h, if_neg (fun k => h (hs.1 k))]
  refine made_aux S v v' n d w hn hd hd0 (fit_20 fn) (fit_20 fd) (gz n d) _ _ (mkN n d) (mkD n d) rfl rfl rfl h3 h4 _ (Lib.hid ?_)
  unfold mkP mkQ mkR
  have hB : mkB n d = (fb (gz n d) && fb (mkN n d) && fb (mkD n d)) := by unfold mkB; simp [hd0]
  rw [← hB, if_neg hd0]
  cases mkB n d <;> rfl

theorem make_ret (tmps : Array Value) (w : World) (p : Nat) (x0 x1 x2 x3 x4 x5 x6 x7 v : Value) (h4 : tmps[4]? = some (.pointer (some ⟨p, 0, none⟩))) (h5 : tmps[5]? = some v) (hO : Own w p 38 #[x0, x1, x2, x3, x4, x5, x6, x7]) :
    (results Tryd.f18 tmps).run Tryd.prog w = .ok (.tuple #[.agg #[x0, x1, x2, x3, x4, x5, x6, x7], v]) w := by
  obtain ⟨c, _, _⟩ := hO.at_
  have _ := h5
  simp [results, Tryd.results18, go_sem, h4, h5, c]

set_option maxHeartbeats 8000000 in
set_option maxRecDepth 20000 in
theorem rmake_yes (n d : Int) (hn : Fit n) (hd : Fit d) (h0 : d ≠ 0) (w : World) :
    Calls Tryd.prog 18 #[.agg #[.int .u64 (L0 n), .int .u64 (L1 n), .int .u64 (L2 n), .int .u64 (L3 n)], .agg #[.int .u64 (L0 d), .int .u64 (L1 d), .int .u64 (L2 d), .int .u64 (L3 d)]] w fun e w' => e = .returned (.tuple #[.agg #[.int .u64 (L0 (mkP n d)), .int .u64 (L1 (mkP n d)), .int .u64 (L2 (mkP n d)), .int .u64 (L3 (mkP n d)), .int .u64 (L0 (mkQ n d)), .int .u64 (L1 (mkQ n d)), .int .u64 (L2 (mkQ n d)), .int .u64 (L3 (mkQ n d))], .int .i64 (mkR n d)]) ∧ Below w.heap.size w w' := by
  have FN := Lib.hid (fun w => of_num n hn w)
  have FD := Lib.hid (fun w => of_num d hd w)
  have MD := Lib.hid (fun S v v' w hv hv' => made_mk S v v' n d w hv hv' h0 hn hd)
  have H0 := Lib.hid h0
  obtain ⟨P, hP⟩ : ∃ P, P = mkP n d := ⟨_, rfl⟩
  obtain ⟨Q, hQ⟩ : ∃ Q, Q = mkQ n d := ⟨_, rfl⟩
  obtain ⟨R, hR⟩ : ∃ R, R = mkR n d := ⟨_, rfl⟩
  rw [← hP, ← hQ, ← hR] at MD ⊢
  clear hn hd h0 hP hQ hR
  go_enter Tryd.func18, Tryd.ntmps18
  go_upto_region 1 with fail
  go_name_world W0 hW0
  have OA : Own W0 w.heap.size 23 #[.int .u64 (L0 n), .int .u64 (L1 n), .int .u64 (L2 n), .int .u64 (L3 n)] := hW0 ▸ (by repeat' (first | (with_reducible assumption) | (with_reducible refine Own.drawnN ?_ _) | (with_reducible refine Own.drawn ?_) | (with_reducible refine Own.made_at ?_; first | rfl | (simp; done) | omega | (simp; omega)) | (with_reducible refine Own.more ?_ _) | (with_reducible refine Own.apart ?_ ?_ _ _; rotate_left; first | omega | (simp; done) | (simp; omega)) | (refine Own.put ?_ _ _)))
  have OB : Own W0 (w.heap.size + 1) 23 #[.int .u64 (L0 d), .int .u64 (L1 d), .int .u64 (L2 d), .int .u64 (L3 d)] := hW0 ▸ (by repeat' (first | (with_reducible assumption) | (with_reducible refine Own.drawnN ?_ _) | (with_reducible refine Own.drawn ?_) | (with_reducible refine Own.made_at ?_; first | rfl | (simp; done) | omega | (simp; omega)) | (with_reducible refine Own.more ?_ _) | (with_reducible refine Own.apart ?_ ?_ _ _; rotate_left; first | omega | (simp; done) | (simp; omega)) | (refine Own.put ?_ _ _)))
  have OR : Own W0 (w.heap.size + 2) 38 #[.int .u64 0, .int .u64 0, .int .u64 0, .int .u64 0, .int .u64 0, .int .u64 0, .int .u64 0, .int .u64 0] := hW0 ▸ (by
    refine Own.as (cs := #[.int .u64 0, .int .u64 0, .int .u64 0, .int .u64 0, .int .u64 0, .int .u64 0, .int .u64 0, .int .u64 0]) ?_ rfl
    repeat' (first | (with_reducible assumption) | (with_reducible refine Own.drawnN ?_ _) | (with_reducible refine Own.drawn ?_) | (with_reducible refine Own.made_at ?_; first | rfl | (simp; done) | omega | (simp; omega)) | (with_reducible refine Own.more ?_ _) | (with_reducible refine Own.apart ?_ ?_ _ _; rotate_left; first | omega | (simp; done) | (simp; omega)) | (refine Own.put ?_ _ _)))
  have hB : Below w.heap.size w W0 := hW0 ▸ (by repeat' (first | (with_reducible exact Below.refl _ _) | (with_reducible assumption) | (with_reducible refine below_drewN ?_ _) | (with_reducible refine Below.drew ?_) | (with_reducible refine Below.alloc ?_ ?_ _) | (with_reducible refine Below.setCell ?_ ?_ _) | (with_reducible refine then_ ?_ (by with_reducible assumption) ?_) | (with_reducible exact Nat.le_refl _) | (with_reducible exact Nat.le_succ _) | (with_reducible exact Nat.le_succ_of_le (by with_reducible assumption)) | omega | (simp; done) | (simp; omega) | (exact Nat.le_succ _) | (exact Nat.le_succ_of_le (by with_reducible assumption))))
  clear hW0
  obtain ⟨P1, P2, P3⟩ := OB.at_
  have sz0 := OR.in_
  go_upto_region 3 with (go_at_call 41; refine (FD.out _).mono ?_; rintro e w1 ⟨v, rfl, hv, hb⟩; obtain ⟨s, a, l, c, rfl⟩ := hv.shape; have hl := num_len hv H0.out; have ND := num_digits s a l c w1; replace hv := Lib.hid hv; clear P1 P2 P3)
  have OA1 := OA.keep hb
  have OB1 := OB.keep hb
  have OR1 := OR.keep hb
  have hB1 := then_ hB hb hB.size
  have sz1 := OR1.in_
  clear hl ND hv OA OB OR hB hb sz0
  refine wp_region_seq (fun W => Own W w.heap.size 23 #[.int .u64 (L0 n), .int .u64 (L1 n), .int .u64 (L2 n), .int .u64 (L3 n)] ∧ Own W (w.heap.size + 1) 23 #[.int .u64 (L0 d), .int .u64 (L1 d), .int .u64 (L2 d), .int .u64 (L3 d)]) (0 :: 2 :: 5 :: 6 :: 8 :: []) (0 :: 2 :: []) (0 :: 2 :: 1 :: 3 :: 4 :: 5 :: 6 :: 7 :: 8 :: []) (by kernel_rfl) (by kernel_rfl) rfl (by kernel_rfl) rfl (⟨OA1.drawn, OB1.drawn⟩) (by simp only [picked, List.filterMap_cons, List.filterMap_nil, List.getElem?_cons_zero, List.getElem?_cons_succ, Option.map_some]; exact rfl) ?_
  iterate 2
    refine seq_want (v := ?_) rfl rfl (fun W hS => ?_) ?_
    rotate_left
    · first
        | (conv => lhs; simp [go_sem]
           first | done | exact rfl)
        | (have hS := hS rfl
           obtain ⟨q1, q2⟩ := hS
           obtain ⟨q3, q4, q5⟩ := q1.at_
           obtain ⟨q6, q7, q8⟩ := q2.at_
           conv => lhs; simp [go_sem, *]
           first | done | exact rfl)
    simp only [Act.put, List.setIfInBounds_toArray, List.set_cons_zero, List.set_cons_succ]
  refine seq_on rfl rfl fun K hK => ?_
  go_wp2_with (go_at_call 41; refine (FN.out _).mono ?_; rintro e w2 ⟨v2, rfl, hv2, hb2⟩)
  have OA2 := OA1.drawn.keep hb2
  have OB2 := OB1.drawn.keep hb2
  have OR2 := OR1.drawn.keep hb2
  have hB2 := then_ hB1.drew hb2 hB1.size
  refine hK _ _ ⟨OA2, OB2⟩ ?_
  clear hK K
  have hz1 : w1.drew.heap.size = w1.heap.size := rfl
  have hz2 := hb2.size
  refine seq_on rfl rfl fun K hK => ?_
  go_wp2_with (go_at_call 41; refine (FD.out _).mono ?_; rintro e w3 ⟨v3, rfl, hv3, hb3⟩)
  have OA3 := OA2.keep hb3
  have OB3 := OB2.keep hb3
  have OR3 := OR2.keep hb3
  have hB3 := then_ hB2 hb3 hB2.size
  have hv23 := hv2.keep hb3
  have hz3 := hb3.size
  have M2 := Lib.hid (MD.out (fun b => w.heap.size + 3 ≤ b) _ _ w3 (hv23.mono fun b h1 h2 => by omega) (hv3.mono fun b h1 h2 => by omega))
  refine hK _ _ ⟨OA3, OB3⟩ ?_
  clear hK K hv2 hv23 hv3
  refine seq_on rfl rfl fun K hK => ?_
  go_wp2_with (go_at_call 42; refine M2.out.mono ?_; rintro e w4 ⟨rfl, hb4⟩)
  have OA4 := OA3.keep hb4
  have OB4 := OB3.keep hb4
  have OR4 := OR3.keep hb4
  have hB4 := then_ hB3 hb4 hB3.size
  refine hK _ _ ⟨OA4, OB4⟩ ?_
  clear hK K M2 OA1 OB1 OR1 OA2 OB2 OR2 OA3 OB3 OR3 hB1 hB2 hB3
  iterate 2
    refine seq_want (v := ?_) rfl rfl (fun W hS => ?_) ?_
    rotate_left
    · conv => lhs; simp [go_sem]
      first | done | exact rfl
    simp only [Act.put, List.setIfInBounds_toArray, List.set_cons_zero, List.set_cons_succ]
  refine seq_last rfl rfl (by kernel_rfl) rfl fun K hK => ?_
  obtain ⟨r1, r2, r3⟩ := OR4.at_
  go_wp2
  refine hK _ _ ?_
  clear hK K r1 r2 r3
  iterate 1
    refine seq_want (v := ?_) rfl rfl (fun W hS => ?_) ?_
    rotate_left
    · conv => lhs; simp [go_sem]
      first | done | exact rfl
    simp only [Act.put, List.setIfInBounds_toArray, List.set_cons_zero, List.set_cons_succ]
  refine seq_end ?_
  have O5 := only_Q (w0 := w) (v0 := .int .u64 (L0 P)) (v1 := .int .u64 (L1 P)) (v2 := .int .u64 (L2 P)) (v3 := .int .u64 (L3 P)) (v4 := .int .u64 (L0 Q)) (v5 := .int .u64 (L1 Q)) (v6 := .int .u64 (L2 Q)) (v7 := .int .u64 (L3 Q)) OR4 rfl
  have OR5 := O5.1
  have hB5 := O5.2.2 w.heap.size (by omega) hB4
  clear O5
  go_wp2
  refine bodyPost_ret (make_ret _ _ _ _ _ _ _ _ _ _ _ _ rfl rfl OR5) rfl ⟨rfl, hB5⟩

set_option maxHeartbeats 8000000 in
set_option maxRecDepth 20000 in
theorem rmake_zero (n : Int) (hn : Fit n) (w : World) :
    Calls Tryd.prog 18 #[.agg #[.int .u64 (L0 n), .int .u64 (L1 n), .int .u64 (L2 n), .int .u64 (L3 n)], .agg #[.int .u64 (L0 0), .int .u64 (L1 0), .int .u64 (L2 0), .int .u64 (L3 0)]] w fun e w' => e = .returned (.tuple #[.agg #[.int .u64 (L0 0), .int .u64 (L1 0), .int .u64 (L2 0), .int .u64 (L3 0), .int .u64 (L0 0), .int .u64 (L1 0), .int .u64 (L2 0), .int .u64 (L3 0)], .int .i64 4]) ∧ Below w.heap.size w w' := by
  have FD := Lib.hid (fun w => of_num 0 ⟨by decide, by decide⟩ w)
  clear hn
  go_enter Tryd.func18, Tryd.ntmps18
  go_upto_region 1 with fail
  go_name_world W0 hW0
  have OB : Own W0 (w.heap.size + 1) 23 #[.int .u64 (L0 0), .int .u64 (L1 0), .int .u64 (L2 0), .int .u64 (L3 0)] := hW0 ▸ (by
    refine Own.as (cs := #[.int .u64 (L0 0), .int .u64 (L1 0), .int .u64 (L2 0), .int .u64 (L3 0)]) ?_ rfl
    repeat' (first | (with_reducible assumption) | (with_reducible refine Own.drawnN ?_ _) | (with_reducible refine Own.drawn ?_) | (with_reducible refine Own.made_at ?_; first | rfl | (simp; done) | omega | (simp; omega)) | (with_reducible refine Own.more ?_ _) | (with_reducible refine Own.apart ?_ ?_ _ _; rotate_left; first | omega | (simp; done) | (simp; omega)) | (refine Own.put ?_ _ _)))
  have OR : Own W0 (w.heap.size + 2) 38 #[.int .u64 0, .int .u64 0, .int .u64 0, .int .u64 0, .int .u64 0, .int .u64 0, .int .u64 0, .int .u64 0] := hW0 ▸ (by
    refine Own.as (cs := #[.int .u64 0, .int .u64 0, .int .u64 0, .int .u64 0, .int .u64 0, .int .u64 0, .int .u64 0, .int .u64 0]) ?_ rfl
    repeat' (first | (with_reducible assumption) | (with_reducible refine Own.drawnN ?_ _) | (with_reducible refine Own.drawn ?_) | (with_reducible refine Own.made_at ?_; first | rfl | (simp; done) | omega | (simp; omega)) | (with_reducible refine Own.more ?_ _) | (with_reducible refine Own.apart ?_ ?_ _ _; rotate_left; first | omega | (simp; done) | (simp; omega)) | (refine Own.put ?_ _ _)))
  have hB : Below w.heap.size w W0 := hW0 ▸ (by repeat' (first | (with_reducible exact Below.refl _ _) | (with_reducible assumption) | (with_reducible refine below_drewN ?_ _) | (with_reducible refine Below.drew ?_) | (with_reducible refine Below.alloc ?_ ?_ _) | (with_reducible refine Below.setCell ?_ ?_ _) | (with_reducible refine then_ ?_ (by with_reducible assumption) ?_) | (with_reducible exact Nat.le_refl _) | (with_reducible exact Nat.le_succ _) | (with_reducible exact Nat.le_succ_of_le (by with_reducible assumption)) | omega | (simp; done) | (simp; omega) | (exact Nat.le_succ _) | (exact Nat.le_succ_of_le (by with_reducible assumption))))
  clear hW0
  obtain ⟨P1, P2, P3⟩ := OB.at_
  have sz0 := OR.in_
  go_upto_region 2 with (go_at_call 41; refine (FD.out _).mono ?_; rintro e w1 ⟨v, rfl, hv, hb⟩; obtain ⟨s, a, l, c, rfl⟩ := hv.shape; have hl := num_len0 hv; have ND := num_digits s a l c w1; clear hv P1 P2 P3)
  have OR1 := OR.keep hb
  have hB1 := then_ hB hb hB.size
  clear hl ND OB OR hB hb sz0 FD
  refine region_memo_f (B := w.heap.size) (L := .val (.agg #[.int .u64 0, .int .u64 0, .int .u64 0, .int .u64 0, .int .u64 0, .int .u64 0, .int .u64 0, .int .u64 0]) :: .sto (w.heap.size + 2) 38 #[.int .u64 0, .int .u64 0, .int .u64 0, .int .u64 0, .int .u64 0, .int .u64 0, .int .u64 0, .int .u64 0] :: .val (.int .i64 4) :: []) (by kernel_rfl) hB1.size (Olds.v (Olds.s (by omega) OR1.in_ (by repeat' (first | exact trivial | refine Off.v ?_ | refine Off.s ?_ ?_ | omega)) (Olds.v trivial)))
    ⟨fun a w R => bd0_Q, fun a w R => so_Q (R.slot 4 rfl) (R.own rfl OR1) rfl (R.val 0), fun a w R => asc, trivial⟩ (fun act_ WZ I => ?_)
  rw [I.act [(11, .agg #[.int .u64 0, .int .u64 0, .int .u64 0, .int .u64 0, .int .u64 0, .int .u64 0, .int .u64 0, .int .u64 0]), (5, .int .i64 4)]
    ⟨I.val 0, I.val 2, trivial⟩ rfl]
  replace OR1 := I.sto 1 rfl rfl
  have hWZ : Below w.heap.size w WZ := hB1.trans I.below
  clear I
  simp only [List.foldl_cons, List.foldl_nil, List.setIfInBounds_toArray, List.set_cons_zero, List.set_cons_succ]
  go_wp2
  refine bodyPost_ret (make_ret _ _ _ _ _ _ _ _ _ _ _ _ rfl rfl OR1) rfl ⟨rfl, hWZ⟩
theorem rmake_any {n d : Int} (hn : Fit n) (hd : Fit d) (w : World) :
    Calls Tryd.prog 18 #[.agg #[.int .u64 (L0 n), .int .u64 (L1 n), .int .u64 (L2 n), .int .u64 (L3 n)], .agg #[.int .u64 (L0 d), .int .u64 (L1 d), .int .u64 (L2 d), .int .u64 (L3 d)]] w fun e w' => e = .returned (.tuple #[.agg #[.int .u64 (L0 (mkP n d)), .int .u64 (L1 (mkP n d)), .int .u64 (L2 (mkP n d)), .int .u64 (L3 (mkP n d)), .int .u64 (L0 (mkQ n d)), .int .u64 (L1 (mkQ n d)), .int .u64 (L2 (mkQ n d)), .int .u64 (L3 (mkQ n d))], .int .i64 (mkR n d)]) ∧ Below w.heap.size w w' := by
  by_cases h0 : d = 0
  · subst h0
    have hB : mkB n 0 = false := by simp [mkB]
    have e1 : mkP n 0 = 0 := by unfold mkP; rw [hB]; rfl
    have e2 : mkQ n 0 = 0 := by unfold mkQ; rw [hB]; rfl
    have e3 : mkR n 0 = 4 := by unfold mkR; rw [hB]; rfl
    rw [e1, e2, e3]
    exact rmake_zero n hn w
  · exact rmake_yes n d hn hd h0 w
end Go.Proofs.YtoondjildbanhaaDoor
