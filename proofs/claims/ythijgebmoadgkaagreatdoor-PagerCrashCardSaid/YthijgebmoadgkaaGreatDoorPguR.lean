import Derived.Test.YthijgebmoadgkaaGreatDoorPguQ
import Derived.Test.YthijgebmoadgkaaGreatDoorPgz
set_option linter.unusedVariables false
set_option linter.unusedSimpArgs false
namespace Go.Proofs.YthijgebmoadgkaaGreatDoor
open Go.ChangeShapes Go.WideShapes Go.ChangeAt Go.RowKit
def opP (N : Nat) (s : St) (room ll seq first : Nat) (M : List (Nat × Pag)) : PS :=
 { N := N, ll := ll, seq := seq, room := room, s := s, l := ⟨2, ll, long (yG (st s 2) ll first), (first + (yG (st s 2) ll first).length) % 18446744073709551616, false⟩, M := M, T := [], failed := false }
def opn (N : Nat) (s : St) (room : Nat) : Option PS := match ctg N (uJ N s 0).1 (uJ N s 1).1 with
 | none => none
 | some (ll, seq, first) => match Zi ((N - 2 - ll) / 8) (yG (st s 2) ll first) with
   | none => none
   | some M => if ((opP N s room ll seq first M).base 0).2 = 0 /\ fM ((N - 2 - ll) / 8) ((opP N s room ll seq first M).base 0).1 = true then some (opP N s room ll seq first M) else none
theorem zKa {N : Nat} {a b : ByteArray} {ll seq first : Nat} (h : ctg N a b = some (ll, seq, first)) : 10 <= ll /\ ll + 10 <= N /\ seq <= 18446744073709551615 /\ first <= 18446744073709551615 /\ seq ≠ 0 := by
 unfold ctg at h;split at h
 · rename_i c
   injection h with h;injection h with h1 h;injection h with h2 h3;have hl := gP (bT a b) 0 8 (by omega);exact ⟨by omega, by omega, by rw [<- h2]; exact zNf a b, by omega, by rw [<- h2]; exact c.2.1⟩
 · cases h
theorem zOp {N : Nat} {s : St} {room ll seq first : Nat} {M : List (Nat × Pag)} (hN : N <= 65536) (h10 : 10 <= ll) (hfit : ll + 10 <= N) (hM : Qj ((N - 2 - ll) / 8) M) (h2 : 2 <= room) (h6 : room <= 65536) (hq : seq <= 18446744073709551615) (hf : first <= 18446744073709551615) : (opP N s room ll seq first M).OkB :=
 { N := hN, l10 := h10, fit := hfit, M := hM, T := ⟨by simp [opP, asc], by simp [opP]⟩, few := Nat.zero_le _, r2 := h2, r6 := h6, seq := hq, from_ := rfl, size := rfl
   log := ⟨by show 2 + ll <= 65536; omega, qL _ _ _ _ _, by show (first + _) % 18446744073709551616 <= _; omega⟩ }
theorem op_ok {P : PS} (h : P.OkB) (hT : P.T = []) (h0 : (P.base 0).2 = 0) (hd : fM P.most (P.base 0).1 = true) : P.Ok := by
 have hv : P.view 0 = P.base 0 := by unfold PS.view; rw [hT]; rfl
 exact { h with
   hd := by rw [hv]; exact mH.1 hd
   hd0 := by rw [hv]; exact h0
   bd := mH.1 hd
   bd0 := h0
   N := h.N, l10 := h.l10, fit := h.fit, M := h.M, T := h.T, few := h.few, r2 := h.r2, r6 := h.r6, seq := h.seq, from_ := h.from_, size := h.size, log := h.log }
theorem zDi : ∀ {ts : List (Nat × List ByteArray)} {t : Nat × List ByteArray}, t ∈ ts -> 1 + 9 * t.2.length <= long ts
 | x :: l, t, h => by
   have e : long (x :: l) = (1 + 9 * x.2.length) + long l := by simp [long]
   rcases List.mem_cons.1 h with rfl | h
   · omega
   · have := zDi h; omega
theorem Pgz.up {w : World} {B Bp d p c sb mb sc lg lm pl : Nat} {wv : Value} {R : List Po.RF} {P : PS} (h : Pgz w B Bp d p c sb mb sc wv lg lm pl R P) (hk : P.Ok) : Pgr w B Bp d p c sb mb sc wv lg lm pl R P :=
 ⟨h.disk, h.log, h.own, h.map, h.pool, h.coh, hk, h.b1, h.b2, h.b3, h.b4, h.b5, h.b6, h.b7, h.b8, h.a1, h.a2, h.a3, h.a4⟩
section
variable {w : World} {B d sb mb sc N : Nat} {wv : Value} {s : St}
set_option maxRecDepth 10000 in
set_option maxHeartbeats 4000000 in
theorem mL (hD : zI w d sb mb sc wv N s) (hd : s.down = false) (b1 : B <= d) (b2 : B <= sb) (b3 : B <= mb) (b4 : ∀ g, wv.ownBlock = some g -> B <= g) (room : Nat) (h2 : 2 <= room) (h6 : room <= 65536) :
   Calls Tryz.prog 18 #[.pointer (some ⟨d, 0, none⟩), .int .i64 (room : Int)] w fun e w' => ((∃ P p Bp, opn N s room = some P /\ e = .returned (.tuple #[.pointer (some ⟨p, 0, none⟩), .int .i64 0]) /\ w.heap.size <= Bp /\ zF w' B Bp d p 2 P) \/ (opn N s room = none /\ e = .returned (.tuple #[.pointer none, .int .i64 19]))) /\ Below w.heap.size w w' := by
 have hN := hD.ok.max;have DN := Lh (fun W (hb : Below w.heap.size w W) => (by have := fO (hD.below hb); rw [hd] at this; exact this : Calls Tryz.prog 76 #[.pointer (some ⟨d, 0, none⟩)] W fun e w' => e = .returned (.bool false) /\ W = w'));have CT := zBe hD;have t1 : decide ((room : Int) < 2) = false := by simp; omega
 have t2 : decide ((65536 : Int) < (room : Int)) = false := by simp; omega
 obtain ⟨ro, hro⟩ : ∃ ro, ro = opn N s room := ⟨_, rfl⟩
 rw [<- hro];have HO := hro;unfold opn at HO;obtain ⟨cg, hcg⟩ : ∃ cg, cg = ctg N (uJ N s 0).1 (uJ N s 1).1 := ⟨_, rfl⟩
 rw [<- hcg] at CT HO;cases cg with
 | none =>
   have HN := Lh (show ro = none from HO);unfold ctV at CT;replace CT := Lh CT;clear hcg hro HO hD hd;go_enter Tryz.func18, Tryz.ntmps18;go_wp2_with (first
     | (go_at_call 76; refine (DN.out _ (Below.refl _ _)).mono ?_; rintro e w2 ⟨rfl, rfl⟩)
     | (go_at_call 77; refine CT.out.mono ?_; rintro e w3 ⟨rfl, hb3⟩; have B3 := Lh hb3; clear hb3))
   go_ret2;exact ⟨.inr ⟨HN.out, rfl⟩, B3.out.alloc B3.out.size _⟩
 | some x =>
   obtain ⟨ll, seq, first⟩ := x;obtain ⟨l10, lfit, hsq, hfi, -⟩ := zKa hcg.symm;replace HO : ro = match Zi ((N - 2 - ll) / 8) (yG (st s 2) ll first) with
     | none => none
     | some M => if ((opP N s room ll seq first M).base 0).2 = 0 /\ fM ((N - 2 - ll) / 8) ((opP N s room ll seq first M).base 0).1 = true then some (opP N s room ll seq first M) else none := HO
   have RO := fun W (hb : Below w.heap.size w W) => (show Calls Tryz.prog 78 #[.pointer (some ⟨d, 0, none⟩), .int .i64 2, .int .i64 (ll : Int), .int .u64 (first : Int)] W fun e w' => ∃ lg v, e = .returned (.tuple #[.pointer (some ⟨lg, 0, none⟩), v, .int .i64 0]) /\ W.heap.size <= lg /\
     yA w' lg d ⟨2, ll, long (yG (st s 2) ll first), (first + (yG (st s 2) ll first).length) % 18446744073709551616, false⟩ /\ xT w' (fun b => lg < b) v (yG (st s 2) ll first) /\ Below W.heap.size W w' from zJt (hD.below hb) hd 2 ll first (by omega) (by omega) hfi)
   have GA := (fun W S v (hT : xT W S v (yG (st s 2) ll first)) => zDg hT ((N - 2 - ll) / 8) (by omega) (by
     have h1 := Qc (yG (st s 2) ll first);have h2 := qL (st s 2) (ll + 1) 0 ll first;have h3 : long (yG (st s 2) ll first) <= ll := h2;omega) (fun t ht => by
     have h2 : long (yG (st s 2) ll first) <= ll := qL (st s 2) (ll + 1) 0 ll first;have h3 := zDi ht;omega))
   have MO := fun W (hb : Below w.heap.size w W) => Qh (hD.below hb) ll lfit
   have PN := Lh (fun W => Po.new_any room (by omega) h6 W W.heap.size (Nat.le_refl _));unfold ctV uM at CT;unfold uM at MO;replace CT := Lh CT;have HD := Lh hD;obtain ⟨L0, hL0⟩ : ∃ L0 : yH, L0 = ⟨2, ll, long (yG (st s 2) ll first), (first + (yG (st s 2) ll first).length) % 18446744073709551616, false⟩ := ⟨_, rfl⟩
   rw [<- hL0] at RO;have HOP := Lh (fun M => show opP N s room ll seq first M = { N := N, ll := ll, seq := seq, room := room, s := s, l := L0, M := M, T := [], failed := false } by rw [hL0]; rfl);have HOK := Lh (fun M hM => zOp (s := s) (room := room) (M := M) hN l10 lfit hM h2 h6 hsq hfi);have HMS := Lh (fun M => show (opP N s room ll seq first M).most = (N - 2 - ll) / 8 from rfl);obtain ⟨TS, hTS⟩ : ∃ TS, TS = yG (st s 2) ll first := ⟨_, rfl⟩
   rw [<- hTS] at RO GA HO;obtain ⟨mst, hmst⟩ : ∃ mst, mst = (N - 2 - ll) / 8 := ⟨_, rfl⟩
   rw [<- hmst] at GA MO HO HMS HOK;have HMST := Lh hmst;obtain ⟨gt, hgt⟩ : ∃ gt, gt = Zi mst TS := ⟨_, rfl⟩
   rw [<- hgt] at GA HO;have HGF := Lh (fun M (h : Zi mst TS = some M) => Ui mst _ [] M ⟨by simp [asc], by simp⟩ h);replace RO := Lh RO;replace MO := Lh MO;clear hcg hro hD hL0 hTS hmst;cases gt with
   | none =>
     have HRO := Lh (show ro = none from HO);have GA2 := Lh (fun W S v (hT : xT W S v TS) => (show Calls Tryz.prog 79 #[v, .int .i64 (mst : Int)] W fun e w' => e = .returned (.tuple #[.map none, .bool false]) /\ Below W.heap.size W w' from by
       refine (GA W S v hT).mono ?_;rintro e w' ⟨h | h, hb⟩
       · obtain ⟨m, M, h, -⟩ := h; cases h
       · exact ⟨h.2, hb⟩))
     clear GA HO hgt;go_enter Tryz.func18, Tryz.ntmps18;go_upto_region 10 with (first
       | (go_at_call 76; refine (DN.out _ (Below.refl _ _)).mono ?_; rintro e w2 ⟨rfl, rfl⟩)
       | (go_at_call 77; refine CT.out.mono ?_; rintro e w3 ⟨rfl, hb3⟩; have B3 := Lh hb3; clear hb3))
     have OL := Own.made w3 124 #[.pointer (some ⟨d, 0, none⟩), .int .i64 (ll : Int)];have B4 := B3.out.alloc B3.out.size (.cells #[.pointer (some ⟨d, 0, none⟩), .int .i64 (ll : Int)] 124);go_name_world W4 hW4;rw [hW4] at OL B4;clear hW4;have HOL := Lh OL;have HB4 := Lh B4;obtain ⟨q1, q2, q3⟩ := OL.at_;clear OL B4;go_wp2_with (first
       | (go_at_call 78; refine (RO.out _ HB4.out).mono ?_; rintro e w5 ⟨lg, v, rfl, hlg, hL5, hT5, hb5⟩; have T5 := Lh hT5; have B5 := Lh (then_ HB4.out hb5 HB4.out.size); have OL5 := Lh (HOL.out.keep hb5); clear hlg hL5 hT5 hb5 q1 q2 q3; obtain ⟨q1, q2, q3⟩ := OL5.out.at_)
       | (go_at_call 80; refine (MO.out _ B5.out).mono ?_; rintro e w6 ⟨rfl, hb6⟩; have T6 := Lh (T5.out.below hb6); have B6 := Lh (then_ B5.out hb6 B5.out.size); clear hb6)
       | (go_at_call 79; refine (GA2.out _ _ _ T6.out).mono ?_; rintro e w7 ⟨rfl, hb7⟩; have B7 := Lh (then_ B6.out hb7 B6.out.size); clear hb7))
     go_ret2;exact ⟨.inr ⟨HRO.out, rfl⟩, B7.out⟩
   | some M =>
     have HRO := Lh (show ro = if ((opP N s room ll seq first M).base 0).2 = 0 /\ fM mst ((opP N s room ll seq first M).base 0).1 = true then some (opP N s room ll seq first M) else none from HO);have GA2 := Lh (fun W S v (hT : xT W S v TS) => (show Calls Tryz.prog 79 #[v, .int .i64 (mst : Int)] W fun e w' => ∃ m, e = .returned (.tuple #[.map (some m), .bool true]) /\ zW w' m .i64 (M.map uD) /\ W.heap.size <= m /\ Below W.heap.size W w' from by
       refine (GA W S v hT).mono ?_;rintro e w' ⟨h | h, hb⟩
       · obtain ⟨m, M', h, h3, h4, h5⟩ := h;injection h with h;subst h;exact ⟨m, h3, h4, h5, hb⟩
       · cases h.1))
     have OK := Lh (HOK.out M (HGF.out M hgt.symm));clear GA HO hgt;obtain ⟨Q, hQ⟩ : ∃ Q, Q = opP N s room ll seq first M := ⟨_, rfl⟩
     have HQ := HOP.out M;have HM2 := HMS.out M;rw [<- hQ] at HRO OK HQ HM2;have hzd := HD.out.in_ (q := d) (.inl rfl);have hzs := HD.out.in_ (q := sb) (.inr (.inl rfl));have hzm := HD.out.in_ (q := mb) (.inr (.inr (.inl rfl)));have hvw : Q.view 0 = Q.base 0 := by rw [HQ]; rfl
     have hmo := OK.out.most;have PZ : Hid (∀ W9 lg m p pl Bp, Below w.heap.size w W9 -> w.heap.size <= lg -> w.heap.size <= m -> w.heap.size <= p -> m < Bp -> w.heap.size <= Bp -> yA W9 lg d L0 -> zW W9 m .i64 (M.map uD) -> Own W9 p 150 #[.pointer (some ⟨d, 0, none⟩), .int .i64 (ll : Int), .int .u64 (seq : Int), .pointer (some ⟨lg, 0, none⟩), .map (some m), .int .i64 (room : Int), .pointer (some ⟨pl, 0, none⟩), .bool false] -> Po.PoolAt W9 Bp pl room 0 [] -> Pgz W9 B Bp d p 0 sb mb sc wv lg m pl [] Q) := Lh fun W9 lg m p pl Bp hb hlg hm hp hmB hB hL hMm hO hPl => {
       disk := by rw [HQ]; exact HD.out.below hb
       log := by rw [HQ]; exact hL
       own := by rw [HQ]; exact hO
       map := by rw [HQ]; exact hMm
       pool := by rw [HQ]; exact hPl
       coh := ⟨by simp, by rw [HQ]; simp⟩
       ok := OK.out
       b1 := b1, b2 := b2, b3 := b3, b4 := b4
       b5 := by omega, b6 := by omega, b7 := by omega, b8 := by omega
       a1 := by omega, a2 := by omega, a3 := hmB
       a4 := by omega }
     have FZ : Hid (∀ W9 lg m p pl Bp, Below w.heap.size w W9 -> w.heap.size <= Bp -> Pgz W9 B Bp d p 0 sb mb sc wv lg m pl [] Q -> Calls Tryz.prog 82 #[.pointer (some ⟨p, 0, none⟩), .int .i64 0] W9 fun e w' => e = .returned (mY 0 (Q.base 0)) /\ (∃ R', Pgz w' B Bp d p 2 sb mb sc wv lg m pl R' Q) /\ Chg (Po.PT W9 Bp) W9 w' /\ Below w.heap.size w w') := Lh fun W9 lg m p pl Bp hb hB hz => by
       have := zHj hz (by rw [HQ]; exact hd) 0 (by omega) (by omega);rw [hvw] at this;refine this.mono ?_;rintro e w' ⟨rfl, h1, h3⟩;exact ⟨rfl, h1, h3, ((Chg.of (S := fun q => w.heap.size <= q) hb).same (h3.mono fun q _ e => Nat.le_trans hB e.1)).below (Nat.le_refl _) fun q e => e⟩
     have hfine := Lh (fun (h0 : (Q.base 0).2 = 0) => (Yw OK.out (no := 0) (by rw [hvw]; exact h0) : xW (Q.view 0).1));rw [hvw] at hfine;obtain ⟨v0, hv0⟩ : ∃ v0, v0 = Q.base 0 := ⟨_, rfl⟩
     rw [<- hv0] at HRO FZ hfine;have HV0 := Lh hv0;have HQQ := Lh HQ;have HHM := Lh HM2;clear hQ HQ HM2 hvw hv0 hmo;go_enter Tryz.func18, Tryz.ntmps18;go_upto_region 10 with (first
       | (go_at_call 76; refine (DN.out _ (Below.refl _ _)).mono ?_; rintro e w2 ⟨rfl, rfl⟩)
       | (go_at_call 77; refine CT.out.mono ?_; rintro e w3 ⟨rfl, hb3⟩; have B3 := Lh hb3; clear hb3))
     have OL := Own.made w3 124 #[.pointer (some ⟨d, 0, none⟩), .int .i64 (ll : Int)];have B4 := B3.out.alloc B3.out.size (.cells #[.pointer (some ⟨d, 0, none⟩), .int .i64 (ll : Int)] 124);go_name_world W4 hW4;rw [hW4] at OL B4;clear hW4;have HOL := Lh OL;have HB4 := Lh B4;obtain ⟨q1, q2, q3⟩ := OL.at_;clear OL B4;go_upto_region 20 with (first
       | (go_at_call 78; refine (RO.out _ HB4.out).mono ?_; rintro e w5 ⟨lg, v, rfl, hlg, hL5, hT5, hb5⟩; have L5 := Lh hL5; have T5 := Lh hT5; have B5 := Lh (then_ HB4.out hb5 HB4.out.size); have OL5 := Lh (HOL.out.keep hb5); have ZL := Lh (Nat.le_trans HB4.out.size hlg); clear hlg hL5 hT5 hb5 q1 q2 q3; obtain ⟨q1, q2, q3⟩ := OL5.out.at_)
       | (go_at_call 80; refine (MO.out _ B5.out).mono ?_; rintro e w6 ⟨rfl, hb6⟩; have T6 := Lh (T5.out.below hb6); have B6 := Lh (then_ B5.out hb6 B5.out.size); have L6 := Lh (show yA w6 lg d L0 from Own.keep L5.out hb6); have OL6 := Lh (OL5.out.keep hb6); clear hb6)
       | (go_at_call 79; refine (GA2.out _ _ _ T6.out).mono ?_; rintro e w7 ⟨m, rfl, hm7, hmz, hb7⟩; have B7 := Lh (then_ B6.out hb7 B6.out.size); have L7 := Lh (show yA w7 lg d L0 from Own.keep L6.out hb7); have M7 := Lh hm7; have ZM := Lh (Nat.le_trans B6.out.size hmz); have OL7 := Lh (OL6.out.keep hb7); clear hb7 hm7 hmz)
       | (go_at_call 81; refine (PN.out _).mono ?_; rintro e w8 ⟨pl, pm, rfl, hme8, hb8⟩; have B8 := Lh (then_ B7.out hb8 B7.out.size); have L8 := Lh (show yA w8 lg d L0 from Own.keep L7.out hb8); have M8 := Lh (M7.out.keep (hb8.block m M7.out.in_)); have OL8 := Lh (OL7.out.keep hb8); have ME8 := Lh hme8; clear hb8 hme8 q1 q2 q3; obtain ⟨q1, q2, q3⟩ := OL8.out.at_))
     have B9 := B8.out.alloc B8.out.size (.cells #[.pointer (some ⟨d, 0, none⟩), .int .i64 (ll : Int), .int .u64 (seq : Int), .pointer (some ⟨lg, 0, none⟩), .map (some m), .int .i64 (room : Int), .pointer (some ⟨pl, 0, none⟩), .bool false] 150);have bo := zG w8 150 #[.pointer (some ⟨d, 0, none⟩), .int .i64 (ll : Int), .int .u64 (seq : Int), .pointer (some ⟨lg, 0, none⟩), .map (some m), .int .i64 (room : Int), .pointer (some ⟨pl, 0, none⟩), .bool false];have OP := Own.made w8 150 #[.pointer (some ⟨d, 0, none⟩), .int .i64 (ll : Int), .int .u64 (seq : Int), .pointer (some ⟨lg, 0, none⟩), .map (some m), .int .i64 (room : Int), .pointer (some ⟨pl, 0, none⟩), .bool false];have L9 : yA (w8.alloc (.cells #[.pointer (some ⟨d, 0, none⟩), .int .i64 (ll : Int), .int .u64 (seq : Int), .pointer (some ⟨lg, 0, none⟩), .map (some m), .int .i64 (room : Int), .pointer (some ⟨pl, 0, none⟩), .bool false] 150)) lg d L0 := Own.keep L8.out bo;have M9 := M8.out.keep (bo.block m M8.out.in_);have OL9 := OL8.out.keep bo;have PL9 : Po.PoolAt (w8.alloc (.cells #[.pointer (some ⟨d, 0, none⟩), .int .i64 (ll : Int), .int .u64 (seq : Int), .pointer (some ⟨lg, 0, none⟩), .map (some m), .int .i64 (room : Int), .pointer (some ⟨pl, 0, none⟩), .bool false] 150)) w7.heap.size pl room 0 [] := Po.PoolAt.below ⟨pm, 0, [], ME8.out, ⟨by simp, by simp⟩, Nat.le_refl _, rfl, ⟨by simp, Nat.zero_le _, by simp, by simp⟩, by omega, h6⟩ bo;go_name_world W9 hW9;rw [hW9] at B9 bo OP L9 M9 OL9 PL9;clear hW9 q1 q2 q3;obtain ⟨p, hp⟩ : ∃ p, p = w8.heap.size := ⟨_, rfl⟩
     rw [<- hp] at OP ⊢;have hzp : w.heap.size <= p := by rw [hp]; exact B8.out.size
     have FF := FZ.out W9 lg m p pl w7.heap.size B9 B7.out.size (PZ.out W9 lg m p pl w7.heap.size B9 ZL.out ZM.out hzp M7.out.in_ B7.out.size L9 M9 OP PL9);unfold mY at FF;have ZB7 := Lh B7.out.size;replace OL9 := Lh OL9;clear B9 bo OP L9 M9 PL9 hp hzp PN CT RO MO GA2 DN T5 T6 L5 L6 L7 L8 M7 M8 ME8 OL5 OL6 OL7 OL8 B3 HB4 B5 B6 HOL;obtain ⟨x, er⟩ := v0;simp only at FF HRO hfine;by_cases he : er = 0
     · subst he;rw [if_pos rfl] at FF;have hx := hfine.out rfl;have IH := Lh (fun W => zEy mst x W hx.size);have MO2 := Lh (fun W (hb : Below w.heap.size w W) => (show Calls Tryz.prog 80 #[.agg #[.pointer (some ⟨d, 0, none⟩), .int .i64 (ll : Int)]] W fun e w' => e = .returned (.int .i64 (mst : Int)) /\ Below W.heap.size W w' from by
         have := Qh (HD.out.below hb) ll lfit;rw [<- HMST.out] at this;exact this))
       obtain ⟨bb, hbb⟩ : ∃ bb, bb = fM mst x := ⟨_, rfl⟩
       rw [<- hbb] at IH HRO;have HBB := Lh hbb;unfold shV at FF IH;replace FF := Lh (show Calls Tryz.prog 82 #[.pointer (some ⟨p, 0, none⟩), .int .i64 0] W9 fun e w' => e = .returned (.tuple #[.agg #[.int .i64 0, .int .i64 (x.1 : Int), .string x.2], .int .i64 0]) /\ (∃ R', Pgz w' B w7.heap.size d p 2 sb mb sc wv lg m pl R' Q) /\ Chg (Po.PT W9 w7.heap.size) W9 w' /\ Below w.heap.size w w' from FF);replace IH := Lh (fun W => show Calls Tryz.prog 83 #[.agg #[.int .i64 0, .int .i64 (x.1 : Int), .string x.2], .int .i64 (mst : Int)] W fun e w' => e = .returned (.bool bb) /\ Below W.heap.size W w' from IH.out W);clear hx hbb;go_upto_region 21 with (go_at_call 82; refine FF.out.mono ?_; rintro e w10 ⟨rfl, hz10, hc10, hb10⟩; have Z10 := Lh hz10; have B10 := Lh hb10; have OL10 := Lh (yZ hc10 OL9.out (by decide) (by decide)); clear hz10 hc10 hb10)
       have OS := Own.made w10 131 #[.int .i64 0, .int .i64 (x.1 : Int), .string x.2];have bo := zG w10 131 #[.int .i64 0, .int .i64 (x.1 : Int), .string x.2];have OL11 := OL10.out.keep bo;have B11 := B10.out.alloc B10.out.size (.cells #[.int .i64 0, .int .i64 (x.1 : Int), .string x.2] 131);obtain ⟨R', hz10⟩ := Z10.out;have Z11 := hz10.below bo;go_name_world W11 hW11;rw [hW11] at OS OL11 B11 Z11;clear hW11 bo hz10;have HS := Lh (And.intro OS OL11);have HB11 := Lh B11;have HZ11 := Lh Z11;clear OS OL11 B11 Z11;refine zA (fun W => Own W w10.heap.size 131 #[.int .i64 0, .int .i64 (x.1 : Int), .string x.2] /\ Own W w3.heap.size 124 #[.pointer (some ⟨d, 0, none⟩), .int .i64 (ll : Int)]) (0 :: 1 :: 2 :: 3 :: 4 :: 7 :: 8 :: []) (3 :: 4 :: []) (0 :: 1 :: 2 :: 3 :: 4 :: 5 :: 6 :: 7 :: 8 :: []) (by kernel_rfl) (by kernel_rfl) rfl (by kernel_rfl) rfl (⟨HS.out.1.drawn, HS.out.2.drawn⟩) (by simp only [zU, List.filterMap_cons, List.filterMap_nil, List.getElem?_cons_zero, List.getElem?_cons_succ, Option.map_some]; exact rfl) ?_;iterate 5
         refine zC (v := ?_) rfl rfl (fun W hS => ?_) ?_;rotate_left
         · first
             | (conv => lhs; simp [go_sem]
                first | done | exact rfl)
             | (have hS := hS rfl
                obtain ⟨q1, q2⟩ := hS;obtain ⟨q1, q4, q5⟩ := Own.at_ q1;obtain ⟨q2, q6, q7⟩ := Own.at_ q2;conv => lhs; simp [go_sem, *]
                first | done | exact rfl)
         simp only [Act.put, lA, lZ, lS]
       refine zQ rfl rfl fun K hK => ?_
       go_wp2_with (go_at_call 80; refine (MO2.out _ HB11.out.drew).mono ?_; rintro e w12 ⟨rfl, hb12⟩)
       have B12 := Lh (then_ HB11.out.drew hb12 HB11.out.drew.size);have Z12 := Lh ((HZ11.out.below (Below.refl _ _).drew).below hb12);have S12 := Lh (And.intro (HS.out.1.drawn.keep hb12) (HS.out.2.drawn.keep hb12));refine hK _ _ S12.out ?_;clear hK K hb12;refine zQ rfl rfl fun K hK => ?_
       go_wp2_with (go_at_call 83; refine (IH.out _).mono ?_; rintro e w13 ⟨rfl, hb13⟩)
       have B13 := Lh (then_ B12.out hb13 B12.out.size);have Z13 := Lh (Z12.out.below hb13);refine hK _ _ ⟨S12.out.1.keep hb13, S12.out.2.keep hb13⟩ ?_;clear hK K hb13;iterate 2
         refine zC (v := ?_) rfl rfl (fun W hS => ?_) ?_;rotate_left
         · first
             | (conv => lhs; simp [go_sem]
                first | done | exact rfl)
             | (have hS := hS rfl
                obtain ⟨q1, q2⟩ := hS;obtain ⟨q1, q4, q5⟩ := Own.at_ q1;obtain ⟨q2, q6, q7⟩ := Own.at_ q2;conv => lhs; simp [go_sem, *]
                first | done | exact rfl)
         simp only [Act.put, lA, lZ, lS]
       refine zR ?_;cases bb with
       | false =>
         have HN := Lh (show ro = none by rw [HRO.out]; exact if_neg (by simp));clear HRO;go_wp2;go_ret2;exact ⟨.inr ⟨HN.out, rfl⟩, B13.out⟩
       | true =>
         have HN := Lh (show ro = some Q by rw [HRO.out]; simp);have HQT : Q.T = [] := by rw [HQQ.out]
         have QOK := Lh (op_ok OK.out HQT (by rw [<- HV0.out]) (by rw [HHM.out, <- HV0.out]; exact HBB.out.symm));clear HRO HQT;go_wp2;go_ret2;exact ⟨.inl ⟨Q, p, w7.heap.size, HN.out, rfl, ZB7.out, sb, mb, sc, wv, lg, m, pl, R', Z13.out.up QOK.out⟩, B13.out⟩
     · rw [if_neg he] at FF;unfold fR at FF;have HN := Lh (show ro = none by rw [HRO.out]; exact if_neg (fun e => he e.1));have t3 : ((er : Int) != 0) = true := by simp; omega
       replace FF := Lh FF;clear HRO he;go_upto_region 21 with (go_at_call 82; refine FF.out.mono ?_; rintro e w10 ⟨rfl, hz10, hc10, hb10⟩; have Z10 := Lh hz10; have B10 := Lh hb10; have OL10 := Lh (yZ hc10 OL9.out (by decide) (by decide)); clear hz10 hc10 hb10)
       have HB11 := Lh (B10.out.alloc B10.out.size (.cells #[.int .i64 0, .int .i64 0, .string ⟨#[]⟩] 131));refine zA (fun W => True) (0 :: 1 :: 2 :: 3 :: 4 :: 7 :: 8 :: []) ([]) (0 :: 1 :: 2 :: 3 :: 4 :: 5 :: 6 :: 7 :: 8 :: []) (by kernel_rfl) (by kernel_rfl) rfl (by kernel_rfl) rfl (trivial) (by simp only [zU, List.filterMap_cons, List.filterMap_nil, List.getElem?_cons_zero, List.getElem?_cons_succ, Option.map_some]; exact rfl) ?_;iterate 3
         refine zC (v := ?_) rfl rfl (fun W hS => ?_) ?_;rotate_left
         · conv => lhs; simp [go_sem, t3]
           first | done | exact rfl
         simp only [Act.put, lA, lZ, lS]
       refine zO rfl rfl ?_;simp only [Act.put, lA, lZ, lS];refine zO rfl rfl ?_;simp only [Act.put, lA, lZ, lS];refine zQ rfl rfl fun K hK => ?_
       go_wp2;refine hK _ _ trivial ?_;clear hK K;refine zQ rfl rfl fun K hK => ?_
       go_wp2;refine hK _ _ trivial ?_;clear hK K;refine zO rfl rfl ?_;simp only [Act.put, lA, lZ, lS];iterate 1
         refine zC (v := ?_) rfl rfl (fun W hS => ?_) ?_;rotate_left
         · conv => lhs; simp [go_sem, t3]
           first | done | exact rfl
         simp only [Act.put, lA, lZ, lS]
       refine zR ?_;go_wp2;go_ret2;exact ⟨.inr ⟨HN.out, rfl⟩, HB11.out.drew⟩
end
end Go.Proofs.YthijgebmoadgkaaGreatDoor
