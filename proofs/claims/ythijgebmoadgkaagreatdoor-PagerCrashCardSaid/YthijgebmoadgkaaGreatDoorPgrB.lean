import Derived.Test.YthijgebmoadgkaaGreatDoorDisE
import Derived.Test.YthijgebmoadgkaaGreatDoorPgrM
import Derived.Test.YthijgebmoadgkaaGreatDoorPagD
import Derived.Test.YthijgebmoadgkaaGreatDoorRdoA
import Derived.BigQuiet
import Derived.Deep.QuietTactic
import Derived.WalkLawsBesides
import Derived.Deep.RegionWith
import Derived.Deep.DeepCutAuto
import Derived.Test.YthijgebmoadgkaaGreatDoorMapM
import Derived.Test.YthijgebmoadgkaaGreatDoorRdoM
import Derived.Deep.OwnRows
import Derived.KernelRfl
import Derived.Test.YthijgebmoadgkaaGreatDoorMemo
import Derived.Test.YthijgebmoadgkaaGreatDoorDisB
import Derived.Test.YthijgebmoadgkaaGreatDoorCrcB
set_option linter.unusedVariables false
set_option linter.unusedSimpArgs false
namespace Go.Proofs.YthijgebmoadgkaaGreatDoor
open Go.ChangeShapes Go.WideShapes Go.ChangeAt Go.RowKit
section
def xQ (s : St) : Int × St :=
 if s.down then (11, s) else if (vC s).1 then (0, ⟨yI (fun _ => 64) s.wr 0 s.sure, [], (vC s).2.fuse, (vC s).2.down⟩) else (11, (vC s).2)
theorem zN9 (j : Int) (W : World) : Calls Tryz.prog 229 (#[.int .i64 j] ++ #[]) W fun e w' => e = .returned (.int .i64 64) /\ W = w' := by
 show Calls Tryz.prog 229 #[.int .i64 j] W _
 go_enter Tryz.func229, Tryz.ntmps229;go_wp2;go_ret;exact ⟨rfl, rfl⟩
def jR (w : World) (a : Option Addr) (len cap : Nat) (zs : List Bool) : Prop :=
 len <= cap /\ cap <= maxLen /\ (len = 0 \/ ∃ b o, a = some ⟨b, o, none⟩ /\ ∀ i, i < len -> w.cell? ⟨b, o + i, none⟩ = some (.bool (zs.getD i false)))
def qT (len : Nat) (zs : List Bool) (torn bytes : Int) (j : Nat) : Nat := if (j : Int) = torn then min bytes.toNat 64 else if j < len /\ zs.getD j false = true then 64 else 0
theorem Xx (len : Nat) (zs : List Bool) (torn bytes : Int) (j : Nat) : qT len zs torn bytes j <= 64 := by
 unfold qT;split
 · omega
 · split <;> omega
theorem zOa (W : World) (j : Nat) (p1 p2 p3 : Nat) (a : Option Addr) (len cap : Nat) (zs : List Bool) (torn bytes : Int) (h1 : W.cell? ⟨p1, 0, none⟩ = some (.int .i64 torn)) (h2 : W.cell? ⟨p2, 0, none⟩ = some (.int .i64 bytes)) (h3 : W.cell? ⟨p3, 0, none⟩ = some (.slice a len cap))
   (hz : jR W a len cap zs) (hj : j < 1000000) :
   Calls Tryz.prog 99 (#[.int .i64 (j : Int)] ++ #[.pointer (some ⟨p1, 0, none⟩), .pointer (some ⟨p2, 0, none⟩), .pointer (some ⟨p3, 0, none⟩)]) W fun e w' => e = .returned (.int .i64 (qT len zs torn bytes j : Nat)) /\ W = w' := by
 show Calls Tryz.prog 99 #[.int .i64 (j : Int), .pointer (some ⟨p1, 0, none⟩), .pointer (some ⟨p2, 0, none⟩), .pointer (some ⟨p3, 0, none⟩)] W _
 by_cases c1 : (j : Int) = torn
 · have E := Lh (show qT len zs torn bytes j = min bytes.toNat 64 by unfold qT; rw [if_pos c1]);have c1 : ((j : Int) == torn) = true := by simpa using c1
   go_enter Tryz.func99, Tryz.ntmps99;go_wp2_with (go_at_call 100; refine (zJj _ _).mono ?_; rintro e w' ⟨rfl, rfl⟩)
   go_ret;rw [E.out];exact ⟨rfl, rfl⟩
 · have t1 : ((j : Int) == torn) = false := by simpa using c1
   by_cases c2 : j < len
   · obtain ⟨x, hx⟩ : ∃ x, x = zs.getD j false := ⟨_, rfl⟩
     obtain ⟨hl, hc, hz⟩ := hz;rcases hz with h | ⟨b, o, rfl, hcell⟩
     · omega
     have hcj := hcell j c2;rw [<- hx] at hcj;unfold maxLen at hc;have E := Lh (show qT len zs torn bytes j = if x = true then 64 else 0 by unfold qT; rw [if_neg c1, <- hx]; simp [c2]);clear hcell hx c1;cases x with
     | true =>
       go_enter Tryz.func99, Tryz.ntmps99;go_wp2;go_ret;rw [E.out];exact ⟨rfl, rfl⟩
     | false =>
       go_enter Tryz.func99, Tryz.ntmps99;go_wp2;go_ret;rw [E.out];exact ⟨rfl, rfl⟩
   · have E := Lh (show qT len zs torn bytes j = 0 by unfold qT; rw [if_neg c1, if_neg (by omega)]);have hm : len <= 9223372036854775807 := by omega
     clear c1;go_enter Tryz.func99, Tryz.ntmps99;go_wp2;go_ret;rw [E.out];exact ⟨rfl, rfl⟩
section
variable {w : World} {d sb mb sc : Nat} {wv : Value} {n : Nat} {s : St}
theorem Qb.of {w' : World} {s' : St} (h : zI w' d sb mb sc (.slice none 0 0) n s') (hc : Chg (fp d sb mb wv) w w') (hn : wv = .slice none 0 0 \/ True) : ∃ wv', zI w' d sb mb sc wv' n s' /\ Chg (fp d sb mb wv) w w' /\ (wv'.ownBlock = none \/ wv'.ownBlock = wv.ownBlock) := ⟨_, h, hc, .inl rfl⟩
set_option maxHeartbeats 1000000 in
theorem zAi (h : zI w d sb mb sc wv n s) :
   Calls Tryz.prog 154 #[.pointer (some ⟨d, 0, none⟩)] w fun e w' => e = .returned (.int .i64 (xQ s).1) /\ ∃ wv', zI w' d sb mb sc wv' n (xQ s).2 /\ Chg (fp d sb mb wv) w w' /\ (wv'.ownBlock = none \/ wv'.ownBlock = wv.ownBlock) := by
 have HD := Lh (fO h);have HL := Lh (Zy h);have H := Lh h;clear h;by_cases c1 : s.down = true
 · have E := Lh (show xQ s = (11, s) by simp [xQ, c1]);rw [c1] at HD;clear c1;go_enter Tryz.func154, Tryz.ntmps154;go_wp2_with (go_at_call 76; refine HD.out.mono ?_; rintro e w' ⟨rfl, rfl⟩)
   go_ret;rw [E.out];exact ⟨rfl, wv, H.out, Chg.refl _ _, .inr rfl⟩
 have c1 : s.down = false := by simpa using c1
 rw [c1] at HD;obtain ⟨dn, s1, hb⟩ : ∃ b s1, vC s = (b, s1) := ⟨_, _, rfl⟩
 have HW : s1.wr = s.wr /\ s1.sure = s.sure := by have := Qr s; rw [hb] at this; exact this
 rw [hb] at HL;cases dn with
 | false =>
   have E := Lh (show xQ s = (11, s1) by simp [xQ, c1, hb]);clear c1 hb;go_enter Tryz.func154, Tryz.ntmps154;go_wp2_with (first | (go_at_call 76; refine HD.out.mono ?_; rintro e w' ⟨rfl, rfl⟩) | (go_at_call 228; refine HL.out.mono ?_; rintro e w1 ⟨rfl, h1, h2, h3⟩))
   go_ret;rw [E.out];exact ⟨rfl, wv, h1, h2.mono fun q _ e => .inl e, .inr rfl⟩
 | true =>
   have E := Lh (show xQ s = (0, ⟨yI (fun _ => 64) s1.wr 0 s1.sure, [], s1.fuse, s1.down⟩) by simp [xQ, c1, hb, HW.1, HW.2]);clear c1 hb HW;go_enter Tryz.func154, Tryz.ntmps154;go_wp2_with (first | (go_at_call 76; refine HD.out.mono ?_; rintro e w' ⟨rfl, rfl⟩) | (go_at_call 228; refine HL.out.mono ?_; rintro e w1 ⟨rfl, h1, h2, h3⟩) | (go_at_call 98; refine (Yk h1 229 #[] (fun _ => 64) (fun _ _ => Nat.le_refl _) (vH Tryz.func229 rfl rfl) (fun W j _ _ => zN9 _ _)).mono ?_; rintro e w2 ⟨rfl, h4, h5⟩))
   go_ret;rw [E.out];exact ⟨rfl, _, h4, (h2.mono (T := fp d sb mb wv) fun q _ e => .inl e).same h5, .inl rfl⟩
def cres (s : St) (len : Nat) (zs : List Bool) (torn bytes : Int) : St := ⟨yI (qT len zs torn bytes) s.wr 0 s.sure, [], -1, false⟩
set_option maxHeartbeats 1000000 in
theorem zH7 (h : zI w d sb mb sc wv n s) (a : Option Addr) (len cap : Nat) (zs : List Bool) (torn bytes : Int) (hz : jR w a len cap zs) (hsb : ∀ b o, a = some ⟨b, o, none⟩ -> 0 < len -> b ≠ sb) :
   Calls Tryz.prog 29 #[.pointer (some ⟨d, 0, none⟩), .slice a len cap, .int .i64 torn, .int .i64 bytes] w fun e w' => e = .returned (.tuple #[]) /\ zI w' d sb mb sc (.slice none 0 0) n (cres s len zs torn bytes) /\ Chg (fp d sb mb wv) w w' := by
 have H := Lh h;replace hz := Lh hz;replace hsb := Lh hsb;have hfew := h.ok.few;clear h;obtain ⟨W0, hW0⟩ : ∃ W0, W0 = ((w.alloc (.cells #[.slice a len cap] 42)).alloc (.cells #[.int .i64 torn] 3)).alloc (.cells #[.int .i64 bytes] 3) := ⟨_, rfl⟩
 have B0 : Below w.heap.size w W0 := hW0 ▸ (((Below.refl _ _).alloc (Nat.le_refl _) _).alloc (by simp) _).alloc (by simp; omega) _;have O1 : Own W0 w.heap.size 42 #[.slice a len cap] := hW0 ▸ ((Own.made _ _ _).more _).more _;have O2 : Own W0 (w.heap.size + 1) 3 #[.int .i64 torn] := hW0 ▸ (Own.made_at (by simp)).more _;have O3 : Own W0 (w.heap.size + 1 + 1) 3 #[.int .i64 bytes] := hW0 ▸ Own.made_at (by simp);have zs0 := H.out.in_ (q := sb) (.inr (.inl rfl));have zd0 := H.out.in_ (q := d) (.inl rfl);have HS := Lh (Yk (H.out.below B0) 99 #[.pointer (some ⟨w.heap.size + 1, 0, none⟩), .pointer (some ⟨w.heap.size + 1 + 1, 0, none⟩), .pointer (some ⟨w.heap.size, 0, none⟩)] (qT len zs torn bytes) (fun j _ => Xx _ _ _ _ _) (vH Tryz.func99 rfl rfl) (fun W j hj hW => zOa W j _ _ _ a len cap zs torn bytes
     (hW.cell (O2.at_.1 0) (by omega)) (hW.cell (O3.at_.1 0) (by omega)) (hW.cell (O1.at_.1 0) (by omega)) (by
       obtain ⟨h2, h3, hz⟩ := hz.out;rcases hz with h | ⟨b, o, h1, h4⟩
       · exact ⟨h2, h3, .inl h⟩
       · exact ⟨h2, h3, .inr ⟨b, o, h1, fun i hi => hW.cell (keep B0 (h4 i hi)) (hsb.out b o h1 (by omega))⟩⟩) (by omega)))
 rw [hW0] at HS;have C0 : Chg (fp d sb mb wv) w W0 := Chg.of B0;replace C0 := Lh C0;rw [hW0] at C0;clear O1 O2 O3 B0 hW0;go_enter Tryz.func29, Tryz.ntmps29;go_wp2_with (go_at_call 98; refine HS.out.mono ?_; rintro e w2 ⟨rfl, h4, h5⟩; obtain ⟨k1, k2, k3⟩ := h4.own.at_)
 go_end0
 refine ⟨rfl, h4.fld (f := -1) (b := false) (gM (by decide) (by decide)) ((yT _ _ _ _).same (yT _ _ _ _)) ((h4.own.put 4 _).put 3 _), ?_⟩;exact (C0.out.same h5).same (((Chg.refl (fp d sb mb wv) w2).set ⟨d, 4, none⟩ (.inl (.inl rfl)) _).set ⟨d, 3, none⟩ (.inl (.inl rfl)) _)
end
end
section
def uM (d ll : Nat) : Value := .agg #[.pointer (some ⟨d, 0, none⟩), .int .i64 (ll : Int)]
def shV (no : Nat) (x : Pag) : Value := .agg #[.int .i64 (no : Int), .int .i64 (x.1 : Int), .string x.2]
def fR : Value := .agg #[.int .i64 0, .int .i64 0, .string ⟨#[]⟩]
theorem zG (w : World) (T : TypeId) (cs : Array Value) : Below w.heap.size w (w.alloc (.cells cs T)) := (Below.refl _ _).alloc (Nat.le_refl _) _
theorem Qv (k : Int) (w : World) : Calls Tryz.prog 84 #[.int .i64 k] w fun e w' => e = .returned (.bool (decide (2 <= k) && decide (k <= 254))) /\ w = w' := by
 by_cases h1 : 2 <= k
 · by_cases h2 : k <= 254
   · go_enter Tryz.func84, Tryz.ntmps84;go_wp2;go_ret;exact ⟨xP (by simp [h1, h2]), rfl⟩
   · go_enter Tryz.func84, Tryz.ntmps84;go_wp2;go_ret;exact ⟨xP (by simp [h2]), rfl⟩
 · go_enter Tryz.func84, Tryz.ntmps84;go_wp2;go_ret;exact ⟨xP (by simp; omega), rfl⟩
theorem zAf (d ll no : Nat) (w : World) (h1 : ll <= 100000) (h2 : no <= 4294967296) : Calls Tryz.prog 145 #[uM d ll, .int .i64 (no : Int)] w fun e w' => e = .returned (.int .i64 ((2 + ll + no * 8 : Nat) : Int)) /\ Below w.heap.size w w' := by
 unfold uM;go_enter Tryz.func145, Tryz.ntmps145;go_wp2;go_ret;exact ⟨jK (by omega), zG _ _ _⟩
theorem Xv (t : ByteArray) (w : World) (h : t.size <= 496) : Calls Tryz.prog 149 #[.string t] w fun e w' => e = .returned (.string (fl t)) /\ Below w.heap.size w w' := by
 have HR := Lh (Pg.repeat_any (496 - t.size) w (by omega));rw [show ((496 - t.size : Nat) : Int) = 496 - (t.size : Int) by omega] at HR;have HE := Lh (show fl t = t ++ zB (496 - t.size) from rfl);obtain ⟨Z, hZ, hZz⟩ : ∃ Z : ByteArray, Z = zB (496 - t.size) /\ Z.size <= 496 := ⟨_, rfl, by rw [xG]; omega⟩
 rw [<- hZ] at HR HE;clear hZ;go_enter Tryz.func149, Tryz.ntmps149;go_wp2_with (go_at_call 69; refine HR.out.mono ?_; rintro e w2 ⟨rfl, hb⟩)
 go_ret;rw [HE.out];exact ⟨rfl, hb⟩
set_option maxRecDepth 10000 in
theorem Zs (no : Nat) (x : Pag) (w : World) (hx : xW x) (hn : no <= 2147483647) : Calls Tryz.prog 147 #[shV no x] w fun e w' => e = .returned (.string (pgB x.1 no x.2)) /\ Below w.heap.size w w' := by
 obtain ⟨k, r⟩ := x;obtain ⟨h1, h2, h3⟩ := hx;simp only at h1 h2 h3;have HP := Lh (fun w => Pg.pack_yes k no r w h1 h2 hn (by omega));obtain ⟨PG, hPG⟩ : ∃ PG, PG = pgB k no r := ⟨_, rfl⟩
 unfold shV;simp only;rw [<- hPG] at HP ⊢;clear hPG;go_enter Tryz.func147, Tryz.ntmps147;go_wp2_with (go_at_call 225; refine (HP.out _).mono ?_; rintro e w2 ⟨rfl, hb⟩)
 go_ret;exact ⟨rfl, then_ (zG _ _ _) hb (by simp)⟩
set_option maxRecDepth 10000 in
theorem fG (no : Nat) (s : ByteArray) (w : World) (hs : s.size <= 9223372036854775807) : Calls Tryz.prog 166 #[.int .i64 (no : Int), .string s] w fun e w' =>
   e = .returned (.tuple #[if Pg.uE s no = 0 then shV no (Pg.uK s no, Pg.uT s no) else fR, .int .i64 (Pg.uE s no : Nat)]) /\ Below w.heap.size w w' := by
 have HU := Lh (fun w => Pg.unpack_any s (no : Int) w hs);obtain ⟨E, hE⟩ : ∃ E, E = Pg.uE s no := ⟨_, rfl⟩
 obtain ⟨K, hK⟩ : ∃ K, K = Pg.uK s no := ⟨_, rfl⟩
 obtain ⟨T, hT⟩ : ∃ T, T = Pg.uT s no := ⟨_, rfl⟩
 rw [<- hE, <- hK, <- hT] at HU ⊢;clear hE hK hT;by_cases h : E = 0
 · subst h;rw [if_pos rfl];unfold shV;simp only;go_enter Tryz.func166, Tryz.ntmps166;go_wp2_with (go_at_call 239; refine (HU.out _).mono ?_; rintro e w2 ⟨rfl, hb⟩; have O := Own.keep (Own.made w 131 #[.int .i64 0, .int .i64 0, .string ⟨#[]⟩]) hb; obtain ⟨o1, o2, o3⟩ := O.at_)
   refine bodyPost_ret (by simp [results, Tryz.results166, go_sem, *]) rfl ⟨rfl, ?_⟩;have hb2 := then_ (zG w 131 #[.int .i64 0, .int .i64 0, .string ⟨#[]⟩]) hb (by simp);clear hb o1 o2 o3 O;repeat' (first | (with_reducible exact Below.refl _ _) | (with_reducible assumption) | (with_reducible refine zM ?_ _) | (with_reducible refine Below.drew ?_) | (with_reducible refine Below.alloc ?_ ?_ _) | (with_reducible refine Below.setCell ?_ ?_ _) | (with_reducible refine then_ ?_ (by with_reducible assumption) ?_) | (with_reducible exact Nat.le_refl _) | (with_reducible exact Nat.le_succ _) | (with_reducible exact Nat.le_succ_of_le (by with_reducible assumption)) | omega | (simp; done) | (simp; omega) | (exact Nat.le_succ _) | (exact Nat.le_succ_of_le (by with_reducible assumption)))
 · rw [if_neg h];unfold fR;have t0 : ((E : Int) != 0) = true := by simp; omega
   clear h;go_enter Tryz.func166, Tryz.ntmps166;go_wp2_with (go_at_call 239; refine (HU.out _).mono ?_; rintro e w2 ⟨rfl, hb⟩; have O := Own.keep (Own.made w 131 #[.int .i64 0, .int .i64 0, .string ⟨#[]⟩]) hb; obtain ⟨o1, o2, o3⟩ := O.at_)
   refine bodyPost_ret (by simp [results, Tryz.results166, go_sem, *]) rfl ⟨rfl, ?_⟩;have hb2 := then_ (zG w 131 #[.int .i64 0, .int .i64 0, .string ⟨#[]⟩]) hb (by simp);clear hb o1 o2 o3 O;repeat' (first | (with_reducible exact Below.refl _ _) | (with_reducible assumption) | (with_reducible refine zM ?_ _) | (with_reducible refine Below.drew ?_) | (with_reducible refine Below.alloc ?_ ?_ _) | (with_reducible refine Below.setCell ?_ ?_ _) | (with_reducible refine then_ ?_ (by with_reducible assumption) ?_) | (with_reducible exact Nat.le_refl _) | (with_reducible exact Nat.le_succ _) | (with_reducible exact Nat.le_succ_of_le (by with_reducible assumption)) | omega | (simp; done) | (simp; omega) | (exact Nat.le_succ _) | (exact Nat.le_succ_of_le (by with_reducible assumption)))
theorem Ug (f ll : Nat) (w : World) (hf : f <= 18446744073709551615) (hl : ll <= 18446744073709551615) : Calls Tryz.prog 156 #[.int .u64 (f : Int), .int .u64 (ll : Int)] w fun e w' =>
   e = .returned (.string (⟨(zV f 8).toArray⟩ ++ ⟨(zV ll 4).toArray⟩)) /\ Below w.heap.size w w' := by
 have H1 := Lh (fun w => show Calls Tryz.prog 148 #[.int .u64 (f : Int), .int .i64 8] w fun e w' => e = .returned (.string ⟨(zV f 8).toArray⟩) /\ w' = w.alloc (.cells (putCells f 8) 310) from vX f 8 w hf (by omega));have H2 := Lh (fun w => show Calls Tryz.prog 148 #[.int .u64 (ll : Int), .int .i64 4] w fun e w' => e = .returned (.string ⟨(zV ll 4).toArray⟩) /\ w' = w.alloc (.cells (putCells ll 4) 310) from vX ll 4 w hl (by omega));obtain ⟨A, hA, hAz⟩ : ∃ A : ByteArray, A = ⟨(zV f 8).toArray⟩ /\ A.size = 8 := ⟨_, rfl, by rw [zZ, zN]⟩
 obtain ⟨B, hB, hBz⟩ : ∃ B : ByteArray, B = ⟨(zV ll 4).toArray⟩ /\ B.size = 4 := ⟨_, rfl, by rw [zZ, zN]⟩
 rw [<- hA] at H1 ⊢;rw [<- hB] at H2 ⊢;obtain ⟨C1, hC1⟩ : ∃ C1, C1 = putCells f 8 := ⟨_, rfl⟩
 obtain ⟨C2, hC2⟩ : ∃ C2, C2 = putCells ll 4 := ⟨_, rfl⟩
 rw [<- hC1] at H1;rw [<- hC2] at H2;clear hA hB hC1 hC2;go_enter Tryz.func156, Tryz.ntmps156;go_wp2_with (go_at_call 148; first | (with_reducible refine (H1.out _).mono ?_; rintro e w2 ⟨rfl, rfl⟩) | (with_reducible refine (H2.out _).mono ?_; rintro e w2 ⟨rfl, rfl⟩))
 go_ret;exact ⟨rfl, (zG _ _ _).alloc (by simp) _⟩
end
section
theorem zFw : (Tryz.prog.info? 5).map (fun i => (i.zero, i.size, i.bytes)) = some (some (.int .u8 0), 1, 1) := by kernel_rfl
theorem zG3 (W : World) (b k cap : Nat) (hk : k <= 255) (h : W.cell? ⟨b, 0, none⟩ = some (.int .u8 (k : Nat))) :
   (convert 87 9 (.slice (some ⟨b, 0, none⟩) 1 cap)).run Tryz.prog W = .ok (.string ⟨#[UInt8.ofNat k]⟩) W :=
 run_convert_bytes_back (P := Tryz.prog) W 87 9 5 ⟨b, 0, none⟩ cap [UInt8.ofNat k] Tryz.underlying87 Tryz.underlying5 Tryz.underlying9 (fun i hi => by
   have hij : i = 0 := by simpa using hi
   subst hij;have ea : (⟨b, 0, none⟩ : Addr).add 0 = ⟨b, 0, none⟩ := rfl;have e2 : (UInt8.ofNat k).toNat = k := by rw [UInt8.toNat_ofNat', Nat.mod_eq_of_lt (by omega)]
   rw [ea, h];show _ = some (Value.int .u8 ((UInt8.ofNat k).toNat : Int))
   rw [e2])
end
section
end
section
theorem zJu {x : Pag} (hx : xW x) : ∃ S, S = fr x /\ S.size = 497 /\ (∀ h : 0 < S.size, (S[0]'h).toNat = x.1) /\ S.extract 1 S.size = x.2 :=
 ⟨_, rfl, gX hx.size, fun h => by rw [<- qF _ 0 h]; exact zLu hx, zMe hx.size⟩
set_option maxRecDepth 10000 in
theorem uF (no : Nat) (x : Pag) (w : World) (hx : xW x) : Calls Tryz.prog 168 #[.int .i64 (no : Int), .string (fr x)] w fun e w' => e = .returned (shV no x) /\ Below w.heap.size w w' := by
 obtain ⟨S, hS, hz, hk, hr⟩ := zJu hx;rw [<- hS];have h0 : 0 < S.size := by omega
 have hk := hk h0;unfold shV;obtain ⟨k, r⟩ := x;simp only at hk hr ⊢;have h1 : (1 : Int) <= (S.size : Int) := by omega
 have hk2 : k <= 255 := hx.hi;have hw : IntKind.i64.wrap (k : Int) = k := by rw [IntKind.wrap_i64]; omega
 clear hS hx hz;go_enter Tryz.func168, Tryz.ntmps168;go_upto_region 1 with fail;have O := Own.made w 131 #[.int .i64 0, .int .i64 0, .string ⟨#[]⟩];obtain ⟨o1, o2, o3⟩ := O.drawn.at_;refine zA (fun W => True) (0 :: 1 :: 2 :: 3 :: 4 :: 5 :: 6 :: []) ([]) (0 :: 1 :: 2 :: 3 :: 4 :: 5 :: 6 :: 7 :: []) (by kernel_rfl) (by kernel_rfl) rfl (by kernel_rfl) rfl (True.intro) (by simp only [zU, List.filterMap_cons, List.filterMap_nil, List.getElem?_cons_zero, List.getElem?_cons_succ, Option.map_some]; exact rfl) ?_;iterate 7
   refine zC (v := ?_) rfl rfl (fun W hS => ?_) ?_;rotate_left
   · conv => lhs; simp [go_sem, h0, hk, h1, hr, hw]
     first | done | exact rfl
   simp only [Act.put, lA, lZ, lS]
 refine gI rfl rfl (by kernel_rfl) rfl fun K hK => ?_
 go_wp2;refine hK _ _ ?_;clear hK;refine zR ?_;go_wp2;refine bodyPost_ret (by simp [results, Tryz.results168, go_sem, *]) rfl ⟨rfl, ?_⟩;repeat' (first | (with_reducible exact Below.refl _ _) | (with_reducible assumption) | (with_reducible refine zM ?_ _) | (with_reducible refine Below.drew ?_) | (with_reducible refine Below.alloc ?_ ?_ _) | (with_reducible refine Below.setCell ?_ ?_ _) | (with_reducible refine then_ ?_ (by with_reducible assumption) ?_) | (with_reducible exact Nat.le_refl _) | (with_reducible exact Nat.le_succ _) | (with_reducible exact Nat.le_succ_of_le (by with_reducible assumption)) | omega | (simp; done) | (simp; omega) | (exact Nat.le_succ _) | (exact Nat.le_succ_of_le (by with_reducible assumption)))
set_option maxRecDepth 10000 in
theorem gF (no : Nat) (k : Nat) (t : ByteArray) (w : World) (hk : k <= 255) (ht : t.size <= 496) : Calls Tryz.prog 170 #[.agg #[.int .i64 (no : Int), .int .i64 (k : Int), .string t]] w fun e w' => e = .returned (.string (fr (k, fl t))) /\ Below w.heap.size w w' := by
 have HE := Lh (show fr (k, fl t) = ⟨#[UInt8.ofNat k]⟩ ++ fl t from rfl);have HF := Lh (fun w => Xv t w ht);obtain ⟨F, hF, hFz⟩ : ∃ F, F = fl t /\ F.size = 496 := ⟨_, rfl, Qt t ht⟩
 obtain ⟨K, hK, hKz⟩ : ∃ K : ByteArray, K = ⟨#[UInt8.ofNat k]⟩ /\ K.size = 1 := ⟨_, rfl, rfl⟩
 have hcv : ∀ W b cap, W.cell? ⟨b, 0, none⟩ = some (.int .u8 (k : Int)) -> (convert 87 9 (.slice (some ⟨b, 0, none⟩) 1 cap)).run Tryz.prog W = .ok (.string K) W := fun W b cap h => by rw [hK]; exact zG3 W b k cap hk h
 rw [<- hF] at HF HE ⊢;rw [<- hK] at HE;rw [HE.out];clear hF hK;have hw8 : IntKind.u8.wrap (k : Int) = k := by rw [IntKind.wrap_u8]; omega
 have hl : K.size + F.size <= 9223372036854775807 := by omega
 go_enter Tryz.func170, Tryz.ntmps170;go_upto_region 1 with fail;have O := Own.made w 131 #[.int .i64 (no : Int), .int .i64 (k : Int), .string t];go_name_world W0 hW0;rw [hW0] at O;have B0 : Below w.heap.size w W0 := hW0 ▸ zG _ _ _;have z0 : W0.heap.size = w.heap.size + 1 := by rw [<- hW0]; simp
 clear hW0;refine Vg (B := W0.heap.size) (L := .val (.pointer (some ⟨w.heap.size, 1, none⟩)) :: .val (.int .i64 (k : Int)) :: .val (.int .u8 (k : Int)) :: .new 5 #[.int .u8 (k : Int)] (some (1, 1)) :: .val (.string K) :: .val (.pointer (some ⟨w.heap.size, 2, none⟩)) :: .val (.string t) :: .val (.string F) :: .val (.string (K ++ F)) :: .val (.string (K ++ F)) :: []) (by kernel_rfl) (by kernel_rfl) (Nat.le_refl _) (by exact trivial)
   ⟨fun a wv R => (by have h1 : a.tmps[1]? = some (.pointer (some ⟨w.heap.size, 0, none⟩)) := R.slot 1 rfl; refine .inl ?_; first | (simp [go_sem, execOp, h1]; done) | (simp [go_sem, execOp, h1]; rfl)),
   fun a wv R => (by have h3 : a.tmps[3]? = some (.pointer (some ⟨w.heap.size, 1, none⟩)) := R.val 0; have oc_ := (R.keep O.drawn trivial).at_.1 1; simp at oc_; refine .inl ?_; first | (simp [go_sem, execOp, h3, oc_]; done) | (simp [go_sem, execOp, h3, oc_]; rfl)),
   fun a wv R => (by have h4 : a.tmps[4]? = some (.int .i64 (k : Int)) := R.val 1; refine .inl ?_; first | (simp [go_sem, execOp, h4, hw8]; done) | (simp [go_sem, execOp, h4, hw8]; rfl)),
   fun a wv R => (by have h5 : a.tmps[5]? = some (.int .u8 (k : Int)) := R.val 2; exact ⟨6, rfl, by first | (simp [go_sem, execOp, h5, zFw]; done) | (simp [go_sem, execOp, h5, zFw]; rfl)⟩),
   fun a wv R => (by obtain ⟨d_, g_, hd_, ht_, _, ho_⟩ := R.dep 3; obtain rfl : 6 = d_ := Option.some.inj hd_; refine .inl ?_; have hc_ := hcv wv g_ 1 (by have := ho_.at_.1 0; simpa using this); simp [go_sem, execOp, ht_, mkv, hc_]),
   fun a wv R => (by have h1 : a.tmps[1]? = some (.pointer (some ⟨w.heap.size, 0, none⟩)) := R.slot 1 rfl; refine .inl ?_; first | (simp [go_sem, execOp, h1]; done) | (simp [go_sem, execOp, h1]; rfl)),
   fun a wv R => (by have h8 : a.tmps[8]? = some (.pointer (some ⟨w.heap.size, 2, none⟩)) := R.val 5; have oc_ := (R.keep O.drawn trivial).at_.1 2; simp at oc_; refine .inl ?_; first | (simp [go_sem, execOp, h8, oc_]; done) | (simp [go_sem, execOp, h8, oc_]; rfl)),
   fun a wv R => (by have h9 : a.tmps[9]? = some (.string t) := R.val 6; refine .inr ⟨149, _, ?_, HF.out _⟩; first | (simp [go_sem, execOp, h9]; done) | (simp [go_sem, execOp, h9]; exact vH Tryz.func149 rfl rfl _ _)),
   fun a wv R => (by have h7 : a.tmps[7]? = some (.string K) := R.val 4; have h10 : a.tmps[10]? = some (.string F) := R.val 7; refine .inl ?_; first | (simp [go_sem, execOp, h7, h10, hl]; done) | (simp [go_sem, execOp, h7, h10, hl]; rfl)),
   fun a wv R => (by have h11 : a.tmps[11]? = some (.string (K ++ F)) := R.val 8; refine .inl ?_; first | (simp [go_sem, execOp, h11]; done) | (simp [go_sem, execOp, h11]; rfl)), trivial⟩ (fun act_ W1 I => ?_)
 obtain ⟨gb6, ew6, lw6, ow6⟩ := I.new 3 rfl rfl rfl;rw [I.act [(3, .pointer (some ⟨w.heap.size, 1, none⟩)), (4, .int .i64 (k : Int)), (5, .int .u8 (k : Int)), (6, .slice (some ⟨gb6, 0, none⟩) 1 1), (7, .string K), (8, .pointer (some ⟨w.heap.size, 2, none⟩)), (9, .string t), (10, .string F), (11, .string (K ++ F)), (2, .string (K ++ F))]
   ⟨I.val 0, I.val 1, I.val 2, ew6, I.val 4, I.val 5, I.val 6, I.val 7, I.val 8, I.val 9, trivial⟩ rfl]
 change W0.heap.size <= gb6 at lw6;have hW1 : Below w.heap.size w W1 := then_ B0.drew I.below B0.size;clear ew6;clear I;simp only [List.foldl_cons, List.foldl_nil, lA, lZ, lS];go_wp2;go_ret;exact ⟨rfl, hW1⟩
end
end Go.Proofs.YthijgebmoadgkaaGreatDoor
