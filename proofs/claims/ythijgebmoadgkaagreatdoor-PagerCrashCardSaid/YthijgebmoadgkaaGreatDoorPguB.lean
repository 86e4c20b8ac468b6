import Derived.Test.YthijgebmoadgkaaGreatDoorPguG
set_option linter.unusedVariables false
set_option linter.unusedSimpArgs false
namespace Go.Proofs.YthijgebmoadgkaaGreatDoor
open Go.ChangeShapes Go.WideShapes Go.ChangeAt Go.RowKit
section
def vQ (x : ByteArray) (q : Nat) : Bool := Lib.hasSuffix x.data.toList (nB q).data.toList
def umB (x : ByteArray) (q : Nat) : ByteArray := x.extract 0 (x.size - 8) ++ nB (18446744073709551615 - q)
def yM (s : St) (at_ q : Nat) : List Dop := if vQ (vw s at_) q = true then [some (at_, umB (vw s at_) q), none] else []
theorem zFz {x : ByteArray} {q : Nat} (h : vQ x q = true) : 8 <= x.size := by
 have := (List.isSuffixOf_iff_suffix.1 h).length_le;have h8 := vK q;have e1 : (nB q).data.toList.length = 8 := h8;rw [e1] at this;exact this
theorem fQ {x : ByteArray} {q : Nat} (h : 8 <= x.size) : (umB x q).size = x.size := by
 unfold umB;rw [ByteArray.size_append, ByteArray.size_extract, vK];omega
theorem Uv (s : St) (at_ q : Nat) : (yM s at_ q).length <= 2 := by unfold yM; split <;> simp
def Wrt (w w' : World) (d sb mb sc : Nat) (wv : Value) (N : Nat) (s' : St) : Prop :=
 ∃ wv', zI w' d sb mb sc wv' N s' /\ Chg (fp d sb mb wv) w w' /\ (wv'.ownBlock = wv.ownBlock \/ wv'.ownBlock = none \/ ∃ g, wv'.ownBlock = some g /\ w.heap.size <= g)
theorem zJi (q : Nat) (hq : q <= 18446744073709551615) : bits BinOp.xor IntKind.u64 IntKind.u64.max (q : Int) = ((18446744073709551615 - q : Nat) : Int) := by
 have e : IntKind.u64.max = ((18446744073709551615 : Nat) : Int) := rfl;rw [e];refine (u64_xor_nat 18446744073709551615 q (by omega) (by omega)).trans ?_;rw [Nat.xor_comm];have h1 : (BitVec.ofNat 64 q ^^^ BitVec.allOnes 64).toNat = q ^^^ 18446744073709551615 := by
   rw [BitVec.toNat_xor, BitVec.toNat_ofNat, BitVec.toNat_allOnes, Nat.mod_eq_of_lt (by omega)]
 rw [<- h1, BitVec.xor_allOnes, BitVec.toNat_not, BitVec.toNat_ofNat, Nat.mod_eq_of_lt (by omega)]
theorem zJw (s p : ByteArray) (w : World) (hs : s.size <= 1000000000) : Calls Tryz.prog 349 #[.string s, .string p] w fun e w' => e = .returned (.tuple #[.string (if Lib.hasSuffix s.data.toList p.data.toList = true then s.extract 0 (s.size - p.size) else s), .bool (Lib.hasSuffix s.data.toList p.data.toList)]) /\ w = w' := by
 have HS := Lh (fun w => Tryz.stringslite_HasSuffix s p w (by omega));cases hb : Lib.hasSuffix s.data.toList p.data.toList with
 | false =>
   rw [hb] at HS;clear hb;go_enter Tryz.func349, Tryz.ntmps349;go_wp2_with (go_at_call 357; refine (HS.out _).mono ?_; rintro e w2 ⟨rfl, rfl⟩)
   go_ret2;exact ⟨rfl, rfl⟩
 | true =>
   have hle : p.size <= s.size := (List.isSuffixOf_iff_suffix.1 hb).length_le;rw [hb] at HS;clear hb;have w1 : IntKind.i64.wrap ((s.size : Int) - (p.size : Int)) = ((s.size - p.size : Nat) : Int) := by rw [IntKind.wrap_i64]; omega
   go_enter Tryz.func349, Tryz.ntmps349;go_wp2_with (go_at_call 357; refine (HS.out _).mono ?_; rintro e w2 ⟨rfl, rfl⟩)
   go_ret2;exact ⟨rfl, rfl⟩
theorem zFu (s p : ByteArray) (w : World) (hs : s.size <= 1000000000) : Calls Tryz.prog 328 #[.string s, .string p] w fun e w' => e = .returned (.tuple #[.string (if Lib.hasSuffix s.data.toList p.data.toList = true then s.extract 0 (s.size - p.size) else s), .bool (Lib.hasSuffix s.data.toList p.data.toList)]) /\ w = w' := by
 have HS := Lh (fun w => zJw s p w hs);generalize (if Lib.hasSuffix s.data.toList p.data.toList = true then s.extract 0 (s.size - p.size) else s) = x at *
 generalize Lib.hasSuffix s.data.toList p.data.toList = y at *
 go_enter Tryz.func328, Tryz.ntmps328;go_wp2_with (go_at_call 349; refine (HS.out _).mono ?_; rintro e w2 ⟨rfl, rfl⟩)
 go_ret2;exact ⟨rfl, rfl⟩
section
variable {W : World} {bl pe pf d sb mb sc : Nat} {wv : Value} {N ll : Nat} {x : Int × St}
set_option maxRecDepth 10000 in
theorem um204 (h : fS W bl pe pf d sb mb sc wv N ll x) (at_ : Nat) (t : ByteArray) (hat : at_ <= 1000000) (ht : t.size <= maxLen) (hl : x.2.wr.length <= 900000) (b1 b2 : Nat) (h1 : Own W b1 3 #[.int .i64 (at_ : Int)]) (h2 : Own W b2 9 #[.string t]) :
   Calls Tryz.prog 329 #[mV pf bl, .pointer (some ⟨b1, 0, none⟩), .pointer (some ⟨b2, 0, none⟩)] W fun e w' => e = .returned (.tuple #[]) /\ zK W w' pe d sb mb sc wv N (zP N [some (at_, t)] x) := by
 have hcs : ∀ i, i < 1 -> (#[.string t] : Array Value)[i]? = some (.string t) := fun i hi => by
   have : i = 0 := by omega
   subst this; rfl
 have HPUT := Lh ((h.below (zG W 9 #[.string t])).put at_ 1 (fun _ => t) W.heap.size #[.string t] (Own.made _ _ _) hcs (fun i hi => ht) (by omega) (by omega) hat hl);rw [show yE at_ (fun _ => t) 1 = [some (at_, t)] from rfl] at HPUT;have B1 := Lh (zG W 9 #[.string t]);obtain ⟨q1, q2, q3⟩ := h1.at_;obtain ⟨q4, q5, q6⟩ := h2.at_;clear h h1 h2;unfold mV;go_enter Tryz.func329, Tryz.ntmps329;go_wp2_with fail;refine HPUT.out.mono ?_;rintro e w5 ⟨rfl, hS5⟩;have hS6 := Lh (zK.from_ hS5 B1.out);clear hS5;go_wp2;go_end0
 exact ⟨rfl, hS6.out⟩
end
end
section
section
variable {w w1 w2 : World} {d sb mb sc : Nat} {wv : Value} {N : Nat} {s s' : St}
theorem Wrt.same (h : zI w d sb mb sc wv N s) : Wrt w w d sb mb sc wv N s := ⟨wv, h, Chg.refl _ _, .inl rfl⟩
theorem Wrt.below (h : Wrt w w1 d sb mb sc wv N s) (hb : Below w1.heap.size w1 w2) : Wrt w w2 d sb mb sc wv N s := by
 obtain ⟨wv', h1, h2, h3⟩ := h;exact ⟨wv', h1.below hb, h2.call hb, h3⟩
theorem Wrt.from_ (h : Wrt w1 w2 d sb mb sc wv N s) (hb : Below w.heap.size w w1) : Wrt w w2 d sb mb sc wv N s := by
 obtain ⟨wv', h1, h2, h3⟩ := h;refine ⟨wv', h1, (Chg.of hb).trans h2 fun q hq e => e, ?_⟩;rcases h3 with h | h | ⟨g, h, hg⟩
 · exact .inl h
 · exact .inr (.inl h)
 · exact .inr (.inr ⟨g, h, Nat.le_trans hb.size hg⟩)
theorem Wrt.then_ {wv1 : Value} (hc : Chg (fp d sb mb wv) w w1) (hv : wv1.ownBlock = wv.ownBlock \/ wv1.ownBlock = none \/ ∃ g, wv1.ownBlock = some g /\ w.heap.size <= g) (h : Wrt w1 w2 d sb mb sc wv1 N s) : Wrt w w2 d sb mb sc wv N s := by
 obtain ⟨wv', h1, h2, h3⟩ := h;refine ⟨wv', h1, hc.trans h2 fun q hq e => (vR hv e).elim id fun h => absurd hq (by omega), ?_⟩;rcases h3 with h | h | ⟨g, h, hg⟩
 · rw [h]; exact hv
 · exact .inr (.inl h)
 · exact .inr (.inr ⟨g, h, Nat.le_trans hc.size hg⟩)
end
section
variable {w : World} {p d sb mb sc : Nat} {wv : Value} {N ll : Nat} {s : St} {x2 x3 x4 x5 x6 x7 : Value}
set_option maxRecDepth 10000 in
set_option maxHeartbeats 1000000 in
theorem zG6 (hD : zI w d sb mb sc wv N s) (hd : s.down = false) (hO : Own w p 150 #[.pointer (some ⟨d, 0, none⟩), .int .i64 (ll : Int), x2, x3, x4, x5, x6, x7]) (at_ q : Nat) (hat : at_ < N) (hq : q <= 18446744073709551615) (hE : vQ (vw s at_) q = false) :
   Calls Tryz.prog 295 #[.pointer (some ⟨p, 0, none⟩), .int .i64 (at_ : Int), .int .u64 (q : Int)] w fun e w' => e = .returned (.int .i64 0) /\ Below w.heap.size w w' := by
 have hN := hD.ok.max;have hvs := mF hD.ok at_ hat;have HR := Lh (fun W (hb : Below w.heap.size w W) => show Calls Tryz.prog 158 #[.pointer (some ⟨d, 0, none⟩), .int .i64 (at_ : Int)] W fun e w' => e = .returned (.tuple #[.string (vw s at_), .int .i64 0]) /\ Below W.heap.size W w' from by have := gJ (hD.below hb) (at_ : Int) (gM (by omega) (by omega)); rw [Vz N s hd at_ hat] at this; exact this);have HP := Lh (fun W => show Calls Tryz.prog 148 #[.int .u64 (q : Int), .int .i64 8] W fun e w' => e = .returned (.string (nB q)) /\ w' = W.alloc (.cells (putCells q 8) 310) from vX q 8 W hq (by omega));have HC := Lh (fun W => show Calls Tryz.prog 328 #[.string (vw s at_), .string (nB q)] W fun e w' => e = .returned (.tuple #[.string (vw s at_), .bool false]) /\ W = w' from by
   have := zFu (vw s at_) (nB q) W (by omega);rw [show Lib.hasSuffix (vw s at_).data.toList (nB q).data.toList = false from hE, if_neg (by simp)] at this;exact this)
 obtain ⟨S, hS⟩ : ∃ S, S = vw s at_ := ⟨_, rfl⟩
 obtain ⟨Q, hQ⟩ : ∃ Q, Q = nB q := ⟨_, rfl⟩
 rw [<- hS] at HR HC;rw [<- hQ] at HP HC;have HO := Lh hO;clear hS hQ hE hvs hD hO hd;go_enter Tryz.func295, Tryz.ntmps295;go_upto_region 1 with fail;have O4 := Own.made w 3 #[.int .i64 (at_ : Int)];have B0 := zG w 3 #[.int .i64 (at_ : Int)];have OP := HO.out.keep B0;go_name_world W0 hW0;rw [hW0] at O4 B0 OP;clear hW0;replace O4 := Lh O4;replace B0 := Lh B0;replace OP := Lh OP;refine zA (fun W => Own W p 150 #[.pointer (some ⟨d, 0, none⟩), .int .i64 (ll : Int), x2, x3, x4, x5, x6, x7] /\ Own W w.heap.size 3 #[.int .i64 (at_ : Int)]) (0 :: 1 :: 2 :: 3 :: 4 :: 5 :: 7 :: 8 :: 9 :: 10 :: 11 :: []) (4 :: 5 :: []) (0 :: 1 :: 2 :: 3 :: 4 :: 5 :: 6 :: 7 :: 8 :: 9 :: 10 :: 11 :: []) (by kernel_rfl) (by kernel_rfl) rfl (by kernel_rfl) rfl (⟨OP.out.drawn, O4.out.drawn⟩) (by simp only [zU, List.filterMap_cons, List.filterMap_nil, List.getElem?_cons_zero, List.getElem?_cons_succ, Option.map_some]; exact rfl) ?_;iterate 6
   refine zC (v := ?_) rfl rfl (fun W hS => ?_) ?_;rotate_left
   · first
       | (conv => lhs; simp [go_sem]
          first | done | exact rfl)
       | (have hS := hS rfl
          obtain ⟨q1, q2⟩ := hS;obtain ⟨q1, q3, q4⟩ := Own.at_ q1;obtain ⟨q2, q5, q6⟩ := Own.at_ q2;conv => lhs; simp [go_sem, *]
          first | done | exact rfl)
   simp only [Act.put, lA, lZ, lS]
 refine zQ rfl rfl fun K hK => ?_
 go_wp2_with (go_at_call 158; refine (HR.out _ (B0.out.drew)).mono ?_; rintro e w3 ⟨rfl, hb3⟩)
 have B3 := Lh (then_ B0.out.drew hb3 B0.out.drew.size);have O3 := Lh (And.intro (OP.out.drawn.keep hb3) (O4.out.drawn.keep hb3));refine hK _ _ O3.out ?_;clear hK K hb3;iterate 5
   refine zC (v := ?_) rfl rfl (fun W hS => ?_) ?_;rotate_left
   · first
       | (conv => lhs; simp [go_sem]
          first | done | exact rfl)
       | (have hS := hS rfl
          obtain ⟨q1, q2⟩ := hS;obtain ⟨q1, q3, q4⟩ := Own.at_ q1;obtain ⟨q2, q5, q6⟩ := Own.at_ q2;conv => lhs; simp [go_sem, *]
          first | done | exact rfl)
   simp only [Act.put, lA, lZ, lS]
 refine zR ?_;go_wp2_with (first
   | (go_at_call 148; refine (HP.out _).mono ?_; rintro e w4 ⟨rfl, rfl⟩)
   | (go_at_call 328; refine (HC.out _).mono ?_; rintro e w5 ⟨rfl, rfl⟩))
 go_ret;exact ⟨rfl, B3.out.alloc B3.out.size _⟩
set_option maxRecDepth 10000 in
set_option maxHeartbeats 2000000 in
theorem zE6 (hD : zI w d sb mb sc wv N s) (hd : s.down = false) (hO : Own w p 150 #[.pointer (some ⟨d, 0, none⟩), .int .i64 (ll : Int), x2, x3, x4, x5, x6, x7]) (at_ q : Nat) (hat : at_ < N) (hq : q <= 18446744073709551615) (hE : vQ (vw s at_) q = true) (hfew : s.wr.length <= 300000) :
   Calls Tryz.prog 295 #[.pointer (some ⟨p, 0, none⟩), .int .i64 (at_ : Int), .int .u64 (q : Int)] w fun e w' => e = .returned (.int .i64 (zP N [some (at_, umB (vw s at_) q), none] (0, s)).1) /\ Wrt w w' d sb mb sc wv N (zP N [some (at_, umB (vw s at_) q), none] (0, s)).2 := by
 have hN := hD.ok.max;have hvs := mF hD.ok at_ hat;have HR := Lh (fun W (hb : Below w.heap.size w W) => show Calls Tryz.prog 158 #[.pointer (some ⟨d, 0, none⟩), .int .i64 (at_ : Int)] W fun e w' => e = .returned (.tuple #[.string (vw s at_), .int .i64 0]) /\ Below W.heap.size W w' from by have := gJ (hD.below hb) (at_ : Int) (gM (by omega) (by omega)); rw [Vz N s hd at_ hat] at this; exact this);have HP := Lh (fun W => show Calls Tryz.prog 148 #[.int .u64 (q : Int), .int .i64 8] W fun e w' => e = .returned (.string (nB q)) /\ w' = W.alloc (.cells (putCells q 8) 310) from vX q 8 W hq (by omega));have HP2 := Lh (fun W => show Calls Tryz.prog 148 #[.int .u64 ((18446744073709551615 - q : Nat) : Int), .int .i64 8] W fun e w' => e = .returned (.string (nB (18446744073709551615 - q))) /\ w' = W.alloc (.cells (putCells (18446744073709551615 - q) 8) 310) from vX _ 8 W (by omega) (by omega));have HC := Lh (fun W => show Calls Tryz.prog 328 #[.string (vw s at_), .string (nB q)] W fun e w' => e = .returned (.tuple #[.string ((vw s at_).extract 0 ((vw s at_).size - 8)), .bool true]) /\ W = w' from by
   have := zFu (vw s at_) (nB q) W (by omega);rw [show Lib.hasSuffix (vw s at_).data.toList (nB q).data.toList = true from hE, if_pos rfl, vK] at this;exact this)
 have xm := zJi q hq;have hus : (umB (vw s at_) q).size = 64 := by rw [fQ (by omega)]; exact hvs
 have nls : ¬ 9223372036854775807 < ((vw s at_).extract 0 ((vw s at_).size - 8)).size + (nB (18446744073709551615 - q)).size := by rw [ByteArray.size_extract, vK]; omega
 have HU := Lh (show umB (vw s at_) q = (vw s at_).extract 0 ((vw s at_).size - 8) ++ nB (18446744073709551615 - q) from rfl);obtain ⟨X, hX⟩ : ∃ X, X = (vw s at_).extract 0 ((vw s at_).size - 8) := ⟨_, rfl⟩
 obtain ⟨U, hU⟩ : ∃ U, U = umB (vw s at_) q := ⟨_, rfl⟩
 obtain ⟨S, hS⟩ : ∃ S, S = vw s at_ := ⟨_, rfl⟩
 obtain ⟨Q, hQ⟩ : ∃ Q, Q = nB q := ⟨_, rfl⟩
 obtain ⟨Q2, hQ2⟩ : ∃ Q2, Q2 = nB (18446744073709551615 - q) := ⟨_, rfl⟩
 obtain ⟨q2, hq2⟩ : ∃ q2, q2 = 18446744073709551615 - q := ⟨_, rfl⟩
 rw [<- hU] at HU hus ⊢;rw [<- hX] at HC HU nls;rw [<- hS] at HR HC;rw [<- hQ] at HP HC;rw [<- hQ2] at HP2 HU nls;rw [<- hq2] at HP2 xm;have HO := Lh hO;have HD := Lh hD;clear hU hS hX hQ hQ2 hq2 hE hvs hD hO hd;go_enter Tryz.func295, Tryz.ntmps295;go_upto_region 1 with fail;have O4 := Own.made w 3 #[.int .i64 (at_ : Int)];have B0 := zG w 3 #[.int .i64 (at_ : Int)];have OP := HO.out.keep B0;go_name_world W0 hW0;rw [hW0] at O4 B0 OP;clear hW0;replace O4 := Lh O4;replace B0 := Lh B0;replace OP := Lh OP;refine zA (fun W => Own W p 150 #[.pointer (some ⟨d, 0, none⟩), .int .i64 (ll : Int), x2, x3, x4, x5, x6, x7] /\ Own W w.heap.size 3 #[.int .i64 (at_ : Int)]) (0 :: 1 :: 2 :: 3 :: 4 :: 5 :: 7 :: 8 :: 9 :: 10 :: 11 :: []) (4 :: 5 :: []) (0 :: 1 :: 2 :: 3 :: 4 :: 5 :: 6 :: 7 :: 8 :: 9 :: 10 :: 11 :: []) (by kernel_rfl) (by kernel_rfl) rfl (by kernel_rfl) rfl (⟨OP.out.drawn, O4.out.drawn⟩) (by simp only [zU, List.filterMap_cons, List.filterMap_nil, List.getElem?_cons_zero, List.getElem?_cons_succ, Option.map_some]; exact rfl) ?_;iterate 6
   refine zC (v := ?_) rfl rfl (fun W hS => ?_) ?_;rotate_left
   · first
       | (conv => lhs; simp [go_sem, True]
          first | done | exact rfl)
       | (have hS := hS rfl
          obtain ⟨q1, q2⟩ := hS;obtain ⟨q1, q3, q4⟩ := Own.at_ q1;obtain ⟨q2, q5, q6⟩ := Own.at_ q2;conv => lhs; simp [go_sem, *, True]
          first | done | exact rfl)
   simp only [Act.put, lA, lZ, lS]
 refine zQ rfl rfl fun K hK => ?_
 go_wp2_with (go_at_call 158; refine (HR.out _ (B0.out.drew)).mono ?_; rintro e w3 ⟨rfl, hb3⟩)
 have B3 := Lh (then_ B0.out.drew hb3 B0.out.drew.size);have O3 := Lh (And.intro (OP.out.drawn.keep hb3) (O4.out.drawn.keep hb3));refine hK _ _ O3.out ?_;clear hK K hb3;iterate 5
   refine zC (v := ?_) rfl rfl (fun W hS => ?_) ?_;rotate_left
   · first
       | (conv => lhs; simp [go_sem, True]
          first | done | exact rfl)
       | (have hS := hS rfl
          obtain ⟨q1, q2⟩ := hS;obtain ⟨q1, q3, q4⟩ := Own.at_ q1;obtain ⟨q2, q5, q6⟩ := Own.at_ q2;conv => lhs; simp [go_sem, *, True]
          first | done | exact rfl)
   simp only [Act.put, lA, lZ, lS]
 refine zR ?_;go_upto_region 6 with (first
   | (go_at_call 148; with_reducible refine (HP.out _).mono ?_; rintro e w4 ⟨rfl, rfl⟩)
   | (go_at_call 328; refine (HC.out _).mono ?_; rintro e w5 ⟨rfl, rfl⟩)
   | (go_at_call 148; with_reducible refine (HP2.out _).mono ?_; rintro e w6 ⟨rfl, rfl⟩))
 rw [<- HU.out];have B6 := ((B3.out.alloc B3.out.size (.cells (putCells q 8) 310)).alloc (by have := B3.out.size; simp; omega) (.cells (putCells q2 8) 310)).alloc (by have := B3.out.size; simp; omega) (.cells #[.string U] 9);have P6 := ((O3.out.1.more (.cells (putCells q 8) 310)).more (.cells (putCells q2 8) 310)).more (.cells #[.string U] 9);have A6 := ((O3.out.2.more (.cells (putCells q 8) 310)).more (.cells (putCells q2 8) 310)).more (.cells #[.string U] 9);have S6 : Own (((w3.alloc (.cells (putCells q 8) 310)).alloc (.cells (putCells q2 8) 310)).alloc (.cells #[.string U] 9)) (w3.heap.size + 1 + 1) 9 #[.string U] := Own.made_at (by simp);go_name_world W6 hW6;rw [hW6] at B6 P6 A6 S6;clear hW6;obtain ⟨b6, hb6⟩ : ∃ b6, b6 = w3.heap.size + 1 + 1 := ⟨_, rfl⟩
 rw [<- hb6] at S6 ⊢;clear hb6;obtain ⟨cs, hcs⟩ : ∃ cs : Array Value, cs = #[.func (.func 329) #[] #[.pointer (some ⟨w.heap.size, 0, none⟩), .pointer (some ⟨b6, 0, none⟩)]] := ⟨_, rfl⟩
 have OB := Own.made W6 128 cs;have A7 := A6.more (.cells cs 128);have S7 := S6.more (.cells cs 128);have B7 := B6.alloc B6.size (.cells cs 128);have D7 := HD.out.below B7;have hz2 : U.size <= maxLen := by rw [hus]; unfold maxLen; omega
 have HPW := Js D7 ll 1 (fun _ => 329) (fun _ => #[.pointer (some ⟨w.heap.size, 0, none⟩), .pointer (some ⟨b6, 0, none⟩)]) (fun _ => [some (at_, U)]) W6.heap.size cs OB
   (fun k hk => by obtain rfl : k = 0 := (by omega); rw [hcs]; rfl)
   (fun k hk args W => vH Tryz.func329 rfl rfl args W)
   (fun k hk => by
     intro W x bl pe pf wv1 hSi hD1 hB1 hF1 hE1 hap hlen _ _ _ _;have PC : fS W bl pe pf d sb mb sc wv1 N ll x := ⟨hD1, hB1, hF1, hE1, hap⟩
     exact um204 PC at_ U (by omega) hz2 (by omega) w.heap.size b6 (hSi.own A7 (D7.no_own A7 (by decide) (by decide) (by simp))) (hSi.own S7 (D7.no_own S7 (by decide) (by decide) (by simp))))
   (by omega) (by omega) (fun k hk => by rcases (by omega : k = 0 \/ k = 1) with rfl | rfl <;> simp [yV] <;> omega)
 rw [show yV (fun _ => [some (at_, U)]) 1 = [some (at_, U), none] from rfl] at HPW;rw [hcs] at HPW;unfold uM at HPW;replace HPW := Lh HPW;have HB7 := Lh B7;rw [hcs] at HB7;obtain ⟨q1, q3, q4⟩ := P6.at_;clear hcs OB A7 S7 B7 D7 hz2 B6 P6 A6 S6;go_wp2_with fail;refine HPW.out.mono ?_;rintro e w8 ⟨rfl, hWr⟩;have R8 := Lh (Wrt.from_ hWr HB7.out);clear hWr;go_wp2;go_ret;exact ⟨rfl, R8.out⟩
end
end
end Go.Proofs.YthijgebmoadgkaaGreatDoor
