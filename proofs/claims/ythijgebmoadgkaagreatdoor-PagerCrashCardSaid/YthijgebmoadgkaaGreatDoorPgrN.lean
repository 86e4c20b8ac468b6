import Derived.Test.YthijgebmoadgkaaGreatDoorPgrK
set_option linter.unusedVariables false
set_option linter.unusedSimpArgs false
namespace Go.Proofs.YthijgebmoadgkaaGreatDoor
open Go.ChangeShapes Go.WideShapes Go.ChangeAt Go.RowKit
section
section
variable {a : Act} {w w0 : World} {af : Array Edge} {pos : String} {t : TypeId} {gd : Option (Nat × Bool)}
theorem zOh {d : Nat} : zG8 Tryz.prog w0 { dst := some d, op := .alloc 9, type := t, pos := pos, after := af, guard := gd } (.blk 9 1) a w :=
 ⟨d, #[.string ⟨#[]⟩], rfl, rfl, by simp [go_sem, execOp]⟩
theorem zOm {s s' n0 : Nat} {x : ByteArray} (h : Sat n0 (some s) (.blk 9 1) a w) (h' : a.tmps[s']? = some (.string x)) :
   zG8 Tryz.prog w0 { dst := none, op := .store 9 (.tmp s) (.tmp s'), type := t, pos := pos, after := af, guard := gd } (.put s 9 #[.string x]) a w := by
 obtain ⟨d, g, cs, hd, ht, _, hc, ho⟩ := h;obtain rfl : s = d := Option.some.inj hd;refine ⟨rfl, w.setCell ⟨g, 0, none⟩ (.string x), .inl ?_, fun p cs0 hp hop hcs => ?_⟩
 · obtain ⟨h1, h2, h3⟩ := ho.at_;have c0 : cs[0]? = some cs[0] := by simp [hc]
   simp [go_sem, execOp, ht, h', h1, h2, c0]
 · obtain rfl : g = p := by rw [ht] at hp; simpa using hp
   refine ⟨(hop.put 0 (.string x)).as ?_, ⟨by simp [World.setCell], fun q hq => Below.heap_setCell _ _ _ _ hq⟩, fun B hB hb => hb.setCell hB _⟩;obtain ⟨l⟩ := cs0;have hl : l.length = 1 := hcs;obtain ⟨y0, l, rfl⟩ := List.exists_cons_of_length_eq_add_one hl;replace hl : l.length = 0 := by simpa using hl
   obtain rfl := List.length_eq_zero_iff.1 hl;simp
end
theorem zK7 (d ll no : Nat) (pg : Pag) (w : World) : Calls Tryz.prog 72 #[uM d ll, shV no pg] w fun e w' => e = .returned (.func (.func 144) #[] #[.pointer (some ⟨w.heap.size, 0, none⟩), .pointer (some ⟨w.heap.size + 1, 0, none⟩)]) /\
   Own w' w.heap.size 124 #[.pointer (some ⟨d, 0, none⟩), .int .i64 (ll : Int)] /\ Own w' (w.heap.size + 1) 131 #[.int .i64 (no : Int), .int .i64 (pg.1 : Int), .string pg.2] /\ Below w.heap.size w w' := by
 unfold uM shV;go_enter Tryz.func72, Tryz.ntmps72;go_wp2;go_ret;exact ⟨rfl, (Own.made w _ _).more _, Own.made_at (by simp), (zG _ _ _).alloc (by simp) _⟩
set_option maxRecDepth 10000 in
theorem zIo (d ll seq first : Nat) (w : World) (hs : seq <= 18446744073709551615) (hf : first <= 18446744073709551615) (hl : ll <= 1000000) : Calls Tryz.prog 75 #[uM d ll, .int .u64 (seq : Int), .int .u64 (first : Int)] w fun e w' => ∃ b1 b2, e = .returned (.func (.func 157) #[] #[.pointer (some ⟨b1, 0, none⟩), .pointer (some ⟨b2, 0, none⟩)]) /\
   Own w' b1 35 #[.int .u64 (seq : Int)] /\ Own w' b2 9 #[.string (mkB seq (mkT first ll))] /\ Below w.heap.size w w' := by
 have HT := Lh (fun w => show Calls Tryz.prog 156 #[.int .u64 (first : Int), .int .u64 (ll : Int)] w fun e w' => e = .returned (.string (mkT first ll)) /\ Below w.heap.size w w' from Ug first ll w hf (by omega));have HM := Lh (fun w => zD7 seq (mkT first ll) w hs (by rw [xL]; omega));obtain ⟨T, hT⟩ : ∃ T, T = mkT first ll := ⟨_, rfl⟩
 obtain ⟨M, hM⟩ : ∃ M, M = mkB seq T := ⟨_, rfl⟩
 rw [<- hT] at HT HM ⊢;rw [<- hM] at HM ⊢;clear hT hM;have w1 : IntKind.u64.wrap (ll : Int) = ll := by rw [IntKind.wrap_u64]; omega
 unfold uM;go_enter Tryz.func75, Tryz.ntmps75;go_upto_region 1 with fail;have OL : Own ((w.alloc (.cells #[.pointer (some ⟨d, 0, none⟩), .int .i64 (ll : Int)] 124)).alloc (.cells #[.int .u64 (seq : Int)] 35)) w.heap.size 124 #[.pointer (some ⟨d, 0, none⟩), .int .i64 (ll : Int)] := (Own.made w _ _).more _;have OS : Own ((w.alloc (.cells #[.pointer (some ⟨d, 0, none⟩), .int .i64 (ll : Int)] 124)).alloc (.cells #[.int .u64 (seq : Int)] 35)) (w.heap.size + 1) 35 #[.int .u64 (seq : Int)] := Own.made_at (by simp);have B0 : Below w.heap.size w ((w.alloc (.cells #[.pointer (some ⟨d, 0, none⟩), .int .i64 (ll : Int)] 124)).alloc (.cells #[.int .u64 (seq : Int)] 35)) := (zG _ _ _).alloc (by simp) _;go_name_world W0 hW0;rw [hW0] at OL OS B0;clear hW0;refine Vg (B := W0.heap.size) (L := .val (.int .u64 (seq : Int)) :: .val (.int .u64 (first : Int)) :: .val (.pointer (some ⟨w.heap.size, 1, none⟩)) :: .val (.int .i64 (ll : Int)) :: .val (.int .u64 (ll : Int)) :: .val (.string T) :: .val (.tuple #[.string M, .int .i64 0]) :: .val (.tuple #[.string M, .int .i64 0]) :: .val (.string M) :: .val (.int .i64 0) :: .blk 9 1 :: .put 7 9 #[.string M] :: .val (.int .i64 0) :: []) (by kernel_rfl) (by kernel_rfl) (Nat.le_refl _) (by exact trivial)
   ⟨fun a wv R => (by have h4 : a.tmps[4]? = some (.pointer (some ⟨w.heap.size + 1, 0, none⟩)) := R.slot 4 rfl; have oc_ := (R.keep OS.drawn trivial).at_.1 0; simp at oc_; refine .inl ?_; first | (simp [go_sem, execOp, h4, oc_]; done) | (simp [go_sem, execOp, h4, oc_]; rfl)),
   fun a wv R => (by have h2 : a.tmps[2]? = some (.int .u64 (first : Int)) := R.slot 2 rfl; refine .inl ?_; first | (simp [go_sem, execOp, h2]; done) | (simp [go_sem, execOp, h2]; rfl)),
   fun a wv R => (by have h3 : a.tmps[3]? = some (.pointer (some ⟨w.heap.size, 0, none⟩)) := R.slot 3 rfl; refine .inl ?_; first | (simp [go_sem, execOp, h3]; done) | (simp [go_sem, execOp, h3]; rfl)),
   fun a wv R => (by have h12 : a.tmps[12]? = some (.pointer (some ⟨w.heap.size, 1, none⟩)) := R.val 2; have oc_ := (R.keep OL.drawn trivial).at_.1 1; simp at oc_; refine .inl ?_; first | (simp [go_sem, execOp, h12, oc_]; done) | (simp [go_sem, execOp, h12, oc_]; rfl)),
   fun a wv R => (by have h13 : a.tmps[13]? = some (.int .i64 (ll : Int)) := R.val 3; refine .inl ?_; first | (simp [go_sem, execOp, h13, w1]; done) | (simp [go_sem, execOp, h13, w1]; rfl)),
   fun a wv R => (by have h11 : a.tmps[11]? = some (.int .u64 (first : Int)) := R.val 1; have h14 : a.tmps[14]? = some (.int .u64 (ll : Int)) := R.val 4; refine .inr ⟨156, _, ?_, HT.out _⟩; first | (simp [go_sem, execOp, h11, h14]; done) | (simp [go_sem, execOp, h11, h14]; exact vH Tryz.func156 rfl rfl _ _)),
   fun a wv R => (by have h10 : a.tmps[10]? = some (.int .u64 (seq : Int)) := R.val 0; have h15 : a.tmps[15]? = some (.string T) := R.val 5; refine .inr ⟨155, _, ?_, HM.out _⟩; first | (simp [go_sem, execOp, h10, h15]; done) | (simp [go_sem, execOp, h10, h15]; exact vH Tryz.func155 rfl rfl _ _)),
   fun a wv R => (by have h16 : a.tmps[16]? = some (.tuple #[.string M, .int .i64 0]) := R.val 6; refine .inl ?_; first | (simp [go_sem, execOp, h16]; done) | (simp [go_sem, execOp, h16]; rfl)),
   fun a wv R => (by have h9 : a.tmps[9]? = some (.tuple #[.string M, .int .i64 0]) := R.val 7; refine .inl ?_; first | (simp [go_sem, execOp, h9]; done) | (simp [go_sem, execOp, h9]; rfl)),
   fun a wv R => (by have h9 : a.tmps[9]? = some (.tuple #[.string M, .int .i64 0]) := R.val 7; refine .inl ?_; first | (simp [go_sem, execOp, h9]; done) | (simp [go_sem, execOp, h9]; rfl)),
   fun a wv R => zOh,
   fun a wv R => (by have h17 : a.tmps[17]? = some (.string M) := R.val 8; exact zOm (R.dep 10) h17),
   fun a wv R => (by have h18 : a.tmps[18]? = some (.int .i64 0) := R.val 9; refine .inl ?_; first | (simp [go_sem, execOp, h18]; done) | (simp [go_sem, execOp, h18]; rfl)), trivial⟩ (fun act_ W1 I => ?_)
 obtain ⟨gb7, ew7, lw7, ow7⟩ := I.put 11 rfl rfl;rw [I.act [(10, .int .u64 (seq : Int)), (11, .int .u64 (first : Int)), (12, .pointer (some ⟨w.heap.size, 1, none⟩)), (13, .int .i64 (ll : Int)), (14, .int .u64 (ll : Int)), (15, .string T), (16, .tuple #[.string M, .int .i64 0]), (9, .tuple #[.string M, .int .i64 0]), (17, .string M), (18, .int .i64 0), (7, .pointer (some ⟨gb7, 0, none⟩)), (8, .int .i64 0)]
   ⟨I.val 0, I.val 1, I.val 2, I.val 3, I.val 4, I.val 5, I.val 6, I.val 7, I.val 8, I.val 9, ew7, I.val 12, trivial⟩ rfl]
 change W0.heap.size <= gb7 at lw7;replace OS := I.keep OS.drawn trivial;have hW1 : Below w.heap.size w W1 := then_ B0.drew I.below B0.size;clear ew7;clear I;simp only [List.foldl_cons, List.foldl_nil, lA, lZ, lS];go_wp2;go_ret;exact ⟨_, _, rfl, OS, ow7, hW1⟩
section
variable {W W' : World} {bl pe pf d sb mb sc : Nat} {wv : Value} {N ll : Nat} {x y : Int × St}
theorem zE1 (p : Nat) (t : ByteArray) (k : Nat) : yE p (fun _ => t) k ++ yE (p + k) (fun _ => t) 1 = yE p (fun _ => t) (k + 1) := by rw [fL p _ k]; rfl
set_option maxRecDepth 10000 in
set_option maxHeartbeats 1000000 in
theorem fmt47 (h : fS W bl pe pf d sb mb sc wv N ll x) (t : ByteArray) (ht : t.size <= maxLen) (hll : ll <= 70000) (hl : x.2.wr.length <= 800000) (bg bb b3 : Nat) (h1 : Own W bg 3 #[.int .i64 (ll : Int)]) (h2 : Own W bb 9 #[.string t]) (h3 : Own W b3 124 #[.pointer (some ⟨d, 0, none⟩), .int .i64 (ll : Int)]) :
   Calls Tryz.prog 71 #[mV pf bl, .pointer (some ⟨bg, 0, none⟩), .pointer (some ⟨bb, 0, none⟩), .pointer (some ⟨b3, 0, none⟩)] W fun e w' => e = .returned (.tuple #[]) /\ zK W w' pe d sb mb sc wv N (zP N (yE 2 (fun _ => t) ll ++ vV ll 0 (1, zJ 1 0 fun _ => 0)) x) := by
 have nE := h.err;have HH := Lh h;have S0 := Lh (zK.same h.disk h.err);have KEEP : Hid (∀ (w1 : World) (y : Int × St), zK W w1 pe d sb mb sc wv N y -> Own w1 bg 3 #[.int .i64 (ll : Int)] /\ Own w1 bb 9 #[.string t] /\ Own w1 b3 124 #[.pointer (some ⟨d, 0, none⟩), .int .i64 (ll : Int)]) := Lh fun w1 y hs => by
   obtain ⟨wv', -, -, hc, -⟩ := hs;exact ⟨hc.own h1 fun k => k.elim (h.disk.no_own h1 (by decide) (by decide) (by simp)) (h1.type_ne h.err (by decide)),
     hc.own h2 fun k => k.elim (h.disk.no_own h2 (by decide) (by decide) (by simp)) (h2.type_ne h.err (by decide)),
     hc.own h3 fun k => k.elim (h.disk.no_own h3 (by decide) (by decide) (by simp)) (h3.type_ne h.err (by decide))⟩
 obtain ⟨q1, q2, q3⟩ := h1.at_;clear h h2 h3 nE;unfold mV;go_enter Tryz.func71, Tryz.ntmps71;go_wp2;clear q1 q2 q3 h1;go_loopw [7] (fun i wr => ∃ k : Nat, k <= ll /\ i = .int .i64 (k : Int) /\ zK W wr pe d sb mb sc wv N (zP N (yE 2 (fun _ => t) k) x)) (fun i wr => ll - (intOf i).toNat)
 case atStart => exact ⟨0, by omega, rfl, S0.out⟩
 case round =>
   obtain ⟨k, hk, rfl, hS⟩ := hrel;obtain ⟨k1, k2, k3⟩ := KEEP.out _ _ hS;obtain ⟨wv1, hC, hc1, hv1⟩ := HH.out.next hS;have hrl := vE N (yE 2 (fun _ => t) k) x;rw [qB] at hrl;by_cases hlt : k < ll
   · have hcs : ∀ i, i < 1 -> (#[Value.string t] : Array Value)[i]? = some (.string t) := fun i hi => by
       have : i = 0 := by omega
       subst this; rfl
     have HPUT := (hC.below (zG wr 9 #[.string t])).put (2 + k) 1 (fun _ => t) wr.heap.size #[.string t] (Own.made _ _ _) hcs (fun i hi => ht) (by omega) (by omega) (by omega) (by omega);rw [<- jI, zE1, show ((2 + k : Nat) : Int) = 2 + (k : Int) by omega] at HPUT;replace HPUT := Lh HPUT;have C1 := Lh (And.intro hC.disk (And.intro hc1 hv1));obtain ⟨p1, p2, p3⟩ := k2.at_;have w1 : IntKind.i64.wrap (2 + (k : Int)) = 2 + (k : Int) := by rw [IntKind.wrap_i64]; omega
     clear k1 k2 k3 hC hc1 hv1 hS hrl hcs;go_wp2_with fail;refine HPUT.out.mono ?_;rintro e w5 ⟨rfl, hS5⟩;have hS6 := Lh (zK.then_ C1.out.1 C1.out.2.1 C1.out.2.2 (zK.from_ hS5 (zG _ _ _)));clear hS5 p1 p2 p3 w1;go_wp2;go_roundw
     case rel => exact ⟨k + 1, by omega, by go_num, hS6.out⟩
     case measure => simp [intOf]; omega
   · obtain rfl : k = ll := by omega
     have HS := Lh (fun w => show Calls Tryz.prog 73 #[.agg #[.int .i64 1, .int .i64 0, .int .u64 0, .int .u64 0, .int .u64 0, .int .u64 0, .int .u64 0, .int .u64 0, .int .u64 0, .int .u64 0]] w fun e w' => e = .returned (shV 0 (1, zJ 1 0 fun _ => 0)) /\ Below w.heap.size w w' from qD 1 0 (fun _ => 0) w (by omega) (by omega) (fun i _ => by omega));have HPG := Lh (fun w => zK7 d k 0 (1, zJ 1 0 fun _ => 0) w);have hok : xW (1, zJ 1 0 fun _ => 0) := ⟨by simp only; omega, by simp only; omega, yO _ _ _⟩
     obtain ⟨pg, hpg⟩ : ∃ pg : Pag, pg = (1, zJ 1 0 fun _ => 0) := ⟨_, rfl⟩
     have HX := Lh (jI N (yE 2 (fun _ => t) k) (vV k 0 pg) x);have HPG0 := Lh hpg;rw [<- hpg] at HS HPG hok;have HCtx := Lh hC;have C1 := Lh (And.intro hc1 hv1);have K3 := Lh k3;have HRL := Lh hrl;unfold uM at HPG;clear k1 k2 k3 hC hc1 hv1 hS hrl hpg;go_upto_region 5 with fail;refine zA (fun W1 => Own W1 b3 124 #[.pointer (some ⟨d, 0, none⟩), .int .i64 (k : Int)]) (0 :: 1 :: 4 :: []) (0 :: []) (0 :: 1 :: 4 :: 2 :: 3 :: 5 :: []) (by kernel_rfl) (by kernel_rfl) rfl (by kernel_rfl) rfl (K3.out.drawn) (by simp only [zU, List.filterMap_cons, List.filterMap_nil, List.getElem?_cons_zero, List.getElem?_cons_succ, Option.map_some]; exact rfl) ?_;iterate 3
       refine zC (v := ?_) rfl rfl (fun W hS => ?_) ?_;rotate_left
       · first
           | (conv => lhs; simp [go_sem]
              first | done | exact rfl)
           | (have hS := hS rfl
              obtain ⟨q1, q2, q3⟩ := Own.at_ hS;conv => lhs; simp [go_sem, *]
              first | done | exact rfl)
       simp only [Act.put, lA, lZ, lS]
     refine zQ rfl rfl fun K hK => ?_
     go_wp2_with (go_at_call 73; refine (HS.out _).mono ?_; rintro e w2 ⟨rfl, hb2⟩)
     have B2 := Lh (then_ (Below.refl wr.heap.size wr).drew hb2 (Nat.le_refl _));refine hK _ _ (K3.out.keep B2.out) ?_;clear hK K hb2;refine zQ rfl rfl fun K hK => ?_
     go_wp2_with (go_at_call 72; refine (HPG.out _).mono ?_; rintro e w3 ⟨rfl, o1, o2, hb3⟩)
     have B3 := Lh (then_ B2.out hb3 B2.out.size);have O1 := Lh o1;have O2 := Lh o2;refine hK _ _ (K3.out.keep B3.out) ?_;clear hK K hb3 o1 o2;have HL9 := Lh (zI2 (HCtx.out.below B3.out) 0 pg hok (by omega) (by omega) (by have := HRL.out; omega) w2.heap.size (w2.heap.size + 1) O1.out O2.out);refine zQ rfl rfl fun K hK => ?_
     unfold mV at HL9;go_wp2_with fail;refine HL9.out.mono ?_;rintro e w5 ⟨rfl, hS5⟩;have hS6 := zK.then_ HCtx.out.disk C1.out.1 C1.out.2 (zK.from_ hS5 B3.out);rw [<- HX.out, HPG0.out] at hS6;have K5 := (KEEP.out _ _ hS6).2.2;replace hS6 := Lh hS6;replace K5 := Lh K5;clear hS5;go_wp2;refine hK _ _ K5.out ?_;clear hK K;refine zR ?_;go_wp2;go_end0
     exact ⟨rfl, hS6.out⟩
end
end
section
def jO (ll k : Nat) : List Dop := if k = 0 then yE 0 (fun _ => zB 64) 2 else if k = 1 then yE 2 (fun _ => zB 64) ll ++ vV ll 0 (1, zJ 1 0 fun _ => 0) else [some (1 % 2, mkB 1 (mkT 1 ll))]
def vO (ll : Nat) : List Dop := yV (jO ll) 3
theorem zFd (ll : Nat) : ∀ k, k <= 3 -> (yV (jO ll) k).length <= ll + 14 := by
 intro k hk;have e0 : (jO ll 0).length = 2 := by simp [jO, qB]
 have e1 : (jO ll 1).length = ll + 8 := by simp [jO, qB, vV]
 have e2 : (jO ll 2).length = 1 := by simp [jO]
 rcases (by omega : k = 0 \/ k = 1 \/ k = 2 \/ k = 3) with rfl | rfl | rfl | rfl
 · simp [yV]
 · simp only [yX, List.length_append, List.length_cons, List.length_nil, e0]; simp [yV]
 · simp only [yX, List.length_append, List.length_cons, List.length_nil, e0, e1]; simp [yV]; omega
 · simp only [yX, List.length_append, List.length_cons, List.length_nil, e0, e1, e2]; simp [yV]; omega
section
variable {w : World} {d sb mb sc : Nat} {wv : Value} {N : Nat} {s : St}
set_option maxRecDepth 10000 in
set_option maxHeartbeats 1000000 in
theorem zM9 (hD : zI w d sb mb sc wv N s) (ll : Nat) (h1 : 10 <= ll) (h2 : ll + 10 <= N) (hfew : s.wr.length <= 300000) : Calls Tryz.prog 17 #[.pointer (some ⟨d, 0, none⟩), .int .i64 (ll : Int)] w fun e w' => e = .returned (.int .i64 (zP N (vO ll) (0, s)).1) /\
   ∃ wv', zI w' d sb mb sc wv' N (zP N (vO ll) (0, s)).2 /\ Chg (fp d sb mb wv) w w' /\ (wv'.ownBlock = wv.ownBlock \/ wv'.ownBlock = none \/ ∃ g, wv'.ownBlock = some g /\ w.heap.size <= g) := by
 have hN := hD.ok.max;have HO := Lh (fun W (hb : Below w.heap.size w W) => zDa (hD.below hb) (ll : Int) (gM (by omega) (by omega)));have e1 : (decide (10 <= (ll : Int)) && decide ((ll : Int) <= (N : Int) - 10)) = true := by simp; omega
 rw [e1] at HO;have HR := Lh (fun W => show Calls Tryz.prog 69 #[.string ⟨#[0]⟩, .int .i64 64] W fun e w' => e = .returned (.string (zB 64)) /\ Below W.heap.size W w' from Pg.repeat_any 64 W (by omega));have HM := Lh (fun W => show Calls Tryz.prog 75 #[uM d ll, .int .u64 1, .int .u64 1] W fun e w' => ∃ b1 b2, e = .returned (.func (.func 157) #[] #[.pointer (some ⟨b1, 0, none⟩), .pointer (some ⟨b2, 0, none⟩)]) /\
   Own w' b1 35 #[.int .u64 ((1 : Nat) : Int)] /\ Own w' b2 9 #[.string (mkB 1 (mkT 1 ll))] /\ Below W.heap.size W w' from zIo d ll 1 1 W (by omega) (by omega) (by omega))
 have hzs : (zB 64).size = 64 := xG 64;have hms : (mkB 1 (mkT 1 ll)).size = 64 := vD _ _ (by rw [xL]; omega);obtain ⟨Z, hZ⟩ : ∃ Z, Z = zB 64 := ⟨_, rfl⟩
 obtain ⟨M, hM⟩ : ∃ M, M = mkB 1 (mkT 1 ll) := ⟨_, rfl⟩
 have HOPS := Lh (show vO ll = yV (jO ll) 3 from rfl);have f0 := Lh (show jO ll 0 = yE 0 (fun _ => zB 64) 2 from rfl);have f1 := Lh (show jO ll 1 = yE 2 (fun _ => zB 64) ll ++ vV ll 0 (1, zJ 1 0 fun _ => 0) from rfl);have f2 := Lh (show jO ll 2 = [some (1 % 2, mkB 1 (mkT 1 ll))] from rfl);rw [<- hZ] at HR hzs f0 f1;rw [<- hM] at HM hms f2;unfold uM at HM;have HD := Lh hD;clear hD e1 hZ hM;go_enter Tryz.func17, Tryz.ntmps17;have B0 := Lh ((zG w 3 #[.int .i64 (ll : Int)]).alloc (by simp) (.cells #[.pointer (some ⟨d, 0, none⟩), .int .i64 (ll : Int)] 124));have O3 := Lh ((Own.made w 3 #[.int .i64 (ll : Int)]).more (.cells #[.pointer (some ⟨d, 0, none⟩), .int .i64 (ll : Int)] 124));have O5 : Hid (Own ((w.alloc (.cells #[.int .i64 (ll : Int)] 3)).alloc (.cells #[.pointer (some ⟨d, 0, none⟩), .int .i64 (ll : Int)] 124)) (w.heap.size + 1) 124 #[.pointer (some ⟨d, 0, none⟩), .int .i64 (ll : Int)]) := Lh (Own.made_at (by simp));go_upto_region 7 with (first
   | (go_at_call 68; refine (HO.out _ B0.out).mono ?_; rintro e w3 ⟨rfl, hb⟩; have B3 := Lh (then_ B0.out hb B0.out.size); have P3 := Lh (O3.out.keep hb); have P5 := Lh (O5.out.keep hb); clear hb)
   | (go_at_call 69; refine (HR.out _).mono ?_; rintro e w4 ⟨rfl, hb⟩; have B4 := Lh (then_ B3.out hb B3.out.size); have Q3 := Lh (P3.out.keep hb); have Q5 := Lh (P5.out.keep hb); clear hb))
 have R3 := Q3.out.more (.cells #[.string Z] 9);have R5 := Q5.out.more (.cells #[.string Z] 9);have R6 := Own.made w4 9 #[.string Z];have B5 := B4.out.alloc B4.out.size (.cells #[.string Z] 9);go_name_world W0 hW0;rw [hW0] at R3 R5 R6 B5;clear hW0 O3 O5 P3 P5 Q3 Q5 B0 B3 B4 HO HR;obtain ⟨b6, hb6⟩ : ∃ b6, b6 = w4.heap.size := ⟨_, rfl⟩
 rw [<- hb6] at R6 ⊢;clear hb6;replace R3 := Lh R3;replace R5 := Lh R5;replace R6 := Lh R6;replace B5 := Lh B5;have K0 := Lh (Own.in_ R3.out);refine zA (fun W1 => Own W1 (w.heap.size + 1) 124 #[.pointer (some ⟨d, 0, none⟩), .int .i64 (ll : Int)]) (0 :: 1 :: 2 :: 3 :: 7 :: []) (0 :: 3 :: []) (0 :: 1 :: 2 :: 3 :: 4 :: 5 :: 6 :: 7 :: []) (by kernel_rfl) (by kernel_rfl) rfl (by kernel_rfl) rfl (R5.out.drawn) (by simp only [zU, List.filterMap_cons, List.filterMap_nil, List.getElem?_cons_zero, List.getElem?_cons_succ, Option.map_some]; exact rfl) ?_;iterate 4
   refine zC (v := ?_) rfl rfl (fun W hS => ?_) ?_;rotate_left
   · first
       | (conv => lhs; simp [go_sem]
          first | done | exact rfl)
       | (have hS := hS rfl
          obtain ⟨q1, q2, q3⟩ := Own.at_ hS;conv => lhs; simp [go_sem, *]
          first | done | exact rfl)
   simp only [Act.put, lA, lZ, lS]
 refine zQ rfl rfl fun K hK => ?_
 go_wp2_with (go_at_call 75; refine (HM.out _).mono ?_; rintro e w5 ⟨c1, c2, rfl, o1, o2, hb⟩)
 have B6 := Lh (then_ B5.out.drew hb B5.out.drew.size);have S3 := Lh (R3.out.drawn.keep hb);have S5 := Lh (R5.out.drawn.keep hb);have S6 := Lh (R6.out.drawn.keep hb);have S1 := Lh o1;have S2 := Lh o2;refine hK _ _ S5.out ?_;clear hK K hb o1 o2;refine zQ rfl rfl fun K hK => ?_
 go_wp2;refine hK _ _ (S5.out.more _) ?_;clear hK K;obtain ⟨cs, hcs⟩ : ∃ cs : Array Value, cs = #[.func (.func 70) #[] #[.pointer (some ⟨b6, 0, none⟩)], .func (.func 71) #[] #[.pointer (some ⟨w.heap.size, 0, none⟩), .pointer (some ⟨b6, 0, none⟩), .pointer (some ⟨w.heap.size + 1, 0, none⟩)], .func (.func 157) #[] #[.pointer (some ⟨c1, 0, none⟩), .pointer (some ⟨c2, 0, none⟩)]] := ⟨_, rfl⟩
 rw [<- hcs];have OB := Own.made w5 128 cs;have T3 := S3.out.more (.cells cs 128);have T5 := S5.out.more (.cells cs 128);have T6 := S6.out.more (.cells cs 128);have T1 := S1.out.more (.cells cs 128);have T2 := S2.out.more (.cells cs 128);have B7 := B6.out.alloc B6.out.size (.cells cs 128);obtain ⟨bs, hbs⟩ : ∃ bs, bs = w5.heap.size := ⟨_, rfl⟩
 obtain ⟨W7, hW7⟩ : ∃ W7, W7 = w5.alloc (.cells cs 128) := ⟨_, rfl⟩
 rw [<- hbs] at OB ⊢;rw [<- hW7] at OB T3 T5 T6 T1 T2 B7 ⊢;have D7 := HD.out.below B7;have hz1 : Z.size <= maxLen := by rw [hzs]; unfold maxLen; omega
 have hz2 : M.size <= maxLen := by rw [hms]; unfold maxLen; omega
 have HPW := Js D7 ll 3 (fun k => if k = 0 then 70 else if k = 1 then 71 else 157)
   (fun k => if k = 0 then #[.pointer (some ⟨b6, 0, none⟩)] else if k = 1 then #[.pointer (some ⟨w.heap.size, 0, none⟩), .pointer (some ⟨b6, 0, none⟩), .pointer (some ⟨w.heap.size + 1, 0, none⟩)] else #[.pointer (some ⟨c1, 0, none⟩), .pointer (some ⟨c2, 0, none⟩)]) (jO ll) bs cs OB
   (fun k hk => by rcases (by omega : k = 0 \/ k = 1 \/ k = 2) with rfl | rfl | rfl <;> rw [hcs] <;> rfl)
   (fun k hk args W => by
     rcases (by omega : k = 0 \/ k = 1 \/ k = 2) with rfl | rfl | rfl
     · exact vH Tryz.func70 rfl rfl args W
     · exact vH Tryz.func71 rfl rfl args W
     · exact vH Tryz.func157 rfl rfl args W)
   (fun k hk => by
     intro W x bl pe pf wv1 hSi hD1 hB1 hF1 hE1 hap hlen _ _ _ _;have PC : fS W bl pe pf d sb mb sc wv1 N ll x := ⟨hD1, hB1, hF1, hE1, hap⟩
     have U3 := hSi.own T3 (D7.no_own T3 (by decide) (by decide) (by simp));have U5 := hSi.own T5 (D7.no_own T5 (by decide) (by decide) (by simp));have U6 := hSi.own T6 (D7.no_own T6 (by decide) (by decide) (by simp));have U1 := hSi.own T1 (D7.no_own T1 (by decide) (by decide) (by simp));have U2 := hSi.own T2 (D7.no_own T2 (by decide) (by decide) (by simp));rcases (by omega : k = 0 \/ k = 1 \/ k = 2) with rfl | rfl | rfl
     · have := fmt46 PC Z hz1 (by omega) b6 U6;rw [<- f0.out] at this;exact this
     · have := fmt47 PC Z hz1 (by omega) (by omega) w.heap.size b6 (w.heap.size + 1) U3 U6 U5;rw [<- f1.out] at this;exact this
     · have := zGh PC 1 M (by omega) hz2 (by omega) c1 c2 U1 U2;rw [<- f2.out] at this;exact this)
   (by omega) (by omega) (fun k hk => by have := zFd ll k hk; omega)
 rw [<- HOPS.out] at HPW;unfold uM at HPW;replace HPW := Lh HPW;have U5 := Lh T5;have B8 := Lh B7;have N5 := Lh (D7.no_own T5 (by decide) (by decide) (by simp));clear hcs OB T3 T5 T6 T1 T2 B7 D7 hz1 hz2 hbs hW7;refine zQ rfl rfl fun K hK => ?_
 go_wp2_with fail;refine HPW.out.mono ?_;rintro e w8 ⟨rfl, wv8, hD8, hc8, hv8⟩;have V5 := hc8.own U5.out N5.out;have RR := Lh (And.intro hD8 (And.intro hc8 hv8));replace V5 := Lh V5;clear hD8 hc8 hv8;go_wp2;refine hK _ _ V5.out ?_;clear hK K;iterate 1
   refine zC (v := ?_) rfl rfl (fun W hS => ?_) ?_;rotate_left
   · conv => lhs; simp [go_sem]
     first | done | exact rfl
   simp only [Act.put, lA, lZ, lS]
 refine zR ?_;go_wp2;go_ret;have z8 := B8.out.size;refine ⟨rfl, wv8, RR.out.1, (Chg.of B8.out).same RR.out.2.1, ?_⟩;rcases RR.out.2.2 with h | h | ⟨g, h, hg⟩
 · exact .inl h
 · exact .inr (.inl h)
 · exact .inr (.inr ⟨g, h, by omega⟩)
end
end
end Go.Proofs.YthijgebmoadgkaaGreatDoor
