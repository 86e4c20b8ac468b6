import Derived.Test.YtndhmidgnpobjaaGreatDoorPgsA
import Derived.Test.YtndhmidgnpobjaaGreatDoorSta
set_option linter.unusedVariables false
set_option linter.unusedSimpArgs false
namespace Go.Proofs.YtndhmidgnpobjaaGreatDoor
open Go.ChangeShapes Go.WideShapes Go.ChangeAt Go.RowKit
section
def PS.frL (P : PS) (n : Nat) : List (Nat × Pag) := [(0, (1, zM P.used n P.root)), (n, (255, yI P.free))]
def PS.frE (P : PS) (n : Nat) : Int := if P.others (n : Int) then if (P.view n).2 = 0 then if (P.view n).1.1 = 255 then 6 else P.chgE (P.frL n) else ((P.view n).2 : Int) else 1
def PS.fre (P : PS) (n : Nat) : PS := if P.others (n : Int) then if (P.view n).2 = 0 then if (P.view n).1.1 = 255 then P else P.chg (P.frL n) else P else P
section
variable {w w' w2 w3 : World} {B Bp d p c : Nat} {P P' : PS}
theorem zNa (h : zG w B Bp d p c P) (no : Int) (ho : P.others no = false) (hc : c + 2 < 1000000) : Calls Tryz.prog 20 #[.pointer (some ⟨p, 0, none⟩), .int .i64 no] w fun e w' => e = .returned (.int .i64 1) /\ Ask w w' B Bp d p (c + 2) P := by
 have HO := Lh (Ju h no hc);rw [ho] at HO;clear h ho;go_enter Tryz.func20, Tryz.ntmps20;go_wp2_with (go_at_call 79; refine HO.out.mono ?_; rintro e w2 ⟨rfl, hA⟩)
 go_ret;exact ⟨rfl, hA⟩
set_option maxRecDepth 10000 in
set_option maxHeartbeats 1000000 in
theorem zNd (h : zG w B Bp d p c P) (n : Nat) (ho : P.others (n : Int) = true) (hc : c + 8 < 1000000) : Calls Tryz.prog 20 #[.pointer (some ⟨p, 0, none⟩), .int .i64 (n : Int)] w fun e w' => e = .returned (.int .i64 (P.frE n)) /\ Ask w w' B Bp d p (c + 8) (P.fre n) := by
 have hok := h.ok;have hno : 1 <= n /\ n < P.pages := by
   have : (1 : Int) <= (n : Int) /\ (n : Int) < (P.pages : Int) := by simpa [PS.others] using ho
   omega
 have hd : P.s.down = false := by
   cases e : P.s.down with
   | false => rfl
   | true =>
     have := hno.2;unfold PS.pages at this;rw [if_pos e] at this;omega
 have hpu : P.pages = P.used := by unfold PS.pages; rw [if_neg (by rw [hd]; simp)]
 have hm := hok.most;have hu := hok.used;have HO := Lh (Ju h (n : Int) (by omega));rw [ho] at HO;have FD : ∀ W, zG W B Bp d p (c + 2) P -> _ := fun W hW => mX hW hd n (by omega) (by omega)
 have HH : ∀ W, zG W B Bp d p (c + 4) P -> _ := fun W hW => mS hW hd (by omega)
 have EE : P.frE n = (if (P.view n).2 = 0 then if (P.view n).1.1 = 255 then 6 else P.chgE (P.frL n) else ((P.view n).2 : Int)) /\ P.fre n = if (P.view n).2 = 0 then if (P.view n).1.1 = 255 then P else P.chg (P.frL n) else P := by unfold PS.frE PS.fre; simp only [ho, if_true]; exact ⟨trivial, trivial⟩
 obtain ⟨r, hr⟩ : ∃ r, r = P.root := ⟨_, rfl⟩
 have hrl : ∀ i, r i < 18446744073709551616 := fun i => by rw [hr]; exact P.root_lt i
 obtain ⟨u, hu2⟩ : ∃ u, u = P.used := ⟨_, rfl⟩
 obtain ⟨f, hf2⟩ : ∃ f, f = P.free := ⟨_, rfl⟩
 have FL : P.frL n = [(0, (1, zM u n r)), (n, (255, yI f))] := by unfold PS.frL; rw [<- hu2, <- hf2, <- hr]
 rw [FL] at EE;rw [<- hu2, <- hf2, <- hr] at HH;rw [<- hu2, <- hf2] at hu;rw [<- hu2] at hpu;have CH := fun W (hW : zG W B Bp d p (c + 6) P) => fE (hW.below (zF W 112 #[.int .i64 0, .int .i64 1, .string (zM u n r), .int .i64 (n : Int), .int .i64 255, .string (yI f)])) [(0, (1, zM u n r)), (n, (255, yI f))] (by simp) (fun q hq => by
   simp only [List.mem_cons, List.not_mem_nil, or_false] at hq;rcases hq with rfl | rfl
   · exact ⟨by simp only; omega, by simp, by simp, by simp only; rw [xB]; omega⟩
   · exact ⟨by simp only; omega, by simp, by simp, by simp only; rw [Jr]; omega⟩) (by omega) (Vd hok (by omega) (by omega) (by omega) r (fun i _ => hrl i) _ (fun q hq => by simp only [List.mem_singleton] at hq; subst hq; simp only; omega)) W.heap.size _ (Own.made W _ _) (fun i q hq => by
   rcases i with _ | _ | i
   · simp only [List.getElem?_cons_zero, Option.some.injEq] at hq;subst hq;simp
   · simp only [List.getElem?_cons_succ, List.getElem?_cons_zero, Option.some.injEq] at hq;subst hq;simp
   · simp at hq)
 rw [show ([(0, (1, zM u n r)), (n, (255, yI f))] : List (Nat × Pag)).length = 2 from rfl] at CH;have HS : ∀ W, Calls Tryz.prog 64 #[.agg #[.int .i64 (u : Int), .int .i64 (n : Int), .int .u64 (r 0 : Int), .int .u64 (r 1 : Int), .int .u64 (r 2 : Int), .int .u64 (r 3 : Int), .int .u64 (r 4 : Int), .int .u64 (r 5 : Int), .int .u64 (r 6 : Int), .int .u64 (r 7 : Int)]] W fun e w' => e = .returned (.agg #[.int .i64 0, .int .i64 1, .string (zM u n r)]) /\ Below W.heap.size W w' := fun W => qH u n r W (by omega) (by omega) fun i _ => hrl i
 have HF : ∀ W, Calls Tryz.prog 80 #[.int .i64 (n : Int), .int .i64 (f : Int)] W fun e w' => e = .returned (.agg #[.int .i64 (n : Int), .int .i64 255, .string (yI f)]) /\ Below W.heap.size W w' := fun W => zAd n f W (by omega)
 have HCE : P.chgE [(0, (1, zM u n r)), (n, (255, yI f))] = 0 \/ P.chgE [(0, (1, zM u n r)), (n, (255, yI f))] = 10 := by
   unfold PS.chgE;split
   · exact .inl rfl
   · exact .inr rfl
 obtain ⟨P', hP'⟩ : ∃ P', P' = P.chg [(0, (1, zM u n r)), (n, (255, yI f))] := ⟨_, rfl⟩
 obtain ⟨y, hy⟩ : ∃ y, y = P.chgE [(0, (1, zM u n r)), (n, (255, yI f))] := ⟨_, rfl⟩
 rw [<- hP', <- hy] at EE CH;rw [<- hy] at HCE;obtain ⟨v, hv⟩ : ∃ v, v = P.view n := ⟨_, rfl⟩
 rw [<- hv] at EE FD;unfold Je at FD;unfold hV hC at HH;obtain ⟨X, hX⟩ : ∃ X, X = zM u n r := ⟨_, rfl⟩
 rw [<- hX] at CH HS;obtain ⟨Y, hY⟩ : ∃ Y, Y = yI f := ⟨_, rfl⟩
 rw [<- hY] at CH HF;replace CH := Lh CH;replace HS := Lh HS;replace HF := Lh HF;replace HH := Lh HH;clear hok hno hd hpu hm hu ho hr hrl hu2 hf2 FL hP' hy hv hX hY h HCE;by_cases h0 : v.2 = 0
 · rw [if_pos h0, if_pos h0] at EE;simp only [if_pos h0] at FD;rw [h0] at FD;obtain ⟨x, hx⟩ : ∃ x, x = v.1 := ⟨_, rfl⟩
   rw [<- hx] at EE FD;unfold shV at FD;have FDh := Lh FD;clear FD hx h0;by_cases h1 : x.1 = 255
   · rw [if_pos h1, if_pos h1] at EE;have t1 : (x.1 : Int) = 255 := by omega
     clear h1;go_enter Tryz.func20, Tryz.ntmps20;go_wp2_with (first | (go_at_call 79; refine HO.out.mono ?_; rintro e w2 ⟨rfl, hA⟩; have A2 := Lh hA; clear hA) | (go_at_call 73; refine (FDh.out _ A2.out.1).mono ?_; rintro e w3 ⟨rfl, hA⟩; have hA3 : Ask w w3 B Bp d p (c + 4) P := A2.out.then_ hA; have A3 := Lh hA3; clear hA hA3))
     go_ret;rw [EE.1, EE.2];exact ⟨rfl, (A3.out.below (zF w3 _ _)).more (by omega)⟩
   · rw [if_neg h1, if_neg h1] at EE;have t1 : ¬ (x.1 : Int) = 255 := by omega
     clear h1;go_enter Tryz.func20, Tryz.ntmps20;go_wp2_with (first | (go_at_call 79; refine HO.out.mono ?_; rintro e w2 ⟨rfl, hA⟩; have A2 := Lh hA; clear hA) | (go_at_call 73; refine (FDh.out _ A2.out.1).mono ?_; rintro e w3 ⟨rfl, hA⟩; have hA3 : Ask w w3 B Bp d p (c + 4) P := A2.out.then_ hA; have A3 := Lh hA3; clear hA hA3) | (go_at_call 76; refine (HH.out _ (A3.out.1.below (zF w3 _ _))).mono ?_; rintro e w4 ⟨rfl, hA⟩; have hA4 : Ask w w4 B Bp d p (c + 6) P := (A3.out.below (zF w3 _ _)).then_ hA; have A4 := Lh hA4; have S4 := Lh (yX hA.2 (Own.made w3 112 #[.int .i64 (n : Int), .int .i64 (x.1 : Int), .string x.2]) (by decide) (by decide)); clear hA hA4) | (go_at_call 64; refine (HS.out _).mono ?_; rintro e w5 ⟨rfl, hb5⟩; have hA5 : Ask w w5 B Bp d p (c + 6) P := (A4.out.below (zF w4 _ _)).below hb5; have A5 := Lh hA5; clear hA5 hb5) | (go_at_call 80; refine (HF.out _).mono ?_; rintro e w6 ⟨rfl, hb6⟩; have A6 := Lh (A5.out.below hb6); clear hb6) | (go_at_call 78; refine (CH.out _ A6.out.1).mono ?_; rintro e w7 ⟨rfl, hA⟩; have hA7 : Ask w w7 B Bp d p (c + 8) P' := A6.out.then2 (Ask.from_ (zF w6 _ _) hA); have A7 := Lh hA7; clear hA hA7))
     go_ret;rw [EE.1, EE.2];exact ⟨rfl, A7.out⟩
 · rw [if_neg h0, if_neg h0] at EE;simp only [if_neg h0] at FD;obtain ⟨z, hz⟩ : ∃ z, z = v.2 := ⟨_, rfl⟩
   rw [<- hz] at EE FD h0;have h1 : ¬ (z : Int) = 0 := by omega
   have h2 : ((z : Int) != 0) = true := by rw [bne_iff_ne]; exact h1
   unfold fW at FD;have FDh := Lh FD;clear FD hz;go_enter Tryz.func20, Tryz.ntmps20;go_wp2_with (first | (go_at_call 79; refine HO.out.mono ?_; rintro e w2 ⟨rfl, hA⟩; have A2 := Lh hA; clear hA) | (go_at_call 73; refine (FDh.out _ A2.out.1).mono ?_; rintro e w3 ⟨rfl, hA⟩; have hA3 : Ask w w3 B Bp d p (c + 4) P := A2.out.then_ hA; have A3 := Lh hA3; clear hA hA3))
   go_ret;rw [EE.1, EE.2];exact ⟨rfl, (A3.out.below (zF w3 _ _)).more (by omega)⟩
end
end
section
def upR (r : Nat -> Nat) (i n : Nat) : Nat -> Nat := fun k => if k = i then n else r k
theorem zN9 (u f : Nat) (r : Nat -> Nat) {i : Nat} (h : i < 8) (n : Nat) : (hC u f r).setIfInBounds (2 + i) (.int .u64 (n : Int)) = hC u f (upR r i n) := by
 rcases Ug h with rfl | rfl | rfl | rfl | rfl | rfl | rfl | rfl <;> rfl
def PS.srL (P : PS) (i n : Nat) : List (Nat × Pag) := [(0, (1, zM P.used P.free (upR P.root i n)))]
section
variable {w w' w2 w3 : World} {B Bp d p c : Nat} {P P' : PS}
theorem zC1 (p : Nat) (i n : Int) (hi : i < 0 \/ 8 <= i) (w : World) : Calls Tryz.prog 21 #[.pointer (some ⟨p, 0, none⟩), .int .i64 i, .int .u64 n] w fun e w' => e = .returned (.int .i64 1) /\ Below w.heap.size w w' := by
 have HR := Lh (zE9 p i hi w);unfold zH at HR;go_enter Tryz.func21, Tryz.ntmps21;go_wp2_with (go_at_call 81; refine HR.out.mono ?_; rintro e w2 ⟨rfl, hb⟩)
 go_ret;exact ⟨rfl, hb.alloc hb.size _⟩
set_option maxRecDepth 10000 in
set_option maxHeartbeats 1000000 in
theorem zEo (h : zG w B Bp d p c P) (hd : P.s.down = false) (i : Nat) (hi : i < 8) (n : Nat) (hn : n < 18446744073709551616) (hc : c + 4 < 1000000) : Calls Tryz.prog 21 #[.pointer (some ⟨p, 0, none⟩), .int .i64 (i : Int), .int .u64 (n : Int)] w fun e w' => e = .returned (.int .i64 (P.chgE (P.srL i n))) /\ Ask w w' B Bp d p (c + 4) (P.chg (P.srL i n)) := by
 have hok := h.ok;have hm := hok.most;have hu := hok.used;have HR := zAu h hd i hi (by omega);obtain ⟨r, hr⟩ : ∃ r, r = P.root := ⟨_, rfl⟩
 have hrl : ∀ j, upR r i n j < 18446744073709551616 := fun j => by
   unfold upR;split
   · exact hn
   · rw [hr]; exact P.root_lt j
 obtain ⟨u, hu2⟩ : ∃ u, u = P.used := ⟨_, rfl⟩
 obtain ⟨f, hf2⟩ : ∃ f, f = P.free := ⟨_, rfl⟩
 have FL : P.srL i n = [(0, (1, zM u f (upR r i n)))] := by unfold PS.srL; rw [<- hu2, <- hf2, <- hr]
 rw [FL];rw [<- hu2, <- hf2, <- hr] at HR;rw [<- hu2, <- hf2] at hu;have CH := fun W (hW : zG W B Bp d p (c + 2) P) => fE (hW.below (zF W 112 #[.int .i64 0, .int .i64 1, .string (zM u f (upR r i n))])) [(0, (1, zM u f (upR r i n)))] (by simp) (fun q hq => by
   simp only [List.mem_singleton] at hq;subst hq;exact ⟨by simp only; omega, by simp, by simp, by simp only; rw [xB]; omega⟩) (by omega) (Vd hok (by omega) (by omega) (by omega) _ (fun j _ => hrl j) [] (fun q hq => by simp at hq)) W.heap.size _ (Own.made W _ _) (fun j q hq => by
   rcases j with _ | j
   · simp only [List.getElem?_cons_zero, Option.some.injEq] at hq;subst hq;simp
   · simp at hq)
 rw [show ([(0, (1, zM u f (upR r i n)))] : List (Nat × Pag)).length = 1 from rfl] at CH;have HS : ∀ W, Calls Tryz.prog 64 #[hV u f (upR r i n)] W fun e w' => e = .returned (.agg #[.int .i64 0, .int .i64 1, .string (zM u f (upR r i n))]) /\ Below W.heap.size W w' := fun W => qH u f (upR r i n) W (by omega) (by omega) fun j _ => hrl j
 obtain ⟨P', hP'⟩ : ∃ P', P' = P.chg [(0, (1, zM u f (upR r i n)))] := ⟨_, rfl⟩
 obtain ⟨y, hy⟩ : ∃ y, y = P.chgE [(0, (1, zM u f (upR r i n)))] := ⟨_, rfl⟩
 rw [<- hP', <- hy];rw [<- hP', <- hy] at CH;obtain ⟨X, hX⟩ : ∃ X, X = zM u f (upR r i n) := ⟨_, rfl⟩
 rw [<- hX] at CH HS;have HC := Lh (fun n => zN9 u f r hi n);have HV := Lh (show hC u f r = #[.int .i64 (u : Int), .int .i64 (f : Int), .int .u64 (r 0 : Int), .int .u64 (r 1 : Int), .int .u64 (r 2 : Int), .int .u64 (r 3 : Int), .int .u64 (r 4 : Int), .int .u64 (r 5 : Int), .int .u64 (r 6 : Int), .int .u64 (r 7 : Int)] from rfl);replace CH := Lh CH;obtain ⟨r2, hr2⟩ : ∃ r2, r2 = upR r i n := ⟨_, rfl⟩
 rw [<- hr2] at HS;have HC2 : Hid ((hC u f r).setIfInBounds (2 + i) (.int .u64 (n : Int)) = hC u f r2) := Lh (by rw [hr2]; exact zN9 u f r hi n);unfold hV hC at HR HS;replace HR := Lh HR;replace HS := Lh HS;clear h hd hok hm hu hr hrl hu2 hf2 FL hP' hy hX hr2 HC hn;go_enter Tryz.func21, Tryz.ntmps21;go_upto_region 4 with (go_at_call 81; refine HR.out.mono ?_; rintro e w2 ⟨rfl, hA⟩; have A2 := Lh hA; clear hA)
 have O2 := Own.made w2 114 (hC u f r);have A3 := Lh (A2.out.below (zF w2 114 (hC u f r)));rw [HV.out] at O2 A3;have zz : w.heap.size <= w2.heap.size := A2.out.2.size;go_name_world W3 hW3;rw [hW3] at O2 A3;clear hW3;have O4 := O2.put (2 + i) (.int .u64 (n : Int));have A4 : Ask w (W3.setCell ⟨w2.heap.size, 2 + i, none⟩ (.int .u64 (n : Int))) B Bp d p (c + 2) P := ⟨A3.out.1.cell O2 (by unfold PgT; decide) (by simp) _ _, A3.out.2.set ⟨_, 2 + i, none⟩ (.inr zz) _⟩
 rw [<- HV.out, HC2.out] at O4;unfold hC at O4;replace A4 := Lh A4;obtain ⟨o1, o2, o3⟩ := O2.at_;have hx : W3.cell? ⟨w2.heap.size, 2 + i, none⟩ = some (.int .u64 (r i : Int)) := by rw [o1, <- HV.out, zKy u f r hi]
 have hy := o2 (2 + i);clear o1 o2;go_upto_region 5 with fail;go_name_world W4 hW4;rw [hW4] at O4 A4;clear hW4 hx hy o3 HV HC2;obtain ⟨o1, o2, o3⟩ := O4.at_;go_wp2_with (first | (go_at_call 64; refine (HS.out _).mono ?_; rintro e w5 ⟨rfl, hb5⟩; have A5 := Lh (A4.out.below hb5); clear hb5) | (go_at_call 78; refine (CH.out _ A5.out.1).mono ?_; rintro e w7 ⟨rfl, hA⟩; have hA7 : Ask w w7 B Bp d p (c + 4) P' := A5.out.then2 (Ask.from_ (zF w5 _ _) hA); have A7 := Lh hA7; clear hA hA7))
 go_ret;exact ⟨rfl, A7.out⟩
end
end
section
theorem jB (s : ByteArray) (n : Nat) (w : World) (hs : s.size <= n) (hn : n <= 1000000) : Calls Tryz.prog 94 #[.string s, .int .i64 (n : Int)] w fun e w' => e = .returned (.string (s ++ zB (n - s.size))) /\ Below w.heap.size w w' := by
 have e1 : IntKind.i64.wrap ((n : Int) - (s.size : Int)) = ((n - s.size : Nat) : Int) := by rw [IntKind.wrap_i64]; omega
 have hm := zFp (n - s.size) (by omega);have ht := zEm (n - s.size) (n - s.size);have hz := xG (n - s.size);have h9 : ¬ 9223372036854775807 < s.size + (zB (n - s.size)).size := by rw [hz]; omega
 obtain ⟨Z, hZ⟩ : ∃ Z, Z = zB (n - s.size) := ⟨_, rfl⟩
 rw [<- hZ] at ht hz h9 ⊢;clear hZ;go_enter Tryz.func94, Tryz.ntmps94;go_wp2;go_ret;exact ⟨rfl, zF _ _ _⟩
structure RSt where
 kinds : List Nat
 rooms : List ByteArray
 free : List Nat
 roots : Nat -> Nat
def RSt.first (s : RSt) : Nat := s.free.getLast?.getD 0
def yE (l : List Nat) : List Value := l.map fun (x : Nat) => .int .i64 (x : Int)
def xL (l : List ByteArray) : List Value := l.map .string
def vL (l : List Bool) : List Value := l.map .bool
def stC (vk vr vf : Value) (r : Nat -> Nat) : Array Value := #[vk, vr, vf, .int .u64 (r 0 : Int), .int .u64 (r 1 : Int), .int .u64 (r 2 : Int), .int .u64 (r 3 : Int), .int .u64 (r 4 : Int), .int .u64 (r 5 : Int), .int .u64 (r 6 : Int), .int .u64 (r 7 : Int)]
structure vU (w : World) (B : Nat) (vk vr vf : Value) (s : RSt) : Prop where
 k : w.ownsRow B 3 1 vk s.kinds.length (yE s.kinds)
 r : w.ownsRow B 9 1 vr s.rooms.length (xL s.rooms)
 f : w.ownsRow B 3 1 vf s.free.length (yE s.free)
 ap : ∀ g, vk.ownBlock = some g -> vf.ownBlock ≠ some g
theorem zO {w : World} {B : Nat} {T : TypeId} {v : Value} {l : List Value} {n : Nat} (h : w.ownsRow B T 1 v n l) : ∃ a cp, v = .slice a n cp /\ n = l.length /\ ∀ k (hk : k < l.length), ∃ g, a = some ⟨g, 0, none⟩ /\ v.ownBlock = some g /\ w.cell? ⟨g, k, none⟩ = some (l[k]'hk) /\ w.frozen? ⟨g, k, none⟩ = false := by
 have h0 := h.1;rcases h.2 with ⟨rfl, h2⟩ | ⟨g, cap, cur, rfl, h1, h2, h3, h4, h5, h6⟩
 · exact ⟨none, 0, by rw [h2], by omega, fun k hk => by omega⟩
 · refine ⟨_, cap, rfl, by omega, fun k hk => ⟨g, rfl, rfl, ?_, ?_⟩⟩
   · have := World.ownsRow.cellAt h k (by omega);rw [this, List.getElem?_eq_getElem hk]
   · simp [World.frozen?, h2]
theorem zBm (vk vr vf : Value) (r : Nat -> Nat) {k : Nat} (h : k < 8) : (stC vk vr vf r)[3 + k]? = some (.int .u64 (r k : Int)) := by
 rcases Ug h with rfl | rfl | rfl | rfl | rfl | rfl | rfl | rfl <;> rfl
theorem gV {w : World} {B : Nat} {T : TypeId} {v : Value} {l : List Value} {n : Nat} (h : w.ownsRow B T 1 v n l) : n <= maxLen := by
 rcases h.2 with ⟨rfl, h2⟩ | ⟨g, cap, cur, rfl, h1, h2, h3, h4, h5, h6⟩
 · omega
 · omega
section
variable {w w' : World} {B : Nat} {vk vr vf : Value} {s : RSt}
theorem vU.keep (h : vU w B vk vr vf s) {Z : Nat -> Prop} (hc : Chg Z w w') (h1 : ∀ g, vk.ownBlock = some g \/ vr.ownBlock = some g \/ vf.ownBlock = some g -> ¬ Z g) : vU w' B vk vr vf s :=
 ⟨Po.ownsRow_keepB h.k fun g hg => hc.block g (h.k.lt g hg).2 (h1 g (.inl hg)), Po.ownsRow_keepB h.r fun g hg => hc.block g (h.r.lt g hg).2 (h1 g (.inr (.inl hg))), Po.ownsRow_keepB h.f fun g hg => hc.block g (h.f.lt g hg).2 (h1 g (.inr (.inr hg))), h.ap⟩
theorem vU.below (h : vU w B vk vr vf s) (hb : Below w.heap.size w w') : vU w' B vk vr vf s := h.keep (Chg.of (S := fun _ => False) hb) fun _ _ => id
set_option maxRecDepth 10000 in
set_option maxHeartbeats 1000000 in
theorem zAj (h : vU w B vk vr vf s) (hu : s.kinds.length < 4294967296) (hf : ∀ x ∈ s.free, x < 4294967296) (hr : ∀ i, i < 8 -> s.roots i < 18446744073709551616) :
   Calls Tryz.prog 91 #[.agg (stC vk vr vf s.roots)] w fun e w' => e = .returned (.string (zM s.kinds.length s.first s.roots)) /\ Below w.heap.size w w' := by
 obtain ⟨ka, kc, rfl, -, -⟩ := zO h.k;obtain ⟨fa, fc, hvf, -, hfc⟩ := zO h.f;subst hvf;obtain ⟨u, hu2⟩ : ∃ u, u = s.kinds.length := ⟨_, rfl⟩
 obtain ⟨f, hf2⟩ : ∃ f, f = s.first := ⟨_, rfl⟩
 obtain ⟨r, hr2⟩ : ∃ r, r = s.roots := ⟨_, rfl⟩
 have hfl : f < 4294967296 := by
   rw [hf2];unfold RSt.first;cases he : s.free.getLast? with
   | none => simp
   | some x => exact hf x (List.mem_of_getLast? he)
 have FST : (s.free.length = 0 /\ f = 0) \/ (0 < s.free.length /\ ∃ g, fa = some ⟨g, 0, none⟩ /\ g < w.heap.size /\ w.cell? ⟨g, s.free.length - 1, none⟩ = some (.int .i64 (f : Int))) := by
   rcases Nat.eq_zero_or_pos s.free.length with h0 | h0
   · refine .inl ⟨h0, ?_⟩;rw [hf2];unfold RSt.first;rw [List.eq_nil_of_length_eq_zero h0];rfl
   · have hl : s.free.length - 1 < (yE s.free).length := by unfold yE; rw [List.length_map]; omega
     obtain ⟨g, h1, h2, h3, -⟩ := hfc _ hl;refine .inr ⟨h0, g, h1, (h.f.lt g h2).2, ?_⟩;rw [h3, hf2];unfold RSt.first;rw [List.getLast?_eq_getElem?, List.getElem?_eq_getElem (by omega)];simp [yE]
 rw [<- hu2] at hu;rw [<- hr2] at hr;rw [<- hu2, <- hf2, <- hr2];obtain ⟨fn, hfn⟩ : ∃ fn, fn = s.free.length := ⟨_, rfl⟩
 have hfm := gV h.f;unfold maxLen at hfm;rw [<- hfn] at FST hfm ⊢;have H1 := Lh (fun w => show Calls Tryz.prog 96 #[.int .u64 (u : Int), .int .i64 4] w fun e w' => e = .returned (.string ⟨(zU u 4).toArray⟩) /\ Below w.heap.size w w' from fR u 4 w (by omega) (by omega));have H2 := Lh (fun w => show Calls Tryz.prog 96 #[.int .u64 (f : Int), .int .i64 4] w fun e w' => e = .returned (.string ⟨(zU f 4).toArray⟩) /\ Below w.heap.size w w' from fR f 4 w (by omega) (by omega));have H3 := Lh (fun k (hk : k < 8) w => show Calls Tryz.prog 96 #[.int .u64 (r k : Int), .int .i64 8] w fun e w' => e = .returned (.string ⟨(zU (r k) 8).toArray⟩) /\ Below w.heap.size w w' from fR (r k) 8 w (by have := hr k hk; omega) (by omega));have HF := Lh (fun w => show Calls Tryz.prog 94 #[.string (tx u f r 8), .int .i64 496] w fun e w' => e = .returned (.string (zM u f r)) /\ Below w.heap.size w w' from jB (tx u f r 8) 496 w (by rw [Xj]; omega) (by omega));have T0 := zGa u f r;have TS := Lh (zGc u f r);have TZ := Lh (Xj u f r);obtain ⟨A, hA, hAz⟩ : ∃ A : ByteArray, A = ⟨(zU u 4).toArray⟩ /\ A.size = 4 := ⟨_, rfl, by rw [zW, zR]⟩
 obtain ⟨C, hC_, hCz⟩ : ∃ C : ByteArray, C = ⟨(zU f 4).toArray⟩ /\ C.size = 4 := ⟨_, rfl, by rw [zW, zR]⟩
 rw [<- hA] at H1;rw [<- hC_] at H2;rw [<- hA, <- hC_] at T0;replace T0 := Lh T0;obtain ⟨X, hX⟩ : ∃ X : Nat -> ByteArray, X = tx u f r := ⟨_, rfl⟩
 rw [<- hX] at T0 TS TZ HF;have w1 : IntKind.u64.wrap (u : Int) = u := by rw [IntKind.wrap_u64]; omega
 have w2 : IntKind.u64.wrap (f : Int) = f := by rw [IntKind.wrap_u64]; omega
 have hac : ¬ 9223372036854775807 < A.size + C.size := by omega
 obtain ⟨HR, hHR⟩ : ∃ HR, HR = zM u f r := ⟨_, rfl⟩
 rw [<- hHR] at HF ⊢;have HC := Lh (fun k (hk : k < 8) => zBm (.slice ka u kc) vr (.slice fa fn fc) r hk);have O := Own.made w 38 (stC (.slice ka u kc) vr (.slice fa fn fc) r);have B0 := zF w 38 (stC (.slice ka u kc) vr (.slice fa fn fc) r);clear hA hC_ hX hHR hu hr hu2 hf2 hr2 hfc hf h hfl hfn;unfold stC;clear O B0 HC;rcases FST with ⟨rfl, rfl⟩ | ⟨h0, g, rfl, hg, hcell⟩
 · have H2 : Hid (∀ w : World, Calls Tryz.prog 96 #[.int .u64 0, .int .i64 4] w fun e w' => e = .returned (.string C) /\ Below w.heap.size w w') := Lh H2.out;have w3 : IntKind.u64.wrap 0 = 0 := by decide
   go_enter Tryz.func91, Tryz.ntmps91;go_upto_region 4 with fail;have O := Own.made w 38 (stC (.slice ka u kc) vr (.slice fa 0 fc) r);have B0 := zF w 38 (stC (.slice ka u kc) vr (.slice fa 0 fc) r);unfold stC at O B0;go_name_world W0 hW0;rw [hW0] at O B0;clear hW0;have z0 := O.in_;have O0 := Lh O;have BB := Lh B0;obtain ⟨q1, q2, q3⟩ := O.at_;clear O B0;go_upto_region 6 with (go_at_call 96; first | (with_reducible refine (H1.out _).mono ?_; rintro e w3 ⟨rfl, hb3⟩; have B3 := Lh (then_ BB.out hb3 BB.out.size); have O3 := Lh (O0.out.keep hb3); clear hb3) | (with_reducible refine (H2.out _).mono ?_; rintro e w4 ⟨rfl, hb4⟩; have B4 := Lh (then_ B3.out hb4 B3.out.size); have O4 := Lh (O3.out.keep hb4); clear hb4))
   rw [T0.out];clear q1 q2 q3 hac H1 H2 O0 O3 B3 BB hAz hCz;go_loopw [4, 5] (fun t i wr => ∃ k : Nat, k <= 8 /\ i = .int .i64 (k : Int) /\ t = .string (X k) /\ Own wr w.heap.size 38 (stC (.slice ka u kc) vr (.slice fa 0 fc) r) /\ Below w.heap.size w wr) (fun t i wr => 8 - (intOf i).toNat)
   case atStart => exact ⟨0, by omega, rfl, rfl, O4.out, B4.out⟩
   case round =>
     obtain ⟨k, hk, rfl, rfl, hP, hB⟩ := hrel;by_cases hlt : k < 8
     · have R3 := Lh (H3.out k hlt);have hx : wr.cell? ⟨w.heap.size, 3 + k, none⟩ = some (.int .u64 (r k : Int)) := by rw [hP.at_.1, zBm _ _ _ _ hlt]
       have h8 : ((⟨(zU (r k) 8).toArray⟩ : ByteArray)).size = 8 := by rw [zW, zR]
       have hXk := TZ.out k;have TSk := Lh (TS.out k);obtain ⟨Y, hY⟩ : ∃ Y, Y = (⟨(zU (r k) 8).toArray⟩ : ByteArray) := ⟨_, rfl⟩
       rw [<- hY] at h8 R3 TSk;clear hY;have hl : (X k).size + Y.size <= 9223372036854775807 := by omega
       replace hP := Lh hP;replace hB := Lh hB;go_wp2_with (go_at_call 96; with_reducible refine (R3.out _).mono ?_; rintro e w5 ⟨rfl, hb5⟩; have P5 := Lh (hP.out.keep hb5); have B5 := Lh (then_ hB.out hb5 hB.out.size); clear hb5)
       go_roundw
       case rel => exact ⟨k + 1, by omega, by go_num, by rw [TSk.out], P5.out, B5.out⟩
       case measure => simp [intOf]; omega
     · obtain rfl : k = 8 := by omega
       replace hB := Lh hB;clear hP;go_wp2_with (go_at_call 94; refine (HF.out _).mono ?_; rintro e w5 ⟨rfl, hb5⟩; have B5 := Lh (then_ hB.out hb5 hB.out.size); clear hb5)
       go_ret;exact ⟨rfl, B5.out⟩
 · have hnz : (0 : Int) < (fn : Int) := by omega
   have e1 : IntKind.i64.wrap ((fn : Int) - 1) = ((fn - 1 : Nat) : Int) := by rw [IntKind.wrap_i64]; omega
   go_enter Tryz.func91, Tryz.ntmps91;go_upto_region 4 with fail;clear hcell;have O := Own.made w 38 (stC (.slice ka u kc) vr (.slice (some ⟨g, 0, none⟩) fn fc) r);have B0 := zF w 38 (stC (.slice ka u kc) vr (.slice (some ⟨g, 0, none⟩) fn fc) r);unfold stC at O B0;go_name_world W0 hW0;rw [hW0] at O B0;clear hW0;have z0 := O.in_;have O0 := Lh O;have BB := Lh B0;obtain ⟨q1, q2, q3⟩ := O.at_;clear O B0;go_upto_region 6 with (go_at_call 96; first | (with_reducible refine (H1.out _).mono ?_; rintro e w3 ⟨rfl, hb3⟩; have B3 := Lh (then_ BB.out hb3 BB.out.size); have O3 := Lh (O0.out.keep hb3); clear hb3) | (with_reducible refine (H2.out _).mono ?_; rintro e w4 ⟨rfl, hb4⟩; have B4 := Lh (then_ B3.out hb4 B3.out.size); have O4 := Lh (O3.out.keep hb4); clear hb4))
   rw [T0.out];clear q1 q2 q3 hac H1 H2 O0 O3 B3 BB hAz hCz;go_loopw [4, 5] (fun t i wr => ∃ k : Nat, k <= 8 /\ i = .int .i64 (k : Int) /\ t = .string (X k) /\ Own wr w.heap.size 38 (stC (.slice ka u kc) vr (.slice (some ⟨g, 0, none⟩) fn fc) r) /\ Below w.heap.size w wr) (fun t i wr => 8 - (intOf i).toNat)
   case atStart => exact ⟨0, by omega, rfl, rfl, O4.out, B4.out⟩
   case round =>
     obtain ⟨k, hk, rfl, rfl, hP, hB⟩ := hrel;by_cases hlt : k < 8
     · have R3 := Lh (H3.out k hlt);have hx : wr.cell? ⟨w.heap.size, 3 + k, none⟩ = some (.int .u64 (r k : Int)) := by rw [hP.at_.1, zBm _ _ _ _ hlt]
       have h8 : ((⟨(zU (r k) 8).toArray⟩ : ByteArray)).size = 8 := by rw [zW, zR]
       have hXk := TZ.out k;have TSk := Lh (TS.out k);obtain ⟨Y, hY⟩ : ∃ Y, Y = (⟨(zU (r k) 8).toArray⟩ : ByteArray) := ⟨_, rfl⟩
       rw [<- hY] at h8 R3 TSk;clear hY;have hl : (X k).size + Y.size <= 9223372036854775807 := by omega
       replace hP := Lh hP;replace hB := Lh hB;go_wp2_with (go_at_call 96; with_reducible refine (R3.out _).mono ?_; rintro e w5 ⟨rfl, hb5⟩; have P5 := Lh (hP.out.keep hb5); have B5 := Lh (then_ hB.out hb5 hB.out.size); clear hb5)
       go_roundw
       case rel => exact ⟨k + 1, by omega, by go_num, by rw [TSk.out], P5.out, B5.out⟩
       case measure => simp [intOf]; omega
     · obtain rfl : k = 8 := by omega
       replace hB := Lh hB;clear hP;go_wp2_with (go_at_call 94; refine (HF.out _).mono ?_; rintro e w5 ⟨rfl, hb5⟩; have B5 := Lh (then_ hB.out hb5 hB.out.size); clear hb5)
       go_ret;exact ⟨rfl, B5.out⟩
end
end
end Go.Proofs.YtndhmidgnpobjaaGreatDoor
