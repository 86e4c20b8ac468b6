import Derived.Test.YthijgebmoadgkaaGreatDoorPgrB
set_option linter.unusedVariables false
set_option linter.unusedSimpArgs false
namespace Go.Proofs.YthijgebmoadgkaaGreatDoor
open Go.ChangeShapes Go.WideShapes Go.ChangeAt Go.RowKit
def hC (u f : Nat) (r : Nat -> Nat) : Array Value := #[.int .i64 (u : Int), .int .i64 (f : Int), .int .u64 (r 0 : Int), .int .u64 (r 1 : Int), .int .u64 (r 2 : Int), .int .u64 (r 3 : Int), .int .u64 (r 4 : Int), .int .u64 (r 5 : Int), .int .u64 (r 6 : Int), .int .u64 (r 7 : Int)]
def hV (u f : Nat) (r : Nat -> Nat) : Value := .agg (hC u f r)
def rC (r : Nat -> Nat) : Array Value := #[.int .u64 (r 0 : Int), .int .u64 (r 1 : Int), .int .u64 (r 2 : Int), .int .u64 (r 3 : Int), .int .u64 (r 4 : Int), .int .u64 (r 5 : Int), .int .u64 (r 6 : Int), .int .u64 (r 7 : Int)]
theorem Xk {k : Nat} (h : k < 8) : k = 0 \/ k = 1 \/ k = 2 \/ k = 3 \/ k = 4 \/ k = 5 \/ k = 6 \/ k = 7 := by omega
theorem idx8 (r : Nat -> Nat) {k : Nat} (h : k < 8) (w : World) : (Instr.index 36 (.agg (rC r)) (.int .i64 (k : Int))).run Tryz.prog w = .ok (.int .u64 (r k : Int)) w := by
 rcases Xk h with rfl | rfl | rfl | rfl | rfl | rfl | rfl | rfl <;> kernel_rfl
def tx (u f : Nat) (r : Nat -> Nat) (k : Nat) : ByteArray := ⟨(zV u 4 ++ zV f 4 ++ (List.range k).flatMap fun i => zV (r i) 8).toArray⟩
theorem zFx (u f : Nat) (r : Nat -> Nat) (k : Nat) : (tx u f r k).size = 8 + 8 * k := by
 unfold tx;rw [zZ, List.length_append, List.length_append, zN, zN];congr 1
 induction k with
 | zero => rfl
 | succ k ih =>
   rw [List.range_succ, List.flatMap_append, List.length_append, ih];simp [zN];omega
theorem zLh (u f : Nat) (r : Nat -> Nat) (k : Nat) : tx u f r k ++ ⟨(zV (r k) 8).toArray⟩ = tx u f r (k + 1) := by
 refine qM ?_;rw [xO];unfold tx;rw [List.range_succ, List.flatMap_append];simp
theorem zK1 (u f : Nat) (r : Nat -> Nat) : fl (tx u f r 8) = zJ u f r := rfl
theorem zLd (u f : Nat) (r : Nat -> Nat) : (⟨(zV u 4).toArray⟩ : ByteArray) ++ ⟨(zV f 4).toArray⟩ = tx u f r 0 := by
 refine qM ?_;rw [xO];unfold tx;simp
set_option maxRecDepth 10000 in
theorem qD (u f : Nat) (r : Nat -> Nat) (w : World) (hu : u < 4294967296) (hf : f < 4294967296) (hr : ∀ i, i < 8 -> r i < 18446744073709551616) : Calls Tryz.prog 73 #[hV u f r] w fun e w' => e = .returned (shV 0 (1, zJ u f r)) /\ Below w.heap.size w w' := by
 have H1 := Lh (fun w => show Calls Tryz.prog 148 #[.int .u64 (u : Int), .int .i64 4] w fun e w' => e = .returned (.string ⟨(zV u 4).toArray⟩) /\ w' = w.alloc (.cells (putCells u 4) 310) from vX u 4 w (by omega) (by omega));have H2 := Lh (fun w => show Calls Tryz.prog 148 #[.int .u64 (f : Int), .int .i64 4] w fun e w' => e = .returned (.string ⟨(zV f 4).toArray⟩) /\ w' = w.alloc (.cells (putCells f 4) 310) from vX f 4 w (by omega) (by omega));have H3 := Lh (fun k (hk : k < 8) w => show Calls Tryz.prog 148 #[.int .u64 (r k : Int), .int .i64 8] w fun e w' => e = .returned (.string ⟨(zV (r k) 8).toArray⟩) /\ w' = w.alloc (.cells (putCells (r k) 8) 310) from vX (r k) 8 w (by have := hr k hk; omega) (by omega));have HX := Lh (fun k (hk : k < 8) => idx8 r hk);have HF := Lh (fun w => Xv (tx u f r 8) w (by rw [zFx]; omega));rw [zK1] at HF;have T0 := zLd u f r;have TS := Lh (zLh u f r);have TZ := Lh (zFx u f r);obtain ⟨A, hA, hAz⟩ : ∃ A : ByteArray, A = ⟨(zV u 4).toArray⟩ /\ A.size = 4 := ⟨_, rfl, by rw [zZ, zN]⟩
 obtain ⟨B, hB, hBz⟩ : ∃ B : ByteArray, B = ⟨(zV f 4).toArray⟩ /\ B.size = 4 := ⟨_, rfl, by rw [zZ, zN]⟩
 rw [<- hA] at H1;rw [<- hB] at H2;rw [<- hA, <- hB] at T0;replace T0 := Lh T0;obtain ⟨X, hX⟩ : ∃ X : Nat -> ByteArray, X = tx u f r := ⟨_, rfl⟩
 rw [<- hX] at T0 TS TZ HF;have w1 : IntKind.u64.wrap (u : Int) = u := by rw [IntKind.wrap_u64]; omega
 have w2 : IntKind.u64.wrap (f : Int) = f := by rw [IntKind.wrap_u64]; omega
 unfold shV;simp only;obtain ⟨HR, hHR⟩ : ∃ HR, HR = zJ u f r := ⟨_, rfl⟩
 rw [<- hHR] at HF ⊢;clear hA hB hX hHR hu hf hr;unfold hV;obtain ⟨RC, hRC⟩ : ∃ RC, RC = Value.agg (rC r) := ⟨_, rfl⟩
 rw [<- hRC] at HX;go_enter Tryz.func73, Tryz.ntmps73;go_upto_region 1 with fail;have O : Own ((w.alloc (.cells (hC u f r) 133)).alloc (.cells #[.int .i64 0, .int .i64 0, .string ⟨#[]⟩] 131)) w.heap.size 133 (hC u f r) := (Own.made w _ _).more _;have P : Own ((w.alloc (.cells (hC u f r) 133)).alloc (.cells #[.int .i64 0, .int .i64 0, .string ⟨#[]⟩] 131)) (w.heap.size + 1) 131 #[.int .i64 0, .int .i64 0, .string ⟨#[]⟩] := Own.made_at (by simp);go_name_world W0 hW0;rw [hW0] at O P;have B0 : Below w.heap.size w W0 := hW0 ▸ (zG _ _ _).alloc (by simp) _;have z0 : w.heap.size + 1 < W0.heap.size := P.in_;clear hW0;replace O := Lh O;replace P := Lh P;replace B0 := Lh B0;obtain ⟨bh, hbh⟩ : ∃ bh, bh = w.heap.size := ⟨_, rfl⟩
 have HC := Lh (show hC u f r = #[.int .i64 (u : Int), .int .i64 (f : Int), .int .u64 (r 0 : Int), .int .u64 (r 1 : Int), .int .u64 (r 2 : Int), .int .u64 (r 3 : Int), .int .u64 (r 4 : Int), .int .u64 (r 5 : Int), .int .u64 (r 6 : Int), .int .u64 (r 7 : Int)] from rfl);refine zA (fun W => Own W w.heap.size 133 (hC u f r)) (0 :: 1 :: 2 :: 4 :: 5 :: 6 :: 8 :: 9 :: []) (1 :: 5 :: []) (0 :: 1 :: 2 :: 4 :: 5 :: 6 :: 3 :: 7 :: 8 :: 9 :: []) (by kernel_rfl) (by kernel_rfl) rfl (by kernel_rfl) rfl (O.out.drawn) (by simp only [zU, List.filterMap_cons, List.filterMap_nil, List.getElem?_cons_zero, List.getElem?_cons_succ, Option.map_some]; exact rfl) ?_;iterate 6
   refine zC (v := ?_) rfl rfl (fun W hS => ?_) ?_;rotate_left
   · first
       | (conv => lhs; simp [go_sem, w1, w2]
          first | done | exact rfl)
       | (have hS := hS rfl
          obtain ⟨q1, q2, q3⟩ := Own.at_ hS;rw [HC.out] at q1;conv => lhs; simp [go_sem, *, w1, w2]
          first | done | exact rfl)
   simp only [Act.put, lA, lZ, lS]
 refine zQ rfl rfl fun K hK => ?_
 go_wp2_with (go_at_call 148; with_reducible refine (H1.out _).mono ?_; rintro e w3 ⟨rfl, rfl⟩)
 refine hK _ _ (O.out.drawn.more _) ?_;clear hK K;refine zQ rfl rfl fun K hK => ?_
 go_wp2_with (go_at_call 148; with_reducible refine (H2.out _).mono ?_; rintro e w3 ⟨rfl, rfl⟩)
 refine hK _ _ ((O.out.drawn.more _).more _) ?_;clear hK K;have hab : ¬ 9223372036854775807 < A.size + B.size := by omega
 iterate 2
   refine zC (v := ?_) rfl rfl (fun W hS => ?_) ?_;rotate_left
   · conv => lhs; simp [go_sem, hab]
     first | done | exact rfl
   simp only [Act.put, lA, lZ, lS]
 refine zR ?_;rw [T0.out];have O1 : Own ((W0.alloc (.cells (putCells u 4) 310)).alloc (.cells (putCells f 4) 310)).drew w.heap.size 133 (hC u f r) := ((O.out.more _).more _).drawn;have P1 : Own ((W0.alloc (.cells (putCells u 4) 310)).alloc (.cells (putCells f 4) 310)).drew (w.heap.size + 1) 131 #[.int .i64 0, .int .i64 0, .string ⟨#[]⟩] := ((P.out.more _).more _).drawn;have B1 : Below w.heap.size w ((W0.alloc (.cells (putCells u 4) 310)).alloc (.cells (putCells f 4) 310)).drew := ((B0.out.alloc (by omega) _).alloc (by simp; omega) _).drew;go_upto_region 2 with fail;go_name_world W1 hW1;rw [hW1] at O1 P1 B1;clear hW1 O P B0 hab H1 H2;obtain ⟨q1, q2, q3⟩ := O1.at_;rw [HC.out] at q1;replace P1 := Lh P1;replace B1 := Lh B1;have HRC := Lh hRC;clear hRC;rw [show Value.agg (hC u f r) = hV u f r from rfl];go_wp2;rw [show Value.agg #[.int .u64 (r 0 : Int), .int .u64 (r 1 : Int), .int .u64 (r 2 : Int), .int .u64 (r 3 : Int), .int .u64 (r 4 : Int), .int .u64 (r 5 : Int), .int .u64 (r 6 : Int), .int .u64 (r 7 : Int)] = RC from HRC.out.symm];clear q1 q2 q3;go_loopw [3, 17] (fun t i wr => ∃ k : Nat, k <= 8 /\ i = .int .i64 (k : Int) /\ t = .string (X k) /\ Own wr (w.heap.size + 1) 131 #[.int .i64 0, .int .i64 0, .string ⟨#[]⟩] /\ Below w.heap.size w wr) (fun t i wr => 8 - (intOf i).toNat)
 case atStart => exact ⟨0, by omega, rfl, rfl, P1.out, B1.out⟩
 case round =>
   obtain ⟨k, hk, rfl, rfl, hP, hB⟩ := hrel;have zz := hP.in_;replace hP := Lh hP;replace hB := Lh hB;by_cases hlt : k < 8
   · have R3 := Lh (H3.out k hlt);have hix := HX.out k hlt;have h8 : ((⟨(zV (r k) 8).toArray⟩ : ByteArray)).size = 8 := by rw [zZ, zN]
     have hXk := TZ.out k;have TSk := Lh (TS.out k);obtain ⟨Y, hY⟩ : ∃ Y, Y = (⟨(zV (r k) 8).toArray⟩ : ByteArray) := ⟨_, rfl⟩
     rw [<- hY] at h8 R3 TSk;clear hY;have hl : (X k).size + Y.size <= 9223372036854775807 := by omega
     go_wp2_with (go_at_call 148; with_reducible refine (R3.out _).mono ?_; rintro e w3 ⟨rfl, rfl⟩)
     go_roundw
     case rel => exact ⟨k + 1, by omega, by go_num, by rw [TSk.out], hP.out.more _, hB.out.alloc (by omega) _⟩
     case measure => simp [intOf]; omega
   · obtain rfl : k = 8 := by omega
     go_wp2_with (go_at_call 149; refine (HF.out _).mono ?_; rintro e w3 ⟨rfl, hb3⟩; obtain ⟨o1, o2, o3⟩ := (Own.keep hP.out hb3).at_)
     have hb4 := then_ hB.out hb3 hB.out.size;refine bodyPost_ret (by simp [results, Tryz.results73, go_sem, *]) rfl ⟨rfl, ?_⟩;repeat' (first | (with_reducible exact Below.refl _ _) | (with_reducible assumption) | (with_reducible refine zM ?_ _) | (with_reducible refine Below.drew ?_) | (with_reducible refine Below.alloc ?_ ?_ _) | (with_reducible refine Below.setCell ?_ ?_ _) | (with_reducible refine then_ ?_ (by with_reducible assumption) ?_) | (with_reducible exact Nat.le_refl _) | (with_reducible exact Nat.le_succ _) | (with_reducible exact Nat.le_succ_of_le (by with_reducible assumption)) | omega | (simp; done) | (simp; omega) | (exact Nat.le_succ _) | (exact Nat.le_succ_of_le (by with_reducible assumption)))
theorem zAw (no n : Nat) (w : World) (hn : n < 4294967296) : Calls Tryz.prog 89 #[.int .i64 (no : Int), .int .i64 (n : Int)] w fun e w' => e = .returned (shV no (255, yY n)) /\ Below w.heap.size w w' := by
 have H1 := Lh (fun w => show Calls Tryz.prog 148 #[.int .u64 (n : Int), .int .i64 4] w fun e w' => e = .returned (.string ⟨(zV n 4).toArray⟩) /\ w' = w.alloc (.cells (putCells n 4) 310) from vX n 4 w (by omega) (by omega));have HF := Lh (fun w => Xv ⟨(zV n 4).toArray⟩ w (by rw [zZ, zN]; omega));have w1 : IntKind.u64.wrap (n : Int) = n := by rw [IntKind.wrap_u64]; omega
 obtain ⟨A, hA⟩ : ∃ A : ByteArray, A = ⟨(zV n 4).toArray⟩ := ⟨_, rfl⟩
 rw [<- hA] at H1 HF;obtain ⟨R, hR⟩ : ∃ R, R = yY n := ⟨_, rfl⟩
 have e1 : fl A = R := by rw [hR, hA]; rfl
 rw [e1] at HF;unfold shV;simp only;rw [<- hR];clear hA hR e1 hn;go_enter Tryz.func89, Tryz.ntmps89;go_wp2_with (first
   | (go_at_call 148; with_reducible refine (H1.out _).mono ?_; rintro e w2 ⟨rfl, rfl⟩)
   | (go_at_call 149; refine (HF.out _).mono ?_; rintro e w3 ⟨rfl, hb3⟩; obtain ⟨o1, o2, o3⟩ := (Own.keep ((Own.made w 131 #[.int .i64 0, .int .i64 0, .string ⟨#[]⟩]).more _) hb3).at_))
 have hb4 := then_ ((zG w 131 #[.int .i64 0, .int .i64 0, .string ⟨#[]⟩]).alloc (by simp) (.cells (putCells n 4) 310)) hb3 (by simp; omega);refine bodyPost_ret (by simp [results, Tryz.results89, go_sem, *]) rfl ⟨rfl, ?_⟩;clear hb3;repeat' (first | (with_reducible exact Below.refl _ _) | (with_reducible assumption) | (with_reducible refine zM ?_ _) | (with_reducible refine Below.drew ?_) | (with_reducible refine Below.alloc ?_ ?_ _) | (with_reducible refine Below.setCell ?_ ?_ _) | (with_reducible refine then_ ?_ (by with_reducible assumption) ?_) | (with_reducible exact Nat.le_refl _) | (with_reducible exact Nat.le_succ _) | (with_reducible exact Nat.le_succ_of_le (by with_reducible assumption)) | omega | (simp; done) | (simp; omega) | (exact Nat.le_succ _) | (exact Nat.le_succ_of_le (by with_reducible assumption)))
def upK (r : Nat -> Nat) (k i : Nat) : Nat := if i < k then r i else 0
theorem zNq (u f : Nat) (r : Nat -> Nat) {k : Nat} (h : k < 8) : (hC u f (upK r k)).setIfInBounds (2 + k) (.int .u64 (r k : Int)) = hC u f (upK r (k + 1)) := by
 rcases Xk h with rfl | rfl | rfl | rfl | rfl | rfl | rfl | rfl <;> simp [hC, upK]
theorem zKf (u f : Nat) (r : Nat -> Nat) : hC u f (upK r 8) = hC u f r := by simp [hC, upK]
theorem zM6 (u f : Nat) (r : Nat -> Nat) : hC u f (upK r 0) = #[.int .i64 (u : Int), .int .i64 (f : Int), .int .u64 0, .int .u64 0, .int .u64 0, .int .u64 0, .int .u64 0, .int .u64 0, .int .u64 0, .int .u64 0] := by simp [hC, upK]
theorem zKy (u f : Nat) (r : Nat -> Nat) {k : Nat} (h : k < 8) : (hC u f r)[2 + k]? = some (.int .u64 (r k : Int)) := by
 rcases Xk h with rfl | rfl | rfl | rfl | rfl | rfl | rfl | rfl <;> simp [hC]
set_option maxRecDepth 10000 in
theorem fT (no : Nat) (x : Pag) (w : World) (hx : x.2.size = 496) : Calls Tryz.prog 172 #[shV no x] w fun e w' => e = .returned (hV (rdU x.2) (rdF x.2) (rdR x.2)) /\ Below w.heap.size w w' := by
 obtain ⟨kd, t⟩ := x;simp only at hx ⊢;have HU := Lh (fun w => show Calls Tryz.prog 160 #[.string t, .int .i64 0, .int .i64 4] w fun e w' => e = .returned (.tuple #[.int .u64 (rdU t : Int), .bool true]) /\ w = w' from jE t 0 4 w (by omega) (by omega) (by omega));have HF := Lh (fun w => show Calls Tryz.prog 160 #[.string t, .int .i64 4, .int .i64 4] w fun e w' => e = .returned (.tuple #[.int .u64 (rdF t : Int), .bool true]) /\ w = w' from jE t 4 4 w (by omega) (by omega) (by omega));have HR := Lh (fun (k : Nat) (hk : k < 8) w => show Calls Tryz.prog 160 #[.string t, .int .i64 (8 + (k : Int) * 8), .int .i64 8] w fun e w' => e = .returned (.tuple #[.int .u64 (rdR t k : Int), .bool true]) /\ w = w' from by
   have := jE t (8 + 8 * k) 8 w (by omega) (by omega) (by omega);rw [show ((8 + 8 * k : Nat) : Int) = 8 + (k : Int) * 8 by omega] at this;exact this)
 have hu := zK2 t;have hf := zK4 t;obtain ⟨r, hr⟩ : ∃ r, r = rdR t := ⟨_, rfl⟩
 obtain ⟨u, hu'⟩ : ∃ u, u = rdU t := ⟨_, rfl⟩
 obtain ⟨f, hf'⟩ : ∃ f, f = rdF t := ⟨_, rfl⟩
 rw [<- hr] at HR ⊢;rw [<- hu'] at HU hu ⊢;rw [<- hf'] at HF hf ⊢;have w1 : IntKind.i64.wrap (u : Int) = u := by rw [IntKind.wrap_i64]; omega
 have w2 : IntKind.i64.wrap (f : Int) = f := by rw [IntKind.wrap_i64]; omega
 clear hr hu' hf' hx hu hf;unfold shV;simp only;go_enter Tryz.func172, Tryz.ntmps172;go_upto_region 4 with (go_at_call 160; first | (with_reducible refine (HU.out _).mono ?_; rintro e w2 ⟨rfl, rfl⟩) | (with_reducible refine (HF.out _).mono ?_; rintro e w2 ⟨rfl, rfl⟩))
 have OB : Own (((w.alloc (.cells #[.int .i64 (no : Int), .int .i64 (kd : Int), .string t] 131)).alloc (.cells #[.int .i64 0, .int .i64 0, .int .u64 0, .int .u64 0, .int .u64 0, .int .u64 0, .int .u64 0, .int .u64 0, .int .u64 0, .int .u64 0] 133)).alloc (.cells #[.int .i64 (u : Int), .int .i64 (f : Int), .int .u64 0, .int .u64 0, .int .u64 0, .int .u64 0, .int .u64 0, .int .u64 0, .int .u64 0, .int .u64 0] 133)) w.heap.size 131 #[.int .i64 (no : Int), .int .i64 (kd : Int), .string t] := ((Own.made w _ _).more _).more _;have OR : Own (((w.alloc (.cells #[.int .i64 (no : Int), .int .i64 (kd : Int), .string t] 131)).alloc (.cells #[.int .i64 0, .int .i64 0, .int .u64 0, .int .u64 0, .int .u64 0, .int .u64 0, .int .u64 0, .int .u64 0, .int .u64 0, .int .u64 0] 133)).alloc (.cells #[.int .i64 (u : Int), .int .i64 (f : Int), .int .u64 0, .int .u64 0, .int .u64 0, .int .u64 0, .int .u64 0, .int .u64 0, .int .u64 0, .int .u64 0] 133)) (w.heap.size + 1) 133 #[.int .i64 0, .int .i64 0, .int .u64 0, .int .u64 0, .int .u64 0, .int .u64 0, .int .u64 0, .int .u64 0, .int .u64 0, .int .u64 0] := (Own.made_at (by simp)).more _;have OH : Own (((w.alloc (.cells #[.int .i64 (no : Int), .int .i64 (kd : Int), .string t] 131)).alloc (.cells #[.int .i64 0, .int .i64 0, .int .u64 0, .int .u64 0, .int .u64 0, .int .u64 0, .int .u64 0, .int .u64 0, .int .u64 0, .int .u64 0] 133)).alloc (.cells #[.int .i64 (u : Int), .int .i64 (f : Int), .int .u64 0, .int .u64 0, .int .u64 0, .int .u64 0, .int .u64 0, .int .u64 0, .int .u64 0, .int .u64 0] 133)) (w.heap.size + 2) 133 #[.int .i64 (u : Int), .int .i64 (f : Int), .int .u64 0, .int .u64 0, .int .u64 0, .int .u64 0, .int .u64 0, .int .u64 0, .int .u64 0, .int .u64 0] := Own.made_at (by simp)
 go_name_world W0 hW0;rw [hW0] at OB OR OH;have B0 : Below w.heap.size w W0 := hW0 ▸ ((zG _ _ _).alloc (by simp) _).alloc (by simp; omega) _;have z0 := OH.in_;rw [<- zM6 u f r] at OH;clear hW0;replace OB := Lh OB;replace OR := Lh OR;replace OH := Lh OH;replace B0 := Lh B0;have HS := Lh (fun (k : Nat) (hk : k < 8) => zNq u f r hk);have H8 := Lh (zKf u f r);go_wp2;go_loopw [26] (fun i wr => ∃ k : Nat, k <= 8 /\ i = .int .i64 (k : Int) /\ Own wr w.heap.size 131 #[.int .i64 (no : Int), .int .i64 (kd : Int), .string t] /\ Own wr (w.heap.size + 1) 133 #[.int .i64 0, .int .i64 0, .int .u64 0, .int .u64 0, .int .u64 0, .int .u64 0, .int .u64 0, .int .u64 0, .int .u64 0, .int .u64 0] /\ Own wr (w.heap.size + 2) 133 (hC u f (upK r k)) /\ Below w.heap.size w wr) (fun i wr => 8 - (intOf i).toNat)
 case atStart => exact ⟨0, by omega, rfl, OB.out, OR.out, OH.out, B0.out⟩
 case round =>
   obtain ⟨k, hk, rfl, hO, hR, hH, hB⟩ := hrel;obtain ⟨o1, o2, o3⟩ := hO.at_;replace hO := Lh hO;replace hR := Lh hR;replace hB := Lh hB;by_cases hlt : k < 8
   · have R3 := Lh (HR.out k hlt);have S3 := Lh (HS.out k hlt);obtain ⟨p1, p2, p3⟩ := hH.at_;have p4 := p1 (2 + k);rw [zKy u f (upK r k) hlt] at p4;have p5 := p2 (2 + k);replace hH := Lh hH;clear p1 p2;go_wp2_with (go_at_call 160; with_reducible refine (R3.out _).mono ?_; rintro e w2 ⟨rfl, rfl⟩)
     go_roundw
     case rel => exact ⟨k + 1, by omega, by go_num, hO.out.apart (by omega) _ _, hR.out.apart (by omega) _ _, (hH.out.put (2 + k) _).as S3.out, hB.out.setCell (by simp; omega) _⟩
     case measure => simp [intOf]; omega
   · obtain rfl : k = 8 := by omega
     rw [H8.out] at hH;obtain ⟨p1, p2, p3⟩ := hH.at_;obtain ⟨r1, r2, r3⟩ := hR.out.at_;unfold hC at p1;go_wp2;refine bodyPost_ret (by simp [results, Tryz.results172, go_sem, *]; rfl) rfl ⟨rfl, ?_⟩;have hb := hB.out;clear hB;repeat' (first | (with_reducible exact Below.refl _ _) | (with_reducible assumption) | (with_reducible refine zM ?_ _) | (with_reducible refine Below.drew ?_) | (with_reducible refine Below.alloc ?_ ?_ _) | (with_reducible refine Below.setCell ?_ ?_ _) | (with_reducible refine then_ ?_ (by with_reducible assumption) ?_) | (with_reducible exact Nat.le_refl _) | (with_reducible exact Nat.le_succ _) | (with_reducible exact Nat.le_succ_of_le (by with_reducible assumption)) | omega | (simp; done) | (simp; omega) | (exact Nat.le_succ _) | (exact Nat.le_succ_of_le (by with_reducible assumption)))
end Go.Proofs.YthijgebmoadgkaaGreatDoor
