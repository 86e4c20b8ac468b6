import Derived.Test.YtndhmidgnpobjaaGreatDoorSta
import Derived.Test.YtndhmidgnpobjaaGreatDoorPagA
import Derived.Deep.OwnRows
import Derived.KernelRfl
import Derived.Test.YtndhmidgnpobjaaGreatDoorMemo
import Derived.Test.YtndhmidgnpobjaaGreatDoorSwap
import Derived.Test.YtndhmidgnpobjaaGreatDoorPgrA
import Derived.Test.YtndhmidgnpobjaaGreatDoorCrcB
set_option linter.unusedVariables false
set_option linter.unusedSimpArgs false
namespace Go.Proofs.YtndhmidgnpobjaaGreatDoor
open Go.ChangeShapes Go.WideShapes Go.ChangeAt Go.RowKit
section
theorem zBh : (Tryz.prog.info? 5).map (fun i => (i.zero, i.size, i.bytes)) = some (some (.int .u8 0), 1, 1) := by kernel_rfl
theorem zJe (w : World) (T : TypeId) (m : Nat) : xA (w.alloc (.cells (madeCells #[.int .u8 0] m) T)) w.heap.size (List.replicate m 0) := by
 have h := (Own.made w T (madeCells #[.int .u8 0] m)).at_;refine ⟨fun j hj => ?_, fun j hj => h.2.1 j⟩;rw [h.1 j, <- Array.getElem?_toList, toList_madeCells_one];simp at hj;simp [hj]
theorem zFp (m : Nat) (hm : m <= 1000000000) (w : World) : (Instr.makeSlice 99 (.int .i64 (m : Int)) (.int .i64 (m : Int))).run Tryz.prog w = .ok (.slice (some ⟨w.heap.size, 0, none⟩) m m) (w.alloc (.cells (madeCells #[.int .u8 0] m) 5)) :=
 run_make_row' (P := Tryz.prog) 99 5 (.int .u8 0) 1 Tryz.underlying99 zBh rfl .i64 .i64 m (by omega) (by omega) w
theorem zEm (m cap : Nat) (w : World) : (convert 99 9 (.slice (some ⟨w.heap.size, 0, none⟩) m cap)).run Tryz.prog (w.alloc (.cells (madeCells #[.int .u8 0] m) 5)) = .ok (.string (zB m)) (w.alloc (.cells (madeCells #[.int .u8 0] m) 5)) := by
 have HC := zEe Tryz.prog (w.alloc (.cells (madeCells #[.int .u8 0] m) 5)) 99 9 5 w.heap.size cap (List.replicate m 0) (zJe w _ m) Tryz.underlying99 Tryz.underlying5 Tryz.underlying9;rw [List.length_replicate] at HC;exact HC
theorem zHf (W : World) (b k cap : Nat) (hk : k <= 255) (h : W.cell? ⟨b, 0, none⟩ = some (.int .u8 (k : Nat))) :
   (convert 99 9 (.slice (some ⟨b, 0, none⟩) 1 cap)).run Tryz.prog W = .ok (.string ⟨#[UInt8.ofNat k]⟩) W :=
 run_convert_bytes_back (P := Tryz.prog) W 99 9 5 ⟨b, 0, none⟩ cap [UInt8.ofNat k] Tryz.underlying99 Tryz.underlying5 Tryz.underlying9 (fun i hi => by
   have hij : i = 0 := by simpa using hi
   subst hij;have ea : (⟨b, 0, none⟩ : Addr).add 0 = ⟨b, 0, none⟩ := rfl;have e2 : (UInt8.ofNat k).toNat = k := by rw [UInt8.toNat_ofNat', Nat.mod_eq_of_lt (by omega)]
   rw [ea, h];show _ = some (Value.int .u8 ((UInt8.ofNat k).toNat : Int))
   rw [e2])
end
section
end
section
theorem zJ9 {x : Pag} (hx : vE x) : ∃ S, S = fr x /\ S.size = 497 /\ (∀ h : 0 < S.size, (S[0]'h).toNat = x.1) /\ S.extract 1 S.size = x.2 :=
 ⟨_, rfl, gS hx.size, fun h => by rw [<- qG _ 0 h]; exact zMj hx, zMn hx.size⟩
set_option maxRecDepth 10000 in
theorem uM (no : Nat) (x : Pag) (w : World) (hx : vE x) : Calls Tryz.prog 140 #[.int .i64 (no : Int), .string (fr x)] w fun e w' => e = .returned (shV no x) /\ Below w.heap.size w w' := by
 obtain ⟨S, hS, hz, hk, hr⟩ := zJ9 hx;rw [<- hS];have h0 : 0 < S.size := by omega
 have hk := hk h0;unfold shV;obtain ⟨k, r⟩ := x;simp only at hk hr ⊢;have h1 : (1 : Int) <= (S.size : Int) := by omega
 have hk2 : k <= 255 := hx.hi;have hw : IntKind.i64.wrap (k : Int) = k := by rw [IntKind.wrap_i64]; omega
 clear hS hx hz;go_enter Tryz.func140, Tryz.ntmps140;go_upto_region 1 with fail;have O := Own.made w 112 #[.int .i64 0, .int .i64 0, .string ⟨#[]⟩];obtain ⟨o1, o2, o3⟩ := O.drawn.at_;refine zA (fun W => True) (0 :: 1 :: 2 :: 3 :: 4 :: 5 :: 6 :: []) ([]) (0 :: 1 :: 2 :: 3 :: 4 :: 5 :: 6 :: 7 :: []) (by kernel_rfl) (by kernel_rfl) rfl (by kernel_rfl) rfl (True.intro) (by simp only [zQ, List.filterMap_cons, List.filterMap_nil, List.getElem?_cons_zero, List.getElem?_cons_succ, Option.map_some]; exact rfl) ?_;iterate 7
   refine zC (v := ?_) rfl rfl (fun W hS => ?_) ?_;rotate_left
   · conv => lhs; simp [go_sem, h0, hk, h1, hr, hw]
     first | done | exact rfl
   simp only [Act.put, lA, lZ, lS]
 refine xQ rfl rfl (by kernel_rfl) rfl fun K hK => ?_
 go_wp2;refine hK _ _ ?_;clear hK;refine zN ?_;go_wp2;refine bodyPost_ret (by simp [results, Tryz.results140, go_sem, *]) rfl ⟨rfl, ?_⟩;repeat' (first | (with_reducible exact Below.refl _ _) | (with_reducible assumption) | (with_reducible refine zJ ?_ _) | (with_reducible refine Below.drew ?_) | (with_reducible refine Below.alloc ?_ ?_ _) | (with_reducible refine Below.setCell ?_ ?_ _) | (with_reducible refine then_ ?_ (by with_reducible assumption) ?_) | (with_reducible exact Nat.le_refl _) | (with_reducible exact Nat.le_succ _) | (with_reducible exact Nat.le_succ_of_le (by with_reducible assumption)) | omega | (simp; done) | (simp; omega) | (exact Nat.le_succ _) | (exact Nat.le_succ_of_le (by with_reducible assumption)))
set_option maxRecDepth 10000 in
theorem gR (no : Nat) (k : Nat) (t : ByteArray) (w : World) (hk : k <= 255) (ht : t.size <= 496) : Calls Tryz.prog 142 #[.agg #[.int .i64 (no : Int), .int .i64 (k : Int), .string t]] w fun e w' => e = .returned (.string (fr (k, fl t))) /\ Below w.heap.size w w' := by
 have HE := Lh (show fr (k, fl t) = ⟨#[UInt8.ofNat k]⟩ ++ fl t from rfl);have HF := Lh (fun w => Yv t w ht);obtain ⟨F, hF, hFz⟩ : ∃ F, F = fl t /\ F.size = 496 := ⟨_, rfl, Qt t ht⟩
 obtain ⟨K, hK, hKz⟩ : ∃ K : ByteArray, K = ⟨#[UInt8.ofNat k]⟩ /\ K.size = 1 := ⟨_, rfl, rfl⟩
 have hcv : ∀ W b cap, W.cell? ⟨b, 0, none⟩ = some (.int .u8 (k : Int)) -> (convert 99 9 (.slice (some ⟨b, 0, none⟩) 1 cap)).run Tryz.prog W = .ok (.string K) W := fun W b cap h => by rw [hK]; exact zHf W b k cap hk h
 rw [<- hF] at HF HE ⊢;rw [<- hK] at HE;rw [HE.out];clear hF hK;have hw8 : IntKind.u8.wrap (k : Int) = k := by rw [IntKind.wrap_u8]; omega
 have hl : K.size + F.size <= 9223372036854775807 := by omega
 go_enter Tryz.func142, Tryz.ntmps142;go_upto_region 1 with fail;have O := Own.made w 112 #[.int .i64 (no : Int), .int .i64 (k : Int), .string t];go_name_world W0 hW0;rw [hW0] at O;have B0 : Below w.heap.size w W0 := hW0 ▸ zF _ _ _;have z0 : W0.heap.size = w.heap.size + 1 := by rw [<- hW0]; simp
 clear hW0;refine Vo (B := W0.heap.size) (L := .val (.pointer (some ⟨w.heap.size, 1, none⟩)) :: .val (.int .i64 (k : Int)) :: .val (.int .u8 (k : Int)) :: .new 5 #[.int .u8 (k : Int)] (some (1, 1)) :: .val (.string K) :: .val (.pointer (some ⟨w.heap.size, 2, none⟩)) :: .val (.string t) :: .val (.string F) :: .val (.string (K ++ F)) :: .val (.string (K ++ F)) :: []) (by kernel_rfl) (by kernel_rfl) (Nat.le_refl _) (by exact trivial)
   ⟨fun a wv R => (by have h1 : a.tmps[1]? = some (.pointer (some ⟨w.heap.size, 0, none⟩)) := R.slot 1 rfl; refine .inl ?_; first | (simp [go_sem, execOp, h1]; done) | (simp [go_sem, execOp, h1]; rfl)),
   fun a wv R => (by have h3 : a.tmps[3]? = some (.pointer (some ⟨w.heap.size, 1, none⟩)) := R.val 0; have oc_ := (R.keep O.drawn trivial).at_.1 1; simp at oc_; refine .inl ?_; first | (simp [go_sem, execOp, h3, oc_]; done) | (simp [go_sem, execOp, h3, oc_]; rfl)),
   fun a wv R => (by have h4 : a.tmps[4]? = some (.int .i64 (k : Int)) := R.val 1; refine .inl ?_; first | (simp [go_sem, execOp, h4, hw8]; done) | (simp [go_sem, execOp, h4, hw8]; rfl)),
   fun a wv R => (by have h5 : a.tmps[5]? = some (.int .u8 (k : Int)) := R.val 2; exact ⟨6, rfl, by first | (simp [go_sem, execOp, h5, zBh]; done) | (simp [go_sem, execOp, h5, zBh]; rfl)⟩),
   fun a wv R => (by obtain ⟨d_, g_, hd_, ht_, _, ho_⟩ := R.dep 3; obtain rfl : 6 = d_ := Option.some.inj hd_; refine .inl ?_; have hc_ := hcv wv g_ 1 (by have := ho_.at_.1 0; simpa using this); simp [go_sem, execOp, ht_, mkv, hc_]),
   fun a wv R => (by have h1 : a.tmps[1]? = some (.pointer (some ⟨w.heap.size, 0, none⟩)) := R.slot 1 rfl; refine .inl ?_; first | (simp [go_sem, execOp, h1]; done) | (simp [go_sem, execOp, h1]; rfl)),
   fun a wv R => (by have h8 : a.tmps[8]? = some (.pointer (some ⟨w.heap.size, 2, none⟩)) := R.val 5; have oc_ := (R.keep O.drawn trivial).at_.1 2; simp at oc_; refine .inl ?_; first | (simp [go_sem, execOp, h8, oc_]; done) | (simp [go_sem, execOp, h8, oc_]; rfl)),
   fun a wv R => (by have h9 : a.tmps[9]? = some (.string t) := R.val 6; refine .inr ⟨121, _, ?_, HF.out _⟩; first | (simp [go_sem, execOp, h9]; done) | (simp [go_sem, execOp, h9]; exact vW Tryz.func121 rfl rfl _ _)),
   fun a wv R => (by have h7 : a.tmps[7]? = some (.string K) := R.val 4; have h10 : a.tmps[10]? = some (.string F) := R.val 7; refine .inl ?_; first | (simp [go_sem, execOp, h7, h10, hl]; done) | (simp [go_sem, execOp, h7, h10, hl]; rfl)),
   fun a wv R => (by have h11 : a.tmps[11]? = some (.string (K ++ F)) := R.val 8; refine .inl ?_; first | (simp [go_sem, execOp, h11]; done) | (simp [go_sem, execOp, h11]; rfl)), trivial⟩ (fun act_ W1 I => ?_)
 obtain ⟨gb6, ew6, lw6, ow6⟩ := I.new 3 rfl rfl rfl;rw [I.act [(3, .pointer (some ⟨w.heap.size, 1, none⟩)), (4, .int .i64 (k : Int)), (5, .int .u8 (k : Int)), (6, .slice (some ⟨gb6, 0, none⟩) 1 1), (7, .string K), (8, .pointer (some ⟨w.heap.size, 2, none⟩)), (9, .string t), (10, .string F), (11, .string (K ++ F)), (2, .string (K ++ F))]
   ⟨I.val 0, I.val 1, I.val 2, ew6, I.val 4, I.val 5, I.val 6, I.val 7, I.val 8, I.val 9, trivial⟩ rfl]
 change W0.heap.size <= gb6 at lw6;have hW1 : Below w.heap.size w W1 := then_ B0.drew I.below B0.size;clear ew6;clear I;simp only [List.foldl_cons, List.foldl_nil, lA, lZ, lS];go_wp2;go_ret;exact ⟨rfl, hW1⟩
end
section
def hC (u f : Nat) (r : Nat -> Nat) : Array Value := #[.int .i64 (u : Int), .int .i64 (f : Int), .int .u64 (r 0 : Int), .int .u64 (r 1 : Int), .int .u64 (r 2 : Int), .int .u64 (r 3 : Int), .int .u64 (r 4 : Int), .int .u64 (r 5 : Int), .int .u64 (r 6 : Int), .int .u64 (r 7 : Int)]
def hV (u f : Nat) (r : Nat -> Nat) : Value := .agg (hC u f r)
def rC (r : Nat -> Nat) : Array Value := #[.int .u64 (r 0 : Int), .int .u64 (r 1 : Int), .int .u64 (r 2 : Int), .int .u64 (r 3 : Int), .int .u64 (r 4 : Int), .int .u64 (r 5 : Int), .int .u64 (r 6 : Int), .int .u64 (r 7 : Int)]
theorem Ug {k : Nat} (h : k < 8) : k = 0 \/ k = 1 \/ k = 2 \/ k = 3 \/ k = 4 \/ k = 5 \/ k = 6 \/ k = 7 := by omega
theorem idx8 (r : Nat -> Nat) {k : Nat} (h : k < 8) (w : World) : (Instr.index 36 (.agg (rC r)) (.int .i64 (k : Int))).run Tryz.prog w = .ok (.int .u64 (r k : Int)) w := by
 rcases Ug h with rfl | rfl | rfl | rfl | rfl | rfl | rfl | rfl <;> kernel_rfl
def tx (u f : Nat) (r : Nat -> Nat) (k : Nat) : ByteArray := ⟨(zU u 4 ++ zU f 4 ++ (List.range k).flatMap fun i => zU (r i) 8).toArray⟩
theorem Xj (u f : Nat) (r : Nat -> Nat) (k : Nat) : (tx u f r k).size = 8 + 8 * k := by
 unfold tx;rw [zW, List.length_append, List.length_append, zR, zR];congr 1
 induction k with
 | zero => rfl
 | succ k ih =>
   rw [List.range_succ, List.flatMap_append, List.length_append, ih];simp [zR];omega
theorem zGc (u f : Nat) (r : Nat -> Nat) (k : Nat) : tx u f r k ++ ⟨(zU (r k) 8).toArray⟩ = tx u f r (k + 1) := by
 refine qV ?_;rw [xX];unfold tx;rw [List.range_succ, List.flatMap_append];simp
theorem zLy (u f : Nat) (r : Nat -> Nat) : fl (tx u f r 8) = zM u f r := rfl
theorem zGa (u f : Nat) (r : Nat -> Nat) : (⟨(zU u 4).toArray⟩ : ByteArray) ++ ⟨(zU f 4).toArray⟩ = tx u f r 0 := by
 refine qV ?_;rw [xX];unfold tx;simp
set_option maxRecDepth 10000 in
theorem qH (u f : Nat) (r : Nat -> Nat) (w : World) (hu : u < 4294967296) (hf : f < 4294967296) (hr : ∀ i, i < 8 -> r i < 18446744073709551616) : Calls Tryz.prog 64 #[hV u f r] w fun e w' => e = .returned (shV 0 (1, zM u f r)) /\ Below w.heap.size w w' := by
 have H1 := Lh (fun w => show Calls Tryz.prog 120 #[.int .u64 (u : Int), .int .i64 4] w fun e w' => e = .returned (.string ⟨(zU u 4).toArray⟩) /\ w' = w.alloc (.cells (putCells u 4) 256) from uJ u 4 w (by omega) (by omega));have H2 := Lh (fun w => show Calls Tryz.prog 120 #[.int .u64 (f : Int), .int .i64 4] w fun e w' => e = .returned (.string ⟨(zU f 4).toArray⟩) /\ w' = w.alloc (.cells (putCells f 4) 256) from uJ f 4 w (by omega) (by omega));have H3 := Lh (fun k (hk : k < 8) w => show Calls Tryz.prog 120 #[.int .u64 (r k : Int), .int .i64 8] w fun e w' => e = .returned (.string ⟨(zU (r k) 8).toArray⟩) /\ w' = w.alloc (.cells (putCells (r k) 8) 256) from uJ (r k) 8 w (by have := hr k hk; omega) (by omega));have HX := Lh (fun k (hk : k < 8) => idx8 r hk);have HF := Lh (fun w => Yv (tx u f r 8) w (by rw [Xj]; omega));rw [zLy] at HF;have T0 := zGa u f r;have TS := Lh (zGc u f r);have TZ := Lh (Xj u f r);obtain ⟨A, hA, hAz⟩ : ∃ A : ByteArray, A = ⟨(zU u 4).toArray⟩ /\ A.size = 4 := ⟨_, rfl, by rw [zW, zR]⟩
 obtain ⟨B, hB, hBz⟩ : ∃ B : ByteArray, B = ⟨(zU f 4).toArray⟩ /\ B.size = 4 := ⟨_, rfl, by rw [zW, zR]⟩
 rw [<- hA] at H1;rw [<- hB] at H2;rw [<- hA, <- hB] at T0;replace T0 := Lh T0;obtain ⟨X, hX⟩ : ∃ X : Nat -> ByteArray, X = tx u f r := ⟨_, rfl⟩
 rw [<- hX] at T0 TS TZ HF;have w1 : IntKind.u64.wrap (u : Int) = u := by rw [IntKind.wrap_u64]; omega
 have w2 : IntKind.u64.wrap (f : Int) = f := by rw [IntKind.wrap_u64]; omega
 unfold shV;simp only;obtain ⟨HR, hHR⟩ : ∃ HR, HR = zM u f r := ⟨_, rfl⟩
 rw [<- hHR] at HF ⊢;clear hA hB hX hHR hu hf hr;unfold hV;obtain ⟨RC, hRC⟩ : ∃ RC, RC = Value.agg (rC r) := ⟨_, rfl⟩
 rw [<- hRC] at HX;go_enter Tryz.func64, Tryz.ntmps64;go_upto_region 1 with fail;have O : Own ((w.alloc (.cells (hC u f r) 114)).alloc (.cells #[.int .i64 0, .int .i64 0, .string ⟨#[]⟩] 112)) w.heap.size 114 (hC u f r) := (Own.made w _ _).more _;have P : Own ((w.alloc (.cells (hC u f r) 114)).alloc (.cells #[.int .i64 0, .int .i64 0, .string ⟨#[]⟩] 112)) (w.heap.size + 1) 112 #[.int .i64 0, .int .i64 0, .string ⟨#[]⟩] := Own.made_at (by simp);go_name_world W0 hW0;rw [hW0] at O P;have B0 : Below w.heap.size w W0 := hW0 ▸ (zF _ _ _).alloc (by simp) _;have z0 : w.heap.size + 1 < W0.heap.size := P.in_;clear hW0;replace O := Lh O;replace P := Lh P;replace B0 := Lh B0;obtain ⟨bh, hbh⟩ : ∃ bh, bh = w.heap.size := ⟨_, rfl⟩
 have HC := Lh (show hC u f r = #[.int .i64 (u : Int), .int .i64 (f : Int), .int .u64 (r 0 : Int), .int .u64 (r 1 : Int), .int .u64 (r 2 : Int), .int .u64 (r 3 : Int), .int .u64 (r 4 : Int), .int .u64 (r 5 : Int), .int .u64 (r 6 : Int), .int .u64 (r 7 : Int)] from rfl);refine zA (fun W => Own W w.heap.size 114 (hC u f r)) (0 :: 1 :: 2 :: 4 :: 5 :: 6 :: 8 :: 9 :: []) (1 :: 5 :: []) (0 :: 1 :: 2 :: 4 :: 5 :: 6 :: 3 :: 7 :: 8 :: 9 :: []) (by kernel_rfl) (by kernel_rfl) rfl (by kernel_rfl) rfl (O.out.drawn) (by simp only [zQ, List.filterMap_cons, List.filterMap_nil, List.getElem?_cons_zero, List.getElem?_cons_succ, Option.map_some]; exact rfl) ?_;iterate 6
   refine zC (v := ?_) rfl rfl (fun W hS => ?_) ?_;rotate_left
   · first
       | (conv => lhs; simp [go_sem, w1, w2]
          first | done | exact rfl)
       | (have hS := hS rfl
          obtain ⟨q1, q2, q3⟩ := Own.at_ hS;rw [HC.out] at q1;conv => lhs; simp [go_sem, *, w1, w2]
          first | done | exact rfl)
   simp only [Act.put, lA, lZ, lS]
 refine zK rfl rfl fun K hK => ?_
 go_wp2_with (go_at_call 120; with_reducible refine (H1.out _).mono ?_; rintro e w3 ⟨rfl, rfl⟩)
 refine hK _ _ (O.out.drawn.more _) ?_;clear hK K;refine zK rfl rfl fun K hK => ?_
 go_wp2_with (go_at_call 120; with_reducible refine (H2.out _).mono ?_; rintro e w3 ⟨rfl, rfl⟩)
 refine hK _ _ ((O.out.drawn.more _).more _) ?_;clear hK K;have hab : ¬ 9223372036854775807 < A.size + B.size := by omega
 iterate 2
   refine zC (v := ?_) rfl rfl (fun W hS => ?_) ?_;rotate_left
   · conv => lhs; simp [go_sem, hab]
     first | done | exact rfl
   simp only [Act.put, lA, lZ, lS]
 refine zN ?_;rw [T0.out];have O1 : Own ((W0.alloc (.cells (putCells u 4) 256)).alloc (.cells (putCells f 4) 256)).drew w.heap.size 114 (hC u f r) := ((O.out.more _).more _).drawn;have P1 : Own ((W0.alloc (.cells (putCells u 4) 256)).alloc (.cells (putCells f 4) 256)).drew (w.heap.size + 1) 112 #[.int .i64 0, .int .i64 0, .string ⟨#[]⟩] := ((P.out.more _).more _).drawn;have B1 : Below w.heap.size w ((W0.alloc (.cells (putCells u 4) 256)).alloc (.cells (putCells f 4) 256)).drew := ((B0.out.alloc (by omega) _).alloc (by simp; omega) _).drew;go_upto_region 2 with fail;go_name_world W1 hW1;rw [hW1] at O1 P1 B1;clear hW1 O P B0 hab H1 H2;obtain ⟨q1, q2, q3⟩ := O1.at_;rw [HC.out] at q1;replace P1 := Lh P1;replace B1 := Lh B1;have HRC := Lh hRC;clear hRC;rw [show Value.agg (hC u f r) = hV u f r from rfl];go_wp2;rw [show Value.agg #[.int .u64 (r 0 : Int), .int .u64 (r 1 : Int), .int .u64 (r 2 : Int), .int .u64 (r 3 : Int), .int .u64 (r 4 : Int), .int .u64 (r 5 : Int), .int .u64 (r 6 : Int), .int .u64 (r 7 : Int)] = RC from HRC.out.symm];clear q1 q2 q3;go_loopw [3, 17] (fun t i wr => ∃ k : Nat, k <= 8 /\ i = .int .i64 (k : Int) /\ t = .string (X k) /\ Own wr (w.heap.size + 1) 112 #[.int .i64 0, .int .i64 0, .string ⟨#[]⟩] /\ Below w.heap.size w wr) (fun t i wr => 8 - (intOf i).toNat)
 case atStart => exact ⟨0, by omega, rfl, rfl, P1.out, B1.out⟩
 case round =>
   obtain ⟨k, hk, rfl, rfl, hP, hB⟩ := hrel;have zz := hP.in_;replace hP := Lh hP;replace hB := Lh hB;by_cases hlt : k < 8
   · have R3 := Lh (H3.out k hlt);have hix := HX.out k hlt;have h8 : ((⟨(zU (r k) 8).toArray⟩ : ByteArray)).size = 8 := by rw [zW, zR]
     have hXk := TZ.out k;have TSk := Lh (TS.out k);obtain ⟨Y, hY⟩ : ∃ Y, Y = (⟨(zU (r k) 8).toArray⟩ : ByteArray) := ⟨_, rfl⟩
     rw [<- hY] at h8 R3 TSk;clear hY;have hl : (X k).size + Y.size <= 9223372036854775807 := by omega
     go_wp2_with (go_at_call 120; with_reducible refine (R3.out _).mono ?_; rintro e w3 ⟨rfl, rfl⟩)
     go_roundw
     case rel => exact ⟨k + 1, by omega, by go_num, by rw [TSk.out], hP.out.more _, hB.out.alloc (by omega) _⟩
     case measure => simp [intOf]; omega
   · obtain rfl : k = 8 := by omega
     go_wp2_with (go_at_call 121; refine (HF.out _).mono ?_; rintro e w3 ⟨rfl, hb3⟩; obtain ⟨o1, o2, o3⟩ := (Own.keep hP.out hb3).at_)
     have hb4 := then_ hB.out hb3 hB.out.size;refine bodyPost_ret (by simp [results, Tryz.results64, go_sem, *]) rfl ⟨rfl, ?_⟩;repeat' (first | (with_reducible exact Below.refl _ _) | (with_reducible assumption) | (with_reducible refine zJ ?_ _) | (with_reducible refine Below.drew ?_) | (with_reducible refine Below.alloc ?_ ?_ _) | (with_reducible refine Below.setCell ?_ ?_ _) | (with_reducible refine then_ ?_ (by with_reducible assumption) ?_) | (with_reducible exact Nat.le_refl _) | (with_reducible exact Nat.le_succ _) | (with_reducible exact Nat.le_succ_of_le (by with_reducible assumption)) | omega | (simp; done) | (simp; omega) | (exact Nat.le_succ _) | (exact Nat.le_succ_of_le (by with_reducible assumption)))
theorem zAd (no n : Nat) (w : World) (hn : n < 4294967296) : Calls Tryz.prog 80 #[.int .i64 (no : Int), .int .i64 (n : Int)] w fun e w' => e = .returned (shV no (255, yI n)) /\ Below w.heap.size w w' := by
 have H1 := Lh (fun w => show Calls Tryz.prog 120 #[.int .u64 (n : Int), .int .i64 4] w fun e w' => e = .returned (.string ⟨(zU n 4).toArray⟩) /\ w' = w.alloc (.cells (putCells n 4) 256) from uJ n 4 w (by omega) (by omega));have HF := Lh (fun w => Yv ⟨(zU n 4).toArray⟩ w (by rw [zW, zR]; omega));have w1 : IntKind.u64.wrap (n : Int) = n := by rw [IntKind.wrap_u64]; omega
 obtain ⟨A, hA⟩ : ∃ A : ByteArray, A = ⟨(zU n 4).toArray⟩ := ⟨_, rfl⟩
 rw [<- hA] at H1 HF;obtain ⟨R, hR⟩ : ∃ R, R = yI n := ⟨_, rfl⟩
 have e1 : fl A = R := by rw [hR, hA]; rfl
 rw [e1] at HF;unfold shV;simp only;rw [<- hR];clear hA hR e1 hn;go_enter Tryz.func80, Tryz.ntmps80;go_wp2_with (first
   | (go_at_call 120; with_reducible refine (H1.out _).mono ?_; rintro e w2 ⟨rfl, rfl⟩)
   | (go_at_call 121; refine (HF.out _).mono ?_; rintro e w3 ⟨rfl, hb3⟩; obtain ⟨o1, o2, o3⟩ := (Own.keep ((Own.made w 112 #[.int .i64 0, .int .i64 0, .string ⟨#[]⟩]).more _) hb3).at_))
 have hb4 := then_ ((zF w 112 #[.int .i64 0, .int .i64 0, .string ⟨#[]⟩]).alloc (by simp) (.cells (putCells n 4) 256)) hb3 (by simp; omega);refine bodyPost_ret (by simp [results, Tryz.results80, go_sem, *]) rfl ⟨rfl, ?_⟩;clear hb3;repeat' (first | (with_reducible exact Below.refl _ _) | (with_reducible assumption) | (with_reducible refine zJ ?_ _) | (with_reducible refine Below.drew ?_) | (with_reducible refine Below.alloc ?_ ?_ _) | (with_reducible refine Below.setCell ?_ ?_ _) | (with_reducible refine then_ ?_ (by with_reducible assumption) ?_) | (with_reducible exact Nat.le_refl _) | (with_reducible exact Nat.le_succ _) | (with_reducible exact Nat.le_succ_of_le (by with_reducible assumption)) | omega | (simp; done) | (simp; omega) | (exact Nat.le_succ _) | (exact Nat.le_succ_of_le (by with_reducible assumption)))
def upK (r : Nat -> Nat) (k i : Nat) : Nat := if i < k then r i else 0
theorem zPc (u f : Nat) (r : Nat -> Nat) {k : Nat} (h : k < 8) : (hC u f (upK r k)).setIfInBounds (2 + k) (.int .u64 (r k : Int)) = hC u f (upK r (k + 1)) := by
 rcases Ug h with rfl | rfl | rfl | rfl | rfl | rfl | rfl | rfl <;> simp [hC, upK]
theorem zLc (u f : Nat) (r : Nat -> Nat) : hC u f (upK r 8) = hC u f r := by simp [hC, upK]
theorem zMo (u f : Nat) (r : Nat -> Nat) : hC u f (upK r 0) = #[.int .i64 (u : Int), .int .i64 (f : Int), .int .u64 0, .int .u64 0, .int .u64 0, .int .u64 0, .int .u64 0, .int .u64 0, .int .u64 0, .int .u64 0] := by simp [hC, upK]
theorem zKy (u f : Nat) (r : Nat -> Nat) {k : Nat} (h : k < 8) : (hC u f r)[2 + k]? = some (.int .u64 (r k : Int)) := by
 rcases Ug h with rfl | rfl | rfl | rfl | rfl | rfl | rfl | rfl <;> simp [hC]
set_option maxRecDepth 10000 in
theorem fT (no : Nat) (x : Pag) (w : World) (hx : x.2.size = 496) : Calls Tryz.prog 144 #[shV no x] w fun e w' => e = .returned (hV (rdU x.2) (rdF x.2) (rdR x.2)) /\ Below w.heap.size w w' := by
 obtain ⟨kd, t⟩ := x;simp only at hx ⊢;have HU := Lh (fun w => show Calls Tryz.prog 132 #[.string t, .int .i64 0, .int .i64 4] w fun e w' => e = .returned (.tuple #[.int .u64 (rdU t : Int), .bool true]) /\ w = w' from jO t 0 4 w (by omega) (by omega) (by omega));have HF := Lh (fun w => show Calls Tryz.prog 132 #[.string t, .int .i64 4, .int .i64 4] w fun e w' => e = .returned (.tuple #[.int .u64 (rdF t : Int), .bool true]) /\ w = w' from jO t 4 4 w (by omega) (by omega) (by omega));have HR := Lh (fun (k : Nat) (hk : k < 8) w => show Calls Tryz.prog 132 #[.string t, .int .i64 (8 + (k : Int) * 8), .int .i64 8] w fun e w' => e = .returned (.tuple #[.int .u64 (rdR t k : Int), .bool true]) /\ w = w' from by
   have := jO t (8 + 8 * k) 8 w (by omega) (by omega) (by omega);rw [show ((8 + 8 * k : Nat) : Int) = 8 + (k : Int) * 8 by omega] at this;exact this)
 have hu := zJ6 t;have hf := zJy t;obtain ⟨r, hr⟩ : ∃ r, r = rdR t := ⟨_, rfl⟩
 obtain ⟨u, hu'⟩ : ∃ u, u = rdU t := ⟨_, rfl⟩
 obtain ⟨f, hf'⟩ : ∃ f, f = rdF t := ⟨_, rfl⟩
 rw [<- hr] at HR ⊢;rw [<- hu'] at HU hu ⊢;rw [<- hf'] at HF hf ⊢;have w1 : IntKind.i64.wrap (u : Int) = u := by rw [IntKind.wrap_i64]; omega
 have w2 : IntKind.i64.wrap (f : Int) = f := by rw [IntKind.wrap_i64]; omega
 clear hr hu' hf' hx hu hf;unfold shV;simp only;go_enter Tryz.func144, Tryz.ntmps144;go_upto_region 4 with (go_at_call 132; first | (with_reducible refine (HU.out _).mono ?_; rintro e w2 ⟨rfl, rfl⟩) | (with_reducible refine (HF.out _).mono ?_; rintro e w2 ⟨rfl, rfl⟩))
 have OB : Own (((w.alloc (.cells #[.int .i64 (no : Int), .int .i64 (kd : Int), .string t] 112)).alloc (.cells #[.int .i64 0, .int .i64 0, .int .u64 0, .int .u64 0, .int .u64 0, .int .u64 0, .int .u64 0, .int .u64 0, .int .u64 0, .int .u64 0] 114)).alloc (.cells #[.int .i64 (u : Int), .int .i64 (f : Int), .int .u64 0, .int .u64 0, .int .u64 0, .int .u64 0, .int .u64 0, .int .u64 0, .int .u64 0, .int .u64 0] 114)) w.heap.size 112 #[.int .i64 (no : Int), .int .i64 (kd : Int), .string t] := ((Own.made w _ _).more _).more _;have OR : Own (((w.alloc (.cells #[.int .i64 (no : Int), .int .i64 (kd : Int), .string t] 112)).alloc (.cells #[.int .i64 0, .int .i64 0, .int .u64 0, .int .u64 0, .int .u64 0, .int .u64 0, .int .u64 0, .int .u64 0, .int .u64 0, .int .u64 0] 114)).alloc (.cells #[.int .i64 (u : Int), .int .i64 (f : Int), .int .u64 0, .int .u64 0, .int .u64 0, .int .u64 0, .int .u64 0, .int .u64 0, .int .u64 0, .int .u64 0] 114)) (w.heap.size + 1) 114 #[.int .i64 0, .int .i64 0, .int .u64 0, .int .u64 0, .int .u64 0, .int .u64 0, .int .u64 0, .int .u64 0, .int .u64 0, .int .u64 0] := (Own.made_at (by simp)).more _;have OH : Own (((w.alloc (.cells #[.int .i64 (no : Int), .int .i64 (kd : Int), .string t] 112)).alloc (.cells #[.int .i64 0, .int .i64 0, .int .u64 0, .int .u64 0, .int .u64 0, .int .u64 0, .int .u64 0, .int .u64 0, .int .u64 0, .int .u64 0] 114)).alloc (.cells #[.int .i64 (u : Int), .int .i64 (f : Int), .int .u64 0, .int .u64 0, .int .u64 0, .int .u64 0, .int .u64 0, .int .u64 0, .int .u64 0, .int .u64 0] 114)) (w.heap.size + 2) 114 #[.int .i64 (u : Int), .int .i64 (f : Int), .int .u64 0, .int .u64 0, .int .u64 0, .int .u64 0, .int .u64 0, .int .u64 0, .int .u64 0, .int .u64 0] := Own.made_at (by simp)
 go_name_world W0 hW0;rw [hW0] at OB OR OH;have B0 : Below w.heap.size w W0 := hW0 ▸ ((zF _ _ _).alloc (by simp) _).alloc (by simp; omega) _;have z0 := OH.in_;rw [<- zMo u f r] at OH;clear hW0;replace OB := Lh OB;replace OR := Lh OR;replace OH := Lh OH;replace B0 := Lh B0;have HS := Lh (fun (k : Nat) (hk : k < 8) => zPc u f r hk);have H8 := Lh (zLc u f r);go_wp2;go_loopw [26] (fun i wr => ∃ k : Nat, k <= 8 /\ i = .int .i64 (k : Int) /\ Own wr w.heap.size 112 #[.int .i64 (no : Int), .int .i64 (kd : Int), .string t] /\ Own wr (w.heap.size + 1) 114 #[.int .i64 0, .int .i64 0, .int .u64 0, .int .u64 0, .int .u64 0, .int .u64 0, .int .u64 0, .int .u64 0, .int .u64 0, .int .u64 0] /\ Own wr (w.heap.size + 2) 114 (hC u f (upK r k)) /\ Below w.heap.size w wr) (fun i wr => 8 - (intOf i).toNat)
 case atStart => exact ⟨0, by omega, rfl, OB.out, OR.out, OH.out, B0.out⟩
 case round =>
   obtain ⟨k, hk, rfl, hO, hR, hH, hB⟩ := hrel;obtain ⟨o1, o2, o3⟩ := hO.at_;replace hO := Lh hO;replace hR := Lh hR;replace hB := Lh hB;by_cases hlt : k < 8
   · have R3 := Lh (HR.out k hlt);have S3 := Lh (HS.out k hlt);obtain ⟨p1, p2, p3⟩ := hH.at_;have p4 := p1 (2 + k);rw [zKy u f (upK r k) hlt] at p4;have p5 := p2 (2 + k);replace hH := Lh hH;clear p1 p2;go_wp2_with (go_at_call 132; with_reducible refine (R3.out _).mono ?_; rintro e w2 ⟨rfl, rfl⟩)
     go_roundw
     case rel => exact ⟨k + 1, by omega, by go_num, hO.out.apart (by omega) _ _, hR.out.apart (by omega) _ _, (hH.out.put (2 + k) _).as S3.out, hB.out.setCell (by simp; omega) _⟩
     case measure => simp [intOf]; omega
   · obtain rfl : k = 8 := by omega
     rw [H8.out] at hH;obtain ⟨p1, p2, p3⟩ := hH.at_;obtain ⟨r1, r2, r3⟩ := hR.out.at_;unfold hC at p1;go_wp2;refine bodyPost_ret (by simp [results, Tryz.results144, go_sem, *]; rfl) rfl ⟨rfl, ?_⟩;have hb := hB.out;clear hB;repeat' (first | (with_reducible exact Below.refl _ _) | (with_reducible assumption) | (with_reducible refine zJ ?_ _) | (with_reducible refine Below.drew ?_) | (with_reducible refine Below.alloc ?_ ?_ _) | (with_reducible refine Below.setCell ?_ ?_ _) | (with_reducible refine then_ ?_ (by with_reducible assumption) ?_) | (with_reducible exact Nat.le_refl _) | (with_reducible exact Nat.le_succ _) | (with_reducible exact Nat.le_succ_of_le (by with_reducible assumption)) | omega | (simp; done) | (simp; omega) | (exact Nat.le_succ _) | (exact Nat.le_succ_of_le (by with_reducible assumption)))
end
end Go.Proofs.YtndhmidgnpobjaaGreatDoor
