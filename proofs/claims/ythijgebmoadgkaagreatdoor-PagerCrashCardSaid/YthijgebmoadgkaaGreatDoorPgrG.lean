import Derived.Test.YthijgebmoadgkaaGreatDoorPgrF
set_option linter.unusedVariables false
set_option linter.unusedSimpArgs false
namespace Go.Proofs.YthijgebmoadgkaaGreatDoor
open Go.ChangeShapes Go.WideShapes Go.ChangeAt Go.RowKit
theorem Zr (t : ByteArray) (p k : Nat) (hk : k <= 8) (h : p + k <= t.size) : zV (zT t p k) k = (t.data.toList.drop p).take k := by
 refine zKs _ _ (by rw [zN, List.length_take, List.length_drop, uO]; omega) ?_;rw [<- vI t p k h];have h1 : zT ⟨(zV (zT t p k) k).toArray⟩ 0 k = zT t p k := jV _ 0 k _ hk (by rw [zZ, zN]; omega) (vW t p k) (by simp [List.take_of_length_le, zN]);have h2 := vI ⟨(zV (zT t p k) k).toArray⟩ 0 k (by rw [zZ, zN]; omega);rw [List.drop_zero, show ((⟨(zV (zT t p k) k).toArray⟩ : ByteArray).data.toList) = zV (zT t p k) k by simp, List.take_of_length_le (by rw [zN]; omega)] at h2;rw [<- h2, h1]
def mkT (f ll : Nat) : ByteArray := ⟨(zV f 8).toArray⟩ ++ ⟨(zV ll 4).toArray⟩
theorem xL (f ll : Nat) : (mkT f ll).size = 12 := by unfold mkT; rw [ByteArray.size_append, zZ, zZ, zN, zN]
theorem zOd (t : ByteArray) (h : 12 <= t.size) : (mkT (zT t 0 8) (zT t 8 4)).data.toList = t.data.toList.take 12 := by
 unfold mkT;rw [xO];show zV (zT t 0 8) 8 ++ zV (zT t 8 4) 4 = _
 rw [Zr t 0 8 (by omega) (by omega), Zr t 8 4 (by omega) (by omega), List.drop_zero];rw [<- List.take_add]
theorem zJ4 (t : ByteArray) (h : 12 <= t.size) : (⟨(Lib.trimPrefix t.data.toList (mkT (zT t 0 8) (zT t 8 4)).data.toList).toArray⟩ : ByteArray) = t.extract 12 t.size := by
 rw [zOd t h];have e : Lib.trimPrefix t.data.toList (t.data.toList.take 12) = t.data.toList.drop 12 := by
   unfold Lib.trimPrefix Lib.hasPrefix;rw [if_pos (by rw [List.isPrefixOf_iff_prefix]; exact List.take_prefix 12 _), List.length_take, uO, Nat.min_eq_left h]
 rw [e];refine qM ?_;rw [xE];show t.data.toList.drop 12 = _
 rw [List.take_of_length_le (by rw [List.length_drop, uO]; omega)]
theorem zHg (f ll : Nat) : (⟨(Lib.trimPrefix (⟨#[]⟩ : ByteArray).data.toList (mkT f ll).data.toList).toArray⟩ : ByteArray) = ⟨#[]⟩ := by
 have h : (mkT f ll).data.toList.length = 12 := by rw [uO, xL]
 have e : Lib.hasPrefix ([] : List UInt8) (mkT f ll).data.toList = false := by
   unfold Lib.hasPrefix;cases hm : (mkT f ll).data.toList with
   | nil => rw [hm] at h; cases h
   | cons x m => rfl
 show (⟨(Lib.trimPrefix [] (mkT f ll).data.toList).toArray⟩ : ByteArray) = _
 unfold Lib.trimPrefix;rw [e];rfl
def ctg (N : Nat) (a b : ByteArray) : Option (Nat × Nat × Nat) :=
 if 0 <= bK a b /\ bN_ a b ≠ 0 /\ fF ((bT a b).extract 12 (bT a b).size) = true /\ 10 <= zT (bT a b) 8 4 /\ zT (bT a b) 8 4 + 10 <= N then some (zT (bT a b) 8 4, bN_ a b, zT (bT a b) 0 8) else none
theorem zM7 (a b : ByteArray) : (0 <= bK a b /\ (bT a b).size = 48) \/ (bK a b < 0 /\ bT a b = ⟨#[]⟩) := by
 unfold bT bK;by_cases h1 : (isM a && (!isM b || decide (mN b <= mN a))) = true
 · left
   simp only [h1, if_true];simp only [Bool.and_eq_true] at h1;exact ⟨by simp, zBc a h1.1⟩
 · simp only [h1, Bool.false_eq_true, if_false];by_cases h2 : isM b = true
   · left
     simp only [h2, if_true];simp;exact zBc b h2
   · right
     simp only [h2, Bool.false_eq_true, if_false];simp
theorem zNf (a b : ByteArray) : bN_ a b <= 18446744073709551615 := by
 unfold bN_;have h1 := zAa a;have h2 := zAa b;split
 · exact h1
 · split
   · exact h2
   · omega
def ctV (d : Nat) : Option (Nat × Nat × Nat) -> Value
 | some (ll, seq, first) => .tuple #[uM d ll, .int .u64 (seq : Int), .int .u64 (first : Int), .bool true]
 | none => .tuple #[.agg #[.pointer none, .int .i64 0], .int .u64 0, .int .u64 0, .bool false]
section
variable {w : World} {d sb mb sc : Nat} {wv : Value} {N : Nat} {s : St}
set_option maxRecDepth 10000 in
set_option maxHeartbeats 1000000 in
theorem zBe (hD : zI w d sb mb sc wv N s) : Calls Tryz.prog 77 #[.pointer (some ⟨d, 0, none⟩)] w fun e w' =>
   e = .returned (ctV d (ctg N (uJ N s 0).1 (uJ N s 1).1)) /\ Below w.heap.size w w' := by
 have hN := hD.ok.max;have R0 := Lh (fun W (hb : Below w.heap.size w W) => gJ (hD.below hb) 0 (by decide));have R1 := Lh (fun W (hb : Below w.heap.size w W) => gJ (hD.below hb) 1 (by decide));have rz : ∀ i, (uJ N s i).1.size <= 64 := fun i => by
   unfold uJ;split
   · exact Nat.zero_le _
   · split
     · exact Nat.zero_le _
     · cases hl : xR s.wr i with
       | some x => exact Nat.le_of_eq (hD.ok.wr x (gY hl).1).2
       | none =>
         show (((s.sure.drop (i.toNat * 64)).take 64).toArray).size <= 64
         simp;omega
 have HO := Lh (fun W (hb : Below w.heap.size w W) x hx => zDa (hD.below hb) x hx);have za := rz 0;have zb := rz 1;obtain ⟨a, ha⟩ : ∃ a, a = (uJ N s 0).1 := ⟨_, rfl⟩
 obtain ⟨b, hb⟩ : ∃ b, b = (uJ N s 1).1 := ⟨_, rfl⟩
 obtain ⟨ea, hea⟩ : ∃ ea, ea = (uJ N s 0).2 := ⟨_, rfl⟩
 obtain ⟨eb, heb⟩ : ∃ eb, eb = (uJ N s 1).2 := ⟨_, rfl⟩
 rw [<- ha] at R0 za ⊢;rw [<- hb] at R1 zb ⊢;rw [<- hea] at R0;rw [<- heb] at R1;clear ha hb hea heb rz hD;have HB := Lh (fun W => zLa a b W (by omega) (by omega));have hsz := zM7 a b;have hsl := zNf a b;have HC := Lh (show ctg N a b = if 0 <= bK a b /\ bN_ a b ≠ 0 /\ fF ((bT a b).extract 12 (bT a b).size) = true /\ 10 <= zT (bT a b) 8 4 /\ zT (bT a b) 8 4 + 10 <= N then some (zT (bT a b) 8 4, bN_ a b, zT (bT a b) 0 8) else none from rfl);obtain ⟨k, hk⟩ : ∃ k, k = bK a b := ⟨_, rfl⟩
 obtain ⟨q, hq⟩ : ∃ q, q = bN_ a b := ⟨_, rfl⟩
 obtain ⟨t, ht⟩ : ∃ t, t = bT a b := ⟨_, rfl⟩
 rw [<- hk, <- hq, <- ht] at HB HC;rw [<- hk, <- ht] at hsz;rw [<- hq] at hsl;rw [HC.out];clear HC hk hq ht za zb;rcases hsz with ⟨hk, hsz⟩ | ⟨hk, rfl⟩
 · have hfl : zT t 0 8 <= 18446744073709551615 := by have := gP t 0 8 (by omega); omega
   have hll : zT t 8 4 < 4294967296 := vW t 8 4;have G1 := Lh (fun w => show Calls Tryz.prog 160 #[.string t, .int .i64 0, .int .i64 8] w fun e w' => e = .returned (.tuple #[.int .u64 (zT t 0 8 : Nat), .bool true]) /\ w = w' from jE t 0 8 w (by omega) (by omega) (by omega));have G2 := Lh (fun w => show Calls Tryz.prog 160 #[.string t, .int .i64 8, .int .i64 4] w fun e w' => e = .returned (.tuple #[.int .u64 (zT t 8 4 : Nat), .bool true]) /\ w = w' from jE t 8 4 w (by omega) (by omega) (by omega));have M1 := Lh (fun w => show Calls Tryz.prog 156 #[.int .u64 (zT t 0 8 : Nat), .int .u64 (zT t 8 4 : Nat)] w fun e w' => e = .returned (.string (mkT (zT t 0 8) (zT t 8 4))) /\ Below w.heap.size w w' from Ug _ _ w (by omega) (by omega));have T1 := Lh (fun w => show Calls Tryz.prog 161 #[.string t, .string (mkT (zT t 0 8) (zT t 8 4))] w fun e w' => e = .returned (.string (t.extract 12 t.size)) /\ w' = w from (by have := Tryz.strings_TrimPrefix t (mkT (zT t 0 8) (zT t 8 4)) w; rw [zJ4 t (by omega)] at this; exact this));have BX := Lh (fun w => zIg (t.extract 12 t.size) w (by rw [ByteArray.size_extract]; omega));have d1 : decide (k < 0) = false := by simpa using hk
   obtain ⟨MT, hMT⟩ : ∃ MT, MT = mkT (zT t 0 8) (zT t 8 4) := ⟨_, rfl⟩
   rw [<- hMT] at M1 T1;obtain ⟨X, hX⟩ : ∃ X, X = t.extract 12 t.size := ⟨_, rfl⟩
   rw [<- hX] at T1 BX ⊢;obtain ⟨bx, hbx⟩ : ∃ bx, bx = fF X := ⟨_, rfl⟩
   rw [<- hbx] at BX ⊢;obtain ⟨ll, hl⟩ : ∃ ll, ll = zT t 8 4 := ⟨_, rfl⟩
   obtain ⟨ff, hf⟩ : ∃ ff, ff = zT t 0 8 := ⟨_, rfl⟩
   rw [<- hl, <- hf] at M1;rw [<- hl] at G2 hll ⊢;rw [<- hf] at G1 hfl ⊢;clear hMT hX hbx hl hf;have w1 : IntKind.i64.wrap (ll : Int) = ll := by rw [IntKind.wrap_i64]; omega
   have ON := Lh (fun W (hb : Below w.heap.size w W) => HO.out W hb (ll : Int) (gM (by omega) (by omega)));have K0 := Lh hk;clear hk hsl HO hsz hfl hll;by_cases hq : q = 0
   · subst hq;rw [if_neg (by simp)];unfold ctV;simp only;go_enter Tryz.func77, Tryz.ntmps77;have B0 := Lh (zG w 124 #[.pointer none, .int .i64 0]);have O0 := Lh (Own.made w 124 #[.pointer none, .int .i64 0]);go_wp2_with (first
       | (go_at_call 158; first | (with_reducible refine (R0.out _ B0.out).mono ?_; rintro e w1 ⟨rfl, hb⟩; have B1 := Lh (then_ B0.out hb B0.out.size); have O1 := Lh (Own.keep O0.out hb); clear hb) | (with_reducible refine (R1.out _ B1.out).mono ?_; rintro e w2 ⟨rfl, hb⟩; have B2 := Lh (then_ B1.out hb B1.out.size); have O2 := Lh (Own.keep O1.out hb); clear hb))
       | (go_at_call 159; refine (HB.out _).mono ?_; rintro e w3 ⟨rfl, hb⟩; have B3 := Lh (then_ B2.out hb B2.out.size); have O3 := Lh (Own.keep O2.out hb); clear hb)
       | (go_at_call 160; first | (with_reducible refine (G1.out _).mono ?_; rintro e w9 ⟨rfl, rfl⟩) | (with_reducible refine (G2.out _).mono ?_; rintro e w9 ⟨rfl, rfl⟩))
       | (go_at_call 156; refine (M1.out _).mono ?_; rintro e w4 ⟨rfl, hb⟩; have B4 := Lh (then_ B3.out hb B3.out.size); have O4 := Lh (Own.keep O3.out hb); clear hb)
       | (go_at_call 161; refine (T1.out _).mono ?_; rintro e w5 ⟨rfl, rfl⟩; obtain ⟨o1, o2, o3⟩ := O4.out.at_)
       | (go_at_call 162; refine (BX.out _).mono ?_; rintro e w6 ⟨rfl, hb⟩; have B6 := Lh (then_ (B4.out.alloc B4.out.size (.cells #[.pointer (some ⟨d, 0, none⟩), .int .i64 (ll : Int)] 124)) hb (by simp; exact Nat.le_succ_of_le B4.out.size)); have O6 := Lh (Own.keep (O4.out.more (.cells #[.pointer (some ⟨d, 0, none⟩), .int .i64 (ll : Int)] 124)) hb); have L6 := Lh (Own.keep (Own.made w5 124 #[.pointer (some ⟨d, 0, none⟩), .int .i64 (ll : Int)]) hb); clear hb; obtain ⟨o1, o2, o3⟩ := O6.out.at_; obtain ⟨p1, p2, p3⟩ := L6.out.at_)
       | (go_at_call 68; refine (ON.out _ B6.out).mono ?_; rintro e w7 ⟨rfl, hb⟩; have B7 := Lh (then_ B6.out hb B6.out.size); have O7 := Lh (Own.keep O6.out hb); have L7 := Lh (Own.keep L6.out hb); clear hb; obtain ⟨o1, o2, o3⟩ := O7.out.at_; obtain ⟨p1, p2, p3⟩ := L7.out.at_))
     refine bodyPost_ret (by simp [results, Tryz.results77, go_sem, *]) rfl ⟨rfl, ?_⟩;have b9 := B4.out;repeat' (first | (with_reducible exact Below.refl _ _) | (with_reducible assumption) | (with_reducible refine zM ?_ _) | (with_reducible refine Below.drew ?_) | (with_reducible refine Below.alloc ?_ ?_ _) | (with_reducible refine Below.setCell ?_ ?_ _) | (with_reducible refine then_ ?_ (by with_reducible assumption) ?_) | (with_reducible exact Nat.le_refl _) | (with_reducible exact Nat.le_succ _) | (with_reducible exact Nat.le_succ_of_le (by with_reducible assumption)) | omega | (simp; done) | (simp; omega) | (exact Nat.le_succ _) | (exact Nat.le_succ_of_le (by with_reducible assumption)))
   · have tq : ((q : Int) == 0) = false := by rw [beq_eq_false_iff_ne]; omega
     cases bx with
     | false =>
       rw [if_neg (by simp)];unfold ctV;simp only;clear hq;go_enter Tryz.func77, Tryz.ntmps77;have B0 := Lh (zG w 124 #[.pointer none, .int .i64 0]);have O0 := Lh (Own.made w 124 #[.pointer none, .int .i64 0]);go_wp2_with (first
         | (go_at_call 158; first | (with_reducible refine (R0.out _ B0.out).mono ?_; rintro e w1 ⟨rfl, hb⟩; have B1 := Lh (then_ B0.out hb B0.out.size); have O1 := Lh (Own.keep O0.out hb); clear hb) | (with_reducible refine (R1.out _ B1.out).mono ?_; rintro e w2 ⟨rfl, hb⟩; have B2 := Lh (then_ B1.out hb B1.out.size); have O2 := Lh (Own.keep O1.out hb); clear hb))
         | (go_at_call 159; refine (HB.out _).mono ?_; rintro e w3 ⟨rfl, hb⟩; have B3 := Lh (then_ B2.out hb B2.out.size); have O3 := Lh (Own.keep O2.out hb); clear hb)
         | (go_at_call 160; first | (with_reducible refine (G1.out _).mono ?_; rintro e w9 ⟨rfl, rfl⟩) | (with_reducible refine (G2.out _).mono ?_; rintro e w9 ⟨rfl, rfl⟩))
         | (go_at_call 156; refine (M1.out _).mono ?_; rintro e w4 ⟨rfl, hb⟩; have B4 := Lh (then_ B3.out hb B3.out.size); have O4 := Lh (Own.keep O3.out hb); clear hb)
         | (go_at_call 161; refine (T1.out _).mono ?_; rintro e w5 ⟨rfl, rfl⟩; obtain ⟨o1, o2, o3⟩ := O4.out.at_)
         | (go_at_call 162; refine (BX.out _).mono ?_; rintro e w6 ⟨rfl, hb⟩; have B6 := Lh (then_ (B4.out.alloc B4.out.size (.cells #[.pointer (some ⟨d, 0, none⟩), .int .i64 (ll : Int)] 124)) hb (by simp; exact Nat.le_succ_of_le B4.out.size)); have O6 := Lh (Own.keep (O4.out.more (.cells #[.pointer (some ⟨d, 0, none⟩), .int .i64 (ll : Int)] 124)) hb); have L6 := Lh (Own.keep (Own.made w5 124 #[.pointer (some ⟨d, 0, none⟩), .int .i64 (ll : Int)]) hb); clear hb; obtain ⟨o1, o2, o3⟩ := O6.out.at_; obtain ⟨p1, p2, p3⟩ := L6.out.at_)
         | (go_at_call 68; refine (ON.out _ B6.out).mono ?_; rintro e w7 ⟨rfl, hb⟩; have B7 := Lh (then_ B6.out hb B6.out.size); have O7 := Lh (Own.keep O6.out hb); have L7 := Lh (Own.keep L6.out hb); clear hb; obtain ⟨o1, o2, o3⟩ := O7.out.at_; obtain ⟨p1, p2, p3⟩ := L7.out.at_))
       refine bodyPost_ret (by simp [results, Tryz.results77, go_sem, *]) rfl ⟨rfl, ?_⟩;have b9 := B6.out;repeat' (first | (with_reducible exact Below.refl _ _) | (with_reducible assumption) | (with_reducible refine zM ?_ _) | (with_reducible refine Below.drew ?_) | (with_reducible refine Below.alloc ?_ ?_ _) | (with_reducible refine Below.setCell ?_ ?_ _) | (with_reducible refine then_ ?_ (by with_reducible assumption) ?_) | (with_reducible exact Nat.le_refl _) | (with_reducible exact Nat.le_succ _) | (with_reducible exact Nat.le_succ_of_le (by with_reducible assumption)) | omega | (simp; done) | (simp; omega) | (exact Nat.le_succ _) | (exact Nat.le_succ_of_le (by with_reducible assumption)))
     | true =>
       by_cases on : 10 <= ll /\ ll + 10 <= N
       · rw [if_pos ⟨K0.out, hq, rfl, on.1, on.2⟩];have eon : (decide (10 <= (ll : Int)) && decide ((ll : Int) <= (N : Int) - 10)) = true := by simp; omega
         rw [eon] at ON;unfold ctV uM;simp only;clear hq eon on;go_enter Tryz.func77, Tryz.ntmps77;have B0 := Lh (zG w 124 #[.pointer none, .int .i64 0]);have O0 := Lh (Own.made w 124 #[.pointer none, .int .i64 0]);go_wp2_with (first
           | (go_at_call 158; first | (with_reducible refine (R0.out _ B0.out).mono ?_; rintro e w1 ⟨rfl, hb⟩; have B1 := Lh (then_ B0.out hb B0.out.size); have O1 := Lh (Own.keep O0.out hb); clear hb) | (with_reducible refine (R1.out _ B1.out).mono ?_; rintro e w2 ⟨rfl, hb⟩; have B2 := Lh (then_ B1.out hb B1.out.size); have O2 := Lh (Own.keep O1.out hb); clear hb))
           | (go_at_call 159; refine (HB.out _).mono ?_; rintro e w3 ⟨rfl, hb⟩; have B3 := Lh (then_ B2.out hb B2.out.size); have O3 := Lh (Own.keep O2.out hb); clear hb)
           | (go_at_call 160; first | (with_reducible refine (G1.out _).mono ?_; rintro e w9 ⟨rfl, rfl⟩) | (with_reducible refine (G2.out _).mono ?_; rintro e w9 ⟨rfl, rfl⟩))
           | (go_at_call 156; refine (M1.out _).mono ?_; rintro e w4 ⟨rfl, hb⟩; have B4 := Lh (then_ B3.out hb B3.out.size); have O4 := Lh (Own.keep O3.out hb); clear hb)
           | (go_at_call 161; refine (T1.out _).mono ?_; rintro e w5 ⟨rfl, rfl⟩; obtain ⟨o1, o2, o3⟩ := O4.out.at_)
           | (go_at_call 162; refine (BX.out _).mono ?_; rintro e w6 ⟨rfl, hb⟩; have B6 := Lh (then_ (B4.out.alloc B4.out.size (.cells #[.pointer (some ⟨d, 0, none⟩), .int .i64 (ll : Int)] 124)) hb (by simp; exact Nat.le_succ_of_le B4.out.size)); have O6 := Lh (Own.keep (O4.out.more (.cells #[.pointer (some ⟨d, 0, none⟩), .int .i64 (ll : Int)] 124)) hb); have L6 := Lh (Own.keep (Own.made w5 124 #[.pointer (some ⟨d, 0, none⟩), .int .i64 (ll : Int)]) hb); clear hb; obtain ⟨o1, o2, o3⟩ := O6.out.at_; obtain ⟨p1, p2, p3⟩ := L6.out.at_)
           | (go_at_call 68; refine (ON.out _ B6.out).mono ?_; rintro e w7 ⟨rfl, hb⟩; have B7 := Lh (then_ B6.out hb B6.out.size); have O7 := Lh (Own.keep O6.out hb); have L7 := Lh (Own.keep L6.out hb); clear hb; obtain ⟨o1, o2, o3⟩ := O7.out.at_; obtain ⟨p1, p2, p3⟩ := L7.out.at_))
         refine bodyPost_ret (by simp [results, Tryz.results77, go_sem, *]) rfl ⟨rfl, ?_⟩;have b9 := B7.out;repeat' (first | (with_reducible exact Below.refl _ _) | (with_reducible assumption) | (with_reducible refine zM ?_ _) | (with_reducible refine Below.drew ?_) | (with_reducible refine Below.alloc ?_ ?_ _) | (with_reducible refine Below.setCell ?_ ?_ _) | (with_reducible refine then_ ?_ (by with_reducible assumption) ?_) | (with_reducible exact Nat.le_refl _) | (with_reducible exact Nat.le_succ _) | (with_reducible exact Nat.le_succ_of_le (by with_reducible assumption)) | omega | (simp; done) | (simp; omega) | (exact Nat.le_succ _) | (exact Nat.le_succ_of_le (by with_reducible assumption)))
       · rw [if_neg fun h => on ⟨h.2.2.2.1, h.2.2.2.2⟩];have eon : (decide (10 <= (ll : Int)) && decide ((ll : Int) <= (N : Int) - 10)) = false := by simp; omega
         rw [eon] at ON;unfold ctV;simp only;clear hq eon on;go_enter Tryz.func77, Tryz.ntmps77;have B0 := Lh (zG w 124 #[.pointer none, .int .i64 0]);have O0 := Lh (Own.made w 124 #[.pointer none, .int .i64 0]);go_wp2_with (first
           | (go_at_call 158; first | (with_reducible refine (R0.out _ B0.out).mono ?_; rintro e w1 ⟨rfl, hb⟩; have B1 := Lh (then_ B0.out hb B0.out.size); have O1 := Lh (Own.keep O0.out hb); clear hb) | (with_reducible refine (R1.out _ B1.out).mono ?_; rintro e w2 ⟨rfl, hb⟩; have B2 := Lh (then_ B1.out hb B1.out.size); have O2 := Lh (Own.keep O1.out hb); clear hb))
           | (go_at_call 159; refine (HB.out _).mono ?_; rintro e w3 ⟨rfl, hb⟩; have B3 := Lh (then_ B2.out hb B2.out.size); have O3 := Lh (Own.keep O2.out hb); clear hb)
           | (go_at_call 160; first | (with_reducible refine (G1.out _).mono ?_; rintro e w9 ⟨rfl, rfl⟩) | (with_reducible refine (G2.out _).mono ?_; rintro e w9 ⟨rfl, rfl⟩))
           | (go_at_call 156; refine (M1.out _).mono ?_; rintro e w4 ⟨rfl, hb⟩; have B4 := Lh (then_ B3.out hb B3.out.size); have O4 := Lh (Own.keep O3.out hb); clear hb)
           | (go_at_call 161; refine (T1.out _).mono ?_; rintro e w5 ⟨rfl, rfl⟩; obtain ⟨o1, o2, o3⟩ := O4.out.at_)
           | (go_at_call 162; refine (BX.out _).mono ?_; rintro e w6 ⟨rfl, hb⟩; have B6 := Lh (then_ (B4.out.alloc B4.out.size (.cells #[.pointer (some ⟨d, 0, none⟩), .int .i64 (ll : Int)] 124)) hb (by simp; exact Nat.le_succ_of_le B4.out.size)); have O6 := Lh (Own.keep (O4.out.more (.cells #[.pointer (some ⟨d, 0, none⟩), .int .i64 (ll : Int)] 124)) hb); have L6 := Lh (Own.keep (Own.made w5 124 #[.pointer (some ⟨d, 0, none⟩), .int .i64 (ll : Int)]) hb); clear hb; obtain ⟨o1, o2, o3⟩ := O6.out.at_; obtain ⟨p1, p2, p3⟩ := L6.out.at_)
           | (go_at_call 68; refine (ON.out _ B6.out).mono ?_; rintro e w7 ⟨rfl, hb⟩; have B7 := Lh (then_ B6.out hb B6.out.size); have O7 := Lh (Own.keep O6.out hb); have L7 := Lh (Own.keep L6.out hb); clear hb; obtain ⟨o1, o2, o3⟩ := O7.out.at_; obtain ⟨p1, p2, p3⟩ := L7.out.at_))
         refine bodyPost_ret (by simp [results, Tryz.results77, go_sem, *]) rfl ⟨rfl, ?_⟩;have b9 := B7.out;repeat' (first | (with_reducible exact Below.refl _ _) | (with_reducible assumption) | (with_reducible refine zM ?_ _) | (with_reducible refine Below.drew ?_) | (with_reducible refine Below.alloc ?_ ?_ _) | (with_reducible refine Below.setCell ?_ ?_ _) | (with_reducible refine then_ ?_ (by with_reducible assumption) ?_) | (with_reducible exact Nat.le_refl _) | (with_reducible exact Nat.le_succ _) | (with_reducible exact Nat.le_succ_of_le (by with_reducible assumption)) | omega | (simp; done) | (simp; omega) | (exact Nat.le_succ _) | (exact Nat.le_succ_of_le (by with_reducible assumption)))
 · rw [if_neg (by omega)];have G1 := Lh (fun w => show Calls Tryz.prog 160 #[.string ⟨#[]⟩, .int .i64 0, .int .i64 8] w fun e w' => e = .returned (.tuple #[.int .u64 0, .bool false]) /\ w = w' from zB5 ⟨#[]⟩ 0 8 w (by decide) (by decide) (by decide) (by decide) (by decide) (by decide));have G2 := Lh (fun w => show Calls Tryz.prog 160 #[.string ⟨#[]⟩, .int .i64 8, .int .i64 4] w fun e w' => e = .returned (.tuple #[.int .u64 0, .bool false]) /\ w = w' from zB5 ⟨#[]⟩ 8 4 w (by decide) (by decide) (by decide) (by decide) (by decide) (by decide));have M1 := Lh (fun w => show Calls Tryz.prog 156 #[.int .u64 0, .int .u64 0] w fun e w' => e = .returned (.string (mkT 0 0)) /\ Below w.heap.size w w' from Ug 0 0 w (by omega) (by omega));have T1 := Lh (fun w => show Calls Tryz.prog 161 #[.string ⟨#[]⟩, .string (mkT 0 0)] w fun e w' => e = .returned (.string ⟨#[]⟩) /\ w' = w from (by have := Tryz.strings_TrimPrefix ⟨#[]⟩ (mkT 0 0) w; rw [zHg] at this; exact this));have d1 : decide (k < 0) = true := by simpa using hk
   obtain ⟨MT, hMT⟩ : ∃ MT, MT = mkT 0 0 := ⟨_, rfl⟩
   rw [<- hMT] at M1 T1;clear hMT hk hsl HO;unfold ctV;simp only;go_enter Tryz.func77, Tryz.ntmps77;have B0 := Lh (zG w 124 #[.pointer none, .int .i64 0]);have O0 := Lh (Own.made w 124 #[.pointer none, .int .i64 0]);go_wp2_with (first
     | (go_at_call 158; first | (with_reducible refine (R0.out _ B0.out).mono ?_; rintro e w1 ⟨rfl, hb⟩; have B1 := Lh (then_ B0.out hb B0.out.size); have O1 := Lh (Own.keep O0.out hb); clear hb) | (with_reducible refine (R1.out _ B1.out).mono ?_; rintro e w2 ⟨rfl, hb⟩; have B2 := Lh (then_ B1.out hb B1.out.size); have O2 := Lh (Own.keep O1.out hb); clear hb))
     | (go_at_call 159; refine (HB.out _).mono ?_; rintro e w3 ⟨rfl, hb⟩; have B3 := Lh (then_ B2.out hb B2.out.size); have O3 := Lh (Own.keep O2.out hb); clear hb)
     | (go_at_call 160; first | (with_reducible refine (G1.out _).mono ?_; rintro e w9 ⟨rfl, rfl⟩) | (with_reducible refine (G2.out _).mono ?_; rintro e w9 ⟨rfl, rfl⟩))
     | (go_at_call 156; refine (M1.out _).mono ?_; rintro e w4 ⟨rfl, hb⟩; have B4 := Lh (then_ B3.out hb B3.out.size); have O4 := Lh (Own.keep O3.out hb); clear hb)
     | (go_at_call 161; refine (T1.out _).mono ?_; rintro e w5 ⟨rfl, rfl⟩; obtain ⟨o1, o2, o3⟩ := O4.out.at_))
   refine bodyPost_ret (by simp [results, Tryz.results77, go_sem, *]) rfl ⟨rfl, ?_⟩;have b9 := B4.out;repeat' (first | (with_reducible exact Below.refl _ _) | (with_reducible assumption) | (with_reducible refine zM ?_ _) | (with_reducible refine Below.drew ?_) | (with_reducible refine Below.alloc ?_ ?_ _) | (with_reducible refine Below.setCell ?_ ?_ _) | (with_reducible refine then_ ?_ (by with_reducible assumption) ?_) | (with_reducible exact Nat.le_refl _) | (with_reducible exact Nat.le_succ _) | (with_reducible exact Nat.le_succ_of_le (by with_reducible assumption)) | omega | (simp; done) | (simp; omega) | (exact Nat.le_succ _) | (exact Nat.le_succ_of_le (by with_reducible assumption)))
end
end Go.Proofs.YthijgebmoadgkaaGreatDoor
