import Derived.Test.YtndhmidgnpobjaaGreatDoorPgrF
set_option linter.unusedVariables false
set_option linter.unusedSimpArgs false
namespace Go.Proofs.YtndhmidgnpobjaaGreatDoor
open Go.ChangeShapes Go.WideShapes Go.ChangeAt Go.RowKit
theorem zAw (t : ByteArray) (p k : Nat) (hk : k <= 8) (h : p + k <= t.size) : zU (zY t p k) k = (t.data.toList.drop p).take k := by
 refine zLf _ _ (by rw [zR, List.length_take, List.length_drop, jD]; omega) ?_;rw [<- vN t p k h];have h1 : zY ⟨(zU (zY t p k) k).toArray⟩ 0 k = zY t p k := qD _ 0 k _ hk (by rw [zW, zR]; omega) (uL t p k) (by simp [List.take_of_length_le, zR]);have h2 := vN ⟨(zU (zY t p k) k).toArray⟩ 0 k (by rw [zW, zR]; omega);rw [List.drop_zero, show ((⟨(zU (zY t p k) k).toArray⟩ : ByteArray).data.toList) = zU (zY t p k) k by simp, List.take_of_length_le (by rw [zR]; omega)] at h2;rw [<- h2, h1]
def mkT (f ll : Nat) : ByteArray := ⟨(zU f 8).toArray⟩ ++ ⟨(zU ll 4).toArray⟩
theorem xR (f ll : Nat) : (mkT f ll).size = 12 := by unfold mkT; rw [ByteArray.size_append, zW, zW, zR, zR]
theorem zOi (t : ByteArray) (h : 12 <= t.size) : (mkT (zY t 0 8) (zY t 8 4)).data.toList = t.data.toList.take 12 := by
 unfold mkT;rw [xX];show zU (zY t 0 8) 8 ++ zU (zY t 8 4) 4 = _
 rw [zAw t 0 8 (by omega) (by omega), zAw t 8 4 (by omega) (by omega), List.drop_zero];rw [<- List.take_add]
theorem zK4 (t : ByteArray) (h : 12 <= t.size) : (⟨(Lib.trimPrefix t.data.toList (mkT (zY t 0 8) (zY t 8 4)).data.toList).toArray⟩ : ByteArray) = t.extract 12 t.size := by
 rw [zOi t h];have e : Lib.trimPrefix t.data.toList (t.data.toList.take 12) = t.data.toList.drop 12 := by
   unfold Lib.trimPrefix Lib.hasPrefix;rw [if_pos (by rw [List.isPrefixOf_iff_prefix]; exact List.take_prefix 12 _), List.length_take, jD, Nat.min_eq_left h]
 rw [e];refine qV ?_;rw [xK];show t.data.toList.drop 12 = _
 rw [List.take_of_length_le (by rw [List.length_drop, jD]; omega)]
theorem zIq (f ll : Nat) : (⟨(Lib.trimPrefix (⟨#[]⟩ : ByteArray).data.toList (mkT f ll).data.toList).toArray⟩ : ByteArray) = ⟨#[]⟩ := by
 have h : (mkT f ll).data.toList.length = 12 := by rw [jD, xR]
 have e : Lib.hasPrefix ([] : List UInt8) (mkT f ll).data.toList = false := by
   unfold Lib.hasPrefix;cases hm : (mkT f ll).data.toList with
   | nil => rw [hm] at h; cases h
   | cons x m => rfl
 show (⟨(Lib.trimPrefix [] (mkT f ll).data.toList).toArray⟩ : ByteArray) = _
 unfold Lib.trimPrefix;rw [e];rfl
def ctg (N : Nat) (a b : ByteArray) : Option (Nat × Nat × Nat) :=
 if 0 <= bK a b /\ bN_ a b ≠ 0 /\ fX ((bT a b).extract 12 (bT a b).size) = true /\ 10 <= zY (bT a b) 8 4 /\ zY (bT a b) 8 4 + 10 <= N then some (zY (bT a b) 8 4, bN_ a b, zY (bT a b) 0 8) else none
theorem zNc (a b : ByteArray) : (0 <= bK a b /\ (bT a b).size = 48) \/ (bK a b < 0 /\ bT a b = ⟨#[]⟩) := by
 unfold bT bK;by_cases h1 : (isM a && (!isM b || decide (mN b <= mN a))) = true
 · left
   simp only [h1, if_true];simp only [Bool.and_eq_true] at h1;exact ⟨by simp, zA8 a h1.1⟩
 · simp only [h1, Bool.false_eq_true, if_false];by_cases h2 : isM b = true
   · left
     simp only [h2, if_true];simp;exact zA8 b h2
   · right
     simp only [h2, Bool.false_eq_true, if_false];simp
theorem zN7 (a b : ByteArray) : bN_ a b <= 18446744073709551615 := by
 unfold bN_;have h1 := zAi a;have h2 := zAi b;split
 · exact h1
 · split
   · exact h2
   · omega
def ctV (d : Nat) : Option (Nat × Nat × Nat) -> Value
 | some (ll, seq, first) => .tuple #[uW d ll, .int .u64 (seq : Int), .int .u64 (first : Int), .bool true]
 | none => .tuple #[.agg #[.pointer none, .int .i64 0], .int .u64 0, .int .u64 0, .bool false]
section
variable {w : World} {d sb mb sc : Nat} {wv : Value} {N : Nat} {s : St}
set_option maxRecDepth 10000 in
set_option maxHeartbeats 1000000 in
theorem zA4 (hD : zI w d sb mb sc wv N s) : Calls Tryz.prog 68 #[.pointer (some ⟨d, 0, none⟩)] w fun e w' =>
   e = .returned (ctV d (ctg N (uU N s 0).1 (uU N s 1).1)) /\ Below w.heap.size w w' := by
 have hN := hD.ok.max;have R0 := Lh (fun W (hb : Below w.heap.size w W) => gN (hD.below hb) 0 (by decide));have R1 := Lh (fun W (hb : Below w.heap.size w W) => gN (hD.below hb) 1 (by decide));have rz : ∀ i, (uU N s i).1.size <= 64 := fun i => by
   unfold uU;split
   · exact Nat.zero_le _
   · split
     · exact Nat.zero_le _
     · cases hl : xY s.wr i with
       | some x => exact Nat.le_of_eq (hD.ok.wr x (fC hl).1).2
       | none =>
         show (((s.sure.drop (i.toNat * 64)).take 64).toArray).size <= 64
         simp;omega
 have HO := Lh (fun W (hb : Below w.heap.size w W) x hx => zCs (hD.below hb) x hx);have za := rz 0;have zb := rz 1;obtain ⟨a, ha⟩ : ∃ a, a = (uU N s 0).1 := ⟨_, rfl⟩
 obtain ⟨b, hb⟩ : ∃ b, b = (uU N s 1).1 := ⟨_, rfl⟩
 obtain ⟨ea, hea⟩ : ∃ ea, ea = (uU N s 0).2 := ⟨_, rfl⟩
 obtain ⟨eb, heb⟩ : ∃ eb, eb = (uU N s 1).2 := ⟨_, rfl⟩
 rw [<- ha] at R0 za ⊢;rw [<- hb] at R1 zb ⊢;rw [<- hea] at R0;rw [<- heb] at R1;clear ha hb hea heb rz hD;have HB := Lh (fun W => zJi a b W (by omega) (by omega));have hsz := zNc a b;have hsl := zN7 a b;have HC := Lh (show ctg N a b = if 0 <= bK a b /\ bN_ a b ≠ 0 /\ fX ((bT a b).extract 12 (bT a b).size) = true /\ 10 <= zY (bT a b) 8 4 /\ zY (bT a b) 8 4 + 10 <= N then some (zY (bT a b) 8 4, bN_ a b, zY (bT a b) 0 8) else none from rfl);obtain ⟨k, hk⟩ : ∃ k, k = bK a b := ⟨_, rfl⟩
 obtain ⟨q, hq⟩ : ∃ q, q = bN_ a b := ⟨_, rfl⟩
 obtain ⟨t, ht⟩ : ∃ t, t = bT a b := ⟨_, rfl⟩
 rw [<- hk, <- hq, <- ht] at HB HC;rw [<- hk, <- ht] at hsz;rw [<- hq] at hsl;rw [HC.out];clear HC hk hq ht za zb;rcases hsz with ⟨hk, hsz⟩ | ⟨hk, rfl⟩
 · have hfl : zY t 0 8 <= 18446744073709551615 := by have := gQ t 0 8 (by omega); omega
   have hll : zY t 8 4 < 4294967296 := uL t 8 4;have G1 := Lh (fun w => show Calls Tryz.prog 132 #[.string t, .int .i64 0, .int .i64 8] w fun e w' => e = .returned (.tuple #[.int .u64 (zY t 0 8 : Nat), .bool true]) /\ w = w' from jO t 0 8 w (by omega) (by omega) (by omega));have G2 := Lh (fun w => show Calls Tryz.prog 132 #[.string t, .int .i64 8, .int .i64 4] w fun e w' => e = .returned (.tuple #[.int .u64 (zY t 8 4 : Nat), .bool true]) /\ w = w' from jO t 8 4 w (by omega) (by omega) (by omega));have M1 := Lh (fun w => show Calls Tryz.prog 128 #[.int .u64 (zY t 0 8 : Nat), .int .u64 (zY t 8 4 : Nat)] w fun e w' => e = .returned (.string (mkT (zY t 0 8) (zY t 8 4))) /\ Below w.heap.size w w' from Uz _ _ w (by omega) (by omega));have T1 := Lh (fun w => show Calls Tryz.prog 133 #[.string t, .string (mkT (zY t 0 8) (zY t 8 4))] w fun e w' => e = .returned (.string (t.extract 12 t.size)) /\ w' = w from (by have := Tryz.strings_TrimPrefix t (mkT (zY t 0 8) (zY t 8 4)) w; rw [zK4 t (by omega)] at this; exact this));have BX := Lh (fun w => zIb (t.extract 12 t.size) w (by rw [ByteArray.size_extract]; omega));have d1 : decide (k < 0) = false := by simpa using hk
   obtain ⟨MT, hMT⟩ : ∃ MT, MT = mkT (zY t 0 8) (zY t 8 4) := ⟨_, rfl⟩
   rw [<- hMT] at M1 T1;obtain ⟨X, hX⟩ : ∃ X, X = t.extract 12 t.size := ⟨_, rfl⟩
   rw [<- hX] at T1 BX ⊢;obtain ⟨bx, hbx⟩ : ∃ bx, bx = fX X := ⟨_, rfl⟩
   rw [<- hbx] at BX ⊢;obtain ⟨ll, hl⟩ : ∃ ll, ll = zY t 8 4 := ⟨_, rfl⟩
   obtain ⟨ff, hf⟩ : ∃ ff, ff = zY t 0 8 := ⟨_, rfl⟩
   rw [<- hl, <- hf] at M1;rw [<- hl] at G2 hll ⊢;rw [<- hf] at G1 hfl ⊢;clear hMT hX hbx hl hf;have w1 : IntKind.i64.wrap (ll : Int) = ll := by rw [IntKind.wrap_i64]; omega
   have ON := Lh (fun W (hb : Below w.heap.size w W) => HO.out W hb (ll : Int) (mB (by omega) (by omega)));have K0 := Lh hk;clear hk hsl HO hsz hfl hll;by_cases hq : q = 0
   · subst hq;rw [if_neg (by simp)];unfold ctV;simp only;go_enter Tryz.func68, Tryz.ntmps68;have B0 := Lh (zF w 105 #[.pointer none, .int .i64 0]);have O0 := Lh (Own.made w 105 #[.pointer none, .int .i64 0]);go_wp2_with (first
       | (go_at_call 130; first | (with_reducible refine (R0.out _ B0.out).mono ?_; rintro e w1 ⟨rfl, hb⟩; have B1 := Lh (then_ B0.out hb B0.out.size); have O1 := Lh (Own.keep O0.out hb); clear hb) | (with_reducible refine (R1.out _ B1.out).mono ?_; rintro e w2 ⟨rfl, hb⟩; have B2 := Lh (then_ B1.out hb B1.out.size); have O2 := Lh (Own.keep O1.out hb); clear hb))
       | (go_at_call 131; refine (HB.out _).mono ?_; rintro e w3 ⟨rfl, hb⟩; have B3 := Lh (then_ B2.out hb B2.out.size); have O3 := Lh (Own.keep O2.out hb); clear hb)
       | (go_at_call 132; first | (with_reducible refine (G1.out _).mono ?_; rintro e w9 ⟨rfl, rfl⟩) | (with_reducible refine (G2.out _).mono ?_; rintro e w9 ⟨rfl, rfl⟩))
       | (go_at_call 128; refine (M1.out _).mono ?_; rintro e w4 ⟨rfl, hb⟩; have B4 := Lh (then_ B3.out hb B3.out.size); have O4 := Lh (Own.keep O3.out hb); clear hb)
       | (go_at_call 133; refine (T1.out _).mono ?_; rintro e w5 ⟨rfl, rfl⟩; obtain ⟨o1, o2, o3⟩ := O4.out.at_)
       | (go_at_call 134; refine (BX.out _).mono ?_; rintro e w6 ⟨rfl, hb⟩; have B6 := Lh (then_ (B4.out.alloc B4.out.size (.cells #[.pointer (some ⟨d, 0, none⟩), .int .i64 (ll : Int)] 105)) hb (by simp; exact Nat.le_succ_of_le B4.out.size)); have O6 := Lh (Own.keep (O4.out.more (.cells #[.pointer (some ⟨d, 0, none⟩), .int .i64 (ll : Int)] 105)) hb); have L6 := Lh (Own.keep (Own.made w5 105 #[.pointer (some ⟨d, 0, none⟩), .int .i64 (ll : Int)]) hb); clear hb; obtain ⟨o1, o2, o3⟩ := O6.out.at_; obtain ⟨p1, p2, p3⟩ := L6.out.at_)
       | (go_at_call 59; refine (ON.out _ B6.out).mono ?_; rintro e w7 ⟨rfl, hb⟩; have B7 := Lh (then_ B6.out hb B6.out.size); have O7 := Lh (Own.keep O6.out hb); have L7 := Lh (Own.keep L6.out hb); clear hb; obtain ⟨o1, o2, o3⟩ := O7.out.at_; obtain ⟨p1, p2, p3⟩ := L7.out.at_))
     refine bodyPost_ret (by simp [results, Tryz.results68, go_sem, *]) rfl ⟨rfl, ?_⟩;have b9 := B4.out;repeat' (first | (with_reducible exact Below.refl _ _) | (with_reducible assumption) | (with_reducible refine zJ ?_ _) | (with_reducible refine Below.drew ?_) | (with_reducible refine Below.alloc ?_ ?_ _) | (with_reducible refine Below.setCell ?_ ?_ _) | (with_reducible refine then_ ?_ (by with_reducible assumption) ?_) | (with_reducible exact Nat.le_refl _) | (with_reducible exact Nat.le_succ _) | (with_reducible exact Nat.le_succ_of_le (by with_reducible assumption)) | omega | (simp; done) | (simp; omega) | (exact Nat.le_succ _) | (exact Nat.le_succ_of_le (by with_reducible assumption)))
   · have tq : ((q : Int) == 0) = false := by rw [beq_eq_false_iff_ne]; omega
     cases bx with
     | false =>
       rw [if_neg (by simp)];unfold ctV;simp only;clear hq;go_enter Tryz.func68, Tryz.ntmps68;have B0 := Lh (zF w 105 #[.pointer none, .int .i64 0]);have O0 := Lh (Own.made w 105 #[.pointer none, .int .i64 0]);go_wp2_with (first
         | (go_at_call 130; first | (with_reducible refine (R0.out _ B0.out).mono ?_; rintro e w1 ⟨rfl, hb⟩; have B1 := Lh (then_ B0.out hb B0.out.size); have O1 := Lh (Own.keep O0.out hb); clear hb) | (with_reducible refine (R1.out _ B1.out).mono ?_; rintro e w2 ⟨rfl, hb⟩; have B2 := Lh (then_ B1.out hb B1.out.size); have O2 := Lh (Own.keep O1.out hb); clear hb))
         | (go_at_call 131; refine (HB.out _).mono ?_; rintro e w3 ⟨rfl, hb⟩; have B3 := Lh (then_ B2.out hb B2.out.size); have O3 := Lh (Own.keep O2.out hb); clear hb)
         | (go_at_call 132; first | (with_reducible refine (G1.out _).mono ?_; rintro e w9 ⟨rfl, rfl⟩) | (with_reducible refine (G2.out _).mono ?_; rintro e w9 ⟨rfl, rfl⟩))
         | (go_at_call 128; refine (M1.out _).mono ?_; rintro e w4 ⟨rfl, hb⟩; have B4 := Lh (then_ B3.out hb B3.out.size); have O4 := Lh (Own.keep O3.out hb); clear hb)
         | (go_at_call 133; refine (T1.out _).mono ?_; rintro e w5 ⟨rfl, rfl⟩; obtain ⟨o1, o2, o3⟩ := O4.out.at_)
         | (go_at_call 134; refine (BX.out _).mono ?_; rintro e w6 ⟨rfl, hb⟩; have B6 := Lh (then_ (B4.out.alloc B4.out.size (.cells #[.pointer (some ⟨d, 0, none⟩), .int .i64 (ll : Int)] 105)) hb (by simp; exact Nat.le_succ_of_le B4.out.size)); have O6 := Lh (Own.keep (O4.out.more (.cells #[.pointer (some ⟨d, 0, none⟩), .int .i64 (ll : Int)] 105)) hb); have L6 := Lh (Own.keep (Own.made w5 105 #[.pointer (some ⟨d, 0, none⟩), .int .i64 (ll : Int)]) hb); clear hb; obtain ⟨o1, o2, o3⟩ := O6.out.at_; obtain ⟨p1, p2, p3⟩ := L6.out.at_)
         | (go_at_call 59; refine (ON.out _ B6.out).mono ?_; rintro e w7 ⟨rfl, hb⟩; have B7 := Lh (then_ B6.out hb B6.out.size); have O7 := Lh (Own.keep O6.out hb); have L7 := Lh (Own.keep L6.out hb); clear hb; obtain ⟨o1, o2, o3⟩ := O7.out.at_; obtain ⟨p1, p2, p3⟩ := L7.out.at_))
       refine bodyPost_ret (by simp [results, Tryz.results68, go_sem, *]) rfl ⟨rfl, ?_⟩;have b9 := B6.out;repeat' (first | (with_reducible exact Below.refl _ _) | (with_reducible assumption) | (with_reducible refine zJ ?_ _) | (with_reducible refine Below.drew ?_) | (with_reducible refine Below.alloc ?_ ?_ _) | (with_reducible refine Below.setCell ?_ ?_ _) | (with_reducible refine then_ ?_ (by with_reducible assumption) ?_) | (with_reducible exact Nat.le_refl _) | (with_reducible exact Nat.le_succ _) | (with_reducible exact Nat.le_succ_of_le (by with_reducible assumption)) | omega | (simp; done) | (simp; omega) | (exact Nat.le_succ _) | (exact Nat.le_succ_of_le (by with_reducible assumption)))
     | true =>
       by_cases on : 10 <= ll /\ ll + 10 <= N
       · rw [if_pos ⟨K0.out, hq, rfl, on.1, on.2⟩];have eon : (decide (10 <= (ll : Int)) && decide ((ll : Int) <= (N : Int) - 10)) = true := by simp; omega
         rw [eon] at ON;unfold ctV uW;simp only;clear hq eon on;go_enter Tryz.func68, Tryz.ntmps68;have B0 := Lh (zF w 105 #[.pointer none, .int .i64 0]);have O0 := Lh (Own.made w 105 #[.pointer none, .int .i64 0]);go_wp2_with (first
           | (go_at_call 130; first | (with_reducible refine (R0.out _ B0.out).mono ?_; rintro e w1 ⟨rfl, hb⟩; have B1 := Lh (then_ B0.out hb B0.out.size); have O1 := Lh (Own.keep O0.out hb); clear hb) | (with_reducible refine (R1.out _ B1.out).mono ?_; rintro e w2 ⟨rfl, hb⟩; have B2 := Lh (then_ B1.out hb B1.out.size); have O2 := Lh (Own.keep O1.out hb); clear hb))
           | (go_at_call 131; refine (HB.out _).mono ?_; rintro e w3 ⟨rfl, hb⟩; have B3 := Lh (then_ B2.out hb B2.out.size); have O3 := Lh (Own.keep O2.out hb); clear hb)
           | (go_at_call 132; first | (with_reducible refine (G1.out _).mono ?_; rintro e w9 ⟨rfl, rfl⟩) | (with_reducible refine (G2.out _).mono ?_; rintro e w9 ⟨rfl, rfl⟩))
           | (go_at_call 128; refine (M1.out _).mono ?_; rintro e w4 ⟨rfl, hb⟩; have B4 := Lh (then_ B3.out hb B3.out.size); have O4 := Lh (Own.keep O3.out hb); clear hb)
           | (go_at_call 133; refine (T1.out _).mono ?_; rintro e w5 ⟨rfl, rfl⟩; obtain ⟨o1, o2, o3⟩ := O4.out.at_)
           | (go_at_call 134; refine (BX.out _).mono ?_; rintro e w6 ⟨rfl, hb⟩; have B6 := Lh (then_ (B4.out.alloc B4.out.size (.cells #[.pointer (some ⟨d, 0, none⟩), .int .i64 (ll : Int)] 105)) hb (by simp; exact Nat.le_succ_of_le B4.out.size)); have O6 := Lh (Own.keep (O4.out.more (.cells #[.pointer (some ⟨d, 0, none⟩), .int .i64 (ll : Int)] 105)) hb); have L6 := Lh (Own.keep (Own.made w5 105 #[.pointer (some ⟨d, 0, none⟩), .int .i64 (ll : Int)]) hb); clear hb; obtain ⟨o1, o2, o3⟩ := O6.out.at_; obtain ⟨p1, p2, p3⟩ := L6.out.at_)
           | (go_at_call 59; refine (ON.out _ B6.out).mono ?_; rintro e w7 ⟨rfl, hb⟩; have B7 := Lh (then_ B6.out hb B6.out.size); have O7 := Lh (Own.keep O6.out hb); have L7 := Lh (Own.keep L6.out hb); clear hb; obtain ⟨o1, o2, o3⟩ := O7.out.at_; obtain ⟨p1, p2, p3⟩ := L7.out.at_))
         refine bodyPost_ret (by simp [results, Tryz.results68, go_sem, *]) rfl ⟨rfl, ?_⟩;have b9 := B7.out;repeat' (first | (with_reducible exact Below.refl _ _) | (with_reducible assumption) | (with_reducible refine zJ ?_ _) | (with_reducible refine Below.drew ?_) | (with_reducible refine Below.alloc ?_ ?_ _) | (with_reducible refine Below.setCell ?_ ?_ _) | (with_reducible refine then_ ?_ (by with_reducible assumption) ?_) | (with_reducible exact Nat.le_refl _) | (with_reducible exact Nat.le_succ _) | (with_reducible exact Nat.le_succ_of_le (by with_reducible assumption)) | omega | (simp; done) | (simp; omega) | (exact Nat.le_succ _) | (exact Nat.le_succ_of_le (by with_reducible assumption)))
       · rw [if_neg fun h => on ⟨h.2.2.2.1, h.2.2.2.2⟩];have eon : (decide (10 <= (ll : Int)) && decide ((ll : Int) <= (N : Int) - 10)) = false := by simp; omega
         rw [eon] at ON;unfold ctV;simp only;clear hq eon on;go_enter Tryz.func68, Tryz.ntmps68;have B0 := Lh (zF w 105 #[.pointer none, .int .i64 0]);have O0 := Lh (Own.made w 105 #[.pointer none, .int .i64 0]);go_wp2_with (first
           | (go_at_call 130; first | (with_reducible refine (R0.out _ B0.out).mono ?_; rintro e w1 ⟨rfl, hb⟩; have B1 := Lh (then_ B0.out hb B0.out.size); have O1 := Lh (Own.keep O0.out hb); clear hb) | (with_reducible refine (R1.out _ B1.out).mono ?_; rintro e w2 ⟨rfl, hb⟩; have B2 := Lh (then_ B1.out hb B1.out.size); have O2 := Lh (Own.keep O1.out hb); clear hb))
           | (go_at_call 131; refine (HB.out _).mono ?_; rintro e w3 ⟨rfl, hb⟩; have B3 := Lh (then_ B2.out hb B2.out.size); have O3 := Lh (Own.keep O2.out hb); clear hb)
           | (go_at_call 132; first | (with_reducible refine (G1.out _).mono ?_; rintro e w9 ⟨rfl, rfl⟩) | (with_reducible refine (G2.out _).mono ?_; rintro e w9 ⟨rfl, rfl⟩))
           | (go_at_call 128; refine (M1.out _).mono ?_; rintro e w4 ⟨rfl, hb⟩; have B4 := Lh (then_ B3.out hb B3.out.size); have O4 := Lh (Own.keep O3.out hb); clear hb)
           | (go_at_call 133; refine (T1.out _).mono ?_; rintro e w5 ⟨rfl, rfl⟩; obtain ⟨o1, o2, o3⟩ := O4.out.at_)
           | (go_at_call 134; refine (BX.out _).mono ?_; rintro e w6 ⟨rfl, hb⟩; have B6 := Lh (then_ (B4.out.alloc B4.out.size (.cells #[.pointer (some ⟨d, 0, none⟩), .int .i64 (ll : Int)] 105)) hb (by simp; exact Nat.le_succ_of_le B4.out.size)); have O6 := Lh (Own.keep (O4.out.more (.cells #[.pointer (some ⟨d, 0, none⟩), .int .i64 (ll : Int)] 105)) hb); have L6 := Lh (Own.keep (Own.made w5 105 #[.pointer (some ⟨d, 0, none⟩), .int .i64 (ll : Int)]) hb); clear hb; obtain ⟨o1, o2, o3⟩ := O6.out.at_; obtain ⟨p1, p2, p3⟩ := L6.out.at_)
           | (go_at_call 59; refine (ON.out _ B6.out).mono ?_; rintro e w7 ⟨rfl, hb⟩; have B7 := Lh (then_ B6.out hb B6.out.size); have O7 := Lh (Own.keep O6.out hb); have L7 := Lh (Own.keep L6.out hb); clear hb; obtain ⟨o1, o2, o3⟩ := O7.out.at_; obtain ⟨p1, p2, p3⟩ := L7.out.at_))
         refine bodyPost_ret (by simp [results, Tryz.results68, go_sem, *]) rfl ⟨rfl, ?_⟩;have b9 := B7.out;repeat' (first | (with_reducible exact Below.refl _ _) | (with_reducible assumption) | (with_reducible refine zJ ?_ _) | (with_reducible refine Below.drew ?_) | (with_reducible refine Below.alloc ?_ ?_ _) | (with_reducible refine Below.setCell ?_ ?_ _) | (with_reducible refine then_ ?_ (by with_reducible assumption) ?_) | (with_reducible exact Nat.le_refl _) | (with_reducible exact Nat.le_succ _) | (with_reducible exact Nat.le_succ_of_le (by with_reducible assumption)) | omega | (simp; done) | (simp; omega) | (exact Nat.le_succ _) | (exact Nat.le_succ_of_le (by with_reducible assumption)))
 · rw [if_neg (by omega)];have G1 := Lh (fun w => show Calls Tryz.prog 132 #[.string ⟨#[]⟩, .int .i64 0, .int .i64 8] w fun e w' => e = .returned (.tuple #[.int .u64 0, .bool false]) /\ w = w' from zA5 ⟨#[]⟩ 0 8 w (by decide) (by decide) (by decide) (by decide) (by decide) (by decide));have G2 := Lh (fun w => show Calls Tryz.prog 132 #[.string ⟨#[]⟩, .int .i64 8, .int .i64 4] w fun e w' => e = .returned (.tuple #[.int .u64 0, .bool false]) /\ w = w' from zA5 ⟨#[]⟩ 8 4 w (by decide) (by decide) (by decide) (by decide) (by decide) (by decide));have M1 := Lh (fun w => show Calls Tryz.prog 128 #[.int .u64 0, .int .u64 0] w fun e w' => e = .returned (.string (mkT 0 0)) /\ Below w.heap.size w w' from Uz 0 0 w (by omega) (by omega));have T1 := Lh (fun w => show Calls Tryz.prog 133 #[.string ⟨#[]⟩, .string (mkT 0 0)] w fun e w' => e = .returned (.string ⟨#[]⟩) /\ w' = w from (by have := Tryz.strings_TrimPrefix ⟨#[]⟩ (mkT 0 0) w; rw [zIq] at this; exact this));have d1 : decide (k < 0) = true := by simpa using hk
   obtain ⟨MT, hMT⟩ : ∃ MT, MT = mkT 0 0 := ⟨_, rfl⟩
   rw [<- hMT] at M1 T1;clear hMT hk hsl HO;unfold ctV;simp only;go_enter Tryz.func68, Tryz.ntmps68;have B0 := Lh (zF w 105 #[.pointer none, .int .i64 0]);have O0 := Lh (Own.made w 105 #[.pointer none, .int .i64 0]);go_wp2_with (first
     | (go_at_call 130; first | (with_reducible refine (R0.out _ B0.out).mono ?_; rintro e w1 ⟨rfl, hb⟩; have B1 := Lh (then_ B0.out hb B0.out.size); have O1 := Lh (Own.keep O0.out hb); clear hb) | (with_reducible refine (R1.out _ B1.out).mono ?_; rintro e w2 ⟨rfl, hb⟩; have B2 := Lh (then_ B1.out hb B1.out.size); have O2 := Lh (Own.keep O1.out hb); clear hb))
     | (go_at_call 131; refine (HB.out _).mono ?_; rintro e w3 ⟨rfl, hb⟩; have B3 := Lh (then_ B2.out hb B2.out.size); have O3 := Lh (Own.keep O2.out hb); clear hb)
     | (go_at_call 132; first | (with_reducible refine (G1.out _).mono ?_; rintro e w9 ⟨rfl, rfl⟩) | (with_reducible refine (G2.out _).mono ?_; rintro e w9 ⟨rfl, rfl⟩))
     | (go_at_call 128; refine (M1.out _).mono ?_; rintro e w4 ⟨rfl, hb⟩; have B4 := Lh (then_ B3.out hb B3.out.size); have O4 := Lh (Own.keep O3.out hb); clear hb)
     | (go_at_call 133; refine (T1.out _).mono ?_; rintro e w5 ⟨rfl, rfl⟩; obtain ⟨o1, o2, o3⟩ := O4.out.at_))
   refine bodyPost_ret (by simp [results, Tryz.results68, go_sem, *]) rfl ⟨rfl, ?_⟩;have b9 := B4.out;repeat' (first | (with_reducible exact Below.refl _ _) | (with_reducible assumption) | (with_reducible refine zJ ?_ _) | (with_reducible refine Below.drew ?_) | (with_reducible refine Below.alloc ?_ ?_ _) | (with_reducible refine Below.setCell ?_ ?_ _) | (with_reducible refine then_ ?_ (by with_reducible assumption) ?_) | (with_reducible exact Nat.le_refl _) | (with_reducible exact Nat.le_succ _) | (with_reducible exact Nat.le_succ_of_le (by with_reducible assumption)) | omega | (simp; done) | (simp; omega) | (exact Nat.le_succ _) | (exact Nat.le_succ_of_le (by with_reducible assumption)))
end
end Go.Proofs.YtndhmidgnpobjaaGreatDoor
