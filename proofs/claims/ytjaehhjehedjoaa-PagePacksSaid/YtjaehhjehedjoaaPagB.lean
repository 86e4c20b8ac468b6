
/- The contracts of the eighth reference package (noughts, Pack, Unpack). Conditions: the arguments' own ranges. -/
import Derived.Test.YtjaehhjehedjoaaPagM
import Derived.Test.YtjaehhjehedjoaaMarB
import Derived.Test.YtjaehhjehedjoaaCrcR
import Derived.Test.YtjaehhjehedjoaaMade
import Derived.Test.YtjaehhjehedjoaaMemo
import Derived.Test.YtjaehhjehedjoaaMem2
import Derived.BigQuiet
import Derived.Deep.QuietTactic
import Derived.Laws.IdiomStrings
import Derived.Deep.RegionWith
import Derived.Deep.DeepCutAuto
namespace Go.Proofs.Ytjaehhjehedjoaa
open Go.ChangeShapes Go.WideShapes Go.ChangeAt Go.RowKit
set_option linter.unusedVariables false
set_option linter.unusedSimpArgs false

theorem noughts_any (k : Nat) (w : World) (hk : k ≤ 496) :
    Calls Try.prog 22 #[.int .i64 k] w fun e w' => e = .returned (.string (zB k)) ∧ Below w.heap.size w w' := by
  have HM := make_bytes k (by omega) w
  have HC := zeros_text k k w
  generalize zB k = Z at *
  go_enter Try.func22, Try.ntmps22
  go_wp2
  go_ret
  exact ⟨rfl, (Below.refl _ _).alloc (Nat.le_refl _) _⟩

set_option maxHeartbeats 1000000 in
theorem rpack_yes (k n : Nat) (t : ByteArray) (w : World) (hk0 : 1 ≤ k) (hk : k ≤ 255) (hn : n ≤ 2147483647) (ht : t.size ≤ 496) :
    Calls Try.prog 13 #[.int .i64 k, .int .i64 n, .string t] w fun e w' => e = .returned (.tuple #[.string (pgB k n t), .int .i64 0]) ∧ Below w.heap.size w w' := by
  obtain ⟨T, hT⟩ : ∃ T : ByteArray, T = ⟨(putL n 4).toArray⟩ := ⟨_, rfl⟩
  have FP : ∀ w : World, Calls Try.prog 21 #[.int .u64 n, .int .i64 4] w fun e w' => e = .returned (.string T) ∧ Below w.heap.size w w' := fun w => hT ▸ rput_any n 4 w (by omega) (by omega)
  have hz := bodB_size k n t ht
  have HE : pgB k n t = smB (bodB k n t) ++ bodB k n t := rfl
  obtain ⟨B, hB⟩ : ∃ B, B = bodB k n t := ⟨_, rfl⟩
  rw [← hB] at HE hz
  obtain ⟨Z, hZ⟩ : ∃ Z, Z = zB (496 - t.size) := ⟨_, rfl⟩
  obtain ⟨Y, hY⟩ : ∃ Y, Y = zB 7 := ⟨_, rfl⟩
  have hZz := zB_size (496 - t.size)
  have hYz := zB_size 7
  rw [← hZ] at hZz
  rw [← hY] at hYz
  obtain ⟨K, hK⟩ : ∃ K : ByteArray, K = ⟨#[UInt8.ofNat k]⟩ := ⟨_, rfl⟩
  have hKz : K.size = 1 := by rw [hK]; rfl
  have hTz : T.size = 4 := by rw [hT]; show (putL n 4).toArray.size = 4; simp [putL]
  have HB : K ++ T ++ Y ++ t ++ Z = B := by rw [hB, hK, hT, hZ, hY]; rfl
  have F7 : ∀ w : World, Calls Try.prog 22 #[.int .i64 7] w fun e w' => e = .returned (.string Y) ∧ Below w.heap.size w w' := fun w => hY ▸ noughts_any 7 w (by omega)
  have FZ : ∀ w : World, Calls Try.prog 22 #[.int .i64 (496 - (t.size : Int))] w fun e w' => e = .returned (.string Z) ∧ Below w.heap.size w w' := fun w => by
    have := noughts_any (496 - t.size) w (by omega)
    rw [hZ]
    rwa [show ((496 - t.size : Nat) : Int) = 496 - (t.size : Int) by omega] at this
  have hlt := sumL_lt B.data.toList
  obtain ⟨S, HS⟩ : ∃ S, S = smB B := ⟨_, rfl⟩
  have FS : ∀ w : World, Calls Try.prog 21 #[.int .u64 (sumL B.data.toList : Nat), .int .i64 4] w fun e w' => e = .returned (.string S) ∧ Below w.heap.size w w' := fun w => HS ▸ rput_any (sumL B.data.toList) 4 w (by omega) (by omega)
  have hSz := smB_size B
  rw [← HS] at HE hSz
  have HM := Lib.hid (fun w => rsum_any B w (by omega))
  have HC : ∀ (W : World) b cap, W.cell? ⟨b, 0, none⟩ = some (.int .u8 (k : Nat)) → (convert 33 9 (.slice (some ⟨b, 0, none⟩) 1 cap)).run Try.prog W = .ok (.string K) W := fun W b cap h => hK ▸ byte_text W b k cap hk h
  have hT5 : T.size ≤ 4 := by omega
  have hS5 : S.size ≤ 4 := by omega
  have hz5 : B.size ≤ 508 := by omega
  have hZ5 : Z.size ≤ 496 := by omega
  have hY5 : Y.size ≤ 7 := by omega
  have hK5 : K.size ≤ 1 := by omega
  have HEh := Lib.hid HE
  have HBh := Lib.hid HB
  have FPh := Lib.hid FP
  have FSh := Lib.hid FS
  have F7h := Lib.hid F7
  have FZh := Lib.hid FZ
  have hw8 : IntKind.u8.wrap (k : Int) = k := by rw [IntKind.wrap_u8]; omega
  have hw64 : IntKind.u64.wrap (n : Int) = n := by rw [IntKind.wrap_u64]; omega
  have hw3 : IntKind.i64.wrap (496 - (t.size : Int)) = 496 - (t.size : Int) := by rw [IntKind.wrap_i64]; omega
  clear hT hTz hB hZ hY hZz hYz hK hKz HS HE HB hSz FP FS hz F7 FZ
  generalize pgB k n t = PG at *
  generalize sumL B.data.toList = M at *
  have hl1 : K.size + T.size ≤ 9223372036854775807 := by omega
  have hl2 : K.size + T.size + Y.size ≤ 9223372036854775807 := by omega
  have hl3 : K.size + T.size + Y.size + t.size ≤ 9223372036854775807 := by omega
  have hl4 : K.size + T.size + Y.size + t.size + Z.size ≤ 9223372036854775807 := by omega
  go_enter Try.func13, Try.ntmps13
  go_upto_region 5 with fail
  refine region_memo (B := w.heap.size) (L := .val (.int .i64 (k : Int)) :: .val (.int .u8 (k : Int)) :: .new 5 #[.int .u8 (k : Int)] (some (1, 1)) :: .val (.string (K)) :: .val (.int .i64 (n : Int)) :: .val (.int .u64 (n : Int)) :: .val (.string (T)) :: .val (.string (K ++ T)) :: .val (.string (Y)) :: .val (.string (K ++ T ++ Y)) :: .val (.string t) :: .val (.string (K ++ T ++ Y ++ t)) :: .val (.string t) :: .val (.int .i64 (t.size : Int)) :: .val (.int .i64 (496 - (t.size : Int))) :: .val (.string (Z)) :: .val (.string (K ++ T ++ Y ++ t ++ Z)) :: .val (.string (K ++ T ++ Y ++ t ++ Z)) :: []) (by kernel_rfl) (by kernel_rfl) (Nat.le_refl _) (by exact trivial)
    ⟨fun a w R => (by have h0 : a.tmps[0]? = some (.int .i64 (k : Int)) := R.slot 0 rfl; refine .inl ?_; first | (simp [go_sem, execOp, h0]; done) | (simp [go_sem, execOp, h0]; rfl)),
    fun a w R => (by have h26 : a.tmps[26]? = some (.int .i64 (k : Int)) := R.val 0; refine .inl ?_; first | (simp [go_sem, execOp, h26, hw8]; done) | (simp [go_sem, execOp, h26, hw8]; rfl)),
    fun a w R => (by have h27 : a.tmps[27]? = some (.int .u8 (k : Int)) := R.val 1; exact ⟨28, rfl, by first | (simp [go_sem, execOp, h27, info_b8]; done) | (simp [go_sem, execOp, h27, info_b8]; rfl)⟩),
    fun a w R => (by obtain ⟨d_, g_, hd_, ht_, _, ho_⟩ := R.dep 2; obtain rfl : 28 = d_ := Option.some.inj hd_; refine .inl ?_; have hc_ := HC w g_ 1 (by have := ho_.at_.1 0; simpa using this); simp [go_sem, execOp, ht_, mkv, hc_]),
    fun a w R => (by have h1 : a.tmps[1]? = some (.int .i64 (n : Int)) := R.slot 1 rfl; refine .inl ?_; first | (simp [go_sem, execOp, h1]; done) | (simp [go_sem, execOp, h1]; rfl)),
    fun a w R => (by have h30 : a.tmps[30]? = some (.int .i64 (n : Int)) := R.val 4; refine .inl ?_; first | (simp [go_sem, execOp, h30, hw64]; done) | (simp [go_sem, execOp, h30, hw64]; rfl)),
    fun a w R => (by have h31 : a.tmps[31]? = some (.int .u64 (n : Int)) := R.val 5; refine .inr ⟨21, _, ?_, FPh.out _⟩; first | (simp [go_sem, execOp, h31]; done) | (simp [go_sem, execOp, h31]; exact enter_fn Try.func21 rfl rfl _ _)),
    fun a w R => (by have h29 : a.tmps[29]? = some (.string (K)) := R.val 3; have h32 : a.tmps[32]? = some (.string (T)) := R.val 6; refine .inl ?_; first | (simp [go_sem, execOp, h29, h32, hl1]; done) | (simp [go_sem, execOp, h29, h32, hl1]; rfl)),
    fun a w R => (by refine .inr ⟨22, _, ?_, F7h.out _⟩; first | (simp [go_sem, execOp]; done) | (simp [go_sem, execOp]; exact enter_fn Try.func22 rfl rfl _ _)),
    fun a w R => (by have h33 : a.tmps[33]? = some (.string (K ++ T)) := R.val 7; have h34 : a.tmps[34]? = some (.string (Y)) := R.val 8; refine .inl ?_; first | (simp [go_sem, execOp, h33, h34, hl2]; done) | (simp [go_sem, execOp, h33, h34, hl2]; rfl)),
    fun a w R => (by have h2 : a.tmps[2]? = some (.string t) := R.slot 2 rfl; refine .inl ?_; first | (simp [go_sem, execOp, h2]; done) | (simp [go_sem, execOp, h2]; rfl)),
    fun a w R => (by have h35 : a.tmps[35]? = some (.string (K ++ T ++ Y)) := R.val 9; have h36 : a.tmps[36]? = some (.string t) := R.val 10; refine .inl ?_; first | (simp [go_sem, execOp, h35, h36, hl3]; done) | (simp [go_sem, execOp, h35, h36, hl3]; rfl)),
    fun a w R => (by have h2 : a.tmps[2]? = some (.string t) := R.slot 2 rfl; refine .inl ?_; first | (simp [go_sem, execOp, h2]; done) | (simp [go_sem, execOp, h2]; rfl)),
    fun a w R => (by have h38 : a.tmps[38]? = some (.string t) := R.val 12; refine .inl ?_; first | (simp [go_sem, execOp, h38]; done) | (simp [go_sem, execOp, h38]; rfl)),
    fun a w R => (by have h39 : a.tmps[39]? = some (.int .i64 (t.size : Int)) := R.val 13; refine .inl ?_; first | (simp [go_sem, execOp, h39, hw3]; done) | (simp [go_sem, execOp, h39, hw3]; rfl)),
    fun a w R => (by have h40 : a.tmps[40]? = some (.int .i64 (496 - (t.size : Int))) := R.val 14; refine .inr ⟨22, _, ?_, FZh.out _⟩; first | (simp [go_sem, execOp, h40]; done) | (simp [go_sem, execOp, h40]; exact enter_fn Try.func22 rfl rfl _ _)),
    fun a w R => (by have h37 : a.tmps[37]? = some (.string (K ++ T ++ Y ++ t)) := R.val 11; have h41 : a.tmps[41]? = some (.string (Z)) := R.val 15; refine .inl ?_; first | (simp [go_sem, execOp, h37, h41, hl4]; done) | (simp [go_sem, execOp, h37, h41, hl4]; rfl)),
    fun a w R => (by have h42 : a.tmps[42]? = some (.string (K ++ T ++ Y ++ t ++ Z)) := R.val 16; refine .inl ?_; first | (simp [go_sem, execOp, h42]; done) | (simp [go_sem, execOp, h42]; rfl)), trivial⟩ (fun act_ W1 I => ?_)
  obtain ⟨gb28, ew28, lw28, ow28⟩ := I.new 2 rfl rfl rfl
  rw [I.act [(26, .int .i64 (k : Int)), (27, .int .u8 (k : Int)), (28, .slice (some ⟨gb28, 0, none⟩) 1 1), (29, .string (K)), (30, .int .i64 (n : Int)), (31, .int .u64 (n : Int)), (32, .string (T)), (33, .string (K ++ T)), (34, .string (Y)), (35, .string (K ++ T ++ Y)), (36, .string t), (37, .string (K ++ T ++ Y ++ t)), (38, .string t), (39, .int .i64 (t.size : Int)), (40, .int .i64 (496 - (t.size : Int))), (41, .string (Z)), (42, .string (K ++ T ++ Y ++ t ++ Z)), (8, .string (K ++ T ++ Y ++ t ++ Z))]
    ⟨I.val 0, I.val 1, ew28, I.val 3, I.val 4, I.val 5, I.val 6, I.val 7, I.val 8, I.val 9, I.val 10, I.val 11, I.val 12, I.val 13, I.val 14, I.val 15, I.val 16, I.val 17, trivial⟩ rfl]
  change w.heap.size ≤ gb28 at lw28
  have hW1 : Below w.heap.size w W1 := then_ (Below.refl w.heap.size w).drew I.below (Below.refl w.heap.size w).size
  clear ew28
  clear I
  simp only [List.foldl_cons, List.foldl_nil, List.setIfInBounds_toArray, List.set_cons_zero, List.set_cons_succ]
  rw [HBh.out]
  go_wp2_with (first
    | (go_at_call 23; with_reducible refine (HM.out _).mono ?_; rintro e w2 ⟨rfl, hb2⟩)
    | (go_at_call 21; with_reducible refine (FSh.out _).mono ?_; rintro e w3 ⟨rfl, hb3⟩))
  have hw2 := then_ hW1 hb2 hW1.size
  go_ret2
  exact ⟨by rw [HEh.out]; rfl, then_ hw2 hb3 hw2.size⟩

theorem rpack_arg (k n : Int) (t : ByteArray) (w : World) (h : (decide (k < 1) || decide (255 < k) || decide (n < 0) || decide (2147483647 < n)) = true) :
    Calls Try.prog 13 #[.int .i64 k, .int .i64 n, .string t] w fun e w' => e = .returned (.tuple #[.string ⟨#[]⟩, .int .i64 1]) ∧ w = w' := by
  go_enter Try.func13, Try.ntmps13
  go_wp2
  all_goals
    go_ret2
    exact ⟨rfl, rfl⟩
theorem rpack_large (k n : Nat) (t : ByteArray) (w : World) (hk0 : 1 ≤ k) (hk : k ≤ 255) (hn : n ≤ 2147483647) (ht : 496 < t.size) :
    Calls Try.prog 13 #[.int .i64 k, .int .i64 n, .string t] w fun e w' => e = .returned (.tuple #[.string ⟨#[]⟩, .int .i64 3]) ∧ w = w' := by
  go_enter Try.func13, Try.ntmps13
  go_wp2
  go_ret2
  exact ⟨rfl, rfl⟩

theorem small_in (X : Nat) (h : X < 4294967296) : RowKit.wrap64 (X : Int) = X ∧ IntKind.i64.wrap (X : Int) = X := by
  constructor
  · unfold RowKit.wrap64; omega
  · rw [IntKind.wrap_i64]; omega
theorem sum_eq (s : ByteArray) (h : s.size = 512) : smB (s.extract 4 s.size) = s.extract 0 4 ↔ getN s 0 4 = sumL (s.extract 4 s.size).data.toList := by
  have e : (s.extract 0 4).data.toList = s.data.toList.take 4 := by rw [extract_list, List.drop_zero]
  have hl := len_list s
  rw [getN_list s 0 4 (by omega), List.drop_zero]
  have hlt := sumL_lt (s.extract 4 s.size).data.toList
  unfold smB
  generalize sumL (s.extract 4 s.size).data.toList = M at *
  constructor
  · intro h2
    rw [← e, ← h2]
    exact num_put4 M hlt
  · intro h2
    apply ba_ext'
    rw [e]
    apply num_inj'
    · show (putL M 4).length = _; rw [putL_len, List.length_take]; omega
    · rw [h2]; exact num_put4 M hlt

set_option maxHeartbeats 2000000 in
theorem runpack_any (s : ByteArray) (w : World) (hs : s.size ≤ 5000) :
    Calls Try.prog 14 #[.string s] w fun e w' => e = .returned (.tuple #[.int .i64 (hK s), .int .i64 (hN s), .string (hT s), .int .i64 (hE s)]) ∧ Below w.heap.size w w' := by
  by_cases h1 : s.size = 512
  · have h3 : ((s.size : Int) != 512) = false := by simp; omega
    have z4 : (s.extract 4 s.size).size = 508 := by rw [ByteArray.size_extract]; omega
    have z9 : (s.extract 5 9).size = 4 := by rw [ByteArray.size_extract]; omega
    have HM := Lib.hid (fun w => rsum_any (s.extract 4 s.size) w (by omega))
    have hlt := sumL_lt (s.extract 4 s.size).data.toList
    have HP : RowKit.Hid (∀ w : World, Calls Try.prog 21 #[.int .u64 (sumL (s.extract 4 s.size).data.toList : Nat), .int .i64 4] w fun e w' => e = .returned (.string (smB (s.extract 4 s.size))) ∧ Below w.heap.size w w') := Lib.hid (fun w => rput_any (sumL (s.extract 4 s.size).data.toList) 4 w (by omega) (by omega))
    have HG : RowKit.Hid (∀ w : World, Calls Try.prog 24 #[.string (s.extract 5 9)] w fun e w' => e = .returned (.int .u64 (getN s 5 4)) ∧ w = w') := Lib.hid (fun w => by
      have := rget_any (s.extract 5 9) w (by omega)
      rwa [z9, getN_extract s 5 4 (by omega)] at this)
    have HY : RowKit.Hid (∀ w : World, Calls Try.prog 22 #[.int .i64 7] w fun e w' => e = .returned (.string (zB 7)) ∧ Below w.heap.size w w') := Lib.hid (fun w => noughts_any 7 w (by omega))
    have g5 := getN_lt s 5 4
    have i4 : 4 < s.size := by omega
    have hx := bN_of s 4 i4
    have hxl := bN_lt s 4
    have hSQ := sum_eq s h1
    have hE1 : smB (s.extract 4 s.size) ≠ s.extract 0 4 → hE s = 12 := fun h => by
      have h' : getN s 0 4 ≠ sumL (s.extract 4 s.size).data.toList := fun e => h (hSQ.2 e)
      unfold hE; rw [if_neg (by omega), if_pos h']
    have hE0 : smB (s.extract 4 s.size) = s.extract 0 4 → hE s = if bN s 4 = 0 ∨ 2147483647 < getN s 5 4 ∨ s.extract 9 16 ≠ zB 7 then 2 else 0 := fun h => by
      have h' := hSQ.1 h
      unfold hE; rw [if_neg (by omega), if_neg (by simp [h'])]
    have hK1 : hK s = if hE s = 0 then bN s 4 else 0 := rfl
    have hN1 : hN s = if hE s = 0 then getN s 5 4 else 0 := rfl
    have hT1 : hT s = if hE s = 0 then s.extract 16 s.size else ⟨#[]⟩ := rfl
    have hzz : s.extract 9 16 ≠ zB 7 → ((s.extract 9 16).toList == (zB 7).toList) = false := fun h => str_ne (b := zB 7) h
    clear hSQ
    have hwM : IntKind.u64.wrap ((sumL (s.extract 4 s.size).data.toList : Nat) : Int) = (sumL (s.extract 4 s.size).data.toList : Nat) := by rw [IntKind.wrap_u64]; omega
    generalize sumL (s.extract 4 s.size).data.toList = M at *
    obtain ⟨B4, hB4⟩ : ∃ B4, B4 = smB (s.extract 4 s.size) := ⟨_, rfl⟩
    rw [← hB4] at hE1 hE0 HP
    obtain ⟨Y, hY⟩ : ∃ Y, Y = zB 7 := ⟨_, rfl⟩
    rw [← hY] at hE0 HY hzz
    clear hB4 hY z4
    generalize getN s 5 4 = N at *
    have q4 : (4 : Int) ≤ s.size := by omega
    have qi : (4 : Int) < s.size := by omega
    have q9 : (9 : Int) ≤ s.size := by omega
    have q16 : (16 : Int) ≤ s.size := by omega
    by_cases h2 : B4 = s.extract 0 4
    · have hQ : (B4.toList == (s.extract 0 4).toList) = true := by rw [h2]; simp
      replace hE0 := hE0 h2
      have hxb : (s[4]'i4).toNat < 256 := by rw [← hx]; exact hxl
      obtain ⟨X, hX⟩ : ∃ X : Nat, ((s[4]'i4).toNat : Nat) = X := ⟨_, rfl⟩
      rw [hx, hX] at hE0 hK1
      rw [hX] at hxb
      have HWX := Lib.hid (small_in X (by omega))
      have hwN : IntKind.i64.wrap (N : Int) = N ∨ 2147483647 < N := by
        by_cases c : 2147483647 < N
        · exact .inr c
        · exact .inl (small_in N (by omega)).2
      clear h2 hx hxl hE1 h1
      by_cases c1 : X = 0
      · have hA : ((X : Int) == 0) = true := by simp [c1]
        rw [if_pos (.inl c1)] at hE0
        rw [hK1, hN1, hT1, hE0]
        clear hK1 hN1 hT1 hE0 hzz c1 hwN
        go_enter Try.func14, Try.ntmps14
        go_upto_region 3 with fail
        refine region_memo (B := w.heap.size) (L := .val (.string s) :: .val (.string (s.extract 4 s.size)) :: .val (.int .u32 (M : Int)) :: .val (.int .u64 (M : Int)) :: .val (.string (B4)) :: .val (.string s) :: .val (.string (s.extract 0 4)) :: .val (.bool false) :: []) (by kernel_rfl) (by kernel_rfl) (Nat.le_refl _) (by exact trivial)
          ⟨fun a w R => (by have h0 : a.tmps[0]? = some (.string s) := R.slot 0 rfl; refine .inl ?_; first | (simp [go_sem, execOp, h0]; done) | (simp [go_sem, execOp, h0]; rfl)),
      fun a w R => (by have h10 : a.tmps[10]? = some (.string s) := R.val 0; refine .inl ?_; first | (simp [go_sem, execOp, h10, q4]; done) | (simp [go_sem, execOp, h10, q4]; rfl)),
      fun a w R => (by have h11 : a.tmps[11]? = some (.string (s.extract 4 s.size)) := R.val 1; refine .inr ⟨23, _, ?_, HM.out _⟩; first | (simp [go_sem, execOp, h11]; done) | (simp [go_sem, execOp, h11]; exact enter_fn Try.func23 rfl rfl _ _)),
      fun a w R => (by have h12 : a.tmps[12]? = some (.int .u32 (M : Int)) := R.val 2; refine .inl ?_; first | (simp [go_sem, execOp, h12, hwM]; done) | (simp [go_sem, execOp, h12, hwM]; rfl)),
      fun a w R => (by have h13 : a.tmps[13]? = some (.int .u64 (M : Int)) := R.val 3; refine .inr ⟨21, _, ?_, HP.out _⟩; first | (simp [go_sem, execOp, h13]; done) | (simp [go_sem, execOp, h13]; exact enter_fn Try.func21 rfl rfl _ _)),
      fun a w R => (by have h0 : a.tmps[0]? = some (.string s) := R.slot 0 rfl; refine .inl ?_; first | (simp [go_sem, execOp, h0]; done) | (simp [go_sem, execOp, h0]; rfl)),
      fun a w R => (by have h15 : a.tmps[15]? = some (.string s) := R.val 5; refine .inl ?_; first | (simp [go_sem, execOp, h15, q4]; done) | (simp [go_sem, execOp, h15, q4]; rfl)),
      fun a w R => (by have h14 : a.tmps[14]? = some (.string (B4)) := R.val 4; have h16 : a.tmps[16]? = some (.string (s.extract 0 4)) := R.val 6; refine .inl ?_; first | (simp [go_sem, execOp, h14, h16, hQ]; done) | (simp [go_sem, execOp, h14, h16, hQ]; rfl)), trivial⟩ (fun act_ W1 I => ?_)
        rw [I.act [(10, .string s), (11, .string (s.extract 4 s.size)), (12, .int .u32 (M : Int)), (13, .int .u64 (M : Int)), (14, .string (B4)), (15, .string s), (16, .string (s.extract 0 4)), (17, .bool false)]
          ⟨I.val 0, I.val 1, I.val 2, I.val 3, I.val 4, I.val 5, I.val 6, I.val 7, trivial⟩ rfl]
        have hW1 : Below w.heap.size w W1 := then_ (Below.refl w.heap.size w).drew I.below (Below.refl w.heap.size w).size
        clear I
        simp only [List.foldl_cons, List.foldl_nil, List.setIfInBounds_toArray, List.set_cons_zero, List.set_cons_succ]
        go_upto_region 5 with fail
        go_wp2_with (go_at_call 24; with_reducible refine (HG.out _).mono ?_; rintro e w2 ⟨rfl, rfl⟩)
        go_upto_region 6 with fail
        have hW2 := hW1
        refine region_memo (B := W1.heap.size) (L := .val (.string s) :: .val (.int .u8 (X : Int)) :: .val (.bool true) :: .val (.bool true) :: .skip :: .skip :: .val (.bool true) :: .val (.bool true) :: .skip :: .skip :: .skip :: .skip :: .val (.bool true) :: []) (by kernel_rfl) (by kernel_rfl) (Nat.le_refl _) (by exact trivial)
          ⟨fun a w R => (by have h0 : a.tmps[0]? = some (.string s) := R.slot 0 rfl; refine .inl ?_; first | (simp [go_sem, execOp, h0]; done) | (simp [go_sem, execOp, h0]; rfl)),
      fun a w R => (by have h21 : a.tmps[21]? = some (.string s) := R.val 0; refine .inl ?_; first | (simp [go_sem, execOp, h21, hX, qi]; done) | (simp [go_sem, execOp, h21, hX, qi]; rfl)),
      fun a w R => (by have h22 : a.tmps[22]? = some (.int .u8 (X : Int)) := R.val 1; refine .inl ?_; first | (simp [go_sem, execOp, h22, hA]; done) | (simp [go_sem, execOp, h22, hA]; rfl)),
      fun a w R => (by have h23 : a.tmps[23]? = some (.bool true) := R.val 2; refine .inl ?_; first | (simp [go_sem, execOp, h23]; done) | (simp [go_sem, execOp, h23]; rfl)),
      fun a w R => True.intro,
      fun a w R => True.intro,
      fun a w R => (by have h24 : a.tmps[24]? = some (.bool true) := R.val 3; have h26 : a.tmps[26]? = some undef := R.gone2 5; refine .inl ?_; first | (simp [go_sem, execOp, h24, h26]; done) | (simp [go_sem, execOp, h24, h26]; rfl)),
      fun a w R => (by have h27 : a.tmps[27]? = some (.bool true) := R.val 6; refine .inl ?_; first | (simp [go_sem, execOp, h27]; done) | (simp [go_sem, execOp, h27]; rfl)),
      fun a w R => True.intro,
      fun a w R => True.intro,
      fun a w R => True.intro,
      fun a w R => True.intro,
      fun a w R => (by have h28 : a.tmps[28]? = some (.bool true) := R.val 7; have h32 : a.tmps[32]? = some undef := R.gone2 11; refine .inl ?_; first | (simp [go_sem, execOp, h28, h32]; done) | (simp [go_sem, execOp, h28, h32]; rfl)), trivial⟩ (fun act_ W3 I => ?_)
        rw [I.act [(21, .string s), (22, .int .u8 (X : Int)), (23, .bool true), (24, .bool true), (25, undef), (26, undef), (27, .bool true), (28, .bool true), (29, undef), (30, undef), (31, undef), (32, undef), (33, .bool true)]
          ⟨I.val 0, I.val 1, I.val 2, I.val 3, I.gone 4, I.gone 5, I.val 6, I.val 7, I.gone 8, I.gone 9, I.gone 10, I.gone 11, I.val 12, trivial⟩ rfl]
        have hW3 : Below w.heap.size w W3 := then_ hW2.drew I.below hW2.size
        clear I
        simp only [List.foldl_cons, List.foldl_nil, List.setIfInBounds_toArray, List.set_cons_zero, List.set_cons_succ]
        go_wp2
        refine bodyPost_ret (by first | (simp [results, Try.results14, go_sem]; done) | (simp [results, Try.results14, go_sem]; rfl)) rfl ⟨rfl, hW3⟩
      · have hA : ((X : Int) == 0) = false := by simp [c1]
        by_cases c2 : 2147483647 < N
        · have hB : decide ((2147483647 : Int) < (N : Int)) = true := by simp; omega
          rw [if_pos (.inr (.inl c2))] at hE0
          rw [hK1, hN1, hT1, hE0]
          clear hK1 hN1 hT1 hE0 hzz c1 hwN c2
          go_enter Try.func14, Try.ntmps14
          go_upto_region 3 with fail
          refine region_memo (B := w.heap.size) (L := .val (.string s) :: .val (.string (s.extract 4 s.size)) :: .val (.int .u32 (M : Int)) :: .val (.int .u64 (M : Int)) :: .val (.string (B4)) :: .val (.string s) :: .val (.string (s.extract 0 4)) :: .val (.bool false) :: []) (by kernel_rfl) (by kernel_rfl) (Nat.le_refl _) (by exact trivial)
            ⟨fun a w R => (by have h0 : a.tmps[0]? = some (.string s) := R.slot 0 rfl; refine .inl ?_; first | (simp [go_sem, execOp, h0]; done) | (simp [go_sem, execOp, h0]; rfl)),
        fun a w R => (by have h10 : a.tmps[10]? = some (.string s) := R.val 0; refine .inl ?_; first | (simp [go_sem, execOp, h10, q4]; done) | (simp [go_sem, execOp, h10, q4]; rfl)),
        fun a w R => (by have h11 : a.tmps[11]? = some (.string (s.extract 4 s.size)) := R.val 1; refine .inr ⟨23, _, ?_, HM.out _⟩; first | (simp [go_sem, execOp, h11]; done) | (simp [go_sem, execOp, h11]; exact enter_fn Try.func23 rfl rfl _ _)),
        fun a w R => (by have h12 : a.tmps[12]? = some (.int .u32 (M : Int)) := R.val 2; refine .inl ?_; first | (simp [go_sem, execOp, h12, hwM]; done) | (simp [go_sem, execOp, h12, hwM]; rfl)),
        fun a w R => (by have h13 : a.tmps[13]? = some (.int .u64 (M : Int)) := R.val 3; refine .inr ⟨21, _, ?_, HP.out _⟩; first | (simp [go_sem, execOp, h13]; done) | (simp [go_sem, execOp, h13]; exact enter_fn Try.func21 rfl rfl _ _)),
        fun a w R => (by have h0 : a.tmps[0]? = some (.string s) := R.slot 0 rfl; refine .inl ?_; first | (simp [go_sem, execOp, h0]; done) | (simp [go_sem, execOp, h0]; rfl)),
        fun a w R => (by have h15 : a.tmps[15]? = some (.string s) := R.val 5; refine .inl ?_; first | (simp [go_sem, execOp, h15, q4]; done) | (simp [go_sem, execOp, h15, q4]; rfl)),
        fun a w R => (by have h14 : a.tmps[14]? = some (.string (B4)) := R.val 4; have h16 : a.tmps[16]? = some (.string (s.extract 0 4)) := R.val 6; refine .inl ?_; first | (simp [go_sem, execOp, h14, h16, hQ]; done) | (simp [go_sem, execOp, h14, h16, hQ]; rfl)), trivial⟩ (fun act_ W1 I => ?_)
          rw [I.act [(10, .string s), (11, .string (s.extract 4 s.size)), (12, .int .u32 (M : Int)), (13, .int .u64 (M : Int)), (14, .string (B4)), (15, .string s), (16, .string (s.extract 0 4)), (17, .bool false)]
            ⟨I.val 0, I.val 1, I.val 2, I.val 3, I.val 4, I.val 5, I.val 6, I.val 7, trivial⟩ rfl]
          have hW1 : Below w.heap.size w W1 := then_ (Below.refl w.heap.size w).drew I.below (Below.refl w.heap.size w).size
          clear I
          simp only [List.foldl_cons, List.foldl_nil, List.setIfInBounds_toArray, List.set_cons_zero, List.set_cons_succ]
          go_upto_region 5 with fail
          go_wp2_with (go_at_call 24; with_reducible refine (HG.out _).mono ?_; rintro e w2 ⟨rfl, rfl⟩)
          go_upto_region 6 with fail
          have hW2 := hW1
          refine region_memo (B := W1.heap.size) (L := .val (.string s) :: .val (.int .u8 (X : Int)) :: .val (.bool false) :: .val (.bool false) :: .val (.int .u64 (N : Int)) :: .val (.bool true) :: .val (.bool true) :: .val (.bool true) :: .skip :: .skip :: .skip :: .skip :: .val (.bool true) :: []) (by kernel_rfl) (by kernel_rfl) (Nat.le_refl _) (by exact trivial)
            ⟨fun a w R => (by have h0 : a.tmps[0]? = some (.string s) := R.slot 0 rfl; refine .inl ?_; first | (simp [go_sem, execOp, h0]; done) | (simp [go_sem, execOp, h0]; rfl)),
        fun a w R => (by have h21 : a.tmps[21]? = some (.string s) := R.val 0; refine .inl ?_; first | (simp [go_sem, execOp, h21, hX, qi]; done) | (simp [go_sem, execOp, h21, hX, qi]; rfl)),
        fun a w R => (by have h22 : a.tmps[22]? = some (.int .u8 (X : Int)) := R.val 1; refine .inl ?_; first | (simp [go_sem, execOp, h22, hA]; done) | (simp [go_sem, execOp, h22, hA]; rfl)),
        fun a w R => (by have h23 : a.tmps[23]? = some (.bool false) := R.val 2; refine .inl ?_; first | (simp [go_sem, execOp, h23]; done) | (simp [go_sem, execOp, h23]; rfl)),
        fun a w R => (by have h6 : a.tmps[6]? = some (.int .u64 (N : Int)) := R.slot 6 rfl; refine .inl ?_; first | (simp [go_sem, execOp, h6]; done) | (simp [go_sem, execOp, h6]; rfl)),
        fun a w R => (by have h25 : a.tmps[25]? = some (.int .u64 (N : Int)) := R.val 4; refine .inl ?_; first | (simp [go_sem, execOp, h25, hB]; done) | (simp [go_sem, execOp, h25, hB]; rfl)),
        fun a w R => (by have h24 : a.tmps[24]? = some (.bool false) := R.val 3; have h26 : a.tmps[26]? = some (.bool true) := R.val 5; refine .inl ?_; first | (simp [go_sem, execOp, h24, h26]; done) | (simp [go_sem, execOp, h24, h26]; rfl)),
        fun a w R => (by have h27 : a.tmps[27]? = some (.bool true) := R.val 6; refine .inl ?_; first | (simp [go_sem, execOp, h27]; done) | (simp [go_sem, execOp, h27]; rfl)),
        fun a w R => True.intro,
        fun a w R => True.intro,
        fun a w R => True.intro,
        fun a w R => True.intro,
        fun a w R => (by have h28 : a.tmps[28]? = some (.bool true) := R.val 7; have h32 : a.tmps[32]? = some undef := R.gone2 11; refine .inl ?_; first | (simp [go_sem, execOp, h28, h32]; done) | (simp [go_sem, execOp, h28, h32]; rfl)), trivial⟩ (fun act_ W3 I => ?_)
          rw [I.act [(21, .string s), (22, .int .u8 (X : Int)), (23, .bool false), (24, .bool false), (25, .int .u64 (N : Int)), (26, .bool true), (27, .bool true), (28, .bool true), (29, undef), (30, undef), (31, undef), (32, undef), (33, .bool true)]
            ⟨I.val 0, I.val 1, I.val 2, I.val 3, I.val 4, I.val 5, I.val 6, I.val 7, I.gone 8, I.gone 9, I.gone 10, I.gone 11, I.val 12, trivial⟩ rfl]
          have hW3 : Below w.heap.size w W3 := then_ hW2.drew I.below hW2.size
          clear I
          simp only [List.foldl_cons, List.foldl_nil, List.setIfInBounds_toArray, List.set_cons_zero, List.set_cons_succ]
          go_wp2
          refine bodyPost_ret (by first | (simp [results, Try.results14, go_sem]; done) | (simp [results, Try.results14, go_sem]; rfl)) rfl ⟨rfl, hW3⟩
        · have hB : decide ((2147483647 : Int) < (N : Int)) = false := by simp; omega
          replace hwN := hwN.resolve_right c2
          by_cases c3 : s.extract 9 16 = Y
          · have hC : ((s.extract 9 16).toList == Y.toList) = true := by rw [c3]; simp
            rw [if_neg (by rintro (h | h | h); · exact c1 h
                           · exact c2 h
                           · exact h c3)] at hE0
            rw [hK1, hN1, hT1, hE0]
            clear hK1 hN1 hT1 hE0 hzz c1 c2 c3
            go_enter Try.func14, Try.ntmps14
            go_upto_region 3 with fail
            refine region_memo (B := w.heap.size) (L := .val (.string s) :: .val (.string (s.extract 4 s.size)) :: .val (.int .u32 (M : Int)) :: .val (.int .u64 (M : Int)) :: .val (.string (B4)) :: .val (.string s) :: .val (.string (s.extract 0 4)) :: .val (.bool false) :: []) (by kernel_rfl) (by kernel_rfl) (Nat.le_refl _) (by exact trivial)
              ⟨fun a w R => (by have h0 : a.tmps[0]? = some (.string s) := R.slot 0 rfl; refine .inl ?_; first | (simp [go_sem, execOp, h0]; done) | (simp [go_sem, execOp, h0]; rfl)),
          fun a w R => (by have h10 : a.tmps[10]? = some (.string s) := R.val 0; refine .inl ?_; first | (simp [go_sem, execOp, h10, q4]; done) | (simp [go_sem, execOp, h10, q4]; rfl)),
          fun a w R => (by have h11 : a.tmps[11]? = some (.string (s.extract 4 s.size)) := R.val 1; refine .inr ⟨23, _, ?_, HM.out _⟩; first | (simp [go_sem, execOp, h11]; done) | (simp [go_sem, execOp, h11]; exact enter_fn Try.func23 rfl rfl _ _)),
          fun a w R => (by have h12 : a.tmps[12]? = some (.int .u32 (M : Int)) := R.val 2; refine .inl ?_; first | (simp [go_sem, execOp, h12, hwM]; done) | (simp [go_sem, execOp, h12, hwM]; rfl)),
          fun a w R => (by have h13 : a.tmps[13]? = some (.int .u64 (M : Int)) := R.val 3; refine .inr ⟨21, _, ?_, HP.out _⟩; first | (simp [go_sem, execOp, h13]; done) | (simp [go_sem, execOp, h13]; exact enter_fn Try.func21 rfl rfl _ _)),
          fun a w R => (by have h0 : a.tmps[0]? = some (.string s) := R.slot 0 rfl; refine .inl ?_; first | (simp [go_sem, execOp, h0]; done) | (simp [go_sem, execOp, h0]; rfl)),
          fun a w R => (by have h15 : a.tmps[15]? = some (.string s) := R.val 5; refine .inl ?_; first | (simp [go_sem, execOp, h15, q4]; done) | (simp [go_sem, execOp, h15, q4]; rfl)),
          fun a w R => (by have h14 : a.tmps[14]? = some (.string (B4)) := R.val 4; have h16 : a.tmps[16]? = some (.string (s.extract 0 4)) := R.val 6; refine .inl ?_; first | (simp [go_sem, execOp, h14, h16, hQ]; done) | (simp [go_sem, execOp, h14, h16, hQ]; rfl)), trivial⟩ (fun act_ W1 I => ?_)
            rw [I.act [(10, .string s), (11, .string (s.extract 4 s.size)), (12, .int .u32 (M : Int)), (13, .int .u64 (M : Int)), (14, .string (B4)), (15, .string s), (16, .string (s.extract 0 4)), (17, .bool false)]
              ⟨I.val 0, I.val 1, I.val 2, I.val 3, I.val 4, I.val 5, I.val 6, I.val 7, trivial⟩ rfl]
            have hW1 : Below w.heap.size w W1 := then_ (Below.refl w.heap.size w).drew I.below (Below.refl w.heap.size w).size
            clear I
            simp only [List.foldl_cons, List.foldl_nil, List.setIfInBounds_toArray, List.set_cons_zero, List.set_cons_succ]
            go_upto_region 5 with fail
            go_wp2_with (go_at_call 24; with_reducible refine (HG.out _).mono ?_; rintro e w2 ⟨rfl, rfl⟩)
            go_upto_region 6 with fail
            have hW2 := hW1
            refine region_memo (B := W1.heap.size) (L := .val (.string s) :: .val (.int .u8 (X : Int)) :: .val (.bool false) :: .val (.bool false) :: .val (.int .u64 (N : Int)) :: .val (.bool false) :: .val (.bool false) :: .val (.bool false) :: .val (.string s) :: .val (.string (s.extract 9 16)) :: .val (.string (Y)) :: .val (.bool false) :: .val (.bool false) :: []) (by kernel_rfl) (by kernel_rfl) (Nat.le_refl _) (by exact trivial)
              ⟨fun a w R => (by have h0 : a.tmps[0]? = some (.string s) := R.slot 0 rfl; refine .inl ?_; first | (simp [go_sem, execOp, h0]; done) | (simp [go_sem, execOp, h0]; rfl)),
          fun a w R => (by have h21 : a.tmps[21]? = some (.string s) := R.val 0; refine .inl ?_; first | (simp [go_sem, execOp, h21, hX, qi]; done) | (simp [go_sem, execOp, h21, hX, qi]; rfl)),
          fun a w R => (by have h22 : a.tmps[22]? = some (.int .u8 (X : Int)) := R.val 1; refine .inl ?_; first | (simp [go_sem, execOp, h22, hA]; done) | (simp [go_sem, execOp, h22, hA]; rfl)),
          fun a w R => (by have h23 : a.tmps[23]? = some (.bool false) := R.val 2; refine .inl ?_; first | (simp [go_sem, execOp, h23]; done) | (simp [go_sem, execOp, h23]; rfl)),
          fun a w R => (by have h6 : a.tmps[6]? = some (.int .u64 (N : Int)) := R.slot 6 rfl; refine .inl ?_; first | (simp [go_sem, execOp, h6]; done) | (simp [go_sem, execOp, h6]; rfl)),
          fun a w R => (by have h25 : a.tmps[25]? = some (.int .u64 (N : Int)) := R.val 4; refine .inl ?_; first | (simp [go_sem, execOp, h25, hB]; done) | (simp [go_sem, execOp, h25, hB]; rfl)),
          fun a w R => (by have h24 : a.tmps[24]? = some (.bool false) := R.val 3; have h26 : a.tmps[26]? = some (.bool false) := R.val 5; refine .inl ?_; first | (simp [go_sem, execOp, h24, h26]; done) | (simp [go_sem, execOp, h24, h26]; rfl)),
          fun a w R => (by have h27 : a.tmps[27]? = some (.bool false) := R.val 6; refine .inl ?_; first | (simp [go_sem, execOp, h27]; done) | (simp [go_sem, execOp, h27]; rfl)),
          fun a w R => (by have h0 : a.tmps[0]? = some (.string s) := R.slot 0 rfl; refine .inl ?_; first | (simp [go_sem, execOp, h0]; done) | (simp [go_sem, execOp, h0]; rfl)),
          fun a w R => (by have h29 : a.tmps[29]? = some (.string s) := R.val 8; refine .inl ?_; first | (simp [go_sem, execOp, h29, q16]; done) | (simp [go_sem, execOp, h29, q16]; rfl)),
          fun a w R => (by refine .inr ⟨22, _, ?_, HY.out _⟩; first | (simp [go_sem, execOp]; done) | (simp [go_sem, execOp]; exact enter_fn Try.func22 rfl rfl _ _)),
          fun a w R => (by have h30 : a.tmps[30]? = some (.string (s.extract 9 16)) := R.val 9; have h31 : a.tmps[31]? = some (.string (Y)) := R.val 10; refine .inl ?_; first | (simp [go_sem, execOp, h30, h31, hC]; done) | (simp [go_sem, execOp, h30, h31, hC]; rfl)),
          fun a w R => (by have h28 : a.tmps[28]? = some (.bool false) := R.val 7; have h32 : a.tmps[32]? = some (.bool false) := R.val 11; refine .inl ?_; first | (simp [go_sem, execOp, h28, h32]; done) | (simp [go_sem, execOp, h28, h32]; rfl)), trivial⟩ (fun act_ W3 I => ?_)
            rw [I.act [(21, .string s), (22, .int .u8 (X : Int)), (23, .bool false), (24, .bool false), (25, .int .u64 (N : Int)), (26, .bool false), (27, .bool false), (28, .bool false), (29, .string s), (30, .string (s.extract 9 16)), (31, .string (Y)), (32, .bool false), (33, .bool false)]
              ⟨I.val 0, I.val 1, I.val 2, I.val 3, I.val 4, I.val 5, I.val 6, I.val 7, I.val 8, I.val 9, I.val 10, I.val 11, I.val 12, trivial⟩ rfl]
            have hW3 : Below w.heap.size w W3 := then_ hW2.drew I.below hW2.size
            clear I
            simp only [List.foldl_cons, List.foldl_nil, List.setIfInBounds_toArray, List.set_cons_zero, List.set_cons_succ]
            go_upto_region 8 with fail
            refine region_memo (B := W3.heap.size) (L := .val (.string s) :: .val (.int .u8 (X : Int)) :: .val (.int .i64 (X : Int)) :: .val (.int .u64 (N : Int)) :: .val (.int .i64 (N : Int)) :: .val (.string s) :: .val (.string (s.extract 16 s.size)) :: .val (.int .i64 (X : Int)) :: .val (.int .i64 (N : Int)) :: .val (.string (s.extract 16 s.size)) :: .val (.int .i64 0) :: []) (by kernel_rfl) (by kernel_rfl) (Nat.le_refl _) (by exact trivial)
              ⟨fun a w R => (by have h0 : a.tmps[0]? = some (.string s) := R.slot 0 rfl; refine .inl ?_; first | (simp [go_sem, execOp, h0]; done) | (simp [go_sem, execOp, h0]; rfl)),
          fun a w R => (by have h34 : a.tmps[34]? = some (.string s) := R.val 0; refine .inl ?_; first | (simp [go_sem, execOp, h34, hX, qi]; done) | (simp [go_sem, execOp, h34, hX, qi]; rfl)),
          fun a w R => (by have h35 : a.tmps[35]? = some (.int .u8 (X : Int)) := R.val 1; refine .inl ?_; first | (simp [go_sem, execOp, h35, HWX.out.1, HWX.out.2]; done) | (simp [go_sem, execOp, h35, HWX.out.1, HWX.out.2]; rfl)),
          fun a w R => (by have h6 : a.tmps[6]? = some (.int .u64 (N : Int)) := R.slot 6 rfl; refine .inl ?_; first | (simp [go_sem, execOp, h6]; done) | (simp [go_sem, execOp, h6]; rfl)),
          fun a w R => (by have h37 : a.tmps[37]? = some (.int .u64 (N : Int)) := R.val 3; refine .inl ?_; first | (simp [go_sem, execOp, h37, hwN]; done) | (simp [go_sem, execOp, h37, hwN]; rfl)),
          fun a w R => (by have h0 : a.tmps[0]? = some (.string s) := R.slot 0 rfl; refine .inl ?_; first | (simp [go_sem, execOp, h0]; done) | (simp [go_sem, execOp, h0]; rfl)),
          fun a w R => (by have h39 : a.tmps[39]? = some (.string s) := R.val 5; refine .inl ?_; first | (simp [go_sem, execOp, h39, q16]; done) | (simp [go_sem, execOp, h39, q16]; rfl)),
          fun a w R => (by have h36 : a.tmps[36]? = some (.int .i64 (X : Int)) := R.val 2; refine .inl ?_; first | (simp [go_sem, execOp, h36]; done) | (simp [go_sem, execOp, h36]; rfl)),
          fun a w R => (by have h38 : a.tmps[38]? = some (.int .i64 (N : Int)) := R.val 4; refine .inl ?_; first | (simp [go_sem, execOp, h38]; done) | (simp [go_sem, execOp, h38]; rfl)),
          fun a w R => (by have h40 : a.tmps[40]? = some (.string (s.extract 16 s.size)) := R.val 6; refine .inl ?_; first | (simp [go_sem, execOp, h40]; done) | (simp [go_sem, execOp, h40]; rfl)),
          fun a w R => (by refine .inl ?_; first | (simp [go_sem, execOp]; done) | (simp [go_sem, execOp]; rfl)), trivial⟩ (fun act_ W4 I => ?_)
            rw [I.act [(34, .string s), (35, .int .u8 (X : Int)), (36, .int .i64 (X : Int)), (37, .int .u64 (N : Int)), (38, .int .i64 (N : Int)), (39, .string s), (40, .string (s.extract 16 s.size)), (2, .int .i64 (X : Int)), (3, .int .i64 (N : Int)), (4, .string (s.extract 16 s.size)), (5, .int .i64 0)]
              ⟨I.val 0, I.val 1, I.val 2, I.val 3, I.val 4, I.val 5, I.val 6, I.val 7, I.val 8, I.val 9, I.val 10, trivial⟩ rfl]
            have hW4 : Below w.heap.size w W4 := then_ hW3.drew I.below hW3.size
            clear I
            simp only [List.foldl_cons, List.foldl_nil, List.setIfInBounds_toArray, List.set_cons_zero, List.set_cons_succ]
            go_wp2
            refine bodyPost_ret (by first | (simp [results, Try.results14, go_sem]; done) | (simp [results, Try.results14, go_sem]; rfl)) rfl ⟨rfl, hW4⟩
          · have hC : ((s.extract 9 16).toList == Y.toList) = false := hzz c3
            rw [if_pos (.inr (.inr c3))] at hE0
            rw [hK1, hN1, hT1, hE0]
            clear hK1 hN1 hT1 hE0 hzz c1 c2 c3 hwN
            go_enter Try.func14, Try.ntmps14
            go_upto_region 3 with fail
            refine region_memo (B := w.heap.size) (L := .val (.string s) :: .val (.string (s.extract 4 s.size)) :: .val (.int .u32 (M : Int)) :: .val (.int .u64 (M : Int)) :: .val (.string (B4)) :: .val (.string s) :: .val (.string (s.extract 0 4)) :: .val (.bool false) :: []) (by kernel_rfl) (by kernel_rfl) (Nat.le_refl _) (by exact trivial)
              ⟨fun a w R => (by have h0 : a.tmps[0]? = some (.string s) := R.slot 0 rfl; refine .inl ?_; first | (simp [go_sem, execOp, h0]; done) | (simp [go_sem, execOp, h0]; rfl)),
          fun a w R => (by have h10 : a.tmps[10]? = some (.string s) := R.val 0; refine .inl ?_; first | (simp [go_sem, execOp, h10, q4]; done) | (simp [go_sem, execOp, h10, q4]; rfl)),
          fun a w R => (by have h11 : a.tmps[11]? = some (.string (s.extract 4 s.size)) := R.val 1; refine .inr ⟨23, _, ?_, HM.out _⟩; first | (simp [go_sem, execOp, h11]; done) | (simp [go_sem, execOp, h11]; exact enter_fn Try.func23 rfl rfl _ _)),
          fun a w R => (by have h12 : a.tmps[12]? = some (.int .u32 (M : Int)) := R.val 2; refine .inl ?_; first | (simp [go_sem, execOp, h12, hwM]; done) | (simp [go_sem, execOp, h12, hwM]; rfl)),
          fun a w R => (by have h13 : a.tmps[13]? = some (.int .u64 (M : Int)) := R.val 3; refine .inr ⟨21, _, ?_, HP.out _⟩; first | (simp [go_sem, execOp, h13]; done) | (simp [go_sem, execOp, h13]; exact enter_fn Try.func21 rfl rfl _ _)),
          fun a w R => (by have h0 : a.tmps[0]? = some (.string s) := R.slot 0 rfl; refine .inl ?_; first | (simp [go_sem, execOp, h0]; done) | (simp [go_sem, execOp, h0]; rfl)),
          fun a w R => (by have h15 : a.tmps[15]? = some (.string s) := R.val 5; refine .inl ?_; first | (simp [go_sem, execOp, h15, q4]; done) | (simp [go_sem, execOp, h15, q4]; rfl)),
          fun a w R => (by have h14 : a.tmps[14]? = some (.string (B4)) := R.val 4; have h16 : a.tmps[16]? = some (.string (s.extract 0 4)) := R.val 6; refine .inl ?_; first | (simp [go_sem, execOp, h14, h16, hQ]; done) | (simp [go_sem, execOp, h14, h16, hQ]; rfl)), trivial⟩ (fun act_ W1 I => ?_)
            rw [I.act [(10, .string s), (11, .string (s.extract 4 s.size)), (12, .int .u32 (M : Int)), (13, .int .u64 (M : Int)), (14, .string (B4)), (15, .string s), (16, .string (s.extract 0 4)), (17, .bool false)]
              ⟨I.val 0, I.val 1, I.val 2, I.val 3, I.val 4, I.val 5, I.val 6, I.val 7, trivial⟩ rfl]
            have hW1 : Below w.heap.size w W1 := then_ (Below.refl w.heap.size w).drew I.below (Below.refl w.heap.size w).size
            clear I
            simp only [List.foldl_cons, List.foldl_nil, List.setIfInBounds_toArray, List.set_cons_zero, List.set_cons_succ]
            go_upto_region 5 with fail
            go_wp2_with (go_at_call 24; with_reducible refine (HG.out _).mono ?_; rintro e w2 ⟨rfl, rfl⟩)
            go_upto_region 6 with fail
            have hW2 := hW1
            refine region_memo (B := W1.heap.size) (L := .val (.string s) :: .val (.int .u8 (X : Int)) :: .val (.bool false) :: .val (.bool false) :: .val (.int .u64 (N : Int)) :: .val (.bool false) :: .val (.bool false) :: .val (.bool false) :: .val (.string s) :: .val (.string (s.extract 9 16)) :: .val (.string (Y)) :: .val (.bool true) :: .val (.bool true) :: []) (by kernel_rfl) (by kernel_rfl) (Nat.le_refl _) (by exact trivial)
              ⟨fun a w R => (by have h0 : a.tmps[0]? = some (.string s) := R.slot 0 rfl; refine .inl ?_; first | (simp [go_sem, execOp, h0]; done) | (simp [go_sem, execOp, h0]; rfl)),
          fun a w R => (by have h21 : a.tmps[21]? = some (.string s) := R.val 0; refine .inl ?_; first | (simp [go_sem, execOp, h21, hX, qi]; done) | (simp [go_sem, execOp, h21, hX, qi]; rfl)),
          fun a w R => (by have h22 : a.tmps[22]? = some (.int .u8 (X : Int)) := R.val 1; refine .inl ?_; first | (simp [go_sem, execOp, h22, hA]; done) | (simp [go_sem, execOp, h22, hA]; rfl)),
          fun a w R => (by have h23 : a.tmps[23]? = some (.bool false) := R.val 2; refine .inl ?_; first | (simp [go_sem, execOp, h23]; done) | (simp [go_sem, execOp, h23]; rfl)),
          fun a w R => (by have h6 : a.tmps[6]? = some (.int .u64 (N : Int)) := R.slot 6 rfl; refine .inl ?_; first | (simp [go_sem, execOp, h6]; done) | (simp [go_sem, execOp, h6]; rfl)),
          fun a w R => (by have h25 : a.tmps[25]? = some (.int .u64 (N : Int)) := R.val 4; refine .inl ?_; first | (simp [go_sem, execOp, h25, hB]; done) | (simp [go_sem, execOp, h25, hB]; rfl)),
          fun a w R => (by have h24 : a.tmps[24]? = some (.bool false) := R.val 3; have h26 : a.tmps[26]? = some (.bool false) := R.val 5; refine .inl ?_; first | (simp [go_sem, execOp, h24, h26]; done) | (simp [go_sem, execOp, h24, h26]; rfl)),
          fun a w R => (by have h27 : a.tmps[27]? = some (.bool false) := R.val 6; refine .inl ?_; first | (simp [go_sem, execOp, h27]; done) | (simp [go_sem, execOp, h27]; rfl)),
          fun a w R => (by have h0 : a.tmps[0]? = some (.string s) := R.slot 0 rfl; refine .inl ?_; first | (simp [go_sem, execOp, h0]; done) | (simp [go_sem, execOp, h0]; rfl)),
          fun a w R => (by have h29 : a.tmps[29]? = some (.string s) := R.val 8; refine .inl ?_; first | (simp [go_sem, execOp, h29, q16]; done) | (simp [go_sem, execOp, h29, q16]; rfl)),
          fun a w R => (by refine .inr ⟨22, _, ?_, HY.out _⟩; first | (simp [go_sem, execOp]; done) | (simp [go_sem, execOp]; exact enter_fn Try.func22 rfl rfl _ _)),
          fun a w R => (by have h30 : a.tmps[30]? = some (.string (s.extract 9 16)) := R.val 9; have h31 : a.tmps[31]? = some (.string (Y)) := R.val 10; refine .inl ?_; first | (simp [go_sem, execOp, h30, h31, hC]; done) | (simp [go_sem, execOp, h30, h31, hC]; rfl)),
          fun a w R => (by have h28 : a.tmps[28]? = some (.bool false) := R.val 7; have h32 : a.tmps[32]? = some (.bool true) := R.val 11; refine .inl ?_; first | (simp [go_sem, execOp, h28, h32]; done) | (simp [go_sem, execOp, h28, h32]; rfl)), trivial⟩ (fun act_ W3 I => ?_)
            rw [I.act [(21, .string s), (22, .int .u8 (X : Int)), (23, .bool false), (24, .bool false), (25, .int .u64 (N : Int)), (26, .bool false), (27, .bool false), (28, .bool false), (29, .string s), (30, .string (s.extract 9 16)), (31, .string (Y)), (32, .bool true), (33, .bool true)]
              ⟨I.val 0, I.val 1, I.val 2, I.val 3, I.val 4, I.val 5, I.val 6, I.val 7, I.val 8, I.val 9, I.val 10, I.val 11, I.val 12, trivial⟩ rfl]
            have hW3 : Below w.heap.size w W3 := then_ hW2.drew I.below hW2.size
            clear I
            simp only [List.foldl_cons, List.foldl_nil, List.setIfInBounds_toArray, List.set_cons_zero, List.set_cons_succ]
            go_wp2
            refine bodyPost_ret (by first | (simp [results, Try.results14, go_sem]; done) | (simp [results, Try.results14, go_sem]; rfl)) rfl ⟨rfl, hW3⟩
    · have hQ : (B4.toList == (s.extract 0 4).toList) = false := str_ne h2
      replace hE1 := hE1 h2
      rw [hK1, hN1, hT1, hE1]
      clear hK1 hN1 hT1 hE1 hE0 hzz hx h1 h2
      go_enter Try.func14, Try.ntmps14
      go_upto_region 3 with fail
      refine region_memo (B := w.heap.size) (L := .val (.string s) :: .val (.string (s.extract 4 s.size)) :: .val (.int .u32 (M : Int)) :: .val (.int .u64 (M : Int)) :: .val (.string (B4)) :: .val (.string s) :: .val (.string (s.extract 0 4)) :: .val (.bool true) :: []) (by kernel_rfl) (by kernel_rfl) (Nat.le_refl _) (by exact trivial)
        ⟨fun a w R => (by have h0 : a.tmps[0]? = some (.string s) := R.slot 0 rfl; refine .inl ?_; first | (simp [go_sem, execOp, h0]; done) | (simp [go_sem, execOp, h0]; rfl)),
    fun a w R => (by have h10 : a.tmps[10]? = some (.string s) := R.val 0; refine .inl ?_; first | (simp [go_sem, execOp, h10, q4]; done) | (simp [go_sem, execOp, h10, q4]; rfl)),
    fun a w R => (by have h11 : a.tmps[11]? = some (.string (s.extract 4 s.size)) := R.val 1; refine .inr ⟨23, _, ?_, HM.out _⟩; first | (simp [go_sem, execOp, h11]; done) | (simp [go_sem, execOp, h11]; exact enter_fn Try.func23 rfl rfl _ _)),
    fun a w R => (by have h12 : a.tmps[12]? = some (.int .u32 (M : Int)) := R.val 2; refine .inl ?_; first | (simp [go_sem, execOp, h12, hwM]; done) | (simp [go_sem, execOp, h12, hwM]; rfl)),
    fun a w R => (by have h13 : a.tmps[13]? = some (.int .u64 (M : Int)) := R.val 3; refine .inr ⟨21, _, ?_, HP.out _⟩; first | (simp [go_sem, execOp, h13]; done) | (simp [go_sem, execOp, h13]; exact enter_fn Try.func21 rfl rfl _ _)),
    fun a w R => (by have h0 : a.tmps[0]? = some (.string s) := R.slot 0 rfl; refine .inl ?_; first | (simp [go_sem, execOp, h0]; done) | (simp [go_sem, execOp, h0]; rfl)),
    fun a w R => (by have h15 : a.tmps[15]? = some (.string s) := R.val 5; refine .inl ?_; first | (simp [go_sem, execOp, h15, q4]; done) | (simp [go_sem, execOp, h15, q4]; rfl)),
    fun a w R => (by have h14 : a.tmps[14]? = some (.string (B4)) := R.val 4; have h16 : a.tmps[16]? = some (.string (s.extract 0 4)) := R.val 6; refine .inl ?_; first | (simp [go_sem, execOp, h14, h16, hQ]; done) | (simp [go_sem, execOp, h14, h16, hQ]; rfl)), trivial⟩ (fun act_ W1 I => ?_)
      rw [I.act [(10, .string s), (11, .string (s.extract 4 s.size)), (12, .int .u32 (M : Int)), (13, .int .u64 (M : Int)), (14, .string (B4)), (15, .string s), (16, .string (s.extract 0 4)), (17, .bool true)]
        ⟨I.val 0, I.val 1, I.val 2, I.val 3, I.val 4, I.val 5, I.val 6, I.val 7, trivial⟩ rfl]
      have hW1 : Below w.heap.size w W1 := then_ (Below.refl w.heap.size w).drew I.below (Below.refl w.heap.size w).size
      clear I
      simp only [List.foldl_cons, List.foldl_nil, List.setIfInBounds_toArray, List.set_cons_zero, List.set_cons_succ]
      go_wp2
      refine bodyPost_ret (by first | (simp [results, Try.results14, go_sem]; done) | (simp [results, Try.results14, go_sem]; rfl)) rfl ⟨rfl, hW1⟩
  · have hE1 : hE s = 2 := by unfold hE; rw [if_pos h1]
    have hK1 : hK s = 0 := by unfold hK; rw [if_neg (by omega)]
    have hN1 : hN s = 0 := by unfold hN; rw [if_neg (by omega)]
    have hT1 : hT s = ⟨#[]⟩ := by unfold hT; rw [if_neg (by omega)]
    rw [hK1, hN1, hT1, hE1]
    have h3 : ((s.size : Int) != 512) = true := by rw [bne_iff_ne]; omega
    clear hK1 hN1 hT1 hE1 h1
    go_enter Try.func14, Try.ntmps14
    go_wp2
    refine bodyPost_ret (by first | (simp [results, Try.results14, go_sem]; done) | (simp [results, Try.results14, go_sem]; rfl)) rfl ⟨rfl, Below.refl _ _⟩
end Go.Proofs.Ytjaehhjehedjoaa
