
/- The contracts of page.Pack, page.head, page.Unpack, page.Number, page.Cut, and of the eighth law package's awake. Conditions: the arguments' own ranges. -/
import Derived.Test.YtjaehhjehedjoaaPagM
import Derived.Test.YtjaehhjehedjoaaCrcB
import Derived.Test.YtjaehhjehedjoaaBytes
import Derived.Test.YtjaehhjehedjoaaShelf
import Derived.BigQuiet
import Derived.Deep.QuietTactic
import Derived.Laws.IdiomStrings
import Derived.WalkLawsBesides
import Derived.Deep.RegionWith
import Derived.Deep.DeepCutAuto
namespace Go.Proofs.Ytjaehhjehedjoaa
open Go.ChangeShapes Go.WideShapes Go.ChangeAt Go.RowKit
set_option linter.unusedVariables false

theorem zB_eq (k : Nat) : Lib.repeatL [0] k = List.replicate k 0 := by
  induction k with
  | zero => rfl
  | succ k ih => rw [Lib.repeatL, ih, List.replicate_succ]; rfl
theorem repeat_any (k : Nat) (w : World) (hk : k ≤ 496) :
    Calls Try.prog 17 #[.string ⟨#[0]⟩, .int .i64 k] w fun e w' => e = .returned (.string (zB k)) ∧ Below w.heap.size w w' := by
  have h := Try.strings_Repeat ⟨#[0]⟩ k w (by omega) (by show 1 * k ≤ _; omega)
  rw [show Lib.repeatL (⟨#[0]⟩ : ByteArray).data.toList k = List.replicate k 0 from zB_eq k] at h
  exact h

/-- the arguments are refused -/
def badA (k n : Int) : Prop := k < 1 ∨ 255 < k ∨ n < 0 ∨ 2147483647 < n
theorem pack_arg (k n : Int) (t : ByteArray) (w : World) (h : badA k n) :
    Calls Try.prog 9 #[.int .i64 k, .int .i64 n, .string t] w fun e w' => e = .returned (.tuple #[.string ⟨#[]⟩, .int .i64 1]) ∧ w = w' := by
  unfold badA at h
  have main : ∀ a b c : Bool, decide (k < 1) = a → decide (255 < k) = b → decide (n < 0) = c → (a = false → b = false → c = false → decide (2147483647 < n) = true) → Calls Try.prog 9 #[.int .i64 k, .int .i64 n, .string t] w fun e w' => e = .returned (.tuple #[.string ⟨#[]⟩, .int .i64 1]) ∧ w = w' := by
    intro a b c ha hb hc hd
    clear h
    cases a
    · cases b
      · cases c
        · replace hd := hd rfl rfl rfl
          go_enter Try.func9, Try.ntmps9
          go_wp2
          go_ret2
          exact ⟨rfl, rfl⟩
        · clear hd
          go_enter Try.func9, Try.ntmps9
          go_wp2
          go_ret2
          exact ⟨rfl, rfl⟩
      · clear hd hc
        go_enter Try.func9, Try.ntmps9
        go_wp2
        go_ret2
        exact ⟨rfl, rfl⟩
    · clear hd hb hc
      go_enter Try.func9, Try.ntmps9
      go_wp2
      go_ret2
      exact ⟨rfl, rfl⟩
  exact main _ _ _ rfl rfl rfl (fun h1 h2 h3 => by
    simp only [decide_eq_false_iff_not] at h1 h2 h3
    exact decide_eq_true (by omega))
theorem pack_large (k n : Nat) (t : ByteArray) (w : World) (hk0 : 1 ≤ k) (hk : k ≤ 255) (hn : n ≤ 2147483647) (ht : 496 < t.size) :
    Calls Try.prog 9 #[.int .i64 k, .int .i64 n, .string t] w fun e w' => e = .returned (.tuple #[.string ⟨#[]⟩, .int .i64 3]) ∧ w = w' := by
  go_enter Try.func9, Try.ntmps9
  go_wp2
  go_ret2
  exact ⟨rfl, rfl⟩
theorem one_byte (P : Program) (w : World) (src dst e : TypeId) (k : Nat) (hk : k ≤ 255) (cap : Nat) (hs : P.underlying src = some (.slice e)) (he : P.underlying e = some (.int .u8)) (hd : P.underlying dst = some .string) (b : Nat) (h : w.cell? ⟨b, 0, none⟩ = some (.int .u8 (k : Nat))) :
    (convert src dst (.slice (some ⟨b, 0, none⟩) 1 cap)).run P w = .ok (.string ⟨#[UInt8.ofNat k]⟩) w :=
  run_convert_bytes_back (P := P) w src dst e ⟨b, 0, none⟩ cap [UInt8.ofNat k] hs he hd (fun i hi => by
    have hij : i = 0 := by simpa using hi
    subst hij
    have ea : (⟨b, 0, none⟩ : Addr).add 0 = ⟨b, 0, none⟩ := rfl
    have e2 : (UInt8.ofNat k).toNat = k := by rw [UInt8.toNat_ofNat', Nat.mod_eq_of_lt (by omega)]
    rw [ea, h]
    show _ = some (Value.int .u8 ((UInt8.ofNat k).toNat : Int))
    rw [e2])

theorem pack_yes (k n : Nat) (t : ByteArray) (w : World) (hk0 : 1 ≤ k) (hk : k ≤ 255) (hn : n ≤ 2147483647) (ht : t.size ≤ 496) :
    Calls Try.prog 9 #[.int .i64 k, .int .i64 n, .string t] w fun e w' => e = .returned (.tuple #[.string (pgB k n t), .int .i64 0]) ∧ Below w.heap.size w w' := by
  obtain ⟨T, hT4, hTe, FP⟩ := put4 n (by omega)
  have hz := bodB_size k n t ht
  have HE : pgB k n t = smB (bodB k n t) ++ bodB k n t := rfl
  obtain ⟨B, hB⟩ : ∃ B, B = bodB k n t := ⟨_, rfl⟩
  rw [← hB] at HE hz
  obtain ⟨Z, hZ⟩ : ∃ Z, Z = zB (496 - t.size) := ⟨_, rfl⟩
  have hZz := zB_size (496 - t.size)
  rw [← hZ] at hZz
  obtain ⟨K, hK⟩ : ∃ K : ByteArray, K = ⟨#[UInt8.ofNat k]⟩ := ⟨_, rfl⟩
  have hKz : K.size = 1 := by rw [hK]; rfl
  have HB : K ++ T ++ ⟨#[0, 0, 0, 0, 0, 0, 0]⟩ ++ t ++ Z = B := by rw [hB, hK, hTe, hZ]; rfl
  have HR : ∀ w : World, Calls Try.prog 17 #[.string ⟨#[0]⟩, .int .i64 (496 - (t.size : Int))] w fun e w' => e = .returned (.string Z) ∧ Below w.heap.size w w' := fun w => by
    have := repeat_any (496 - t.size) w (by omega)
    rw [hZ]
    rwa [show ((496 - t.size : Nat) : Int) = 496 - (t.size : Int) by omega] at this
  have hlt := sumL_lt B.data.toList
  obtain ⟨S, hS4, hSe, FS⟩ := put4 _ hlt
  have HS : S = smB B := hSe
  rw [← HS] at HE
  have HM := Lib.hid (fun w => sum_one B w (by omega))
  have HC := Lib.hid (fun (w : World) b cap h => by
    have := one_byte Try.prog w 33 9 5 k hk cap Try.underlying33 Try.underlying5 Try.underlying9 b h
    rw [← hK] at this
    exact this)
  have hT5 : T.size ≤ 4 := by omega
  have hS5 : S.size ≤ 4 := by omega
  have hz5 : B.size ≤ 508 := by omega
  have hZ5 : Z.size ≤ 496 := by omega
  have hK5 : K.size ≤ 1 := by omega
  have HEh := Lib.hid HE
  have HBh := Lib.hid HB
  have FPh := Lib.hid FP
  have FSh := Lib.hid FS
  have HRh := Lib.hid HR
  have hcv : (convert 33 9 (.slice (some ⟨w.heap.size, 0, none⟩) 1 1)).run Try.prog (w.alloc (.cells #[.int .u8 (k : Int)] 5)).drew = .ok (.string K) (w.alloc (.cells #[.int .u8 (k : Int)] 5)).drew :=
    HC.out _ w.heap.size 1 (by simp [go_sem])
  have hcv2 : ∀ X, (convert 33 9 (.slice (some ⟨w.heap.size, 0, none⟩) 1 1)).run Try.prog ((w.alloc (.cells #[.int .u8 (k : Int)] 5)).alloc X).drew = .ok (.string K) ((w.alloc (.cells #[.int .u8 (k : Int)] 5)).alloc X).drew := fun X =>
    HC.out _ w.heap.size 1 (by simp [go_sem])
  have hcv3 : ∀ X, (convert 33 9 (.slice (some ⟨w.heap.size + 1, 0, none⟩) 1 1)).run Try.prog ((w.alloc X).alloc (.cells #[.int .u8 (k : Int)] 5)).drew = .ok (.string K) ((w.alloc X).alloc (.cells #[.int .u8 (k : Int)] 5)).drew := fun X =>
    HC.out _ (w.heap.size + 1) 1 (by simp [go_sem])
  clear hT4 hTe hB hZ hZz hK hKz HS hSe HE HB hS4 FP FS hz HR
  have hw8 : IntKind.u8.wrap (k : Int) = k := by rw [IntKind.wrap_u8]; omega
  have hw64 : IntKind.u64.wrap (n : Int) = n := by rw [IntKind.wrap_u64]; omega
  generalize pgB k n t = PG at *
  generalize sumL B.data.toList = M at *
  go_enter Try.func9, Try.ntmps9
  go_upto_region 8 with fail
  go_cut [8] (fun s wx => s = .string (K ++ T ++ ⟨#[0, 0, 0, 0, 0, 0, 0]⟩) ∧ Below w.heap.size w wx)
  case first =>
    go_region_with (go_at_call 16; with_reducible refine (FPh.out _).mono ?_; rintro e w1 ⟨rfl, rfl⟩)
    all_goals
      go_wp2_with fail
      go_meet
      exact ⟨rfl, (((Below.refl _ _).alloc (Nat.le_refl _) _).alloc (by simp) _).drew⟩
  case rest =>
    obtain ⟨rfl, hw⟩ := hcut
    go_wp2_with (first
      | (go_at_call 16; with_reducible refine (FSh.out _).mono ?_; rintro e w1 ⟨rfl, rfl⟩)
      | (go_at_call 18; rw [HBh.out]; with_reducible refine (HM.out _).mono ?_; rintro e w1 ⟨rfl, rfl⟩)
      | (go_at_call 17; refine (HRh.out _).mono ?_; rintro e w2 ⟨rfl, hb⟩))
    have hw2 := hw.trans (hb.mono hw.size)
    go_ret2
    exact ⟨by rw [HEh.out]; rfl, (hw2.alloc hw2.size _).alloc (Nat.le_trans hw2.size (by simp)) _⟩

theorem head_any (s : ByteArray) (w : World) (hs : s.size ≤ 9223372036854775807) :
    Calls Try.prog 19 #[.string s] w fun e w' => e = .returned (.tuple #[.int .i64 (hK s), .int .i64 (hN s), .int .i64 (hE s)]) ∧ Below w.heap.size w w' := by
  by_cases h1 : s.size = 512
  · have h3 : ((s.size : Int) != 512) = false := by simp; omega
    have HG0 : RowKit.Hid (∀ w : World, Calls Try.prog 33 #[.string s, .int .i64 0, .int .i64 4] w fun e w' => e = .returned (.tuple #[.int .u64 (getN s 0 4), .bool true]) ∧ w = w') := Lib.hid (fun w => get_yes s 0 4 w hs (by omega) (by omega))
    have HG5 : RowKit.Hid (∀ w : World, Calls Try.prog 33 #[.string s, .int .i64 5, .int .i64 4] w fun e w' => e = .returned (.tuple #[.int .u64 (getN s 5 4), .bool true]) ∧ w = w') := Lib.hid (fun w => get_yes s 5 4 w hs (by omega) (by omega))
    have g5 := getN_lt s 5 4
    have g0 := getN_lt s 0 4
    have z4 : (s.extract 4 s.size).size = 508 := by rw [ByteArray.size_extract]; omega
    have HM := Lib.hid (fun w => sum_one (s.extract 4 s.size) w (by omega))
    have hlt := sumL_lt (s.extract 4 s.size).data.toList
    have i4 : 4 < s.size := by omega
    have hx := bN_of s 4 i4
    have hxl := bN_lt s 4
    have hE1 : hE s = if getN s 0 4 ≠ sumL (s.extract 4 s.size).data.toList then 12 else if bN s 4 = 0 ∨ 2147483647 < getN s 5 4 ∨ s.extract 9 16 ≠ zB 7 then 2 else 0 := by unfold hE; rw [if_neg (by omega)]
    have hK1 : hK s = if hE s = 0 then bN s 4 else 0 := rfl
    have hN1 : hN s = if hE s = 0 then getN s 5 4 else 0 := rfl
    have hzz : s.extract 9 16 ≠ zB 7 → ((s.extract 9 16).toList == [0, 0, 0, 0, 0, 0, 0]) = false := fun h => by
      have := str_ne (b := zB 7) h
      rwa [show (zB 7).toList = [0, 0, 0, 0, 0, 0, 0] by rw [ByteArray.toList_eq]; rfl] at this
    have hzy : s.extract 9 16 = zB 7 → ((s.extract 9 16).toList == [0, 0, 0, 0, 0, 0, 0]) = true := fun h => by rw [h, ByteArray.toList_eq]; rfl
    generalize sumL (s.extract 4 s.size).data.toList = M at *
    generalize getN s 0 4 = G at *
    generalize getN s 5 4 = N at *
    have q4 : (4 : Int) ≤ s.size := by omega
    have q16 : (16 : Int) ≤ s.size := by omega
    by_cases h2 : G = M
    · rw [if_neg (by simp [h2])] at hE1
      have hne : ((G : Int) != (M : Int)) = false := by simp [h2]
      have main : ∀ a b c : Bool, decide (bN s 4 = 0) = a → decide (2147483647 < N) = b → ((s.extract 9 16).toList == [0, 0, 0, 0, 0, 0, 0]) = c → Calls Try.prog 19 #[.string s] w fun e w' => e = .returned (.tuple #[.int .i64 (hK s), .int .i64 (hN s), .int .i64 (hE s)]) ∧ Below w.heap.size w w' := by
        intro a b c ha hb hc
        have hE2 : hE s = if a || b || !c then 2 else 0 := by
          rw [hE1]
          have e3 : decide (s.extract 9 16 ≠ zB 7) = !c := by
            by_cases h : s.extract 9 16 = zB 7
            · rw [hzy h] at hc; subst hc; simp [h]
            · rw [hzz h] at hc; subst hc; simp [h]
          have : decide (bN s 4 = 0 ∨ 2147483647 < N ∨ s.extract 9 16 ≠ zB 7) = (a || b || !c) := by
            rw [Bool.decide_or, Bool.decide_or, ha, hb, e3, Bool.or_assoc]
          rw [← this]
          simp only [decide_eq_true_eq]
        rw [hx] at ha
        have ha2 : (((s[4]'i4).toNat : Int) == 0) = a := by rw [← ha]; by_cases h : (s[4]'i4).toNat = 0 <;> simp [h]
        have hb2 : decide ((2147483647 : Int) < (N : Int)) = b := by rw [← hb, decide_eq_decide]; omega
        have hx8 : (s[4]'i4).toNat < 256 := by rw [← hx]; exact hxl
        rw [hK1, hN1, hE2, hx]
        clear hK1 hN1 hE1 hE2 hzz hzy hx h1 h2 ha hb hxl
        cases a <;> cases b <;> cases c <;> simp only [Bool.not_true, Bool.not_false, Bool.or_true, Bool.or_false, if_true, if_false, Bool.false_eq_true, (by decide : ¬ (2 = 0)), Int.ofNat_zero]
        all_goals
          go_enter Try.func19, Try.ntmps19
          go_wp2_with (first
            | (go_at_call 33; (first | (with_reducible refine (HG0.out _).mono ?_) | (with_reducible refine (HG5.out _).mono ?_)); rintro e w1 ⟨rfl, rfl⟩)
            | (go_at_call 18; with_reducible refine (HM.out _).mono ?_; rintro e w1 ⟨rfl, rfl⟩))
          go_ret3
          exact ⟨rfl, (Below.refl _ _).alloc (Nat.le_refl _) _⟩
      exact main _ _ _ rfl rfl rfl
    · rw [if_pos h2] at hE1
      have hne : ((G : Int) != (M : Int)) = true := by rw [bne_iff_ne]; omega
      have hx8 : (s[4]'i4).toNat < 256 := by rw [← hx]; exact hxl
      rw [hK1, hN1, hE1]
      clear hK1 hN1 hE1 hzz hzy hx h1 h2
      go_enter Try.func19, Try.ntmps19
      go_wp2_with (first
        | (go_at_call 33; (first | (with_reducible refine (HG0.out _).mono ?_) | (with_reducible refine (HG5.out _).mono ?_)); rintro e w1 ⟨rfl, rfl⟩)
        | (go_at_call 18; with_reducible refine (HM.out _).mono ?_; rintro e w1 ⟨rfl, rfl⟩))
      go_ret3
      exact ⟨rfl, (Below.refl _ _).alloc (Nat.le_refl _) _⟩
  · have hE1 : hE s = 2 := by unfold hE; rw [if_pos h1]
    have hK1 : hK s = 0 := by unfold hK; rw [if_neg (by omega)]
    have hN1 : hN s = 0 := by unfold hN; rw [if_neg (by omega)]
    rw [hK1, hN1, hE1]
    have h3 : ((s.size : Int) != 512) = true := by rw [bne_iff_ne]; omega
    clear hK1 hN1 hE1 h1
    go_enter Try.func19, Try.ntmps19
    go_wp2
    go_ret3
    exact ⟨rfl, Below.refl _ _⟩
end Go.Proofs.Ytjaehhjehedjoaa
