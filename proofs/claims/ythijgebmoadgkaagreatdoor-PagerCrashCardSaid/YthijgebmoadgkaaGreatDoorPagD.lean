import Derived.Test.YthijgebmoadgkaaGreatDoorRdoM
import Derived.Test.YthijgebmoadgkaaGreatDoorCrcB
import Derived.Test.YthijgebmoadgkaaGreatDoorShelf
import Derived.BigQuiet
import Derived.Deep.QuietTactic
import Derived.Laws.IdiomStrings
import Derived.WalkLawsBesides
import Derived.Deep.RegionWith
import Derived.Deep.DeepCutAuto
import Derived.Below
import Derived.Laws.Rows
import Derived.Laws.OwnMore
import Derived.Deep.Draws
import Derived.Deep.OwnRows
import Derived.KernelRfl
set_option linter.unusedVariables false
set_option linter.unusedSimpArgs false
section
namespace Go.Proofs.YthijgebmoadgkaaGreatDoor.Pg
open Go.ChangeShapes Go.WideShapes Go.ChangeAt Go.RowKit
theorem zGo (k : Nat) : Lib.repeatL [0] k = List.replicate k 0 := by
 induction k with
 | zero => rfl
 | succ k ih => rw [Lib.repeatL, ih, List.replicate_succ]; rfl
theorem repeat_any (k : Nat) (w : World) (hk : k <= 496) :
   Calls Tryz.prog 69 #[.string ⟨#[0]⟩, .int .i64 k] w fun e w' => e = .returned (.string (zB k)) /\ Below w.heap.size w w' := by
 have h := Tryz.strings_Repeat ⟨#[0]⟩ k w (by omega) (by show 1 * k <= _; omega);rw [show Lib.repeatL (⟨#[0]⟩ : ByteArray).data.toList k = List.replicate k 0 from zGo k] at h;exact h
theorem zCz (P : Program) (w : World) (src dst e : TypeId) (k : Nat) (hk : k <= 255) (cap : Nat) (hs : P.underlying src = some (.slice e)) (he : P.underlying e = some (.int .u8)) (hd : P.underlying dst = some .string) (b : Nat) (h : w.cell? ⟨b, 0, none⟩ = some (.int .u8 (k : Nat))) :
   (convert src dst (.slice (some ⟨b, 0, none⟩) 1 cap)).run P w = .ok (.string ⟨#[UInt8.ofNat k]⟩) w :=
 run_convert_bytes_back (P := P) w src dst e ⟨b, 0, none⟩ cap [UInt8.ofNat k] hs he hd (fun i hi => by
   have hij : i = 0 := by simpa using hi
   subst hij;have ea : (⟨b, 0, none⟩ : Addr).add 0 = ⟨b, 0, none⟩ := rfl;have e2 : (UInt8.ofNat k).toNat = k := by rw [UInt8.toNat_ofNat', Nat.mod_eq_of_lt (by omega)]
   rw [ea, h];show _ = some (Value.int .u8 ((UInt8.ofNat k).toNat : Int))
   rw [e2])
set_option maxRecDepth 10000 in
theorem pack_yes (k n : Nat) (t : ByteArray) (w : World) (hk0 : 1 <= k) (hk : k <= 255) (hn : n <= 2147483647) (ht : t.size <= 496) :
   Calls Tryz.prog 225 #[.int .i64 k, .int .i64 n, .string t] w fun e w' => e = .returned (.tuple #[.string (pgB k n t), .int .i64 0]) /\ Below w.heap.size w w' := by
 obtain ⟨T, hT4, hTe, FP⟩ := put4 n (by omega);have hz := Uu k n t ht;have HE : pgB k n t = smB (Qe k n t) ++ Qe k n t := rfl;obtain ⟨B, hB⟩ : ∃ B, B = Qe k n t := ⟨_, rfl⟩
 rw [<- hB] at HE hz;obtain ⟨Z, hZ⟩ : ∃ Z, Z = zB (496 - t.size) := ⟨_, rfl⟩
 have hZz := xG (496 - t.size);rw [<- hZ] at hZz;obtain ⟨K, hK⟩ : ∃ K : ByteArray, K = ⟨#[UInt8.ofNat k]⟩ := ⟨_, rfl⟩
 have hKz : K.size = 1 := by rw [hK]; rfl
 have HB : K ++ T ++ ⟨#[0, 0, 0, 0, 0, 0, 0]⟩ ++ t ++ Z = B := by rw [hB, hK, hTe, hZ]; rfl
 have HR : ∀ w : World, Calls Tryz.prog 69 #[.string ⟨#[0]⟩, .int .i64 (496 - (t.size : Int))] w fun e w' => e = .returned (.string Z) /\ Below w.heap.size w w' := fun w => by
   have := repeat_any (496 - t.size) w (by omega);rw [hZ];rwa [show ((496 - t.size : Nat) : Int) = 496 - (t.size : Int) by omega] at this
 have hlt := zB0 B.data.toList;obtain ⟨S, hS4, hSe, FS⟩ := put4 _ hlt;have HS : S = smB B := hSe;rw [<- HS] at HE;have HM := Lh (fun w => zGc B w (by omega));have HC := Lh (fun (w : World) b cap h => by
   have := zCz Tryz.prog w 87 9 5 k hk cap Tryz.underlying87 Tryz.underlying5 Tryz.underlying9 b h;rw [<- hK] at this;exact this)
 have hT5 : T.size <= 4 := by omega
 have hS5 : S.size <= 4 := by omega
 have hz5 : B.size <= 508 := by omega
 have hZ5 : Z.size <= 496 := by omega
 have hK5 : K.size <= 1 := by omega
 have HEh := Lh HE;have HBh := Lh HB;have FPh := Lh FP;have FSh := Lh FS;have HRh := Lh HR;have hcv : (convert 87 9 (.slice (some ⟨w.heap.size, 0, none⟩) 1 1)).run Tryz.prog (w.alloc (.cells #[.int .u8 (k : Int)] 5)).drew = .ok (.string K) (w.alloc (.cells #[.int .u8 (k : Int)] 5)).drew :=
   HC.out _ w.heap.size 1 (by simp [go_sem])
 have hcv2 : ∀ X, (convert 87 9 (.slice (some ⟨w.heap.size, 0, none⟩) 1 1)).run Tryz.prog ((w.alloc (.cells #[.int .u8 (k : Int)] 5)).alloc X).drew = .ok (.string K) ((w.alloc (.cells #[.int .u8 (k : Int)] 5)).alloc X).drew := fun X =>
   HC.out _ w.heap.size 1 (by simp [go_sem])
 have hcv3 : ∀ X, (convert 87 9 (.slice (some ⟨w.heap.size + 1, 0, none⟩) 1 1)).run Tryz.prog ((w.alloc X).alloc (.cells #[.int .u8 (k : Int)] 5)).drew = .ok (.string K) ((w.alloc X).alloc (.cells #[.int .u8 (k : Int)] 5)).drew := fun X =>
   HC.out _ (w.heap.size + 1) 1 (by simp [go_sem])
 clear hT4 hTe hB hZ hZz hK hKz HS hSe HE HB hS4 FP FS hz HR;have hw8 : IntKind.u8.wrap (k : Int) = k := by rw [IntKind.wrap_u8]; omega
 have hw64 : IntKind.u64.wrap (n : Int) = n := by rw [IntKind.wrap_u64]; omega
 generalize pgB k n t = PG at *
 generalize Jx B.data.toList = M at *
 go_enter Tryz.func225, Tryz.ntmps225;go_upto_region 8 with fail;go_cut [8] (fun s wx => s = .string (K ++ T ++ ⟨#[0, 0, 0, 0, 0, 0, 0]⟩) /\ Below w.heap.size w wx)
 case first =>
   go_region_with (go_at_call 148; with_reducible refine (FPh.out _).mono ?_; rintro e w1 ⟨rfl, rfl⟩)
   all_goals
     go_wp2_with fail;go_meet;exact ⟨rfl, (((Below.refl _ _).alloc (Nat.le_refl _) _).alloc (by simp) _).drew⟩
 case rest =>
   obtain ⟨rfl, hw⟩ := hcut;go_wp2_with (first
     | (go_at_call 148; with_reducible refine (FSh.out _).mono ?_; rintro e w1 ⟨rfl, rfl⟩)
     | (go_at_call 272; rw [HBh.out]; with_reducible refine (HM.out _).mono ?_; rintro e w1 ⟨rfl, rfl⟩)
     | (go_at_call 69; refine (HRh.out _).mono ?_; rintro e w2 ⟨rfl, hb⟩))
   have hw2 := hw.trans (hb.mono hw.size);go_ret2;exact ⟨by rw [HEh.out]; rfl, (hw2.alloc hw2.size _).alloc (Nat.le_trans hw2.size (by simp)) _⟩
theorem fT (s : ByteArray) (w : World) (hs : s.size <= 9223372036854775807) :
   Calls Tryz.prog 238 #[.string s] w fun e w' => e = .returned (.tuple #[.int .i64 (hK s), .int .i64 (hN s), .int .i64 (hE s)]) /\ Below w.heap.size w w' := by
 by_cases h1 : s.size = 512
 · have h3 : ((s.size : Int) != 512) = false := by simp; omega
   have HG0 : RowKit.Hid (∀ w : World, Calls Tryz.prog 160 #[.string s, .int .i64 0, .int .i64 4] w fun e w' => e = .returned (.tuple #[.int .u64 (zT s 0 4), .bool true]) /\ w = w') := Lh (fun w => jE s 0 4 w hs (by omega) (by omega));have HG5 : RowKit.Hid (∀ w : World, Calls Tryz.prog 160 #[.string s, .int .i64 5, .int .i64 4] w fun e w' => e = .returned (.tuple #[.int .u64 (zT s 5 4), .bool true]) /\ w = w') := Lh (fun w => jE s 5 4 w hs (by omega) (by omega));have g5 := vW s 5 4;have g0 := vW s 0 4;have z4 : (s.extract 4 s.size).size = 508 := by rw [ByteArray.size_extract]; omega
   have HM := Lh (fun w => zGc (s.extract 4 s.size) w (by omega));have hlt := zB0 (s.extract 4 s.size).data.toList;have i4 : 4 < s.size := by omega
   have hx := qF s 4 i4;have hxl := zDt s 4;have hE1 : hE s = if zT s 0 4 ≠ Jx (s.extract 4 s.size).data.toList then 12 else if bN s 4 = 0 \/ 2147483647 < zT s 5 4 \/ s.extract 9 16 ≠ zB 7 then 2 else 0 := by unfold hE; rw [if_neg (by omega)]
   have hK1 : hK s = if hE s = 0 then bN s 4 else 0 := rfl
   have hN1 : hN s = if hE s = 0 then zT s 5 4 else 0 := rfl
   have hzz : s.extract 9 16 ≠ zB 7 -> ((s.extract 9 16).toList == [0, 0, 0, 0, 0, 0, 0]) = false := fun h => by
     have := zA8 (b := zB 7) h;rwa [show (zB 7).toList = [0, 0, 0, 0, 0, 0, 0] by rw [ByteArray.toList_eq]; rfl] at this
   have hzy : s.extract 9 16 = zB 7 -> ((s.extract 9 16).toList == [0, 0, 0, 0, 0, 0, 0]) = true := fun h => by rw [h, ByteArray.toList_eq]; rfl
   generalize Jx (s.extract 4 s.size).data.toList = M at *
   generalize zT s 0 4 = G at *
   generalize zT s 5 4 = N at *
   have q4 : (4 : Int) <= s.size := by omega
   have q16 : (16 : Int) <= s.size := by omega
   by_cases h2 : G = M
   · rw [if_neg (by simp [h2])] at hE1;have hne : ((G : Int) != (M : Int)) = false := by simp [h2]
     have main : ∀ a b c : Bool, decide (bN s 4 = 0) = a -> decide (2147483647 < N) = b -> ((s.extract 9 16).toList == [0, 0, 0, 0, 0, 0, 0]) = c -> Calls Tryz.prog 238 #[.string s] w fun e w' => e = .returned (.tuple #[.int .i64 (hK s), .int .i64 (hN s), .int .i64 (hE s)]) /\ Below w.heap.size w w' := by
       intro a b c ha hb hc;have hE2 : hE s = if a || b || !c then 2 else 0 := by
         rw [hE1];have e3 : decide (s.extract 9 16 ≠ zB 7) = !c := by
           by_cases h : s.extract 9 16 = zB 7
           · rw [hzy h] at hc; subst hc; simp [h]
           · rw [hzz h] at hc; subst hc; simp [h]
         have : decide (bN s 4 = 0 \/ 2147483647 < N \/ s.extract 9 16 ≠ zB 7) = (a || b || !c) := by
           rw [Bool.decide_or, Bool.decide_or, ha, hb, e3, Bool.or_assoc]
         rw [<- this];simp only [decide_eq_true_eq]
       rw [hx] at ha;have ha2 : (((s[4]'i4).toNat : Int) == 0) = a := by rw [<- ha]; by_cases h : (s[4]'i4).toNat = 0 <;> simp [h]
       have hb2 : decide ((2147483647 : Int) < (N : Int)) = b := by rw [<- hb, decide_eq_decide]; omega
       have hx8 : (s[4]'i4).toNat < 256 := by rw [<- hx]; exact hxl
       rw [hK1, hN1, hE2, hx];clear hK1 hN1 hE1 hE2 hzz hzy hx h1 h2 ha hb hxl;cases a <;> cases b <;> cases c <;> simp only [Bool.not_true, Bool.not_false, Bool.or_true, Bool.or_false, if_true, if_false, Bool.false_eq_true, (by decide : ¬ (2 = 0)), Int.ofNat_zero]
       all_goals
         go_enter Tryz.func238, Tryz.ntmps238;go_wp2_with (first
           | (go_at_call 160; (first | (with_reducible refine (HG0.out _).mono ?_) | (with_reducible refine (HG5.out _).mono ?_)); rintro e w1 ⟨rfl, rfl⟩)
           | (go_at_call 272; with_reducible refine (HM.out _).mono ?_; rintro e w1 ⟨rfl, rfl⟩))
         go_ret3;exact ⟨rfl, (Below.refl _ _).alloc (Nat.le_refl _) _⟩
     exact main _ _ _ rfl rfl rfl
   · rw [if_pos h2] at hE1;have hne : ((G : Int) != (M : Int)) = true := by rw [bne_iff_ne]; omega
     have hx8 : (s[4]'i4).toNat < 256 := by rw [<- hx]; exact hxl
     rw [hK1, hN1, hE1];clear hK1 hN1 hE1 hzz hzy hx h1 h2;go_enter Tryz.func238, Tryz.ntmps238;go_wp2_with (first
       | (go_at_call 160; (first | (with_reducible refine (HG0.out _).mono ?_) | (with_reducible refine (HG5.out _).mono ?_)); rintro e w1 ⟨rfl, rfl⟩)
       | (go_at_call 272; with_reducible refine (HM.out _).mono ?_; rintro e w1 ⟨rfl, rfl⟩))
     go_ret3;exact ⟨rfl, (Below.refl _ _).alloc (Nat.le_refl _) _⟩
 · have hE1 : hE s = 2 := by unfold hE; rw [if_pos h1]
   have hK1 : hK s = 0 := by unfold hK; rw [if_neg (by omega)]
   have hN1 : hN s = 0 := by unfold hN; rw [if_neg (by omega)]
   rw [hK1, hN1, hE1];have h3 : ((s.size : Int) != 512) = true := by rw [bne_iff_ne]; omega
   clear hK1 hN1 hE1 h1;go_enter Tryz.func238, Tryz.ntmps238;go_wp2;go_ret3;exact ⟨rfl, Below.refl _ _⟩
end Go.Proofs.YthijgebmoadgkaaGreatDoor.Pg
end
section
namespace Go.Proofs.YthijgebmoadgkaaGreatDoor.Pg
open Go.ChangeShapes Go.WideShapes Go.ChangeAt Go.RowKit
theorem number_any (s : ByteArray) (w : World) (hs : s.size <= 9223372036854775807) :
   Calls Tryz.prog 165 #[.string s] w fun e w' => e = .returned (.tuple #[.int .i64 (hN s), .int .i64 (hE s)]) /\ Below w.heap.size w w' := by
 have HH := Lh (fun w => fT s w hs);have b1 := zKe s;have b2 := zNo s;generalize hE s = E at *
 generalize hN s = N at *
 generalize hK s = K at *
 go_enter Tryz.func165, Tryz.ntmps165;go_wp2_with (go_at_call 238; with_reducible refine (HH.out _).mono ?_; rintro e w1 ⟨rfl, hb⟩)
 go_ret2;exact ⟨rfl, hb⟩
def uE (s : ByteArray) (no : Int) : Nat := if hE s ≠ 0 then hE s else if (hN s : Int) = no then 0 else 13
def uK (s : ByteArray) (no : Int) : Nat := if uE s no = 0 then hK s else 0
def uT (s : ByteArray) (no : Int) : ByteArray := if uE s no = 0 then hT s else ⟨#[]⟩
theorem unpack_any (s : ByteArray) (no : Int) (w : World) (hs : s.size <= 9223372036854775807) :
   Calls Tryz.prog 239 #[.string s, .int .i64 no] w fun e w' => e = .returned (.tuple #[.int .i64 (uK s no), .string (uT s no), .int .i64 (uE s no)]) /\ Below w.heap.size w w' := by
 have HH := Lh (fun w => fT s w hs);have b1 := zKe s;have b2 := zNo s;have b3 := zF9 s;by_cases h1 : hE s = 0
 · have hz := zFr s h1;have hT1 : hT s = s.extract 16 s.size := by unfold hT; rw [if_pos h1]
   have hz2 := Xc s h1;by_cases h2 : (hN s : Int) = no
   · have e1 : uE s no = 0 := by unfold uE; rw [if_neg (by simp [h1]), if_pos h2]
     have e2 : uK s no = hK s := by unfold uK; rw [if_pos e1]
     have e3 : uT s no = s.extract 16 s.size := by unfold uT; rw [if_pos e1, hT1]
     rw [hT1] at hz2;have HC := Lh (fun w => uG (s.extract 16 s.size) w (by omega));have g1 : ((hN s : Int) != no) = false := by simp [h2]
     have q16 : (16 : Int) <= s.size := by omega
     rw [e1, e2, e3];rw [h1] at HH;clear e1 e2 e3 hT1 h2 h1 hz;generalize hE s = E at *
     generalize hN s = N at *
     generalize hK s = K at *
     go_enter Tryz.func239, Tryz.ntmps239;go_wp2_with (first
       | (go_at_call 238; with_reducible refine (HH.out _).mono ?_; rintro e w1 ⟨rfl, hb⟩)
       | (go_at_call 224; with_reducible refine (HC.out _).mono ?_; rintro e w2 ⟨rfl, hb2⟩))
     go_ret3;exact ⟨rfl, hb.trans (hb2.mono hb.size)⟩
   · have e1 : uE s no = 13 := by unfold uE; rw [if_neg (by simp [h1]), if_neg h2]
     have e2 : uK s no = 0 := by unfold uK; rw [if_neg (by omega)]
     have e3 : uT s no = ⟨#[]⟩ := by unfold uT; rw [if_neg (by omega)]
     have g1 : ((hN s : Int) != no) = true := by rw [bne_iff_ne]; exact h2
     rw [e1, e2, e3];rw [h1] at HH;clear e1 e2 e3 hT1 h2 h1 hz hz2;generalize hE s = E at *
     generalize hN s = N at *
     generalize hK s = K at *
     go_enter Tryz.func239, Tryz.ntmps239;go_wp2_with (first
       | (go_at_call 238; with_reducible refine (HH.out _).mono ?_; rintro e w1 ⟨rfl, hb⟩))
     go_ret3;exact ⟨rfl, hb⟩
 · have e1 : uE s no = hE s := by unfold uE; rw [if_pos h1]
   have e2 : uK s no = 0 := by unfold uK; rw [if_neg (by omega)]
   have e3 : uT s no = ⟨#[]⟩ := by unfold uT; rw [if_neg (by omega)]
   have g1 : ((hE s : Int) != 0) = true := by rw [bne_iff_ne]; omega
   rw [e1, e2, e3];clear e1 e2 e3 h1;generalize hE s = E at *
   generalize hN s = N at *
   generalize hK s = K at *
   go_enter Tryz.func239, Tryz.ntmps239;go_wp2_with (first
     | (go_at_call 238; with_reducible refine (HH.out _).mono ?_; rintro e w1 ⟨rfl, hb⟩))
   go_ret3;exact ⟨rfl, hb⟩
end Go.Proofs.YthijgebmoadgkaaGreatDoor.Pg
end
section
namespace Go.Proofs.YthijgebmoadgkaaGreatDoor
open Go.ChangeShapes Go.WideShapes Go.ChangeAt Go.RowKit
def Own (w : World) (p : Nat) (T : TypeId) (cs : Array Value) : Prop := w.heap[p]? = some (.cells cs T (0, 0))
theorem Own.in_ {w : World} {p : Nat} {T : TypeId} {cs : Array Value} (h : Own w p T cs) : p < w.heap.size := by
 by_cases hp : p < w.heap.size
 · exact hp
 · unfold Own at h;rw [Array.getElem?_eq_none (by omega)] at h;cases h
theorem Own.made (w : World) (T : TypeId) (cs : Array Value) : Own (w.alloc (.cells cs T)) w.heap.size T cs := by
 unfold Own World.alloc;simp
theorem Own.more {w : World} {p : Nat} {T : TypeId} {cs : Array Value} (h : Own w p T cs) (o : Obj) : Own (w.alloc o) p T cs := by
 unfold Own;rw [Below.heap_alloc w o p h.in_];exact h
theorem Own.keep {w w' : World} {p : Nat} {T : TypeId} {cs : Array Value} (h : Own w p T cs) (hb : Below w.heap.size w w') : Own w' p T cs := by
 unfold Own;rw [hb.block p h.in_];exact h
theorem Own.drawn {w : World} {p : Nat} {T : TypeId} {cs : Array Value} (h : Own w p T cs) : Own w.drew p T cs := h
theorem Own.put {w : World} {p : Nat} {T : TypeId} {cs : Array Value} (h : Own w p T cs) (i : Nat) (v : Value) : Own (w.setCell ⟨p, i, none⟩ v) p T (cs.setIfInBounds i v) := by
 unfold Own at h ⊢;simp [World.setCell, Array.getElem?_modify, h]
theorem Own.apart {w : World} {p : Nat} {T : TypeId} {cs : Array Value} (h : Own w p T cs) {q : Nat} (hq : p ≠ q) (i : Nat) (v : Value) : Own (w.setCell ⟨q, i, none⟩ v) p T cs := by
 unfold Own;rw [Below.heap_setCell w ⟨q, i, none⟩ v p hq];exact h
theorem Own.made_at {w : World} {p : Nat} {T : TypeId} {cs : Array Value} (h : p = w.heap.size) : Own (w.alloc (.cells cs T)) p T cs := h ▸ Own.made w T cs
theorem Own.as {w : World} {p : Nat} {T : TypeId} {cs cs' : Array Value} (h : Own w p T cs) (e : cs = cs') : Own w p T cs' := e ▸ h
theorem Own.at_ {w : World} {p : Nat} {T : TypeId} {cs : Array Value} (h : Own w p T cs) : (∀ i, w.cell? ⟨p, i, none⟩ = cs[i]?) /\ (∀ i, w.frozen? ⟨p, i, none⟩ = false) /\ p < w.heap.size := by
 refine ⟨fun i => ?_, fun i => ?_, h.in_⟩
 · unfold Own at h; simp [World.cell?, h]
 · unfold Own at h; simp [World.frozen?, h]
theorem keep {w w' : World} (hb : Below w.heap.size w w') {p q : Nat} {v : Value} (h : w.cell? ⟨p, q, none⟩ = some v) : w'.cell? ⟨p, q, none⟩ = some v :=
 (hb.cell (p := ⟨p, q, none⟩) (Qq h)).trans h
theorem zM {B : Nat} {a w : World} (h : Below B a w) (q : Nat) : Below B a (w.drewN q) := ⟨h.os, h.tape, h.output, h.size, h.block⟩
theorem then_ {B : Nat} {a w w' : World} (h : Below B a w) (hb : Below w.heap.size w w') (hB : B <= w.heap.size) : Below B a w' := h.trans (hb.mono hB)
end Go.Proofs.YthijgebmoadgkaaGreatDoor
end
section
namespace Go.Proofs.YthijgebmoadgkaaGreatDoor
open Go.ChangeShapes Go.WideShapes Go.ChangeAt Go.RowKit
end Go.Proofs.YthijgebmoadgkaaGreatDoor
end
section
namespace Go.Proofs.YthijgebmoadgkaaGreatDoor.Pg
open Go.ChangeShapes Go.WideShapes Go.ChangeAt Go.RowKit
theorem info_str : (Tryz.prog.info? 9).map (fun i => (i.zero, i.size, i.bytes)) = some (some (.string ⟨#[]⟩), 1, 16) := by kernel_rfl
def secB (s : ByteArray) (i : Nat) : ByteArray := s.extract (i * 64) ((i + 1) * 64)
def cutV (s : ByteArray) (j i : Nat) : Value := .string (if i < j then secB s i else ⟨#[]⟩)
def cutC (s : ByteArray) (j : Nat) : Array Value := ((List.range 8).map (cutV s j)).toArray
theorem Ud (s : ByteArray) (j : Nat) : (cutC s j).size = 8 := by simp [cutC]
theorem cutC_get (s : ByteArray) (j i : Nat) (hi : i < 8) : (cutC s j)[i]? = some (cutV s j i) := by simp [cutC, hi]
theorem zIb (s : ByteArray) : madeCells #[Value.string ⟨#[]⟩] 8 = cutC s 0 := by
 apply Array.ext'
 rw [toList_madeCells_one];simp [cutC, cutV];rfl
theorem zI4 (s : ByteArray) (j : Nat) (hj : j < 8) : (cutC s j).setIfInBounds j (.string (secB s j)) = cutC s (j + 1) := by
 apply Array.ext_getElem?
 intro i;by_cases hi : i < 8
 · rw [Array.getElem?_setIfInBounds, cutC_get s (j + 1) i hi, cutC_get s j i hi, Ud];by_cases h : j = i
   · subst h; simp [hj, cutV]
   · simp only [h, if_false, cutV];congr 2
     by_cases h1 : i < j
     · rw [if_pos h1, if_pos (by omega)]
     · rw [if_neg h1, if_neg (by omega)]
 · rw [Array.getElem?_eq_none (by simp [Ud]; omega), Array.getElem?_eq_none (by simp [Ud]; omega)]
theorem secB_size (s : ByteArray) (i : Nat) (h : s.size = 512) (hi : i < 8) : (secB s i).size = 64 := by
 unfold secB; rw [ByteArray.size_extract]; omega
set_option maxRecDepth 10000 in
theorem cut_yes (s : ByteArray) (w : World) (h : s.size = 512) :
   Calls Tryz.prog 146 #[.string s] w fun e w' => e = .returned (.slice (some ⟨w.heap.size, 0, none⟩) 8 8) /\ Own w' w.heap.size 9 (cutC s 8) /\ Below w.heap.size w w' := by
 have h3 : ((s.size : Int) != 512) = false := by simp; omega
 have HM : (Instr.makeSlice 34 (.int .i64 8) (.int .i64 8)).run Tryz.prog w = _ := run_make_row' (P := Tryz.prog) 34 9 (.string ⟨#[]⟩) 16 Tryz.underlying34 info_str rfl .i64 .i64 8 (by omega) (by omega) w;rw [zIb s] at HM;have HO := Own.made w 9 (cutC s 0);obtain ⟨W0, hW0⟩ : ∃ W0, W0 = w.alloc (.cells (cutC s 0) 9) := ⟨_, rfl⟩
 have L0 : Below w.heap.size w W0 := hW0 ▸ (Below.refl _ _).alloc (Nat.le_refl _) _;rw [<- hW0] at HM HO;replace HO := Lh HO;replace L0 := Lh L0;have HS := Lh h;clear hW0 h;go_enter Tryz.func146, Tryz.ntmps146;go_wp2;clear HM;go_loopw [9] (fun i wr => ∃ k : Nat, k <= 8 /\ i = .int .i64 k /\ Own wr w.heap.size 9 (cutC s k) /\ Below w.heap.size w wr) (fun i wr => 8 - (intOf i).toNat)
 case atStart => exact ⟨0, by omega, rfl, HO.out, L0.out⟩
 case round =>
   obtain ⟨k, hk, rfl, hO, hL⟩ := hrel;by_cases hlt : k < 8
   · have hs := HS.out;have g1 : ((k : Int) + 1) * 64 <= s.size := by omega
     have g2 : (k : Int) * 64 <= ((k : Int) + 1) * 64 := by omega
     have e1 : s.extract ((k : Int) * 64).toNat (((k : Int) + 1) * 64).toNat = secB s k := by
       unfold secB; congr 1 <;> omega
     have HC := Lh (fun w => uG (secB s k) w (by rw [secB_size s k hs hlt]; omega));have hsz := hL.size;replace hO := Lh hO;replace hL := Lh hL;have hsl := run_slice_string (P := Tryz.prog) wr 9 s .i64 .i64 ((k : Int) * 64) (((k : Int) + 1) * 64) Tryz.underlying9 (by omega) (by omega) (by omega);rw [e1] at hsl;clear hs e1;go_wp2_with (go_at_call 224; refine (HC.out _).mono ?_; rintro e w2 ⟨rfl, hb2⟩; have hO2 := hO.out.keep hb2; have hc2 := hO2.at_.2.1; have hc3 : w2.cell? ⟨w.heap.size, k, none⟩ = some (cutV s k k) := (hO2.at_.1 k).trans (cutC_get s k k hlt); replace hO2 := Lh hO2)
     go_roundw
     case rel =>
       have hL2 := then_ hL.out hb2 hsz;exact ⟨k + 1, by omega, by go_num, (hO2.out.put k _).as (zI4 s k hlt), hL2.setCell (Nat.le_refl _) _⟩
     case measure => simp [intOf]; omega
   · obtain rfl : k = 8 := by omega
     go_wp2;go_ret;exact ⟨rfl, hO, hL⟩
end Go.Proofs.YthijgebmoadgkaaGreatDoor.Pg
end
