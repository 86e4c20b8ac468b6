import Derived.Test.YthijgebmoadgkaaGreatDoorRdoM
import Derived.Test.YthijgebmoadgkaaGreatDoorShelf
import Derived.Test.YthijgebmoadgkaaGreatDoorCrcB
import Derived.BigQuiet
import Derived.Deep.QuietTactic
import Derived.Laws.IdiomStrings
import Derived.WalkLawsBesides
import Derived.Test.YthijgebmoadgkaaGreatDoorMapM
import Derived.Deep.OwnRows
import Derived.KernelRfl
import Derived.Test.YthijgebmoadgkaaGreatDoorDisB
set_option linter.unusedVariables false
set_option linter.unusedSimpArgs false
namespace Go.Proofs.YthijgebmoadgkaaGreatDoor
open Go.ChangeShapes Go.WideShapes Go.ChangeAt Go.RowKit
section
theorem zGo (k : Nat) : Lib.repeatL [0] k = List.replicate k 0 := by
 induction k with
 | zero => rfl
 | succ k ih => rw [Lib.repeatL, ih, List.replicate_succ]; rfl
theorem repeat_any (k : Nat) (w : World) (hk : k <= 48) :
   Calls Tryz.prog 69 #[.string ⟨#[0]⟩, .int .i64 k] w fun e w' => e = .returned (.string (zB k)) /\ Below w.heap.size w w' := by
 have h := Tryz.strings_Repeat ⟨#[0]⟩ k w (by omega) (by show 1 * k <= _; omega);rw [show Lib.repeatL (⟨#[0]⟩ : ByteArray).data.toList k = List.replicate k 0 from zGo k] at h;exact h
def gv (s : ByteArray) (p : Nat) : Nat := if p + 8 <= s.size then zT s p 8 else 0
def gb (s : ByteArray) (p : Nat) : Bool := decide (p + 8 <= s.size)
theorem zNh (s : ByteArray) (p : Nat) : gv s p <= 18446744073709551615 := by
 unfold gv; split
 · have := gP s p 8 (by omega); omega
 · omega
theorem get8 (s : ByteArray) (p : Nat) (w : World) (hs : s.size <= 9223372036854775807) (hp : p <= 1000) :
   Calls Tryz.prog 160 #[.string s, .int .i64 p, .int .i64 8] w fun e w' => e = .returned (.tuple #[.int .u64 (gv s p), .bool (gb s p)]) /\ w = w' := by
 by_cases h : p + 8 <= s.size
 · have := jE s p 8 w hs (by omega) h;unfold gv gb;rw [if_pos h, decide_eq_true h];exact this
 · have := zB5 s p 8 w hs (by omega) (by omega) (by omega) (by omega) (by omega);unfold gv gb;rw [if_neg h, decide_eq_false h];exact this
theorem zD7 (n : Nat) (t : ByteArray) (w : World) (hn : n <= 18446744073709551615) (ht : t.size <= 48) :
   Calls Tryz.prog 155 #[.int .u64 n, .string t] w fun e w' => e = .returned (.tuple #[.string (mkB n t), .int .i64 0]) /\ Below w.heap.size w w' := by
 have HP : ∀ w : World, Calls Tryz.prog 148 #[.int .u64 n, .int .i64 8] w fun e w' => e = .returned (.string (nB n)) /\ w' = w.alloc (.cells (putCells n 8) 310) := fun w => vX n 8 w hn (by omega)
 have HR : ∀ w : World, Calls Tryz.prog 69 #[.string ⟨#[0]⟩, .int .i64 (48 - (t.size : Int))] w fun e w' => e = .returned (.string (zB (48 - t.size))) /\ Below w.heap.size w w' := fun w => by
   have := repeat_any (48 - t.size) w (by omega);rwa [show ((48 - t.size : Nat) : Int) = 48 - (t.size : Int) by omega] at this
 have hN := vK n;have hZ := xG (48 - t.size);have HE := Lh (show nB n ++ t ++ zB (48 - t.size) ++ nB n = mkB n t from rfl);have hN2 : (nB n).size <= 8 := by omega
 have hZ2 : (zB (48 - t.size)).size <= 48 := by omega
 clear hN hZ;generalize nB n = NB at *
 generalize zB (48 - t.size) = ZB at *
 go_enter Tryz.func155, Tryz.ntmps155;go_wp2_with (first
   | (go_at_call 148; refine (HP _).mono ?_; rintro e w1 ⟨rfl, rfl⟩)
   | (go_at_call 69; refine (HR _).mono ?_; rintro e w2 ⟨rfl, hb⟩))
 go_ret2;exact ⟨by rw [HE.out]; rfl, ((Below.refl _ _).alloc (Nat.le_refl _) _).trans (hb.mono (by simp))⟩
theorem Yo (s : ByteArray) (w : World) (hs : s.size <= 9223372036854775807) :
   Calls Tryz.prog 230 #[.string s] w fun e w' => e = .returned (.tuple #[.int .u64 (mN s), .string (mT s), .bool (isM s)]) /\ Below w.heap.size w w' := by
 have G0 := get8 s 0;have G56 := get8 s 56;have b0 := zNh s 0;have b56 := zNh s 56;have hmn := zAa s;have HG0 : RowKit.Hid (∀ w : World, Calls Tryz.prog 160 #[.string s, .int .i64 0, .int .i64 8] w fun e w' => e = .returned (.tuple #[.int .u64 (gv s 0), .bool (gb s 0)]) /\ w = w') := Lh (fun w => G0 w hs (by omega));have HG56 : RowKit.Hid (∀ w : World, Calls Tryz.prog 160 #[.string s, .int .i64 56, .int .i64 8] w fun e w' => e = .returned (.tuple #[.int .u64 (gv s 56), .bool (gb s 56)]) /\ w = w') := Lh (fun w => G56 w hs (by omega));clear G0 G56;by_cases h1 : s.size = 64
 · have e0 : gv s 0 = zT s 0 8 := by unfold gv; rw [if_pos (by omega)]
   have e56 : gv s 56 = zT s 56 8 := by unfold gv; rw [if_pos (by omega)]
   have h3 : ((s.size : Int) != 64) = false := by simp; omega
   by_cases h2 : zT s 0 8 = zT s 56 8
   · have hI : isM s = true := decide_eq_true ⟨h1, h2⟩;have hN : mN s = gv s 0 := by unfold mN; rw [if_pos hI, e0]
     have hT : mT s = s.extract 8 56 := by unfold mT; rw [if_pos hI]
     rw [hN, hT, hI];have h4 : ((gv s 0 : Int) != (gv s 56 : Int)) = false := by rw [e0, e56, h2]; simp
     have z1 : (s.extract 8 56).size <= 1000 := by rw [ByteArray.size_extract]; omega
     have HC := Lh (fun w => uG (s.extract 8 56) w (by omega));have g8 : (56 : Int) <= s.size := by omega
     clear e0 e56 h2 hI hN hT hmn h1 z1;generalize gb s 0 = B0 at *
     generalize gb s 56 = B1 at *
     generalize gv s 0 = V0 at *
     generalize gv s 56 = V1 at *
     go_enter Tryz.func230, Tryz.ntmps230;go_wp2_with (first
       | (go_at_call 160; (first | (with_reducible refine (HG0.out _).mono ?_) | (with_reducible refine (HG56.out _).mono ?_)); rintro e w1 ⟨rfl, rfl⟩)
       | (go_at_call 224; refine (HC.out _).mono ?_; rintro e w2 ⟨rfl, hb⟩))
     go_ret3;exact ⟨rfl, hb⟩
   · have hI : isM s = false := decide_eq_false (fun h => h2 h.2);have hN : mN s = 0 := by unfold mN; rw [if_neg (by simp [hI])]
     have hT : mT s = ⟨#[]⟩ := by unfold mT; rw [if_neg (by simp [hI])]
     rw [hN, hT, hI];have h4 : ((gv s 0 : Int) != (gv s 56 : Int)) = true := by rw [e0, e56, bne_iff_ne]; omega
     clear e0 e56 h2 hI hN hT hmn h1;generalize gb s 0 = B0 at *
     generalize gb s 56 = B1 at *
     generalize gv s 0 = V0 at *
     generalize gv s 56 = V1 at *
     go_enter Tryz.func230, Tryz.ntmps230;go_wp2_with (first
       | (go_at_call 160; (first | (with_reducible refine (HG0.out _).mono ?_) | (with_reducible refine (HG56.out _).mono ?_)); rintro e w1 ⟨rfl, rfl⟩))
     go_ret3;exact ⟨rfl, Below.refl _ _⟩
 · have hI : isM s = false := decide_eq_false (fun h => h1 h.1);have hN : mN s = 0 := by unfold mN; rw [if_neg (by simp [hI])]
   have hT : mT s = ⟨#[]⟩ := by unfold mT; rw [if_neg (by simp [hI])]
   rw [hN, hT, hI];have h3 : ((s.size : Int) != 64) = true := by rw [bne_iff_ne]; omega
   clear hI hN hT hmn h1;generalize gb s 0 = B0 at *
   generalize gb s 56 = B1 at *
   generalize gv s 0 = V0 at *
   generalize gv s 56 = V1 at *
   go_enter Tryz.func230, Tryz.ntmps230;go_wp2_with (first
     | (go_at_call 160; (first | (with_reducible refine (HG0.out _).mono ?_) | (with_reducible refine (HG56.out _).mono ?_)); rintro e w1 ⟨rfl, rfl⟩))
   go_ret3;exact ⟨rfl, Below.refl _ _⟩
def bK (a b : ByteArray) : Int := if isM a && (!isM b || decide (mN b <= mN a)) then 0 else if isM b then 1 else -1
def bN_ (a b : ByteArray) : Nat := if bK a b = 0 then mN a else if bK a b = 1 then mN b else 0
def bT (a b : ByteArray) : ByteArray := if bK a b = 0 then mT a else if bK a b = 1 then mT b else ⟨#[]⟩
theorem zLa (a b : ByteArray) (w : World) (ha : a.size <= 9223372036854775807) (hb : b.size <= 9223372036854775807) :
   Calls Tryz.prog 159 #[.string a, .string b] w fun e w' => e = .returned (.tuple #[.int .u64 (bN_ a b), .string (bT a b), .int .i64 (bK a b)]) /\ Below w.heap.size w w' := by
 have GA := Lh (fun w => Yo a w ha);have GB := Lh (fun w => Yo b w hb);have E := Lh (show (bN_ a b, bT a b, bK a b) = (if isM a && (!isM b || decide (mN b <= mN a)) then (mN a, mT a, 0) else if isM b then (mN b, mT b, 1) else (0, ⟨#[]⟩, -1)) by
   unfold bN_ bT bK;by_cases c : mN b <= mN a <;> cases isM a <;> cases isM b <;> simp [c])
 have ba := zAa a;have bb := zAa b;generalize bN_ a b = rn at *
 generalize bT a b = rt at *
 generalize bK a b = rk at *
 generalize mN a = na at *
 generalize mN b = nb at *
 generalize mT a = ta at *
 generalize mT b = tb at *
 generalize isM a = ia at *
 generalize isM b = ib at *
 have main : ∀ (t : Bool), t = decide (nb <= na) -> Calls Tryz.prog 159 #[.string a, .string b] w fun e w' => e = .returned (.tuple #[.int .u64 rn, .string rt, .int .i64 rk]) /\ Below w.heap.size w w' := by
   intro t ht;have E2 : (rn, rt, rk) = (if ia && (!ib || t) then (na, ta, 0) else if ib then (nb, tb, 1) else (0, ⟨#[]⟩, -1)) := by
     rw [E.out, ht]
   have ht' := ht.symm;clear ht E;cases ia <;> cases ib <;> cases t <;> simp only [Bool.not_true, Bool.not_false, Bool.or_true, Bool.or_false, Bool.and_true, Bool.and_false, if_true, if_false, Bool.false_eq_true, Prod.mk.injEq] at E2
   all_goals
     obtain ⟨rfl, rfl, rfl⟩ := E2;go_enter Tryz.func159, Tryz.ntmps159;go_wp2_with (go_at_call 230; (first | (with_reducible refine (GA.out _).mono ?_; rintro e w1 ⟨rfl, hb1⟩) | (with_reducible refine (GB.out _).mono ?_; rintro e w2 ⟨rfl, hb2⟩)))
     go_ret3;exact ⟨rfl, hb1.trans (hb2.mono hb1.size)⟩
 exact main _ rfl
end
section
theorem zL0 : (Tryz.prog.info? 9).map (fun i => (i.zero, i.size, i.bytes)) = some (some (.string ⟨#[]⟩), 1, 16) := by kernel_rfl
def vG (n : Nat) (g : Nat -> ByteArray) (j : Nat) : Array Value := ((List.range n).map fun i => .string (if i < j then g i else ⟨#[]⟩)).toArray
theorem Us (n : Nat) (g : Nat -> ByteArray) (j : Nat) : (vG n g j).size = n := by simp [vG]
theorem xK (n : Nat) (g : Nat -> ByteArray) (j i : Nat) (hi : i < n) : (vG n g j)[i]? = some (.string (if i < j then g i else ⟨#[]⟩)) := by simp [vG, hi]
theorem zHq (n : Nat) (g : Nat -> ByteArray) : madeCells #[Value.string ⟨#[]⟩] n = vG n g 0 := by
 apply Array.ext'
 rw [toList_madeCells_one];simp only [vG, Nat.not_lt_zero, if_false, List.map_const', List.length_range]
theorem Qp (n : Nat) (g : Nat -> ByteArray) (j : Nat) (hj : j < n) : (vG n g j).setIfInBounds j (.string (g j)) = vG n g (j + 1) := by
 apply Array.ext_getElem?
 intro i;by_cases hi : i < n
 · rw [Array.getElem?_setIfInBounds, xK n g (j + 1) i hi, xK n g j i hi, Us];by_cases h : j = i
   · subst h; simp [hj]
   · simp only [h, if_false];by_cases h1 : i < j
     · rw [if_pos h1, if_pos (by omega)]
     · rw [if_neg h1, if_neg (by omega)]
 · rw [Array.getElem?_eq_none (by simp [Us]; omega), Array.getElem?_eq_none (by simp [Us]; omega)]
theorem mM (n : Nat) (hn : n <= 1000000) (g : Nat -> ByteArray) (w : World) : (Instr.makeSlice 34 (.int .i64 (n : Int)) (.int .i64 (n : Int))).run Tryz.prog w = .ok (.slice (some ⟨w.heap.size, 0, none⟩) n n) (w.alloc (.cells (vG n g 0) 9)) := by
 have := run_make_row' (P := Tryz.prog) 34 9 (.string ⟨#[]⟩) 16 Tryz.underlying34 zL0 rfl .i64 .i64 n (by omega) (by omega) w;rw [zHq n g] at this;exact this
def yJ (w : World) (S : Nat -> Prop) (v : Value) (l : List ByteArray) : Prop :=
 ∃ a cap, v = .slice a l.length cap /\ l.length <= cap /\ cap <= maxLen /\ (∀ s ∈ l, s.size <= maxLen) /\
   (l = [] \/ ∃ b o, a = some ⟨b, o, none⟩ /\ S b /\ b < w.heap.size /\ ∀ i (h : i < l.length), w.cell? ⟨b, o + i, none⟩ = some (.string (l[i]'h)))
theorem yJ.mono {w : World} {S T : Nat -> Prop} {v : Value} {l : List ByteArray} (h : yJ w S v l) (k : ∀ b, b < w.heap.size -> S b -> T b) : yJ w T v l := by
 obtain ⟨a, cap, h1, h2, h3, h4, h5⟩ := h;refine ⟨a, cap, h1, h2, h3, h4, ?_⟩;rcases h5 with h5 | ⟨b, o, e, hS, hb, hc⟩
 · exact .inl h5
 · exact .inr ⟨b, o, e, k b hb hS, hb, hc⟩
theorem yJ.keep {w w' : World} {S T : Nat -> Prop} {v : Value} {l : List ByteArray} (h : yJ w S v l) (hc : Chg T w w') (k : ∀ b, b < w.heap.size -> S b -> ¬ T b) : yJ w' S v l := by
 obtain ⟨a, cap, h1, h2, h3, h4, h5⟩ := h;refine ⟨a, cap, h1, h2, h3, h4, ?_⟩;rcases h5 with h5 | ⟨b, o, e, hS, hb, hcl⟩
 · exact .inl h5
 · exact .inr ⟨b, o, e, hS, Nat.lt_of_lt_of_le hb hc.size, fun i hi => hc.cell (hcl i hi) (k b hb hS)⟩
theorem yJ.below {w w' : World} {S : Nat -> Prop} {v : Value} {l : List ByteArray} (h : yJ w S v l) (hb : Below w.heap.size w w') : yJ w' S v l := h.keep (Chg.of (S := fun _ => False) hb) fun _ _ _ => id
theorem yJ.nil (w : World) (S : Nat -> Prop) : yJ w S (.slice none 0 0) [] := ⟨none, 0, rfl, Nat.le_refl _, Nat.zero_le _, by simp, .inl rfl⟩
theorem yJ.row {w : World} {S : Nat -> Prop} {b n : Nat} {g : Nat -> ByteArray} (ho : Own w b 9 (vG n g n)) (hn : n <= maxLen) (hg : ∀ i, i < n -> (g i).size <= maxLen) (hS : S b) : yJ w S (.slice (some ⟨b, 0, none⟩) n n) ((List.range n).map g) := by
 refine ⟨some ⟨b, 0, none⟩, n, by simp, by simp, hn, ?_, ?_⟩
 · intro s hs;obtain ⟨i, hi, rfl⟩ := List.mem_map.1 hs;exact hg i (List.mem_range.1 hi)
 · refine .inr ⟨b, 0, rfl, hS, ho.in_, fun i hi => ?_⟩;have hi' : i < n := by simpa using hi
   have := ho.at_.1 i;rw [xK n g n i hi', if_pos hi'] at this;rw [Nat.zero_add, this];simp
theorem yJ.open_ {w : World} {S : Nat -> Prop} {v : Value} {l : List ByteArray} (h : yJ w S v l) : ∃ a cap, v = .slice a l.length cap /\ l.length <= cap /\ cap <= maxLen /\ (∀ i (hi : i < l.length), (l[i]'hi).size <= maxLen /\ ∃ b o, a = some ⟨b, o, none⟩ /\ S b /\ b < w.heap.size /\ w.cell? ⟨b, o + i, none⟩ = some (.string (l[i]'hi))) := by
 obtain ⟨a, cap, h1, h2, h3, h4, h5⟩ := h;refine ⟨a, cap, h1, h2, h3, fun i hi => ⟨h4 _ (List.getElem_mem hi), ?_⟩⟩;rcases h5 with h5 | ⟨b, o, e, hS, hb, hcl⟩
 · subst h5; simp at hi
 · exact ⟨b, o, e, hS, hb, hcl i hi⟩
end
section
theorem zLo (k : Nat) (w : World) (hk : k <= 1000) :
   Calls Tryz.prog 69 #[.string ⟨#[0]⟩, .int .i64 k] w fun e w' => e = .returned (.string (zB k)) /\ Below w.heap.size w w' := by
 have h := Tryz.strings_Repeat ⟨#[0]⟩ k w (by omega) (by show 1 * k <= _; omega);rw [show Lib.repeatL (⟨#[0]⟩ : ByteArray).data.toList k = List.replicate k 0 from zGo k] at h;exact h
theorem zA7 (n : Nat) (w : World) (hn : n <= 1000000000000) :
   Calls Tryz.prog 237 #[.int .i64 n] w fun e w' => e = .returned (.int .i64 (1 + 9 * n : Nat)) /\ w = w' := by
 go_enter Tryz.func237, Tryz.ntmps237;go_wp2;go_ret;exact ⟨jK (by omega), rfl⟩
theorem zFy (seq n : Nat) (w : World) (hs : seq <= 18446744073709551615) (hn : n <= 65535) :
   Calls Tryz.prog 280 #[.int .u64 seq, .int .i64 n] w fun e w' => e = .returned (.string (yN seq n)) /\ Below w.heap.size w w' := by
 have HP := Lh (fun w => vX n 2 w (by omega) (by omega));have HM := Lh (fun w => zD7 seq (Vc n) w hs (by rw [gG]; omega));have HE : ((⟨(zV n 2).toArray⟩ : ByteArray) ++ ⟨#[1]⟩) = Vc n := rfl;have HQ : mkB seq (Vc n) = yN seq n := rfl;rw [HQ] at HM;have z : (⟨(zV n 2).toArray⟩ : ByteArray).size <= 2 := by show (zV n 2).toArray.size <= 2; simp [zV]
 have hw : IntKind.u64.wrap (n : Int) = n := IntWalk.u64_in _ (by omega);clear HQ;generalize (⟨(zV n 2).toArray⟩ : ByteArray) = P at *
 generalize yN seq n = M at *
 generalize Vc n = C at *
 go_enter Tryz.func280, Tryz.ntmps280;go_wp2_with (first | (go_at_call 148; refine (HP.out _).mono ?_; rintro e w1 ⟨rfl, rfl⟩) | (go_at_call 155; refine (HM.out _).mono ?_; rintro e w2 ⟨rfl, hb⟩))
 go_ret;exact ⟨rfl, ((Below.refl _ _).alloc (Nat.le_refl _) _).trans (hb.mono (by simp))⟩
set_option maxRecDepth 10000 in
theorem Yi (p : ByteArray) (w : World) (hp : p.size <= 567) :
   Calls Tryz.prog 282 #[.string p] w fun e w' => ∃ b, e = .returned (.slice (some ⟨b, 0, none⟩) 9 9) /\ Own w' b 9 (vG 9 (secB p) 9) /\ w.heap.size <= b /\ Below w.heap.size w w' := by
 have HR := Lh (fun w => zLo (567 - p.size) w (by omega));have e1 : ((567 - p.size : Nat) : Int) = 567 - (p.size : Int) := by omega
 rw [e1] at HR;clear e1;have HE := Lh (show p ++ zB (567 - p.size) = Jb p from rfl);have hz := Ji p hp;have hZ : (zB (567 - p.size)).size <= 567 := by rw [xG]; omega
 have HS := Lh (fun k => show secB p k = zHs ((Jb p).extract (k * 63) ((k + 1) * 63)) from rfl);generalize zB (567 - p.size) = Z at *
 generalize Jb p = R at *
 have hz := Lh hz;go_enter Tryz.func282, Tryz.ntmps282;go_upto_region 2 with (go_at_call 69; with_reducible refine (HR.out _).mono ?_; rintro e w1 ⟨rfl, hb1⟩)
 have HM : (Instr.makeSlice 34 (.int .i64 9) (.int .i64 9)).run Tryz.prog w1 = .ok (.slice (some ⟨w1.heap.size, 0, none⟩) 9 9) (w1.alloc (.cells (vG 9 (secB p) 0) 9)) := mM 9 (by omega) (secB p) w1;have HO := Own.made w1 9 (vG 9 (secB p) 0);obtain ⟨W0, hW0⟩ : ∃ W0, W0 = w1.alloc (.cells (vG 9 (secB p) 0) 9) := ⟨_, rfl⟩
 have L0 : Below w.heap.size w W0 := hW0 ▸ hb1.alloc hb1.size _;have z1 := hb1.size;rw [<- hW0] at HM HO;replace HO := Lh HO;replace L0 := Lh L0;clear hW0;rw [HE.out];go_wp2;clear HM;go_loopw [16] (fun i wr => ∃ k : Nat, k <= 9 /\ i = .int .i64 k /\ Own wr w1.heap.size 9 (vG 9 (secB p) k) /\ Below w.heap.size w wr) (fun i wr => 9 - (intOf i).toNat)
 case atStart => exact ⟨0, by omega, rfl, HO.out, L0.out⟩
 case round =>
   obtain ⟨k, hk, rfl, hO, hL⟩ := hrel;by_cases hlt : k < 9
   · have hs := hz.out;obtain ⟨A, hA⟩ : ∃ A : Int, (k : Int) * 63 = A := ⟨_, rfl⟩
     obtain ⟨B, hB⟩ : ∃ B : Int, ((k : Int) + 1) * 63 = B := ⟨_, rfl⟩
     have hsl := run_slice_string (P := Tryz.prog) wr 9 R .i64 .i64 A B Tryz.underlying9 (by omega) (by omega) (by omega);have e1 : R.extract A.toNat B.toNat = R.extract (k * 63) ((k + 1) * 63) := by rw [show A.toNat = k * 63 by omega, show B.toNat = (k + 1) * 63 by omega]
     rw [e1] at hsl;have zX : (R.extract (k * 63) ((k + 1) * 63)).size = 63 := by rw [ByteArray.size_extract]; omega
     have hX := HS.out k;obtain ⟨X, hXe⟩ : ∃ X, X = R.extract (k * 63) ((k + 1) * 63) := ⟨_, rfl⟩
     rw [<- hXe] at hsl zX hX;have zXh := Lh zX;have HX := Lh hX;have hsz := hL.size;obtain ⟨c1, c2, c3⟩ := hO.at_;have hck : wr.cell? ⟨w1.heap.size, k, none⟩ = some (.string ⟨#[]⟩) := by
       rw [c1 k, xK 9 _ k k hlt, if_neg (by omega)]
     have hfk := c2 k;replace hO := Lh hO;replace hL := Lh hL;clear hs e1 hXe hX c1 c2;have x1 : (10 : Int) <= X.size := by omega
     have x2 : ¬ (9223372036854775807 < min 10 X.size + 1) := by omega
     have x3 : ¬ (9223372036854775807 < min 10 X.size + 1 + (X.size - 10)) := by omega
     have x4 : (k : Int) < 9 := by omega
     clear zX;go_upto_region 7 with fail;refine zA (fun W => True) (0 :: 1 :: 2 :: 3 :: 4 :: 5 :: 6 :: 7 :: 8 :: []) ([]) (0 :: 1 :: 2 :: 3 :: 4 :: 5 :: 6 :: 7 :: 8 :: 9 :: []) (by kernel_rfl) (by kernel_rfl) rfl (by kernel_rfl) rfl (trivial) (by simp only [zU, List.filterMap_cons, List.filterMap_nil, List.getElem?_cons_zero, List.getElem?_cons_succ, Option.map_some]; exact rfl) ?_;iterate 9
       refine zC (v := ?_) rfl rfl (fun W hS => ?_) ?_;rotate_left
       · conv => lhs; simp [go_sem, x1, x2, x3, x4]
         first | done | exact rfl
       simp only [Act.put, lA, lZ, lS]
     refine gI rfl rfl (by kernel_rfl) rfl fun K hK => ?_
     go_wp2;refine hK _ _ ?_;clear hK K;refine zR ?_;go_wp2;go_roundw
     case rel =>
       have e : (X.extract 0 10 ++ (⟨#[0]⟩ : ByteArray) ++ X.extract 10 X.size) = secB p k := HX.out.symm;refine ⟨k + 1, by omega, by go_num, ?_, hL.out.drew.setCell z1 _⟩;have := hO.out.drawn.put k (.string (secB p k));rw [Qp 9 (secB p) k hlt, <- e] at this;exact this
     case measure => simp [intOf]; omega
   · obtain rfl : k = 9 := by omega
     go_wp2;go_ret;exact ⟨_, rfl, hO, z1, hL⟩
end
end Go.Proofs.YthijgebmoadgkaaGreatDoor
