import Derived.Test.YthijgebmoadgkaaGreatDoorRows
import Derived.WalkKit
import Derived.ProofKit
import Derived.OpenShut
import Derived.Lib.Hide
import Derived.PlainAid
import Derived.WalkLawsBesides
import Derived.Test.YthijgebmoadgkaaGreatDoorShelf
import Derived.Below
import Derived.Lib.BitFns
import Derived.Laws.BitsAllLaws
import Derived.Laws.Bits64b
import Derived.RowKit
import Derived.Laws.IdiomStrings
import Derived.BigQuiet
import Derived.Deep.QuietTactic
set_option linter.unusedVariables false
set_option linter.unusedSimpArgs false
section
namespace Go.Proofs.YthijgebmoadgkaaGreatDoor
open Go.ChangeShapes Go.WideShapes Go.ChangeAt Go.RowKit
theorem Lh {p : Prop} (h : p) : Go.RowKit.Hid p := h
theorem lA {α : Type _} (l : List α) (i : Nat) (a : α) : l.toArray.setIfInBounds i a = (l.set i a).toArray := List.setIfInBounds_toArray l i a
theorem lZ {α : Type _} {x : α} {xs : List α} {a : α} : (x :: xs).set 0 a = a :: xs := rfl
theorem lS {α : Type _} {x : α} {xs : List α} {i : Nat} {a : α} : (x :: xs).set (i + 1) a = x :: xs.set i a := rfl
theorem jK {k : IntKind} {a b : Int} (h : a = b) : Ending.returned (.int k a) = .returned (.int k b) := by rw [h]
theorem xP {a b : Bool} (h : a = b) : Ending.returned (.bool a) = .returned (.bool b) := by rw [h]
theorem zA8 {a b : ByteArray} (h : a ≠ b) : (a.toList == b.toList) = false := by
 rw [beq_eq_false_iff_ne, ByteArray.toList_eq, ByteArray.toList_eq];exact fun e => h (Go.WideShapes.bytes_inj e)
theorem Qq {w : World} {b o : Nat} {v : Value} (h : w.cell? ⟨b, o, none⟩ = some v) : b < w.heap.size := by
 unfold World.cell? at h;by_cases hb : b < w.heap.size
 · exact hb
 · have : w.heap[b]? = none := by simp; omega
   simp [this] at h
end Go.Proofs.YthijgebmoadgkaaGreatDoor
end
section
namespace Go.Proofs.YthijgebmoadgkaaGreatDoor
open Go.ChangeShapes Go.WideShapes Go.ChangeAt Go.RowKit
end Go.Proofs.YthijgebmoadgkaaGreatDoor
end
section
namespace Go.Proofs.YthijgebmoadgkaaGreatDoor
open Go.ChangeShapes Go.WideShapes Go.ChangeAt Go.RowKit
theorem uG (s : ByteArray) (w : World) (hs : s.size <= 281474976710656) :
   Calls Tryz.prog 224 #[.string s] w fun e w' => e = .returned (.string s) /\ Below w.heap.size w w' := by
 go_enter Tryz.func224, Tryz.ntmps224;go_wp2_with (go_at_call 271; refine (Tryz.stringslite_Clone s w (by omega)).mono ?_; rintro e w' ⟨rfl, hb⟩)
 go_ret;exact ⟨rfl, hb⟩
end Go.Proofs.YthijgebmoadgkaaGreatDoor
end
section
namespace Go.Proofs.YthijgebmoadgkaaGreatDoor
end Go.Proofs.YthijgebmoadgkaaGreatDoor
end
section
namespace Go.Proofs.YthijgebmoadgkaaGreatDoor
open Go.ChangeShapes Go.WideShapes Go.ChangeAt Go.RowKit
theorem gS (x : Int) (w : World) (h0 : 0 <= x) (h1 : x <= 8) :
   Calls Tryz.prog 226 #[.int .i64 x] w fun e w' => e = .returned (.bool true) /\ w = w' := by
 go_enter Tryz.func226, Tryz.ntmps226;go_wp2;go_ret;exact ⟨rfl, rfl⟩
theorem zGv (x : Int) (w : World) (h0 : x < 0 \/ 8 < x) :
   Calls Tryz.prog 226 #[.int .i64 x] w fun e w' => e = .returned (.bool false) /\ w = w' := by
 rcases h0 with h | h
 · go_enter Tryz.func226, Tryz.ntmps226;go_wp2;go_ret;exact ⟨rfl, rfl⟩
 · have h0 : 0 <= x := by omega
   have h8 : decide (x <= 8) = false := by simpa using h
   go_enter Tryz.func226, Tryz.ntmps226;go_wp2;go_ret;exact ⟨rfl, rfl⟩
end Go.Proofs.YthijgebmoadgkaaGreatDoor
end
section
namespace Go.Proofs.YthijgebmoadgkaaGreatDoor
open Go.ChangeShapes Go.WideShapes Go.ChangeAt Go.RowKit
structure xB (w : World) (b : Nat) (L : List UInt8) : Prop where
 cell : ∀ j (h : j < L.length), w.cell? ⟨b, j, none⟩ = some (.int .u8 ((L[j]'h).toNat : Int))
 free : ∀ j, j < L.length -> w.frozen? ⟨b, j, none⟩ = false
theorem xB.store {w : World} {b : Nat} {L : List UInt8} (h : xB w b L) (i : Nat) (hi : i < L.length) (v : UInt8) : xB (w.setCell ⟨b, i, none⟩ (.int .u8 (v.toNat : Int))) b (L.set i v) := by
 refine ⟨fun j hj => ?_, fun j hj => ?_⟩
 · rw [List.length_set] at hj;by_cases hij : i = j
   · subst hij;rw [List.getElem_set_self];exact World.cell?_setCell_same w _ _ (h.cell i hi)
   · rw [List.getElem_set_ne hij, World.cell?_setCell_other _ _ _ _ (by intro e; injection e with _ e2; exact hij e2)];exact h.cell j hj
 · rw [List.length_set] at hj;rw [World.frozen?_setCell]; exact h.free j hj
theorem zJz (P : Program) (w : World) (src dst e : TypeId) (b cap : Nat) (L : List UInt8) (h : xB w b L) (hs : P.underlying src = some (.slice e)) (he : P.underlying e = some (.int .u8)) (hd : P.underlying dst = some .string) :
   (convert src dst (.slice (some ⟨b, 0, none⟩) L.length cap)).run P w = .ok (.string ⟨L.toArray⟩) w :=
 run_convert_bytes_back (P := P) w src dst e ⟨b, 0, none⟩ cap L hs he hd (fun j hj => by
   have ea : (⟨b, 0, none⟩ : Addr).add j = ⟨b, j, none⟩ := by unfold Addr.add; split <;> simp_all
   rw [ea]; exact h.cell j hj)
end Go.Proofs.YthijgebmoadgkaaGreatDoor
end
section
namespace Go.Proofs.YthijgebmoadgkaaGreatDoor
open Go.ChangeShapes Go.WideShapes Go.ChangeAt Go.RowKit
def bN (s : ByteArray) (i : Nat) : Nat := if h : i < s.size then (s[i]'h).toNat else 0
theorem qF (s : ByteArray) (i : Nat) (h : i < s.size) : bN s i = (s[i]'h).toNat := by unfold bN; rw [dif_pos h]
theorem zDt (s : ByteArray) (i : Nat) : bN s i < 256 := by
 unfold bN; split
 · exact UInt8.toNat_lt _
 · omega
def zT (s : ByteArray) (p : Nat) : Nat -> Nat
 | 0 => 0
 | k + 1 => zT s p k + bN s (p + k) * 2 ^ (8 * k)
theorem vW (s : ByteArray) (p k : Nat) : zT s p k < 2 ^ (8 * k) := by
 induction k with
 | zero => simp [zT]
 | succ k ih =>
   have hb := zDt s (p + k);have e : (2 : Nat) ^ (8 * (k + 1)) = 256 * 2 ^ (8 * k) := by rw [show 8 * (k + 1) = 8 * k + 8 by omega, Nat.pow_add]; omega
   have h1 : bN s (p + k) * 2 ^ (8 * k) <= 255 * 2 ^ (8 * k) := Nat.mul_le_mul_right _ (by omega);unfold zT;omega
theorem gP (s : ByteArray) (p k : Nat) (hk : k <= 8) : zT s p k < 18446744073709551616 := by
 have h1 := vW s p k;have h2 : (2 : Nat) ^ (8 * k) <= 2 ^ 64 := Nat.pow_le_pow_right (by omega) (by omega);omega
theorem zI6 (s : ByteArray) (p j : Nat) (hj : j < 8) (h : p + j < s.size) :
   bits .or .u64 (zT s p j : Nat) (IntKind.u64.wrap (IntKind.u64.wrap ((s[p + j]'h).toNat : Nat) * 2 ^ (8 * j))) = (zT s p (j + 1) : Nat) := by
 rw [<- qF s (p + j) h];have hb := zDt s (p + j);have ht := gP s p (j + 1) (by omega);have hu : zT s p (j + 1) = zT s p j + bN s (p + j) * 2 ^ (8 * j) := rfl;have hl := vW s p j;have e1 : IntKind.u64.wrap ((bN s (p + j) : Nat) : Int) = (bN s (p + j) : Nat) := IntWalk.u64_in _ (by omega);have e2 : ((bN s (p + j) : Nat) : Int) * 2 ^ (8 * j) = ((bN s (p + j) * 2 ^ (8 * j) : Nat) : Int) := by push_cast; rfl
 rw [e1, e2, IntWalk.u64_in _ (by omega)];refine (u64_or_nat _ _ (by omega) (by omega)).trans ?_;rw [hu, Nat.or_comm, nat_join (8 * j) _ _ (Nat.mul_mod_left _ _) hl, Nat.add_comm]
theorem zB5 (s : ByteArray) (p k : Int) (w : World) (hs : s.size <= 9223372036854775807) (hp0 : -9223372036854775808 <= p) (hp1 : p <= 9223372036854775807) (hk0 : -9223372036854775808 <= k) (hk1 : k <= 9223372036854775807)
   (h : ¬ (0 <= k /\ k <= 8 /\ 0 <= p /\ p <= s.size - k)) :
   Calls Tryz.prog 160 #[.string s, .int .i64 p, .int .i64 k] w fun e w' => e = .returned (.tuple #[.int .u64 0, .bool false]) /\ w = w' := by
 by_cases h1 : k < 0 \/ 8 < k
 · clear h;have H := Lib.hid h1; clear h1;go_enter Tryz.func160, Tryz.ntmps160;go_wp2_with (go_at_call 226; refine (zGv _ _ H.out).mono ?_; rintro e w' ⟨rfl, rfl⟩)
   go_ret2;exact ⟨rfl, rfl⟩
 · have k0 : 0 <= k := by omega
   have k8 : k <= 8 := by omega
   by_cases h2 : p < 0
   · clear h h1;go_enter Tryz.func160, Tryz.ntmps160;go_wp2_with (go_at_call 226; refine (gS _ _ (by omega) (by omega)).mono ?_; rintro e w' ⟨rfl, rfl⟩)
     go_ret2;exact ⟨rfl, rfl⟩
   · have h3 : (s.size : Int) - k < p := by omega
     have h4 : 0 <= p := by omega
     clear h h1 h2;go_enter Tryz.func160, Tryz.ntmps160;go_wp2_with (go_at_call 226; refine (gS _ _ (by omega) (by omega)).mono ?_; rintro e w' ⟨rfl, rfl⟩)
     go_ret2;exact ⟨rfl, rfl⟩
theorem jE (s : ByteArray) (p k : Nat) (w : World) (hs : s.size <= 9223372036854775807) (hk : k <= 8) (hp : p + k <= s.size) :
   Calls Tryz.prog 160 #[.string s, .int .i64 p, .int .i64 k] w fun e w' => e = .returned (.tuple #[.int .u64 (zT s p k), .bool true]) /\ w = w' := by
 have h5 : (p : Int) <= (s.size : Int) - (k : Int) := by omega
 go_enter Tryz.func160, Tryz.ntmps160;go_wp2_with (go_at_call 226; refine (gS _ _ (by omega) (by omega)).mono ?_; rintro e w' ⟨rfl, rfl⟩)
 go_loop [8, 9, 26] (fun n _ i => ∃ j : Nat, j <= k /\ i = .int .i64 j /\ n = .int .u64 (zT s p j)) (fun _ _ i => k - (intOf i).toNat)
 case atStart => exact ⟨0, by omega, rfl, rfl⟩
 case round =>
   obtain ⟨j, hj, rfl, rfl⟩ := hrel;by_cases hlt : j < k
   · have hps : p + j < s.size := by omega
     have H := Lib.hid (zI6 s p j (by omega) hps);go_wp2;go_round
     case rel => exact ⟨j + 1, by omega, by go_num, by rw [H.out]⟩
     case measure => simp [intOf]; omega
   · go_wp2;go_ret2;exact ⟨by rw [show j = k by omega]; rfl, rfl⟩
end Go.Proofs.YthijgebmoadgkaaGreatDoor
end
section
namespace Go.Proofs.YthijgebmoadgkaaGreatDoor
def stp (r : Nat) : Nat := if r % 2 = 1 then (r / 2) ^^^ 3988292384 else r / 2
def uL : Nat -> Nat -> Nat
 | 0, r => r
 | k + 1, r => uL k (stp r)
theorem zMg (a b : Nat) : stp (a ^^^ b) = stp a ^^^ stp b := by
 unfold stp;have h1 : (a ^^^ b) % 2 = 1 ↔ ¬(a % 2 = 1 ↔ b % 2 = 1) := by
   have ha := Nat.testBit_zero a;have hb := Nat.testBit_zero b;have hab := Nat.testBit_zero (a ^^^ b);rw [Nat.testBit_xor, ha, hb] at hab;by_cases x : a % 2 = 1 <;> by_cases y : b % 2 = 1 <;> simp [x, y] at hab ⊢ <;> omega
 have h2 : (a ^^^ b) / 2 = (a / 2) ^^^ (b / 2) := by
   apply Nat.eq_of_testBit_eq
   intro i;simp [Nat.testBit_div_two, Nat.testBit_xor]
 rw [h2];by_cases x : a % 2 = 1 <;> by_cases y : b % 2 = 1
 · rw [if_pos x, if_pos y, if_neg (by rw [h1]; simp [x, y])];apply Nat.eq_of_testBit_eq; intro i; simp only [Nat.testBit_xor]; cases (a / 2).testBit i <;> cases (b / 2).testBit i <;> simp
 · rw [if_pos x, if_neg y, if_pos (by rw [h1]; simp [x, y])];apply Nat.eq_of_testBit_eq; intro i; simp only [Nat.testBit_xor]; cases (a / 2).testBit i <;> cases (b / 2).testBit i <;> simp
 · rw [if_neg x, if_pos y, if_pos (by rw [h1]; simp [x, y])];apply Nat.eq_of_testBit_eq; intro i; simp only [Nat.testBit_xor]; cases (a / 2).testBit i <;> cases (b / 2).testBit i <;> simp
 · rw [if_neg x, if_neg y, if_neg (by rw [h1]; simp [x, y])]
theorem zCi (k a b : Nat) : uL k (a ^^^ b) = uL k a ^^^ uL k b := by
 induction k generalizing a b with
 | zero => rfl
 | succ k ih => unfold uL; rw [zMg, ih]
theorem zB9 (j k r : Nat) : uL (j + k) r = uL k (uL j r) := by
 induction j generalizing r with
 | zero => simp [uL]
 | succ j ih => rw [show j + 1 + k = (j + k) + 1 by omega]; exact ih (stp r)
theorem zEe (r : Nat) (h : r < 4294967296) : stp r < 4294967296 := by
 unfold stp;split
 · exact Nat.xor_lt_two_pow (n := 32) (by omega) (by omega)
 · omega
theorem zL3 (k r : Nat) (h : r < 4294967296) : uL k r < 4294967296 := by
 induction k generalizing r with
 | zero => exact h
 | succ k ih => unfold uL; exact ih _ (zEe r h)
theorem zN0 (r : Nat) (h : r < 4294967296) (h0 : r ≠ 0) : stp r ≠ 0 := by
 unfold stp;split
 · intro hx;have : r / 2 = 3988292384 := by
     have e : (r / 2 ^^^ 3988292384) ^^^ 3988292384 = 0 ^^^ 3988292384 := by rw [hx]
     rw [Nat.xor_assoc, Nat.xor_self, Nat.xor_zero, Nat.zero_xor] at e;exact e
   omega
 · omega
theorem zLt (k r : Nat) (h : r < 4294967296) (h0 : r ≠ 0) : uL k r ≠ 0 := by
 induction k generalizing r with
 | zero => exact h0
 | succ k ih => unfold uL; exact ih _ (zEe r h) (zN0 r h h0)
theorem zMj (x : Nat) : stp (2 * x) = x := by unfold stp; rw [if_neg (by omega)]; omega
theorem Yp (k x : Nat) : uL k (2 ^ k * x) = x := by
 induction k generalizing x with
 | zero => simp [uL]
 | succ k ih => unfold uL; rw [Nat.pow_succ, Nat.mul_comm (2 ^ k) 2, Nat.mul_assoc, zMj, ih]
def num : List UInt8 -> Nat
 | [] => 0
 | b :: l => b.toNat + 256 * num l
theorem zEi (l m : List UInt8) : num (l ++ m) = num l + 256 ^ l.length * num m := by
 induction l with
 | nil => simp [num]
 | cons b l ih =>
   simp only [num, List.cons_append, List.length_cons, Nat.pow_succ, ih, Nat.mul_add];rw [<- Nat.mul_assoc, Nat.mul_comm 256 (256 ^ l.length)];omega
theorem zMz (a b k : Nat) (h : a < 2 ^ k) : a + 2 ^ k * b = a ^^^ (2 ^ k * b) := by
 rw [Nat.add_comm, Nat.two_pow_add_eq_or_of_lt h];apply Nat.eq_of_testBit_eq
 intro i;simp only [Nat.testBit_or, Nat.testBit_xor, Nat.testBit_two_pow_mul];by_cases hi : k <= i
 · have : a.testBit i = false := Nat.testBit_lt_two_pow (Nat.lt_of_lt_of_le h (Nat.pow_le_pow_right (by omega) hi));simp [this]
 · simp [hi]
def fE (r : Nat) (l : List UInt8) : Nat := l.foldl (fun r b => uL 8 (r ^^^ b.toNat)) r
theorem zCs (r : Nat) (l m : List UInt8) : fE r (l ++ m) = fE (fE r l) m := by unfold fE; rw [List.foldl_append]
theorem zHh (r : Nat) (l : List UInt8) (b : UInt8) : fE r (l ++ [b]) = uL 8 (fE r l ^^^ b.toNat) := by rw [zCs]; rfl
theorem zF6 (r : Nat) (l : List UInt8) (h : r < 4294967296) : fE r l < 4294967296 := by
 induction l generalizing r with
 | nil => exact h
 | cons b l ih => exact ih _ (zL3 8 _ (Nat.xor_lt_two_pow (n := 32) h (by have := b.toNat_lt; omega)))
theorem zC2 (r : Nat) (l : List UInt8) : fE r l = uL (8 * l.length) (r ^^^ num l) := by
 induction l generalizing r with
 | nil => simp [fE, num, uL]
 | cons b l ih =>
   show fE (uL 8 (r ^^^ b.toNat)) l = _
   rw [ih];have hb : b.toNat < 2 ^ 8 := b.toNat_lt;have e : num (b :: l) = b.toNat ^^^ (2 ^ 8 * num l) := by rw [<- zMz _ _ _ hb]; rfl
   rw [e, List.length_cons, show 8 * (l.length + 1) = 8 + 8 * l.length by omega, zB9, <- Nat.xor_assoc, zCi 8 (r ^^^ b.toNat), Yp]
def Jx (l : List UInt8) : Nat := 4294967295 - fE 4294967295 l
theorem zB0 (l : List UInt8) : Jx l < 4294967296 := by unfold Jx; omega
theorem zL2 (a : Nat) (h : a < 4294967296) : 4294967295 - a = a ^^^ 4294967295 := by
 have h1 : (BitVec.ofNat 32 a ^^^ BitVec.allOnes 32).toNat = a ^^^ 4294967295 := by
   rw [BitVec.toNat_xor, BitVec.toNat_ofNat, BitVec.toNat_allOnes, Nat.mod_eq_of_lt h]
 rw [<- h1, BitVec.xor_allOnes, BitVec.toNat_not, BitVec.toNat_ofNat, Nat.mod_eq_of_lt h]
theorem turned (l m : List UInt8) (at_ x : Nat) (hl : m.length = l.length) (hx : x < 4294967296) (h0 : x ≠ 0) (ha : at_ <= 8 * l.length) (hn : num m = num l ^^^ (2 ^ at_ * x)) : fE 4294967295 m ≠ fE 4294967295 l := by
 rw [zC2, zC2, hl, hn, <- Nat.xor_assoc, zCi, show 8 * l.length = at_ + (8 * l.length - at_) by omega];rw [zB9 at_ _ (2 ^ at_ * x), Yp];intro h;have h1 := zLt (8 * l.length - at_) x hx h0;apply h1
 generalize uL (8 * l.length - at_) x = y at *
 generalize uL (at_ + (8 * l.length - at_)) (4294967295 ^^^ num l) = z at *
 have e : z ^^^ (z ^^^ y) = z ^^^ z := by rw [h]
 rw [<- Nat.xor_assoc, Nat.xor_self, Nat.zero_xor] at e;exact e
end Go.Proofs.YthijgebmoadgkaaGreatDoor
end
section
namespace Go.Proofs.YthijgebmoadgkaaGreatDoor
open Go.ChangeShapes Go.WideShapes Go.ChangeAt Go.RowKit
theorem zIh (y : Nat) (hy : y < 4294967296) :
   bits BinOp.xor IntKind.u32 ((y : Int) / 2) (bits BinOp.and IntKind.u32 (-bits BinOp.and IntKind.u32 (y : Int) 1 % 4294967296) 3988292384) = (stp y : Nat) := by
 have ha : bits .and .u32 (y : Int) 1 = ((y % 2 : Nat) : Int) := by
   refine (u32_and_nat y 1 hy (by omega)).trans ?_;rw [Nat.and_one_is_mod]
 have hd : (y : Int) / 2 = ((y / 2 : Nat) : Int) := by omega
 rw [ha, hd];unfold stp;by_cases h : y % 2 = 1
 · rw [if_pos h, h];have e : (-((1 : Nat) : Int) % 4294967296) = ((4294967295 : Nat) : Int) := by decide
   rw [e];have hf : bits .and .u32 ((4294967295 : Nat) : Int) 3988292384 = ((3988292384 : Nat) : Int) :=
     (u32_and_nat 4294967295 3988292384 (by omega) (by omega)).trans (by decide +kernel)
   rw [hf];exact u32_xor_nat _ _ (by omega) (by omega)
 · have h0 : y % 2 = 0 := by omega
   rw [if_neg h, h0];have e : (-((0 : Nat) : Int) % 4294967296) = ((0 : Nat) : Int) := by decide
   rw [e];have hf : bits .and .u32 ((0 : Nat) : Int) 3988292384 = ((0 : Nat) : Int) :=
     (u32_and_nat 0 3988292384 (by omega) (by omega)).trans (by rw [Nat.zero_and])
   rw [hf];refine (u32_xor_nat _ _ (by omega) (by omega)).trans ?_;rw [Nat.xor_zero]
theorem zJa (r b : Nat) (w : World) (hr : r < 4294967296) (hb : b < 256) :
   Calls Tryz.prog 315 #[.int .u32 r, .int .u8 b] w fun e w' => e = .returned (.int .u32 (uL 8 (r ^^^ b) : Nat)) /\ w = w' := by
 have hx : r ^^^ b < 4294967296 := Nat.xor_lt_two_pow (n := 32) hr (by omega);have H0 := Lib.hid (u32_xor_nat r b hr (by omega));go_enter Tryz.func315, Tryz.ntmps315;go_wp2;go_loop [0, 5, 10] (fun x o i => ∃ j y : Nat, j <= 8 /\ i = .int .i64 j /\ x = .int .u32 (y : Nat) /\ y < 4294967296 /\ uL (8 - j) y = uL 8 (r ^^^ b)) (fun _ _ i => 8 - (intOf i).toNat)
 case atStart => exact ⟨0, r ^^^ b, by omega, rfl, by rw [H0.out], hx, rfl⟩
 case round =>
   obtain ⟨j, y, hj, rfl, rfl, hy, hs⟩ := hrel;by_cases hlt : j < 8
   · have hs' : uL (8 - (j + 1)) (stp y) = uL 8 (r ^^^ b) := by rw [<- hs, show 8 - j = (8 - (j + 1)) + 1 by omega]; rfl
     have HS := Lib.hid hs'; clear hs hs';have HT := Lib.hid (zIh y hy);go_wp2;go_round
     case rel => exact ⟨j + 1, stp y, by omega, by go_num, by rw [HT.out], zEe y hy, HS.out⟩
     case measure => simp [intOf]; omega
   · obtain rfl : j = 8 := by omega
     have hs' : y = uL 8 (r ^^^ b) := hs;have HS := Lib.hid hs'; clear hs hs';go_wp2;go_ret;exact ⟨jK (by rw [HS.out]), rfl⟩
def Strs (w : World) (a : Option Addr) (l : List ByteArray) : Prop := (l = []) \/ ∃ b off, a = some ⟨b, off, none⟩ /\ ∀ i (h : i < l.length), w.cell? ⟨b, off + i, none⟩ = some (.string (l[i]'h))
def cat (l : List ByteArray) : List UInt8 := l.flatMap (·.data.toList)
theorem zL8 (a : Option Addr) (n c : Nat) (l : List ByteArray) (w : World) (hl : l.length = n) (hn : n <= 9223372036854775807) (hs : ∀ s ∈ l, s.size <= 9223372036854775807) (hc : Strs w a l) :
   Calls Tryz.prog 272 #[.slice a n c] w fun e w' => e = .returned (.int .u32 (Jx (cat l) : Nat)) /\ w = w' := by
 subst hl;go_enter Tryz.func272, Tryz.ntmps272;go_wp2;go_loop [3, 5, 6, 9, 13, 14, 15] (fun r _ _ i _ _ _ => ∃ k : Nat, k <= l.length /\ i = .int .i64 k /\ r = .int .u32 (fE 4294967295 (cat (l.take k)) : Nat)) (fun _ _ _ i _ _ _ => l.length - (intOf i).toNat)
 case atStart => exact ⟨0, by omega, rfl, rfl⟩
 case round =>
   obtain ⟨k, hk, rfl, rfl⟩ := hrel;by_cases hlt : k < l.length
   · have hkl : k < l.length := hlt;obtain ⟨s, hsk⟩ : ∃ s, s = l[k] := ⟨_, rfl⟩
     have hsz : s.size <= 9223372036854775807 := hs s (by rw [hsk]; exact List.getElem_mem hkl);rcases hc with h0 | ⟨b, off, rfl, hc⟩
     · subst h0; simp at hkl
     have hcell : w.cell? ⟨b, off + k, none⟩ = some (.string s) := by rw [hsk]; exact hc k hkl
     clear hc hs;have HSK := Lib.hid hsk; clear hsk;go_wp2;go_loop [3, 6, 15] (fun r _ i => ∃ j : Nat, j <= s.size /\ i = .int .i64 j /\ r = .int .u32 (fE 4294967295 (cat (l.take k) ++ s.data.toList.take j) : Nat)) (fun _ _ i => s.size - (intOf i).toNat)
     case atStart => exact ⟨0, by omega, rfl, by simp⟩
     case round =>
       obtain ⟨j, hj, rfl, rfl⟩ := hrel;by_cases hjs : j < s.size
       · have hlt32 := zF6 4294967295 (cat (l.take k) ++ s.data.toList.take j) (by omega);have hb := (s[j]'hjs).toNat_lt;have HR := Lib.hid (show uL 8 (fE 4294967295 (cat (l.take k) ++ s.data.toList.take j) ^^^ (s[j]'hjs).toNat) = fE 4294967295 (cat (l.take k) ++ s.data.toList.take (j + 1)) by
           rw [<- zHh, List.append_assoc];congr 2
           rw [List.take_succ_eq_append_getElem (by simpa using hjs)]; rfl)
         go_wp2_with (go_at_call 315; refine (zJa _ _ _ hlt32 hb).mono ?_; rintro e w' ⟨rfl, rfl⟩)
         go_round
         case rel => exact ⟨j + 1, by omega, by go_num, by rw [HR.out]⟩
         case measure => simp [intOf]; omega
       · have HE := Lib.hid (show cat (l.take k) ++ s.data.toList.take j = cat (l.take (k + 1)) by
           have hjn : j = s.size := by omega
           have e1 : s.data.toList.take j = s.data.toList := by rw [List.take_of_length_le]; rw [hjn]; exact Nat.le_refl _
           rw [e1, List.take_succ_eq_append_getElem hkl, <- HSK.out];simp [cat])
         go_wp2;go_round
         case rel => exact ⟨k + 1, by omega, by go_num, by rw [HE.out]⟩
         case measure => simp [intOf]; omega
   · obtain rfl : k = l.length := by omega
     have hr := zF6 4294967295 (cat l) (by omega);have HX := Lib.hid (show bits BinOp.xor IntKind.u32 IntKind.u32.max (fE 4294967295 (cat l) : Nat) = (Jx (cat l) : Nat) by
       have em : IntKind.u32.max = ((4294967295 : Nat) : Int) := by decide
       unfold Jx;rw [zL2 _ hr, em, Nat.xor_comm];exact u32_xor_nat 4294967295 _ (by omega) hr)
     go_wp2;go_ret;exact ⟨jK (by simpa using HX.out), rfl⟩
end Go.Proofs.YthijgebmoadgkaaGreatDoor
end
section
namespace Go.Proofs.YthijgebmoadgkaaGreatDoor
open Go.ChangeShapes Go.WideShapes Go.ChangeAt Go.RowKit
def xV (n i : Nat) : UInt8 := UInt8.ofNat (n / 2 ^ (8 * i))
def zV (n k : Nat) : List UInt8 := (List.range k).map (xV n)
def mK (n j i : Nat) : Value := if i < j then .int .u8 ((xV n i).toNat : Nat) else .int .u8 0
def putCells (n j : Nat) : Array Value := ((List.range 8).map (mK n j)).toArray
theorem Zj (n : Nat) : putCells n 0 = #[.int .u8 0, .int .u8 0, .int .u8 0, .int .u8 0, .int .u8 0, .int .u8 0, .int .u8 0, .int .u8 0] := rfl
theorem qU (n j : Nat) : (putCells n j).size = 8 := by simp [putCells]
theorem jS (n j i : Nat) (hi : i < 8) : (putCells n j)[i]? = some (mK n j i) := by
 simp [putCells, hi]
theorem zA4 (n j : Nat) (hj : j < 8) : (putCells n j).setIfInBounds j (.int .u8 ((xV n j).toNat : Nat)) = putCells n (j + 1) := by
 apply Array.ext_getElem?
 intro i;by_cases hi : i < 8
 · rw [Array.getElem?_setIfInBounds, jS n (j + 1) i hi, jS n j i hi, qU];by_cases h : j = i
   · subst h; simp [hj, mK]
   · simp only [h, if_false, mK];congr 2
     simp; omega
 · rw [Array.getElem?_eq_none (by simp [qU]; omega), Array.getElem?_eq_none (by simp [qU]; omega)]
theorem zLb (n j : Nat) : (n : Int) / 2 ^ (8 * j) % 256 = ((xV n j).toNat : Nat) := by
 unfold xV;generalize 8 * j = m
 have e : (2 : Int) ^ m = ((2 ^ m : Nat) : Int) := by push_cast; rfl
 rw [e];generalize 2 ^ m = p
 rw [UInt8.toNat_ofNat'];omega
theorem vX (n k : Nat) (w : World) (hn : n <= 18446744073709551615) (hk : k <= 8) :
   Calls Tryz.prog 148 #[.int .u64 n, .int .i64 k] w fun e w' => e = .returned (.string ⟨(zV n k).toArray⟩) /\ w' = w.alloc (.cells (putCells n k) 310) := by
 go_enter Tryz.func148, Tryz.ntmps148;go_wp2_with (go_at_call 226; refine (gS _ _ (by omega) (by omega)).mono ?_; rintro e w' ⟨rfl, rfl⟩)
 go_loopw [6, 11] (fun _ i wr => ∃ j : Nat, j <= k /\ i = .int .i64 j /\ wr = w.alloc (.cells (putCells n j) 310)) (fun _ i _ => k - (intOf i).toNat)
 case atStart => exact ⟨0, by omega, rfl, by rw [Zj]⟩
 case round =>
   obtain ⟨j, hj, rfl, rfl⟩ := hrel;by_cases hlt : j < k
   · have hcell : (w.alloc (.cells (putCells n j) 310)).cell? ⟨w.heap.size, j, none⟩ = some (mK n j j) := by
       rw [World.cell?_alloc_mark, jS n j j (by omega)]
     go_wp2;go_roundw
     case rel => exact ⟨j + 1, by omega, by go_num, by rw [zLb, zA4 n j (by omega)]⟩
     case measure => simp [intOf]; omega
   · have hjk : j = k := by omega
     subst hjk;clear hlt hj;have hrun : ∀ c, (convert 87 9 (.slice (some ⟨w.heap.size, 0, none⟩) j c)).run Tryz.prog (w.alloc (.cells (putCells n j) 310)) = .ok (.string ⟨(zV n j).toArray⟩) (w.alloc (.cells (putCells n j) 310)) := by
       intro c;have hc := run_convert_bytes_back (P := Tryz.prog) (w.alloc (.cells (putCells n j) 310)) 87 9 5 ⟨w.heap.size, 0, none⟩ c (zV n j) Tryz.underlying87 Tryz.underlying5 Tryz.underlying9
         (fun i hi => by
           have hij : i < j := by simpa [zV] using hi
           have ea : (⟨w.heap.size, 0, none⟩ : Addr).add i = ⟨w.heap.size, i, none⟩ := by unfold Addr.add; split <;> simp_all
           rw [ea, World.cell?_alloc_mark, jS n j i (by omega)];simp [mK, zV, hij])
       have hl : (zV n j).length = j := by simp [zV]
       rw [hl] at hc;exact hc
     have hkz : (j : Int) <= 8 := by omega
     go_wp2;go_ret;exact ⟨rfl, rfl⟩
end Go.Proofs.YthijgebmoadgkaaGreatDoor
end
section
namespace Go.Proofs.YthijgebmoadgkaaGreatDoor.Pg
open Go.ChangeShapes Go.WideShapes Go.ChangeAt Go.RowKit
theorem zI9 (s : ByteArray) (w : World) : Strs (w.alloc (.cells #[.string s] 9)) (some ⟨w.heap.size, 0, none⟩) [s] :=
 Or.inr ⟨w.heap.size, 0, rfl, fun i h => by
   have hi : i = 0 := by simpa using h
   subst hi;rw [World.cell?_alloc_mark]; rfl⟩
theorem zGc (s : ByteArray) (w : World) (hs : s.size <= 1000000) :
   Calls Tryz.prog 272 #[.slice (some ⟨w.heap.size, 0, none⟩) 1 1] (w.alloc (.cells #[.string s] 9)) fun e w' => e = .returned (.int .u32 (Jx s.data.toList : Nat)) /\ w.alloc (.cells #[.string s] 9) = w' := by
 have h := zL8 (some ⟨w.heap.size, 0, none⟩) 1 1 [s] (w.alloc (.cells #[.string s] 9)) rfl (by omega) (fun x hx => by simp at hx; subst hx; omega) (zI9 s w);have e : cat [s] = s.data.toList := by simp [cat]
 rw [e] at h;exact h
theorem put4 (n : Nat) (hn : n < 4294967296) : ∃ T : ByteArray, T.size = 4 /\ T = ⟨(zV n 4).toArray⟩ /\ ∀ w : World, Calls Tryz.prog 148 #[.int .u64 n, .int .i64 4] w fun e w' => e = .returned (.string T) /\ w' = w.alloc (.cells (putCells n 4) 310) :=
 ⟨⟨(zV n 4).toArray⟩, by show (zV n 4).toArray.size = 4; simp [zV], rfl, fun w => vX n 4 w (by omega) (by omega)⟩
theorem uG (s : ByteArray) (w : World) (hs : s.size <= 1000000) :
   Calls Tryz.prog 224 #[.string s] w fun e w' => e = .returned (.string s) /\ Below w.heap.size w w' := by
 go_enter Tryz.func224, Tryz.ntmps224;go_wp2_with (go_at_call 271; refine (Tryz.stringslite_Clone s w (by omega)).mono ?_; rintro e w' ⟨rfl, hb⟩)
 go_ret;exact ⟨rfl, hb⟩
theorem extract_size (s : ByteArray) (n : Nat) (h : n <= s.size) : (s.extract 0 n).size = n := by
 rw [ByteArray.size_extract]; omega
end Go.Proofs.YthijgebmoadgkaaGreatDoor.Pg
end
