import Derived.Test.YtndhmidgnpobjaaGreatDoorCrcB
import Derived.Test.YtndhmidgnpobjaaGreatDoorShelf
import Derived.BigQuiet
import Derived.Deep.QuietTactic
import Derived.Laws.IdiomStrings
import Derived.WalkLawsBesides
import Derived.Deep.RegionWith
import Derived.Deep.DeepCutAuto
set_option linter.unusedVariables false
set_option linter.unusedSimpArgs false
section
namespace Go.Proofs.YtndhmidgnpobjaaGreatDoor
open Go.ChangeShapes Go.WideShapes Go.ChangeAt Go.RowKit
def nB (n : Nat) : ByteArray := ⟨(zU n 8).toArray⟩
def zB (k : Nat) : ByteArray := ⟨(List.replicate k (0 : UInt8)).toArray⟩
def mkB (n : Nat) (t : ByteArray) : ByteArray := nB n ++ t ++ zB (48 - t.size) ++ nB n
theorem vS (n : Nat) : (nB n).size = 8 := by show (zU n 8).toArray.size = 8; simp [zU]
theorem xG (k : Nat) : (zB k).size = k := by show (List.replicate k (0 : UInt8)).toArray.size = k; simp
theorem vI (n : Nat) (t : ByteArray) (h : t.size <= 48) : (mkB n t).size = 64 := by
 unfold mkB; simp only [ByteArray.size_append, vS, xG]; omega
def isM (s : ByteArray) : Bool := decide (s.size = 64 /\ zY s 0 8 = zY s 56 8)
def mN (s : ByteArray) : Nat := if isM s then zY s 0 8 else 0
def mT (s : ByteArray) : ByteArray := if isM s then s.extract 8 56 else ⟨#[]⟩
theorem zAi (s : ByteArray) : mN s <= 18446744073709551615 := by
 unfold mN; split
 · have := gQ s 0 8 (by omega); omega
 · omega
theorem vG (s t : ByteArray) (p q : Nat) : ∀ k, zY s p k = zY t q k ↔ ∀ i, i < k -> bN s (p + i) = bN t (q + i) := by
 intro k;induction k with
 | zero => simp [zY]
 | succ k ih =>
   have h1 := uL s p k;have h2 := uL t q k;have hp : 0 < (2 : Nat) ^ (8 * k) := Nat.pow_pos (by omega);unfold zY;constructor
   · intro h i hi;have hm : zY s p k = zY t q k := by
       have := congrArg (· % 2 ^ (8 * k)) h;simpa [Nat.add_mul_mod_self_right, Nat.mod_eq_of_lt h1, Nat.mod_eq_of_lt h2] using this
     have hd : bN s (p + k) = bN t (q + k) := by
       have h3 : bN s (p + k) * 2 ^ (8 * k) = bN t (q + k) * 2 ^ (8 * k) := by omega
       exact Nat.eq_of_mul_eq_mul_right hp h3
     by_cases hik : i = k
     · subst hik; exact hd
     · exact (ih.1 hm) i (by omega)
   · intro h;rw [h k (by omega), ih.2 (fun i hi => h i (by omega))]
theorem qE (s t : ByteArray) (hs : s.size = t.size) (h : ∀ i, i < s.size -> bN s i = bN t i) : s = t := by
 apply ByteArray.ext_getElem hs
 intro i h1 h2;have := h i h1;rw [qG s i h1, qG t i h2] at this;exact UInt8.toNat_inj.1 this
theorem yT (s : ByteArray) (a b i : Nat) (hb : b <= s.size) (hi : a + i < b) : bN (s.extract a b) i = bN s (a + i) := by
 have hz : (s.extract a b).size = b - a := by rw [ByteArray.size_extract]; omega
 rw [qG _ i (by omega), qG s (a + i) (by omega), ByteArray.getElem_extract]
theorem qU (a b : ByteArray) (i : Nat) (hi : i < a.size) : bN (a ++ b) i = bN a i := by
 rw [qG _ i (by rw [ByteArray.size_append]; omega), qG a i hi, ByteArray.getElem_append_left hi]
theorem gA (a b : ByteArray) (i : Nat) (hi : i < b.size) : bN (a ++ b) (a.size + i) = bN b i := by
 rw [qG _ _ (by rw [ByteArray.size_append]; omega), qG b i hi, ByteArray.getElem_append_right (by omega)];congr 2; omega
theorem zHa (n i : Nat) (hi : i < 8) : bN (nB n) i = (xJ n i).toNat := by
 rw [qG _ i (by rw [vS]; omega)];simp [nB, zU, ByteArray.getElem_eq_getElem_data]
theorem Vi (n : Nat) (hn : n <= 18446744073709551615) : zY (nB n) 0 8 = n := by
 have : ∀ j, j <= 8 -> zY (nB n) 0 j = n % 2 ^ (8 * j) := by
   intro j;induction j with
   | zero => intro _; simp [zY, Nat.mod_one]
   | succ j ih =>
     intro hj;unfold zY;rw [ih (by omega), Nat.zero_add, zHa n j (by omega), show 8 * (j + 1) = 8 * j + 8 by omega, Nat.pow_add, Nat.mod_mul];unfold xJ;rw [UInt8.toNat_ofNat', Nat.mul_comm (_ % 2 ^ 8)]
 rw [this 8 (by omega)];omega
theorem uF (n : Nat) (t : ByteArray) (i : Nat) (hi : i < 8) : bN (mkB n t) i = bN (nB n) i := by
 unfold mkB;have := vS n;rw [qU _ _ _ (by simp only [ByteArray.size_append]; omega), qU _ _ _ (by simp only [ByteArray.size_append]; omega), qU _ _ _ (by omega)]
theorem gE (n : Nat) (t : ByteArray) (ht : t.size <= 48) (i : Nat) (hi : i < 8) : bN (mkB n t) (56 + i) = bN (nB n) i := by
 unfold mkB;have h8 := vS n;have hz : (nB n ++ t ++ zB (48 - t.size)).size = 56 := by simp only [ByteArray.size_append, vS, xG]; omega
 have := gA (nB n ++ t ++ zB (48 - t.size)) (nB n) i (by omega);rw [hz] at this;exact this
theorem Yo (n : Nat) (t : ByteArray) (ht : t.size <= 48) : isM (mkB n t) = true := by
 unfold isM;refine decide_eq_true ⟨vI n t ht, ?_⟩;rw [vG];intro i hi;rw [Nat.zero_add, uF n t i hi, gE n t ht i hi]
theorem zBz (n : Nat) (t : ByteArray) (hn : n <= 18446744073709551615) (ht : t.size <= 48) : mN (mkB n t) = n := by
 unfold mN;rw [if_pos (Yo n t ht)];refine Eq.trans ?_ (Vi n hn);rw [vG];intro i hi;rw [Nat.zero_add];exact uF n t i hi
theorem zCb (n : Nat) (t : ByteArray) (ht : t.size <= 48) : mT (mkB n t) = t ++ zB (48 - t.size) := by
 unfold mT;rw [if_pos (Yo n t ht)];have hz := vI n t ht;have h8 := vS n;have hzz := xG (48 - t.size);have z1 : ((mkB n t).extract 8 56).size = 48 := by rw [ByteArray.size_extract]; omega
 have z2 : (t ++ zB (48 - t.size)).size = 48 := by rw [ByteArray.size_append]; omega
 refine qE _ _ (by omega) (fun i hi => ?_);rw [yT _ 8 56 i (by omega) (by omega)];unfold mkB;rw [qU _ _ _ (by simp only [ByteArray.size_append]; omega), ByteArray.append_assoc, <- h8];exact gA _ _ i (by omega)
theorem zA8 (s : ByteArray) (h : isM s = true) : (mT s).size = 48 := by
 unfold mT;rw [if_pos h, ByteArray.size_extract];have := (of_decide_eq_true h).1;omega
theorem torn (m n : Nat) (a b : ByteArray) (k : Nat) (hm : m <= 18446744073709551615) (hn : n <= 18446744073709551615) (hne : m ≠ n) (ha : a.size <= 48) (hb : b.size <= 48) (hk : k <= 64)
   (h : isM ((mkB m a).extract 0 k ++ (mkB n b).extract k 64) = true) :
   (mkB m a).extract 0 k ++ (mkB n b).extract k 64 = mkB m a \/ (mkB m a).extract 0 k ++ (mkB n b).extract k 64 = mkB n b := by
 have hs := vI m a ha;have ht := vI n b hb;have s1 : ∀ i, i < 8 -> bN (mkB m a) (56 + i) = bN (mkB m a) i := fun i hi => by rw [uF m a i hi, gE m a ha i hi]
 have t1 : ∀ i, i < 8 -> bN (mkB n b) (56 + i) = bN (mkB n b) i := fun i hi => by rw [uF n b i hi, gE n b hb i hi]
 have hmn : ¬ ∀ i, i < 8 -> bN (mkB m a) i = bN (mkB n b) i := fun hh => hne (by
   rw [<- Vi m hm, <- Vi n hn, vG];intro i hi;rw [Nat.zero_add, <- uF m a i hi, <- uF n b i hi];exact hh i hi)
 generalize mkB m a = s at *
 generalize mkB n b = t at *
 have z1 : (s.extract 0 k).size = k := by rw [ByteArray.size_extract]; omega
 have z2 : (t.extract k 64).size = 64 - k := by rw [ByteArray.size_extract]; omega
 have hu : (s.extract 0 k ++ t.extract k 64).size = 64 := by rw [ByteArray.size_append]; omega
 have lo : ∀ i, i < k -> bN (s.extract 0 k ++ t.extract k 64) i = bN s i := fun i hi => by
   rw [qU _ _ _ (by omega), yT s 0 k i (by omega) (by omega), Nat.zero_add]
 have hi_ : ∀ i, k <= i -> i < 64 -> bN (s.extract 0 k ++ t.extract k 64) i = bN t i := fun i h1 h2 => by
   have := gA (s.extract 0 k) (t.extract k 64) (i - k) (by omega);rw [z1, show k + (i - k) = i by omega] at this;rw [this, yT t k 64 (i - k) (by omega) (by omega), show k + (i - k) = i by omega]
 have he : ∀ i, i < 8 -> bN (s.extract 0 k ++ t.extract k 64) i = bN (s.extract 0 k ++ t.extract k 64) (56 + i) := by
   have := (vG _ _ 0 56 8).1 (of_decide_eq_true h).2;intro i hi;have := this i hi;rwa [Nat.zero_add] at this
 generalize s.extract 0 k ++ t.extract k 64 = u at *
 by_cases c1 : k <= 8
 · right
   refine qE _ _ (by omega) (fun i hi => ?_);by_cases c : i < k
   · rw [he i (by omega), hi_ (56 + i) (by omega) (by omega), t1 i (by omega)]
   · exact hi_ i (by omega) (by omega)
 · by_cases c2 : k <= 56
   · exact absurd (fun i hi => by rw [<- lo i (by omega), he i hi, hi_ (56 + i) (by omega) (by omega), t1 i hi]) hmn
   · left
     refine qE _ _ (by omega) (fun i hi => ?_);by_cases c : i < k
     · exact lo i c
     · have := he (i - 56) (by omega);rw [show 56 + (i - 56) = i by omega] at this;rw [<- this, lo (i - 56) (by omega), <- s1 (i - 56) (by omega), show 56 + (i - 56) = i by omega]
end Go.Proofs.YtndhmidgnpobjaaGreatDoor
end
section
namespace Go.Proofs.YtndhmidgnpobjaaGreatDoor
open Go.ChangeShapes Go.WideShapes Go.ChangeAt Go.RowKit
theorem qV {a b : ByteArray} (h : a.data.toList = b.data.toList) : a = b := ByteArray.ext (Array.toList_inj.1 h)
theorem zLf (a b : List UInt8) (hl : a.length = b.length) (h : num a = num b) : a = b := by
 induction a generalizing b with
 | nil => cases b with
   | nil => rfl
   | cons y b => simp at hl
 | cons x a ih => cases b with
   | nil => simp at hl
   | cons y b =>
     have hx := x.toNat_lt;have hy := y.toNat_lt;simp only [num] at h;have h1 : x.toNat = y.toNat := by omega
     have h2 : num a = num b := by omega
     rw [UInt8.toNat_inj.1 h1, ih b (by simpa using hl) h2]
theorem Yq (n : Nat) (hn : n < 4294967296) : num (zU n 4) = n := by
 have e : zU n 4 = [xJ n 0, xJ n 1, xJ n 2, xJ n 3] := rfl;rw [e];simp only [num, xJ, UInt8.toNat_ofNat'];omega
theorem vN (s : ByteArray) (p k : Nat) (h : p + k <= s.size) : zY s p k = num ((s.data.toList.drop p).take k) := by
 induction k with
 | zero => simp [zY, num]
 | succ k ih =>
   unfold zY;have hk : k < (s.data.toList.drop p).length := by
     have : s.data.toList.length = s.size := rfl;rw [List.length_drop]; omega
   rw [ih (by omega), List.take_succ_eq_append_getElem hk, zEi, qG s (p + k) (by omega)];have e : (s.data.toList.drop p)[k] = s[p + k] := by rw [List.getElem_drop]; rfl
   have hl : ((s.data.toList.drop p).take k).length = k := by rw [List.length_take]; omega
   rw [e, hl, Nat.pow_mul, Nat.mul_comm];simp [num]
theorem xK (s : ByteArray) (a b : Nat) : (s.extract a b).data.toList = (s.data.toList.drop a).take (b - a) := by
 rw [ByteArray.data_extract, Array.toList_extract]
theorem jD (s : ByteArray) : s.data.toList.length = s.size := rfl
theorem xX (a b : ByteArray) : (a ++ b).data.toList = a.data.toList ++ b.data.toList := by rw [ByteArray.data_append]; simp
def smB (s : ByteArray) : ByteArray := ⟨(zU (Qd s.data.toList) 4).toArray⟩
def hdB (k n : Nat) : ByteArray := ⟨#[UInt8.ofNat k]⟩ ++ ⟨(zU n 4).toArray⟩ ++ zB 7
def Qg (k n : Nat) (t : ByteArray) : ByteArray := hdB k n ++ t ++ zB (496 - t.size)
def pgB (k n : Nat) (t : ByteArray) : ByteArray := smB (Qg k n t) ++ Qg k n t
theorem zL1 (s : ByteArray) : (smB s).size = 4 := by show (zU (Qd s.data.toList) 4).toArray.size = 4; simp [zU]
theorem zKn (k n : Nat) : (hdB k n).size = 12 := by
 unfold hdB; simp only [ByteArray.size_append, xG];show 1 + (zU n 4).toArray.size + 7 = 12; simp [zU]
theorem Un (k n : Nat) (t : ByteArray) (h : t.size <= 496) : (Qg k n t).size = 508 := by
 unfold Qg; simp only [ByteArray.size_append, zKn, xG]; omega
theorem vM (k n : Nat) (t : ByteArray) (h : t.size <= 496) : (pgB k n t).size = 512 := by
 unfold pgB; simp only [ByteArray.size_append, zL1, Un k n t h]
def hE (s : ByteArray) : Nat :=
 if s.size ≠ 512 then 2 else if zY s 0 4 ≠ Qd (s.extract 4 s.size).data.toList then 12
 else if bN s 4 = 0 \/ 2147483647 < zY s 5 4 \/ s.extract 9 16 ≠ zB 7 then 2 else 0
def hK (s : ByteArray) : Nat := if hE s = 0 then bN s 4 else 0
def hN (s : ByteArray) : Nat := if hE s = 0 then zY s 5 4 else 0
def hT (s : ByteArray) : ByteArray := if hE s = 0 then s.extract 16 s.size else ⟨#[]⟩
theorem zN3 (s : ByteArray) : hE s <= 12 := by unfold hE; split <;> (try split) <;> (try split) <;> omega
theorem zGz (s : ByteArray) : hK s <= 255 := by unfold hK; have := zCp s 4; split <;> omega
theorem zJw (s : ByteArray) : hN s <= 2147483647 := by
 unfold hN;split
 · rename_i h
   unfold hE at h;split at h
   · omega
   · split at h
     · omega
     · split at h
       · omega
       · rename_i h3
         have := not_or.1 h3;have := not_or.1 this.2;omega
 · omega
theorem zGj (s : ByteArray) (h : hE s = 0) : s.size = 512 := by
 unfold hE at h;split at h
 · omega
 · rename_i h1; exact Decidable.of_not_not h1
theorem Xa (s : ByteArray) (h : hE s = 0) : (hT s).size = 496 := by
 have := zGj s h;unfold hT; rw [if_pos h, ByteArray.size_extract]; omega
theorem gC (k n : Nat) (t : ByteArray) : (pgB k n t).data.toList = zU (Qd (Qg k n t).data.toList) 4 ++ ([UInt8.ofNat k] ++ (zU n 4 ++ (List.replicate 7 0 ++ (t.data.toList ++ List.replicate (496 - t.size) 0)))) := by
 unfold pgB Qg hdB smB;simp only [xX];simp [zB]
theorem zHc (k n : Nat) (t : ByteArray) : (Qg k n t).data.toList = [UInt8.ofNat k] ++ (zU n 4 ++ (List.replicate 7 0 ++ (t.data.toList ++ List.replicate (496 - t.size) 0))) := by
 unfold Qg hdB;simp only [xX];simp [zB]
theorem xM {α : Type} {a b : List α} {p : Nat} (h : a.length = p) : (a ++ b).drop p = b := by subst h; simp
theorem jA {α : Type} {a b : List α} {p : Nat} (h : a.length = p) : (a ++ b).take p = a := by subst h; simp
theorem zR (n k : Nat) : (zU n k).length = k := by simp [zU]
theorem zNv (k n : Nat) (t : ByteArray) (h : t.size <= 496) : zY (pgB k n t) 0 4 = Qd ((pgB k n t).extract 4 (pgB k n t).size).data.toList := by
 have hz := vM k n t h;have e : ((pgB k n t).data.toList.drop 4) = (Qg k n t).data.toList := by
   rw [gC, zHc, xM (zR _ _)]
 have e2 : (pgB k n t).data.toList.take 4 = zU (Qd (Qg k n t).data.toList) 4 := by rw [gC, jA (zR _ _)]
 have e3 : ((pgB k n t).extract 4 (pgB k n t).size).data.toList = (Qg k n t).data.toList := by
   rw [xK, e, List.take_of_length_le];rw [jD, Un k n t h]; omega
 rw [vN _ _ _ (by omega), List.drop_zero, e2, e3, Yq _ (zBj _)]
theorem zD1 (k n : Nat) (t : ByteArray) (hk : k <= 255) (h : t.size <= 496) : bN (pgB k n t) 4 = k := by
 have hz := vM k n t h;have h1 : zY (pgB k n t) 4 1 = bN (pgB k n t) 4 := by simp [zY]
 rw [<- h1, vN _ _ _ (by omega), gC, xM (zR _ _)];simp [num]; omega
theorem zJu (k n : Nat) (t : ByteArray) (hn : n <= 2147483647) (h : t.size <= 496) : zY (pgB k n t) 5 4 = n := by
 have hz := vM k n t h;rw [vN _ _ _ (by omega), gC, show (5 : Nat) = 4 + 1 from rfl, <- List.drop_drop, xM (zR _ _), xM (by rfl), jA (zR _ _), Yq _ (by omega)]
theorem zNt (k n : Nat) (t : ByteArray) (h : t.size <= 496) : (pgB k n t).extract 9 16 = zB 7 := by
 apply qV
 rw [xK, gC, show (9 : Nat) = 4 + (1 + 4) from rfl, <- List.drop_drop, <- List.drop_drop, xM (zR _ _), xM (by rfl), xM (zR _ _)];exact jA (by simp)
theorem zC0 (k n : Nat) (t : ByteArray) (hk0 : 1 <= k) (hk : k <= 255) (hn : n <= 2147483647) (h : t.size <= 496) : hE (pgB k n t) = 0 := by
 have h1 := vM k n t h;have h2 := zNv k n t h;have h3 := zD1 k n t hk h;have h4 := zJu k n t hn h;have h5 := zNt k n t h;unfold hE;rw [if_neg (by omega), if_neg (by intro hh; exact hh h2), if_neg];rintro (h6 | h6 | h6)
 · omega
 · omega
 · exact h6 h5
theorem zN6 (k n : Nat) (t : ByteArray) (hk0 : 1 <= k) (hk : k <= 255) (hn : n <= 2147483647) (h : t.size <= 496) : hK (pgB k n t) = k := by
 unfold hK; rw [if_pos (zC0 k n t hk0 hk hn h), zD1 k n t hk h]
theorem zOa (k n : Nat) (t : ByteArray) (hk0 : 1 <= k) (hk : k <= 255) (hn : n <= 2147483647) (h : t.size <= 496) : hN (pgB k n t) = n := by
 unfold hN; rw [if_pos (zC0 k n t hk0 hk hn h), zJu k n t hn h]
theorem zN8 (k n : Nat) (t : ByteArray) (hk0 : 1 <= k) (hk : k <= 255) (hn : n <= 2147483647) (h : t.size <= 496) : hT (pgB k n t) = t ++ zB (496 - t.size) := by
 have hz := vM k n t h;unfold hT; rw [if_pos (zC0 k n t hk0 hk hn h)];apply qV
 rw [xK, gC, show (16 : Nat) = 4 + (1 + (4 + 7)) from rfl, <- List.drop_drop, <- List.drop_drop, <- List.drop_drop, xM (zR _ _), xM (by rfl), xM (zR _ _), xM (by simp), xX];rw [List.take_of_length_le (by simp only [List.length_append, List.length_replicate, jD]; omega)];rfl
end Go.Proofs.YtndhmidgnpobjaaGreatDoor
end
section
namespace Go.Proofs.YtndhmidgnpobjaaGreatDoor.Pg
open Go.ChangeShapes Go.WideShapes Go.ChangeAt Go.RowKit
theorem zGe (k : Nat) : Lib.repeatL [0] k = List.replicate k 0 := by
 induction k with
 | zero => rfl
 | succ k ih => rw [Lib.repeatL, ih, List.replicate_succ]; rfl
theorem repeat_any (k : Nat) (w : World) (hk : k <= 496) :
   Calls Tryz.prog 60 #[.string ⟨#[0]⟩, .int .i64 k] w fun e w' => e = .returned (.string (zB k)) /\ Below w.heap.size w w' := by
 have h := Tryz.strings_Repeat ⟨#[0]⟩ k w (by omega) (by show 1 * k <= _; omega);rw [show Lib.repeatL (⟨#[0]⟩ : ByteArray).data.toList k = List.replicate k 0 from zGe k] at h;exact h
theorem zC7 (P : Program) (w : World) (src dst e : TypeId) (k : Nat) (hk : k <= 255) (cap : Nat) (hs : P.underlying src = some (.slice e)) (he : P.underlying e = some (.int .u8)) (hd : P.underlying dst = some .string) (b : Nat) (h : w.cell? ⟨b, 0, none⟩ = some (.int .u8 (k : Nat))) :
   (convert src dst (.slice (some ⟨b, 0, none⟩) 1 cap)).run P w = .ok (.string ⟨#[UInt8.ofNat k]⟩) w :=
 run_convert_bytes_back (P := P) w src dst e ⟨b, 0, none⟩ cap [UInt8.ofNat k] hs he hd (fun i hi => by
   have hij : i = 0 := by simpa using hi
   subst hij;have ea : (⟨b, 0, none⟩ : Addr).add 0 = ⟨b, 0, none⟩ := rfl;have e2 : (UInt8.ofNat k).toNat = k := by rw [UInt8.toNat_ofNat', Nat.mod_eq_of_lt (by omega)]
   rw [ea, h];show _ = some (Value.int .u8 ((UInt8.ofNat k).toNat : Int))
   rw [e2])
set_option maxRecDepth 10000 in
theorem pack_yes (k n : Nat) (t : ByteArray) (w : World) (hk0 : 1 <= k) (hk : k <= 255) (hn : n <= 2147483647) (ht : t.size <= 496) :
   Calls Tryz.prog 180 #[.int .i64 k, .int .i64 n, .string t] w fun e w' => e = .returned (.tuple #[.string (pgB k n t), .int .i64 0]) /\ Below w.heap.size w w' := by
 obtain ⟨T, hT4, hTe, FP⟩ := put4 n (by omega);have hz := Un k n t ht;have HE : pgB k n t = smB (Qg k n t) ++ Qg k n t := rfl;obtain ⟨B, hB⟩ : ∃ B, B = Qg k n t := ⟨_, rfl⟩
 rw [<- hB] at HE hz;obtain ⟨Z, hZ⟩ : ∃ Z, Z = zB (496 - t.size) := ⟨_, rfl⟩
 have hZz := xG (496 - t.size);rw [<- hZ] at hZz;obtain ⟨K, hK⟩ : ∃ K : ByteArray, K = ⟨#[UInt8.ofNat k]⟩ := ⟨_, rfl⟩
 have hKz : K.size = 1 := by rw [hK]; rfl
 have HB : K ++ T ++ ⟨#[0, 0, 0, 0, 0, 0, 0]⟩ ++ t ++ Z = B := by rw [hB, hK, hTe, hZ]; rfl
 have HR : ∀ w : World, Calls Tryz.prog 60 #[.string ⟨#[0]⟩, .int .i64 (496 - (t.size : Int))] w fun e w' => e = .returned (.string Z) /\ Below w.heap.size w w' := fun w => by
   have := repeat_any (496 - t.size) w (by omega);rw [hZ];rwa [show ((496 - t.size : Nat) : Int) = 496 - (t.size : Int) by omega] at this
 have hlt := zBj B.data.toList;obtain ⟨S, hS4, hSe, FS⟩ := put4 _ hlt;have HS : S = smB B := hSe;rw [<- HS] at HE;have HM := Lh (fun w => zGs B w (by omega));have HC := Lh (fun (w : World) b cap h => by
   have := zC7 Tryz.prog w 99 9 5 k hk cap Tryz.underlying99 Tryz.underlying5 Tryz.underlying9 b h;rw [<- hK] at this;exact this)
 have hT5 : T.size <= 4 := by omega
 have hS5 : S.size <= 4 := by omega
 have hz5 : B.size <= 508 := by omega
 have hZ5 : Z.size <= 496 := by omega
 have hK5 : K.size <= 1 := by omega
 have HEh := Lh HE;have HBh := Lh HB;have FPh := Lh FP;have FSh := Lh FS;have HRh := Lh HR;have hcv : (convert 99 9 (.slice (some ⟨w.heap.size, 0, none⟩) 1 1)).run Tryz.prog (w.alloc (.cells #[.int .u8 (k : Int)] 5)).drew = .ok (.string K) (w.alloc (.cells #[.int .u8 (k : Int)] 5)).drew :=
   HC.out _ w.heap.size 1 (by simp [go_sem])
 have hcv2 : ∀ X, (convert 99 9 (.slice (some ⟨w.heap.size, 0, none⟩) 1 1)).run Tryz.prog ((w.alloc (.cells #[.int .u8 (k : Int)] 5)).alloc X).drew = .ok (.string K) ((w.alloc (.cells #[.int .u8 (k : Int)] 5)).alloc X).drew := fun X =>
   HC.out _ w.heap.size 1 (by simp [go_sem])
 have hcv3 : ∀ X, (convert 99 9 (.slice (some ⟨w.heap.size + 1, 0, none⟩) 1 1)).run Tryz.prog ((w.alloc X).alloc (.cells #[.int .u8 (k : Int)] 5)).drew = .ok (.string K) ((w.alloc X).alloc (.cells #[.int .u8 (k : Int)] 5)).drew := fun X =>
   HC.out _ (w.heap.size + 1) 1 (by simp [go_sem])
 clear hT4 hTe hB hZ hZz hK hKz HS hSe HE HB hS4 FP FS hz HR;have hw8 : IntKind.u8.wrap (k : Int) = k := by rw [IntKind.wrap_u8]; omega
 have hw64 : IntKind.u64.wrap (n : Int) = n := by rw [IntKind.wrap_u64]; omega
 generalize pgB k n t = PG at *
 generalize Qd B.data.toList = M at *
 go_enter Tryz.func180, Tryz.ntmps180;go_upto_region 8 with fail;go_cut [8] (fun s wx => s = .string (K ++ T ++ ⟨#[0, 0, 0, 0, 0, 0, 0]⟩) /\ Below w.heap.size w wx)
 case first =>
   go_region_with (go_at_call 120; with_reducible refine (FPh.out _).mono ?_; rintro e w1 ⟨rfl, rfl⟩)
   all_goals
     go_wp2_with fail;go_meet;exact ⟨rfl, (((Below.refl _ _).alloc (Nat.le_refl _) _).alloc (by simp) _).drew⟩
 case rest =>
   obtain ⟨rfl, hw⟩ := hcut;go_wp2_with (first
     | (go_at_call 120; with_reducible refine (FSh.out _).mono ?_; rintro e w1 ⟨rfl, rfl⟩)
     | (go_at_call 219; rw [HBh.out]; with_reducible refine (HM.out _).mono ?_; rintro e w1 ⟨rfl, rfl⟩)
     | (go_at_call 60; refine (HRh.out _).mono ?_; rintro e w2 ⟨rfl, hb⟩))
   have hw2 := hw.trans (hb.mono hw.size);go_ret2;exact ⟨by rw [HEh.out]; rfl, (hw2.alloc hw2.size _).alloc (Nat.le_trans hw2.size (by simp)) _⟩
theorem fT (s : ByteArray) (w : World) (hs : s.size <= 9223372036854775807) :
   Calls Tryz.prog 193 #[.string s] w fun e w' => e = .returned (.tuple #[.int .i64 (hK s), .int .i64 (hN s), .int .i64 (hE s)]) /\ Below w.heap.size w w' := by
 by_cases h1 : s.size = 512
 · have h3 : ((s.size : Int) != 512) = false := by simp; omega
   have HG0 : RowKit.Hid (∀ w : World, Calls Tryz.prog 132 #[.string s, .int .i64 0, .int .i64 4] w fun e w' => e = .returned (.tuple #[.int .u64 (zY s 0 4), .bool true]) /\ w = w') := Lh (fun w => jO s 0 4 w hs (by omega) (by omega));have HG5 : RowKit.Hid (∀ w : World, Calls Tryz.prog 132 #[.string s, .int .i64 5, .int .i64 4] w fun e w' => e = .returned (.tuple #[.int .u64 (zY s 5 4), .bool true]) /\ w = w') := Lh (fun w => jO s 5 4 w hs (by omega) (by omega));have g5 := uL s 5 4;have g0 := uL s 0 4;have z4 : (s.extract 4 s.size).size = 508 := by rw [ByteArray.size_extract]; omega
   have HM := Lh (fun w => zGs (s.extract 4 s.size) w (by omega));have hlt := zBj (s.extract 4 s.size).data.toList;have i4 : 4 < s.size := by omega
   have hx := qG s 4 i4;have hxl := zCp s 4;have hE1 : hE s = if zY s 0 4 ≠ Qd (s.extract 4 s.size).data.toList then 12 else if bN s 4 = 0 \/ 2147483647 < zY s 5 4 \/ s.extract 9 16 ≠ zB 7 then 2 else 0 := by unfold hE; rw [if_neg (by omega)]
   have hK1 : hK s = if hE s = 0 then bN s 4 else 0 := rfl
   have hN1 : hN s = if hE s = 0 then zY s 5 4 else 0 := rfl
   have hzz : s.extract 9 16 ≠ zB 7 -> ((s.extract 9 16).toList == [0, 0, 0, 0, 0, 0, 0]) = false := fun h => by
     have := zBr (b := zB 7) h;rwa [show (zB 7).toList = [0, 0, 0, 0, 0, 0, 0] by rw [ByteArray.toList_eq]; rfl] at this
   have hzy : s.extract 9 16 = zB 7 -> ((s.extract 9 16).toList == [0, 0, 0, 0, 0, 0, 0]) = true := fun h => by rw [h, ByteArray.toList_eq]; rfl
   generalize Qd (s.extract 4 s.size).data.toList = M at *
   generalize zY s 0 4 = G at *
   generalize zY s 5 4 = N at *
   have q4 : (4 : Int) <= s.size := by omega
   have q16 : (16 : Int) <= s.size := by omega
   by_cases h2 : G = M
   · rw [if_neg (by simp [h2])] at hE1;have hne : ((G : Int) != (M : Int)) = false := by simp [h2]
     have main : ∀ a b c : Bool, decide (bN s 4 = 0) = a -> decide (2147483647 < N) = b -> ((s.extract 9 16).toList == [0, 0, 0, 0, 0, 0, 0]) = c -> Calls Tryz.prog 193 #[.string s] w fun e w' => e = .returned (.tuple #[.int .i64 (hK s), .int .i64 (hN s), .int .i64 (hE s)]) /\ Below w.heap.size w w' := by
       intro a b c ha hb hc;have hE2 : hE s = if a || b || !c then 2 else 0 := by
         rw [hE1];have e3 : decide (s.extract 9 16 ≠ zB 7) = !c := by
           by_cases h : s.extract 9 16 = zB 7
           · rw [hzy h] at hc; subst hc; simp [h]
           · rw [hzz h] at hc; subst hc; simp [h]
         have : decide (bN s 4 = 0 \/ 2147483647 < N \/ s.extract 9 16 ≠ zB 7) = (a || b || !c) := by
           rw [Bool.decide_or, Bool.decide_or, ha, hb, e3, Bool.or_assoc]
         rw [<- this];simp only [decide_eq_true_eq]
       rw [hx] at ha;have ha2 : (((s[4]'i4).toNat : Int) == 0) = a := by rw [<- ha]; by_cases h : (s[4]'i4).toNat = 0 <;> simp [h]
       have hb2 : decide ((2147483647 : Int) < (N : Int)) = b := by rw [<- hb, decide_eq_decide]; omega
       have hx8 : (s[4]'i4).toNat < 256 := by rw [<- hx]; exact hxl
       rw [hK1, hN1, hE2, hx];clear hK1 hN1 hE1 hE2 hzz hzy hx h1 h2 ha hb hxl;cases a <;> cases b <;> cases c <;> simp only [Bool.not_true, Bool.not_false, Bool.or_true, Bool.or_false, if_true, if_false, Bool.false_eq_true, (by decide : ¬ (2 = 0)), Int.ofNat_zero]
       all_goals
         go_enter Tryz.func193, Tryz.ntmps193;go_wp2_with (first
           | (go_at_call 132; (first | (with_reducible refine (HG0.out _).mono ?_) | (with_reducible refine (HG5.out _).mono ?_)); rintro e w1 ⟨rfl, rfl⟩)
           | (go_at_call 219; with_reducible refine (HM.out _).mono ?_; rintro e w1 ⟨rfl, rfl⟩))
         go_ret3;exact ⟨rfl, (Below.refl _ _).alloc (Nat.le_refl _) _⟩
     exact main _ _ _ rfl rfl rfl
   · rw [if_pos h2] at hE1;have hne : ((G : Int) != (M : Int)) = true := by rw [bne_iff_ne]; omega
     have hx8 : (s[4]'i4).toNat < 256 := by rw [<- hx]; exact hxl
     rw [hK1, hN1, hE1];clear hK1 hN1 hE1 hzz hzy hx h1 h2;go_enter Tryz.func193, Tryz.ntmps193;go_wp2_with (first
       | (go_at_call 132; (first | (with_reducible refine (HG0.out _).mono ?_) | (with_reducible refine (HG5.out _).mono ?_)); rintro e w1 ⟨rfl, rfl⟩)
       | (go_at_call 219; with_reducible refine (HM.out _).mono ?_; rintro e w1 ⟨rfl, rfl⟩))
     go_ret3;exact ⟨rfl, (Below.refl _ _).alloc (Nat.le_refl _) _⟩
 · have hE1 : hE s = 2 := by unfold hE; rw [if_pos h1]
   have hK1 : hK s = 0 := by unfold hK; rw [if_neg (by omega)]
   have hN1 : hN s = 0 := by unfold hN; rw [if_neg (by omega)]
   rw [hK1, hN1, hE1];have h3 : ((s.size : Int) != 512) = true := by rw [bne_iff_ne]; omega
   clear hK1 hN1 hE1 h1;go_enter Tryz.func193, Tryz.ntmps193;go_wp2;go_ret3;exact ⟨rfl, Below.refl _ _⟩
end Go.Proofs.YtndhmidgnpobjaaGreatDoor.Pg
end
