import Derived.Test.YthijgebmoadgkaaGreatDoorCrcB
set_option linter.unusedVariables false
set_option linter.unusedSimpArgs false
namespace Go.Proofs.YthijgebmoadgkaaGreatDoor
open Go.ChangeShapes Go.WideShapes Go.ChangeAt Go.RowKit
section
def nB (n : Nat) : ByteArray := ⟨(zV n 8).toArray⟩
def zB (k : Nat) : ByteArray := ⟨(List.replicate k (0 : UInt8)).toArray⟩
def mkB (n : Nat) (t : ByteArray) : ByteArray := nB n ++ t ++ zB (48 - t.size) ++ nB n
theorem vK (n : Nat) : (nB n).size = 8 := by show (zV n 8).toArray.size = 8; simp [zV]
theorem xG (k : Nat) : (zB k).size = k := by show (List.replicate k (0 : UInt8)).toArray.size = k; simp
theorem vD (n : Nat) (t : ByteArray) (h : t.size <= 48) : (mkB n t).size = 64 := by
 unfold mkB; simp only [ByteArray.size_append, vK, xG]; omega
def isM (s : ByteArray) : Bool := decide (s.size = 64 /\ zT s 0 8 = zT s 56 8)
def mN (s : ByteArray) : Nat := if isM s then zT s 0 8 else 0
def mT (s : ByteArray) : ByteArray := if isM s then s.extract 8 56 else ⟨#[]⟩
theorem zAa (s : ByteArray) : mN s <= 18446744073709551615 := by
 unfold mN; split
 · have := gP s 0 8 (by omega); omega
 · omega
theorem xY (s t : ByteArray) (p q : Nat) : ∀ k, zT s p k = zT t q k ↔ ∀ i, i < k -> bN s (p + i) = bN t (q + i) := by
 intro k;induction k with
 | zero => simp [zT]
 | succ k ih =>
   have h1 := vW s p k;have h2 := vW t q k;have hp : 0 < (2 : Nat) ^ (8 * k) := Nat.pow_pos (by omega);unfold zT;constructor
   · intro h i hi;have hm : zT s p k = zT t q k := by
       have := congrArg (· % 2 ^ (8 * k)) h;simpa [Nat.add_mul_mod_self_right, Nat.mod_eq_of_lt h1, Nat.mod_eq_of_lt h2] using this
     have hd : bN s (p + k) = bN t (q + k) := by
       have h3 : bN s (p + k) * 2 ^ (8 * k) = bN t (q + k) * 2 ^ (8 * k) := by omega
       exact Nat.eq_of_mul_eq_mul_right hp h3
     by_cases hik : i = k
     · subst hik; exact hd
     · exact (ih.1 hm) i (by omega)
   · intro h;rw [h k (by omega), ih.2 (fun i hi => h i (by omega))]
theorem qG (s t : ByteArray) (hs : s.size = t.size) (h : ∀ i, i < s.size -> bN s i = bN t i) : s = t := by
 apply ByteArray.ext_getElem hs
 intro i h1 h2;have := h i h1;rw [qF s i h1, qF t i h2] at this;exact UInt8.toNat_inj.1 this
theorem yR (s : ByteArray) (a b i : Nat) (hb : b <= s.size) (hi : a + i < b) : bN (s.extract a b) i = bN s (a + i) := by
 have hz : (s.extract a b).size = b - a := by rw [ByteArray.size_extract]; omega
 rw [qF _ i (by omega), qF s (a + i) (by omega), ByteArray.getElem_extract]
theorem qO (a b : ByteArray) (i : Nat) (hi : i < a.size) : bN (a ++ b) i = bN a i := by
 rw [qF _ i (by rw [ByteArray.size_append]; omega), qF a i hi, ByteArray.getElem_append_left hi]
theorem gK (a b : ByteArray) (i : Nat) (hi : i < b.size) : bN (a ++ b) (a.size + i) = bN b i := by
 rw [qF _ _ (by rw [ByteArray.size_append]; omega), qF b i hi, ByteArray.getElem_append_right (by omega)];congr 2; omega
theorem zGd (n i : Nat) (hi : i < 8) : bN (nB n) i = (xV n i).toNat := by
 rw [qF _ i (by rw [vK]; omega)];simp [nB, zV, ByteArray.getElem_eq_getElem_data]
theorem Uj (n : Nat) (hn : n <= 18446744073709551615) : zT (nB n) 0 8 = n := by
 have : ∀ j, j <= 8 -> zT (nB n) 0 j = n % 2 ^ (8 * j) := by
   intro j;induction j with
   | zero => intro _; simp [zT, Nat.mod_one]
   | succ j ih =>
     intro hj;unfold zT;rw [ih (by omega), Nat.zero_add, zGd n j (by omega), show 8 * (j + 1) = 8 * j + 8 by omega, Nat.pow_add, Nat.mod_mul];unfold xV;rw [UInt8.toNat_ofNat', Nat.mul_comm (_ % 2 ^ 8)]
 rw [this 8 (by omega)];omega
theorem vS (n : Nat) (t : ByteArray) (i : Nat) (hi : i < 8) : bN (mkB n t) i = bN (nB n) i := by
 unfold mkB;have := vK n;rw [qO _ _ _ (by simp only [ByteArray.size_append]; omega), qO _ _ _ (by simp only [ByteArray.size_append]; omega), qO _ _ _ (by omega)]
theorem gH (n : Nat) (t : ByteArray) (ht : t.size <= 48) (i : Nat) (hi : i < 8) : bN (mkB n t) (56 + i) = bN (nB n) i := by
 unfold mkB;have h8 := vK n;have hz : (nB n ++ t ++ zB (48 - t.size)).size = 56 := by simp only [ByteArray.size_append, vK, xG]; omega
 have := gK (nB n ++ t ++ zB (48 - t.size)) (nB n) i (by omega);rw [hz] at this;exact this
theorem Zd (n : Nat) (t : ByteArray) (ht : t.size <= 48) : isM (mkB n t) = true := by
 unfold isM;refine decide_eq_true ⟨vD n t ht, ?_⟩;rw [xY];intro i hi;rw [Nat.zero_add, vS n t i hi, gH n t ht i hi]
theorem zBi (n : Nat) (t : ByteArray) (hn : n <= 18446744073709551615) (ht : t.size <= 48) : mN (mkB n t) = n := by
 unfold mN;rw [if_pos (Zd n t ht)];refine Eq.trans ?_ (Uj n hn);rw [xY];intro i hi;rw [Nat.zero_add];exact vS n t i hi
theorem zB8 (n : Nat) (t : ByteArray) (ht : t.size <= 48) : mT (mkB n t) = t ++ zB (48 - t.size) := by
 unfold mT;rw [if_pos (Zd n t ht)];have hz := vD n t ht;have h8 := vK n;have hzz := xG (48 - t.size);have z1 : ((mkB n t).extract 8 56).size = 48 := by rw [ByteArray.size_extract]; omega
 have z2 : (t ++ zB (48 - t.size)).size = 48 := by rw [ByteArray.size_append]; omega
 refine qG _ _ (by omega) (fun i hi => ?_);rw [yR _ 8 56 i (by omega) (by omega)];unfold mkB;rw [qO _ _ _ (by simp only [ByteArray.size_append]; omega), ByteArray.append_assoc, <- h8];exact gK _ _ i (by omega)
theorem zBc (s : ByteArray) (h : isM s = true) : (mT s).size = 48 := by
 unfold mT;rw [if_pos h, ByteArray.size_extract];have := (of_decide_eq_true h).1;omega
theorem torn (m n : Nat) (a b : ByteArray) (k : Nat) (hm : m <= 18446744073709551615) (hn : n <= 18446744073709551615) (hne : m ≠ n) (ha : a.size <= 48) (hb : b.size <= 48) (hk : k <= 64)
   (h : isM ((mkB m a).extract 0 k ++ (mkB n b).extract k 64) = true) :
   (mkB m a).extract 0 k ++ (mkB n b).extract k 64 = mkB m a \/ (mkB m a).extract 0 k ++ (mkB n b).extract k 64 = mkB n b := by
 have hs := vD m a ha;have ht := vD n b hb;have s1 : ∀ i, i < 8 -> bN (mkB m a) (56 + i) = bN (mkB m a) i := fun i hi => by rw [vS m a i hi, gH m a ha i hi]
 have t1 : ∀ i, i < 8 -> bN (mkB n b) (56 + i) = bN (mkB n b) i := fun i hi => by rw [vS n b i hi, gH n b hb i hi]
 have hmn : ¬ ∀ i, i < 8 -> bN (mkB m a) i = bN (mkB n b) i := fun hh => hne (by
   rw [<- Uj m hm, <- Uj n hn, xY];intro i hi;rw [Nat.zero_add, <- vS m a i hi, <- vS n b i hi];exact hh i hi)
 generalize mkB m a = s at *
 generalize mkB n b = t at *
 have z1 : (s.extract 0 k).size = k := by rw [ByteArray.size_extract]; omega
 have z2 : (t.extract k 64).size = 64 - k := by rw [ByteArray.size_extract]; omega
 have hu : (s.extract 0 k ++ t.extract k 64).size = 64 := by rw [ByteArray.size_append]; omega
 have lo : ∀ i, i < k -> bN (s.extract 0 k ++ t.extract k 64) i = bN s i := fun i hi => by
   rw [qO _ _ _ (by omega), yR s 0 k i (by omega) (by omega), Nat.zero_add]
 have hi_ : ∀ i, k <= i -> i < 64 -> bN (s.extract 0 k ++ t.extract k 64) i = bN t i := fun i h1 h2 => by
   have := gK (s.extract 0 k) (t.extract k 64) (i - k) (by omega);rw [z1, show k + (i - k) = i by omega] at this;rw [this, yR t k 64 (i - k) (by omega) (by omega), show k + (i - k) = i by omega]
 have he : ∀ i, i < 8 -> bN (s.extract 0 k ++ t.extract k 64) i = bN (s.extract 0 k ++ t.extract k 64) (56 + i) := by
   have := (xY _ _ 0 56 8).1 (of_decide_eq_true h).2;intro i hi;have := this i hi;rwa [Nat.zero_add] at this
 generalize s.extract 0 k ++ t.extract k 64 = u at *
 by_cases c1 : k <= 8
 · right
   refine qG _ _ (by omega) (fun i hi => ?_);by_cases c : i < k
   · rw [he i (by omega), hi_ (56 + i) (by omega) (by omega), t1 i (by omega)]
   · exact hi_ i (by omega) (by omega)
 · by_cases c2 : k <= 56
   · exact absurd (fun i hi => by rw [<- lo i (by omega), he i hi, hi_ (56 + i) (by omega) (by omega), t1 i hi]) hmn
   · left
     refine qG _ _ (by omega) (fun i hi => ?_);by_cases c : i < k
     · exact lo i c
     · have := he (i - 56) (by omega);rw [show 56 + (i - 56) = i by omega] at this;rw [<- this, lo (i - 56) (by omega), <- s1 (i - 56) (by omega), show 56 + (i - 56) = i by omega]
end
section
theorem qM {a b : ByteArray} (h : a.data.toList = b.data.toList) : a = b := ByteArray.ext (Array.toList_inj.1 h)
theorem zKs (a b : List UInt8) (hl : a.length = b.length) (h : num a = num b) : a = b := by
 induction a generalizing b with
 | nil => cases b with
   | nil => rfl
   | cons y b => simp at hl
 | cons x a ih => cases b with
   | nil => simp at hl
   | cons y b =>
     have hx := x.toNat_lt;have hy := y.toNat_lt;simp only [num] at h;have h1 : x.toNat = y.toNat := by omega
     have h2 : num a = num b := by omega
     rw [UInt8.toNat_inj.1 h1, ih b (by simpa using hl) h2]
theorem Xy (n : Nat) (hn : n < 4294967296) : num (zV n 4) = n := by
 have e : zV n 4 = [xV n 0, xV n 1, xV n 2, xV n 3] := rfl;rw [e];simp only [num, xV, UInt8.toNat_ofNat'];omega
theorem vI (s : ByteArray) (p k : Nat) (h : p + k <= s.size) : zT s p k = num ((s.data.toList.drop p).take k) := by
 induction k with
 | zero => simp [zT, num]
 | succ k ih =>
   unfold zT;have hk : k < (s.data.toList.drop p).length := by
     have : s.data.toList.length = s.size := rfl;rw [List.length_drop]; omega
   rw [ih (by omega), List.take_succ_eq_append_getElem hk, zEi, qF s (p + k) (by omega)];have e : (s.data.toList.drop p)[k] = s[p + k] := by rw [List.getElem_drop]; rfl
   have hl : ((s.data.toList.drop p).take k).length = k := by rw [List.length_take]; omega
   rw [e, hl, Nat.pow_mul, Nat.mul_comm];simp [num]
theorem xE (s : ByteArray) (a b : Nat) : (s.extract a b).data.toList = (s.data.toList.drop a).take (b - a) := by
 rw [ByteArray.data_extract, Array.toList_extract]
theorem uO (s : ByteArray) : s.data.toList.length = s.size := rfl
theorem xO (a b : ByteArray) : (a ++ b).data.toList = a.data.toList ++ b.data.toList := by rw [ByteArray.data_append]; simp
def smB (s : ByteArray) : ByteArray := ⟨(zV (Jx s.data.toList) 4).toArray⟩
def hdB (k n : Nat) : ByteArray := ⟨#[UInt8.ofNat k]⟩ ++ ⟨(zV n 4).toArray⟩ ++ zB 7
def Qe (k n : Nat) (t : ByteArray) : ByteArray := hdB k n ++ t ++ zB (496 - t.size)
def pgB (k n : Nat) (t : ByteArray) : ByteArray := smB (Qe k n t) ++ Qe k n t
theorem zKz (s : ByteArray) : (smB s).size = 4 := by show (zV (Jx s.data.toList) 4).toArray.size = 4; simp [zV]
theorem zKr (k n : Nat) : (hdB k n).size = 12 := by
 unfold hdB; simp only [ByteArray.size_append, xG];show 1 + (zV n 4).toArray.size + 7 = 12; simp [zV]
theorem Uu (k n : Nat) (t : ByteArray) (h : t.size <= 496) : (Qe k n t).size = 508 := by
 unfold Qe; simp only [ByteArray.size_append, zKr, xG]; omega
theorem vF (k n : Nat) (t : ByteArray) (h : t.size <= 496) : (pgB k n t).size = 512 := by
 unfold pgB; simp only [ByteArray.size_append, zKz, Uu k n t h]
def hE (s : ByteArray) : Nat :=
 if s.size ≠ 512 then 2 else if zT s 0 4 ≠ Jx (s.extract 4 s.size).data.toList then 12
 else if bN s 4 = 0 \/ 2147483647 < zT s 5 4 \/ s.extract 9 16 ≠ zB 7 then 2 else 0
def hK (s : ByteArray) : Nat := if hE s = 0 then bN s 4 else 0
def hN (s : ByteArray) : Nat := if hE s = 0 then zT s 5 4 else 0
def hT (s : ByteArray) : ByteArray := if hE s = 0 then s.extract 16 s.size else ⟨#[]⟩
theorem zNo (s : ByteArray) : hE s <= 12 := by unfold hE; split <;> (try split) <;> (try split) <;> omega
theorem zF9 (s : ByteArray) : hK s <= 255 := by unfold hK; have := zDt s 4; split <;> omega
theorem zKe (s : ByteArray) : hN s <= 2147483647 := by
 unfold hN;split
 · rename_i h
   unfold hE at h;split at h
   · omega
   · split at h
     · omega
     · split at h
       · omega
       · rename_i h3
         have := not_or.1 h3;have := not_or.1 this.2;omega
 · omega
theorem zFr (s : ByteArray) (h : hE s = 0) : s.size = 512 := by
 unfold hE at h;split at h
 · omega
 · rename_i h1; exact Decidable.of_not_not h1
theorem Xc (s : ByteArray) (h : hE s = 0) : (hT s).size = 496 := by
 have := zFr s h;unfold hT; rw [if_pos h, ByteArray.size_extract]; omega
theorem gL (k n : Nat) (t : ByteArray) : (pgB k n t).data.toList = zV (Jx (Qe k n t).data.toList) 4 ++ ([UInt8.ofNat k] ++ (zV n 4 ++ (List.replicate 7 0 ++ (t.data.toList ++ List.replicate (496 - t.size) 0)))) := by
 unfold pgB Qe hdB smB;simp only [xO];simp [zB]
theorem zHf (k n : Nat) (t : ByteArray) : (Qe k n t).data.toList = [UInt8.ofNat k] ++ (zV n 4 ++ (List.replicate 7 0 ++ (t.data.toList ++ List.replicate (496 - t.size) 0))) := by
 unfold Qe hdB;simp only [xO];simp [zB]
theorem xF {α : Type} {a b : List α} {p : Nat} (h : a.length = p) : (a ++ b).drop p = b := by subst h; simp
theorem uR {α : Type} {a b : List α} {p : Nat} (h : a.length = p) : (a ++ b).take p = a := by subst h; simp
theorem zN (n k : Nat) : (zV n k).length = k := by simp [zV]
theorem zMd (k n : Nat) (t : ByteArray) (h : t.size <= 496) : zT (pgB k n t) 0 4 = Jx ((pgB k n t).extract 4 (pgB k n t).size).data.toList := by
 have hz := vF k n t h;have e : ((pgB k n t).data.toList.drop 4) = (Qe k n t).data.toList := by
   rw [gL, zHf, xF (zN _ _)]
 have e2 : (pgB k n t).data.toList.take 4 = zV (Jx (Qe k n t).data.toList) 4 := by rw [gL, uR (zN _ _)]
 have e3 : ((pgB k n t).extract 4 (pgB k n t).size).data.toList = (Qe k n t).data.toList := by
   rw [xE, e, List.take_of_length_le];rw [uO, Uu k n t h]; omega
 rw [vI _ _ _ (by omega), List.drop_zero, e2, e3, Xy _ (zB0 _)]
theorem zCq (k n : Nat) (t : ByteArray) (hk : k <= 255) (h : t.size <= 496) : bN (pgB k n t) 4 = k := by
 have hz := vF k n t h;have h1 : zT (pgB k n t) 4 1 = bN (pgB k n t) 4 := by simp [zT]
 rw [<- h1, vI _ _ _ (by omega), gL, xF (zN _ _)];simp [num]; omega
theorem zK5 (k n : Nat) (t : ByteArray) (hn : n <= 2147483647) (h : t.size <= 496) : zT (pgB k n t) 5 4 = n := by
 have hz := vF k n t h;rw [vI _ _ _ (by omega), gL, show (5 : Nat) = 4 + 1 from rfl, <- List.drop_drop, xF (zN _ _), xF (by rfl), uR (zN _ _), Xy _ (by omega)]
theorem zLx (k n : Nat) (t : ByteArray) (h : t.size <= 496) : (pgB k n t).extract 9 16 = zB 7 := by
 apply qM
 rw [xE, gL, show (9 : Nat) = 4 + (1 + 4) from rfl, <- List.drop_drop, <- List.drop_drop, xF (zN _ _), xF (by rfl), xF (zN _ _)];exact uR (by simp)
theorem zCa (k n : Nat) (t : ByteArray) (hk0 : 1 <= k) (hk : k <= 255) (hn : n <= 2147483647) (h : t.size <= 496) : hE (pgB k n t) = 0 := by
 have h1 := vF k n t h;have h2 := zMd k n t h;have h3 := zCq k n t hk h;have h4 := zK5 k n t hn h;have h5 := zLx k n t h;unfold hE;rw [if_neg (by omega), if_neg (by intro hh; exact hh h2), if_neg];rintro (h6 | h6 | h6)
 · omega
 · omega
 · exact h6 h5
theorem zNp (k n : Nat) (t : ByteArray) (hk0 : 1 <= k) (hk : k <= 255) (hn : n <= 2147483647) (h : t.size <= 496) : hK (pgB k n t) = k := by
 unfold hK; rw [if_pos (zCa k n t hk0 hk hn h), zCq k n t hk h]
theorem zNj (k n : Nat) (t : ByteArray) (hk0 : 1 <= k) (hk : k <= 255) (hn : n <= 2147483647) (h : t.size <= 496) : hN (pgB k n t) = n := by
 unfold hN; rw [if_pos (zCa k n t hk0 hk hn h), zK5 k n t hn h]
theorem zNn (k n : Nat) (t : ByteArray) (hk0 : 1 <= k) (hk : k <= 255) (hn : n <= 2147483647) (h : t.size <= 496) : hT (pgB k n t) = t ++ zB (496 - t.size) := by
 have hz := vF k n t h;unfold hT; rw [if_pos (zCa k n t hk0 hk hn h)];apply qM
 rw [xE, gL, show (16 : Nat) = 4 + (1 + (4 + 7)) from rfl, <- List.drop_drop, <- List.drop_drop, <- List.drop_drop, xF (zN _ _), xF (by rfl), xF (zN _ _), xF (by simp), xO];rw [List.take_of_length_le (by simp only [List.length_append, List.length_replicate, uO]; omega)];rfl
end
section
def Jb (p : ByteArray) : ByteArray := p ++ zB (567 - p.size)
def zHs (s : ByteArray) : ByteArray := s.extract 0 10 ++ ⟨#[0]⟩ ++ s.extract 10 s.size
def secB (p : ByteArray) (i : Nat) : ByteArray := zHs ((Jb p).extract (i * 63) ((i + 1) * 63))
def qI (p : ByteArray) : List ByteArray := (List.range 9).map (secB p)
def vY (s : ByteArray) : ByteArray := s.extract 0 10 ++ s.extract 11 s.size
def qJ (ss : List ByteArray) : List UInt8 := ss.flatMap fun s => (vY s).data.toList
def mX (ss : List ByteArray) : ByteArray := (⟨(qJ ss).toArray⟩ : ByteArray).extract 0 512
def Qg (ss : List ByteArray) : Bool := decide (qI (mX ss) = ss)
def Vc (n : Nat) : ByteArray := ⟨(zV n 2).toArray⟩ ++ ⟨#[1]⟩
def yN (seq n : Nat) : ByteArray := mkB seq (Vc n)
theorem mE (l : List UInt8) : (⟨l.toArray⟩ : ByteArray).size = l.length := by show l.toArray.size = _; simp
theorem Yj (l : List UInt8) (j : Nat) : bN ⟨l.toArray⟩ j = (l.getD j 0).toNat := by
 unfold bN;by_cases h : j < l.length
 · rw [dif_pos (by rw [mE]; exact h)];simp [ByteArray.getElem_eq_getElem_data, h]
 · rw [dif_neg (by rw [mE]; exact h)];simp [h]
theorem Xe (s : ByteArray) (j : Nat) : bN s j = (s.data.toList.getD j 0).toNat := Yj s.data.toList j
theorem zBv (s : ByteArray) (j : Nat) (h : s.size <= j) : bN s j = 0 := by unfold bN; rw [dif_neg (by omega)]
theorem gW (a b : ByteArray) (j : Nat) : bN (a ++ b) j = if j < a.size then bN a j else bN b (j - a.size) := by
 split
 · exact qO a b j (by assumption)
 · rename_i h
   by_cases hb : j - a.size < b.size
   · have := gK a b (j - a.size) hb;rwa [show a.size + (j - a.size) = j by omega] at this
   · rw [zBv _ j (by rw [ByteArray.size_append]; omega), zBv b _ (by omega)]
theorem zFm (k j : Nat) : bN (zB k) j = 0 := by
 show bN ⟨(List.replicate k (0 : UInt8)).toArray⟩ j = 0
 rw [Yj];by_cases h : j < k <;> simp [h]
theorem zE7 (x : UInt8) (j : Nat) : bN ⟨#[x]⟩ j = if j = 0 then x.toNat else 0 := by
 have := Yj [x] j;rw [this];cases j <;> simp
theorem Ji (p : ByteArray) (h : p.size <= 567) : (Jb p).size = 567 := by unfold Jb; rw [ByteArray.size_append, xG]; omega
theorem zEo (p : ByteArray) (j : Nat) : bN (Jb p) j = bN p j := by
 unfold Jb;rw [gW, zFm];split
 · rfl
 · rw [zBv p j (by omega)]
theorem zIj (s : ByteArray) (h : s.size = 63) : (zHs s).size = 64 := by
 unfold zHs;simp only [ByteArray.size_append, ByteArray.size_extract, h];rfl
theorem zH3 (s : ByteArray) (h : s.size = 63) (k : Nat) (hk : k < 64) : bN (zHs s) k = if k < 10 then bN s k else if k = 10 then 0 else bN s (k - 1) := by
 unfold zHs;have z1 : (s.extract 0 10).size = 10 := by rw [ByteArray.size_extract]; omega
 have z2 : (s.extract 0 10 ++ (⟨#[0]⟩ : ByteArray)).size = 11 := by rw [ByteArray.size_append, z1]; rfl
 rw [gW, z2, gW, z1];by_cases h1 : k < 10
 · rw [if_pos (by omega), if_pos h1, if_pos h1, yR s 0 10 k (by omega) (by omega), Nat.zero_add]
 · by_cases h2 : k = 10
   · subst h2;rw [if_pos (by omega), if_neg h1, if_neg h1, if_pos rfl, zE7];rfl
   · rw [if_neg (by omega), if_neg h1, if_neg h2, yR s 10 s.size (k - 11) (by omega) (by omega)];congr 1; omega
theorem Zv (p : ByteArray) (h : p.size <= 567) (i : Nat) (hi : i < 9) : ((Jb p).extract (i * 63) ((i + 1) * 63)).size = 63 := by
 rw [ByteArray.size_extract, Ji p h]; omega
theorem secB_size (p : ByteArray) (h : p.size <= 567) (i : Nat) (hi : i < 9) : (secB p i).size = 64 := zIj _ (Zv p h i hi)
theorem zAd (p : ByteArray) (h : p.size <= 567) (i : Nat) (hi : i < 9) (k : Nat) (hk : k < 64) : bN (secB p i) k = if k < 10 then bN p (63 * i + k) else if k = 10 then 0 else bN p (63 * i + k - 1) := by
 have hz := Zv p h i hi;have hr := Ji p h;have e : ∀ j, j < 63 -> bN ((Jb p).extract (i * 63) ((i + 1) * 63)) j = bN p (63 * i + j) := fun j hj => by
   rw [yR _ _ _ j (by omega) (by omega), zEo];congr 1; omega
 unfold secB;rw [zH3 _ hz k hk];by_cases h1 : k < 10
 · rw [if_pos h1, if_pos h1, e k (by omega)]
 · rw [if_neg h1, if_neg h1];by_cases h2 : k = 10
   · rw [if_pos h2, if_pos h2]
   · rw [if_neg h2, if_neg h2, e (k - 1) (by omega)];congr 1; omega
theorem fN (s : ByteArray) (h : s.size = 64) : (vY s).size = 63 := by
 unfold vY;simp only [ByteArray.size_append, ByteArray.size_extract, h];rfl
theorem zCj (s : ByteArray) (h : s.size = 64) (k : Nat) (hk : k < 63) : bN (vY s) k = if k < 10 then bN s k else bN s (k + 1) := by
 unfold vY;have z1 : (s.extract 0 10).size = 10 := by rw [ByteArray.size_extract]; omega
 rw [gW, z1];by_cases h1 : k < 10
 · rw [if_pos h1, if_pos h1, yR s 0 10 k (by omega) (by omega), Nat.zero_add]
 · rw [if_neg h1, if_neg h1, yR s 11 s.size (k - 10) (by omega) (by omega)];congr 1; omega
theorem Qk : ∀ (ss : List ByteArray), (∀ s ∈ ss, s.size = 64) -> (qJ ss).length = ss.length * 63
 | [], _ => rfl
 | s :: ss, h => by
   have ih := Qk ss fun x hx => h x (by simp [hx])
   have h1 := fN s (h s (by simp));have h2 : (vY s).data.toList.length = (vY s).size := rfl;simp only [qJ, List.flatMap_cons, List.length_append, List.length_cons] at *;omega
theorem zF2 : ∀ (ss : List ByteArray) (i k : Nat) (hi : i < ss.length), (∀ s ∈ ss, s.size = 64) -> k < 63 -> (qJ ss).getD (63 * i + k) 0 = (vY (ss[i]'hi)).data.toList.getD k 0
 | s :: ss, i, k, hi, h, hk => by
   have h1 := fN s (h s (by simp));have h2 : (vY s).data.toList.length = 63 := h1;have e : qJ (s :: ss) = (vY s).data.toList ++ qJ ss := by simp [qJ]
   rw [e];cases i with
   | zero =>
     simp only [List.getD_eq_getElem?_getD, List.getElem_cons_zero];rw [List.getElem?_append_left (by omega)];simp
   | succ i =>
     have := zF2 ss i k (by simpa using hi) (fun x hx => h x (by simp [hx])) hk;simp only [List.getD_eq_getElem?_getD, List.getElem_cons_succ] at this ⊢;rw [List.getElem?_append_right (by omega), h2, show 63 * (i + 1) + k - 63 = 63 * i + k by omega];exact this
theorem zAo (ss : List ByteArray) (h : ∀ s ∈ ss, s.size = 64) (hl : ss.length = 9) : (mX ss).size = 512 := by
 have := Qk ss h;unfold mX;rw [ByteArray.size_extract];have e : (⟨(qJ ss).toArray⟩ : ByteArray).size = (qJ ss).length := mE _;omega
theorem zG7 (ss : List ByteArray) (h : ∀ s ∈ ss, s.size = 64) (hl : ss.length = 9) (j : Nat) (hj : j < 512) : bN (mX ss) j = ((qJ ss).getD j 0).toNat := by
 have := Qk ss h;have e : (⟨(qJ ss).toArray⟩ : ByteArray).size = (qJ ss).length := mE _;unfold mX;rw [yR _ 0 512 j (by omega) (by omega), Nat.zero_add, Yj]
theorem Vd (p : ByteArray) (h : p.size = 512) : mX (qI p) = p := by
 have hs : ∀ s ∈ qI p, s.size = 64 := fun s hs => by
   obtain ⟨i, hi, rfl⟩ := List.mem_map.1 hs;exact secB_size p (by omega) i (List.mem_range.1 hi)
 have hl : (qI p).length = 9 := by simp [qI]
 have hz := zAo (qI p) hs hl;refine qG _ _ (by omega) fun j hj => ?_
 rw [zG7 _ hs hl j (by omega)];have hi : j / 63 < 9 := by omega
 have := zF2 (qI p) (j / 63) (j % 63) (by omega) hs (by omega);rw [show 63 * (j / 63) + j % 63 = j by omega] at this;rw [this, <- Xe];have e : (qI p)[j / 63]'(by omega) = secB p (j / 63) := by simp [qI]
 rw [e, zCj _ (secB_size p (by omega) _ hi) _ (by omega)];split
 · rw [zAd p (by omega) _ hi _ (by omega), if_pos (by assumption)];exact congrArg (bN p) (by omega)
 · rw [zAd p (by omega) _ hi _ (by omega), if_neg (by omega), if_neg (by omega)];exact congrArg (bN p) (by omega)
theorem Zm (p : ByteArray) (h : p.size = 512) : Qg (qI p) = true := by
 unfold Qg;rw [Vd p h];exact decide_eq_true rfl
theorem gG (n : Nat) : (Vc n).size = 3 := by
 unfold Vc;rw [ByteArray.size_append];show (zV n 2).toArray.size + 1 = 3
 simp [zV]
theorem uZ (seq n : Nat) : (yN seq n).size = 64 := vD seq _ (by rw [gG]; omega)
theorem Jg (seq n k : Nat) (hk : k < 48) : bN (yN seq n) (8 + k) = bN (Vc n) k := by
 have h8 := vK seq;have hc := gG n;have hz := xG (48 - (Vc n).size);unfold yN mkB;rw [qO _ _ _ (by simp only [ByteArray.size_append]; omega), ByteArray.append_assoc, <- h8, gK _ _ k (by simp only [ByteArray.size_append]; omega), gW, zFm];split
 · rfl
 · rw [zBv _ _ (by omega)]
theorem Zp (n : Nat) : bN (Vc n) 0 = n % 256 /\ bN (Vc n) 1 = n / 256 % 256 /\ bN (Vc n) 2 = 1 := by
 have z : (⟨(zV n 2).toArray⟩ : ByteArray).size = 2 := by show (zV n 2).toArray.size = 2; simp [zV]
 have e : zV n 2 = [xV n 0, xV n 1] := rfl;have b0 : (xV n 0).toNat = n % 256 := by unfold xV; rw [UInt8.toNat_ofNat']; simp
 have b1 : (xV n 1).toNat = n / 256 % 256 := by unfold xV; rw [UInt8.toNat_ofNat']
 unfold Vc;refine ⟨?_, ?_, ?_⟩
 · rw [gW, z, if_pos (by omega), Yj, e]; exact b0
 · rw [gW, z, if_pos (by omega), Yj, e]; exact b1
 · rw [gW, z, if_neg (by omega), zE7]; rfl
theorem Zq (seq n : Nat) : bN (yN seq n) 10 = 1 := by rw [Jg seq n 2 (by omega)]; exact (Zp n).2.2
theorem zC9 (seq n : Nat) (hn : n < 65536) : zT (yN seq n) 8 2 = n := by
 have h0 := Jg seq n 0 (by omega);have h1 := Jg seq n 1 (by omega);have hc := Zp n;simp only [zT];rw [show 8 + 0 = 8 + 0 from rfl, h0, h1, hc.1, hc.2.1];omega
theorem Jm (seq n i : Nat) (hi : i < 8) : bN (yN seq n) (56 + i) = bN (nB seq) i := gH seq _ (by rw [gG]; omega) i hi
def cnt (x : ByteArray) (seq left : Nat) : Nat := if 1 <= zT x 8 2 /\ zT x 8 2 <= 64 /\ 1 + 9 * zT x 8 2 <= left /\ x = yN seq (zT x 8 2) then zT x 8 2 else 0
theorem zIt (x : ByteArray) (seq left : Nat) : cnt x seq left <= 64 := by unfold cnt; split <;> omega
theorem Xa (x : ByteArray) (seq left : Nat) (h : cnt x seq left ≠ 0) : 1 + 9 * cnt x seq left <= left /\ x = yN seq (cnt x seq left) := by
 unfold cnt at h ⊢;split
 · rename_i hc; exact ⟨hc.2.2.1, hc.2.2.2⟩
 · rename_i hc; exact absurd (if_neg hc) h
theorem zDc (seq n left : Nat) (h1 : 1 <= n) (h2 : n <= 64) (h3 : 1 + 9 * n <= left) : cnt (yN seq n) seq left = n := by
 unfold cnt;rw [zC9 seq n (by omega), if_pos ⟨h1, h2, h3, rfl⟩]
theorem zBu (x : ByteArray) (seq left : Nat) (h : ∀ n, 1 <= n -> n <= 64 -> x ≠ yN seq n) : cnt x seq left = 0 := by
 unfold cnt;split
 · rename_i hc; exact absurd hc.2.2.2 (h _ hc.1 hc.2.1)
 · rfl
def qH (f : Nat -> ByteArray) (p : Nat) : List ByteArray := (List.range 9).map fun i => f (p + i)
def pgs (f : Nat -> ByteArray) (p n : Nat) : List ByteArray := (List.range n).map fun k => mX (qH f (p + 9 * k))
def txn (f : Nat -> ByteArray) (p seq left : Nat) : List ByteArray := if ∀ k, k < cnt (f p) seq left -> Qg (qH f (p + 1 + 9 * k)) = true then pgs f (p + 1) (cnt (f p) seq left) else []
theorem gT (f : Nat -> ByteArray) (p n : Nat) : (pgs f p n).length = n := by simp [pgs]
theorem zOo (f : Nat -> ByteArray) (p seq left : Nat) : (txn f p seq left).length <= 64 := by
 unfold txn; split
 · rw [gT]; exact zIt _ _ _
 · simp
theorem zBf (f : Nat -> ByteArray) (p seq left : Nat) (h : (txn f p seq left).length ≠ 0) : 1 + 9 * (txn f p seq left).length <= left := by
 unfold txn at h ⊢; split at h
 · rename_i hc
   rw [if_pos hc, gT];rw [gT] at h;exact (Xa _ _ _ h).1
 · exact absurd rfl h
def stands (f : Nat -> ByteArray) : Nat -> Nat -> Nat -> Nat -> List (Nat × List ByteArray)
 | 0, _, _, _ => []
 | fuel + 1, p, left, seq => if (txn f p seq left).length = 0 then [] else (seq, txn f p seq left) :: stands f fuel (p + (1 + 9 * (txn f p seq left).length)) (left - (1 + 9 * (txn f p seq left).length)) ((seq + 1) % 18446744073709551616)
def long (l : List (Nat × List ByteArray)) : Nat := (l.map fun x => 1 + 9 * x.2.length).sum
def yG (f : Nat -> ByteArray) (size seq : Nat) : List (Nat × List ByteArray) := stands f (size + 1) 0 size seq
theorem fJ (f : Nat -> ByteArray) (fuel p left seq : Nat) (h : (txn f p seq left).length = 0) : stands f fuel p left seq = [] := by
 cases fuel with
 | zero => rfl
 | succ n => unfold stands; rw [if_pos h]
theorem Vm (f : Nat -> ByteArray) (fuel p left seq : Nat) (hf : 0 < fuel) (h : (txn f p seq left).length ≠ 0) : stands f fuel p left seq = (seq, txn f p seq left) :: stands f (fuel - 1) (p + (1 + 9 * (txn f p seq left).length)) (left - (1 + 9 * (txn f p seq left).length)) ((seq + 1) % 18446744073709551616) := by
 cases fuel with
 | zero => omega
 | succ n => rw [stands, if_neg h]; rfl
theorem qL (f : Nat -> ByteArray) : ∀ (fuel p left seq : Nat), long (stands f fuel p left seq) <= left
 | 0, _, _, _ => by simp [stands, long]
 | fuel + 1, p, left, seq => by
   unfold stands;split
   · simp [long]
   · rename_i h
     have ih := qL f fuel (p + (1 + 9 * (txn f p seq left).length)) (left - (1 + 9 * (txn f p seq left).length)) ((seq + 1) % 18446744073709551616);have := zBf f p seq left h;simp only [long, List.map_cons, List.sum_cons] at ih ⊢;omega
theorem Zf (f : Nat -> ByteArray) (p seq : Nat) : txn f p seq 0 = [] := by
 have : cnt (f p) seq 0 = 0 := by
   by_cases h : cnt (f p) seq 0 = 0
   · exact h
   · have := (Xa _ _ _ h).1; omega
 unfold txn;rw [this];split <;> rfl
theorem zN5 (f : Nat -> ByteArray) (p seq left k : Nat) (hk : k < cnt (f p) seq left) (h : Qg (qH f (p + 1 + 9 * k)) = false) : txn f p seq left = [] := by
 unfold txn;rw [if_neg];intro hh;rw [hh k hk] at h;cases h
theorem zBx (f : Nat -> ByteArray) (p seq left : Nat) (h : ∀ k, k < cnt (f p) seq left -> Qg (qH f (p + 1 + 9 * k)) = true) : txn f p seq left = pgs f (p + 1) (cnt (f p) seq left) := by
 unfold txn; rw [if_pos h]
def lenOf : Value -> Nat
 | .slice _ n _ => n
 | _ => 0
theorem jY (ts : List (Nat × List ByteArray)) (t : Nat × List ByteArray) : long (ts ++ [t]) = long ts + (1 + 9 * t.2.length) := by
 simp [long]
theorem Qc (ts : List (Nat × List ByteArray)) : ts.length <= long ts := by
 induction ts with
 | nil => exact Nat.le_refl _
 | cons t ts ih => simp only [long, List.map_cons, List.sum_cons, List.length_cons] at *; omega
end
end Go.Proofs.YthijgebmoadgkaaGreatDoor
