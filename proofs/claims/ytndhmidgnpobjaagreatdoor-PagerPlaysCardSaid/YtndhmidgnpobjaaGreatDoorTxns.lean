import Derived.Test.YtndhmidgnpobjaaGreatDoorPagA
import Derived.Test.YtndhmidgnpobjaaGreatDoorSta
import Derived.Deep.OwnRows
import Derived.KernelRfl
import Derived.Test.YtndhmidgnpobjaaGreatDoorCrcB
import Derived.Test.YtndhmidgnpobjaaGreatDoorPgrA
import Derived.Test.YtndhmidgnpobjaaGreatDoorSwap
set_option linter.unusedVariables false
set_option linter.unusedSimpArgs false
namespace Go.Proofs.YtndhmidgnpobjaaGreatDoor
open Go.ChangeShapes Go.WideShapes Go.ChangeAt Go.RowKit
section
def Jg (p : ByteArray) : ByteArray := p ++ zB (567 - p.size)
def zHn (s : ByteArray) : ByteArray := s.extract 0 10 ++ ⟨#[0]⟩ ++ s.extract 10 s.size
def secB (p : ByteArray) (i : Nat) : ByteArray := zHn ((Jg p).extract (i * 63) ((i + 1) * 63))
def gM (p : ByteArray) : List ByteArray := (List.range 9).map (secB p)
def uN (s : ByteArray) : ByteArray := s.extract 0 10 ++ s.extract 11 s.size
def qN (ss : List ByteArray) : List UInt8 := ss.flatMap fun s => (uN s).data.toList
def Js (ss : List ByteArray) : ByteArray := (⟨(qN ss).toArray⟩ : ByteArray).extract 0 512
def Qk (ss : List ByteArray) : Bool := decide (gM (Js ss) = ss)
def Vj (n : Nat) : ByteArray := ⟨(zU n 2).toArray⟩ ++ ⟨#[1]⟩
def yR (seq n : Nat) : ByteArray := mkB seq (Vj n)
theorem Jb (l : List UInt8) : (⟨l.toArray⟩ : ByteArray).size = l.length := by show l.toArray.size = _; simp
theorem Yw (l : List UInt8) (j : Nat) : bN ⟨l.toArray⟩ j = (l.getD j 0).toNat := by
 unfold bN;by_cases h : j < l.length
 · rw [dif_pos (by rw [Jb]; exact h)];simp [ByteArray.getElem_eq_getElem_data, h]
 · rw [dif_neg (by rw [Jb]; exact h)];simp [h]
theorem Xe (s : ByteArray) (j : Nat) : bN s j = (s.data.toList.getD j 0).toNat := Yw s.data.toList j
theorem zA1 (s : ByteArray) (j : Nat) (h : s.size <= j) : bN s j = 0 := by unfold bN; rw [dif_neg (by omega)]
theorem gZ (a b : ByteArray) (j : Nat) : bN (a ++ b) j = if j < a.size then bN a j else bN b (j - a.size) := by
 split
 · exact qU a b j (by assumption)
 · rename_i h
   by_cases hb : j - a.size < b.size
   · have := gA a b (j - a.size) hb;rwa [show a.size + (j - a.size) = j by omega] at this
   · rw [zA1 _ j (by rw [ByteArray.size_append]; omega), zA1 b _ (by omega)]
theorem zGn (k j : Nat) : bN (zB k) j = 0 := by
 show bN ⟨(List.replicate k (0 : UInt8)).toArray⟩ j = 0
 rw [Yw];by_cases h : j < k <;> simp [h]
theorem zEv (x : UInt8) (j : Nat) : bN ⟨#[x]⟩ j = if j = 0 then x.toNat else 0 := by
 have := Yw [x] j;rw [this];cases j <;> simp
theorem Qe (p : ByteArray) (h : p.size <= 567) : (Jg p).size = 567 := by unfold Jg; rw [ByteArray.size_append, xG]; omega
theorem zE0 (p : ByteArray) (j : Nat) : bN (Jg p) j = bN p j := by
 unfold Jg;rw [gZ, zGn];split
 · rfl
 · rw [zA1 p j (by omega)]
theorem zIg (s : ByteArray) (h : s.size = 63) : (zHn s).size = 64 := by
 unfold zHn;simp only [ByteArray.size_append, ByteArray.size_extract, h];rfl
theorem zIm (s : ByteArray) (h : s.size = 63) (k : Nat) (hk : k < 64) : bN (zHn s) k = if k < 10 then bN s k else if k = 10 then 0 else bN s (k - 1) := by
 unfold zHn;have z1 : (s.extract 0 10).size = 10 := by rw [ByteArray.size_extract]; omega
 have z2 : (s.extract 0 10 ++ (⟨#[0]⟩ : ByteArray)).size = 11 := by rw [ByteArray.size_append, z1]; rfl
 rw [gZ, z2, gZ, z1];by_cases h1 : k < 10
 · rw [if_pos (by omega), if_pos h1, if_pos h1, yT s 0 10 k (by omega) (by omega), Nat.zero_add]
 · by_cases h2 : k = 10
   · subst h2;rw [if_pos (by omega), if_neg h1, if_neg h1, if_pos rfl, zEv];rfl
   · rw [if_neg (by omega), if_neg h1, if_neg h2, yT s 10 s.size (k - 11) (by omega) (by omega)];congr 1; omega
theorem Zz (p : ByteArray) (h : p.size <= 567) (i : Nat) (hi : i < 9) : ((Jg p).extract (i * 63) ((i + 1) * 63)).size = 63 := by
 rw [ByteArray.size_extract, Qe p h]; omega
theorem secB_size (p : ByteArray) (h : p.size <= 567) (i : Nat) (hi : i < 9) : (secB p i).size = 64 := zIg _ (Zz p h i hi)
theorem zAa (p : ByteArray) (h : p.size <= 567) (i : Nat) (hi : i < 9) (k : Nat) (hk : k < 64) : bN (secB p i) k = if k < 10 then bN p (63 * i + k) else if k = 10 then 0 else bN p (63 * i + k - 1) := by
 have hz := Zz p h i hi;have hr := Qe p h;have e : ∀ j, j < 63 -> bN ((Jg p).extract (i * 63) ((i + 1) * 63)) j = bN p (63 * i + j) := fun j hj => by
   rw [yT _ _ _ j (by omega) (by omega), zE0];congr 1; omega
 unfold secB;rw [zIm _ hz k hk];by_cases h1 : k < 10
 · rw [if_pos h1, if_pos h1, e k (by omega)]
 · rw [if_neg h1, if_neg h1];by_cases h2 : k = 10
   · rw [if_pos h2, if_pos h2]
   · rw [if_neg h2, if_neg h2, e (k - 1) (by omega)];congr 1; omega
theorem fK (s : ByteArray) (h : s.size = 64) : (uN s).size = 63 := by
 unfold uN;simp only [ByteArray.size_append, ByteArray.size_extract, h];rfl
theorem zEa (s : ByteArray) (h : s.size = 64) (k : Nat) (hk : k < 63) : bN (uN s) k = if k < 10 then bN s k else bN s (k + 1) := by
 unfold uN;have z1 : (s.extract 0 10).size = 10 := by rw [ByteArray.size_extract]; omega
 rw [gZ, z1];by_cases h1 : k < 10
 · rw [if_pos h1, if_pos h1, yT s 0 10 k (by omega) (by omega), Nat.zero_add]
 · rw [if_neg h1, if_neg h1, yT s 11 s.size (k - 10) (by omega) (by omega)];congr 1; omega
theorem Qw : ∀ (ss : List ByteArray), (∀ s ∈ ss, s.size = 64) -> (qN ss).length = ss.length * 63
 | [], _ => rfl
 | s :: ss, h => by
   have ih := Qw ss fun x hx => h x (by simp [hx])
   have h1 := fK s (h s (by simp));have h2 : (uN s).data.toList.length = (uN s).size := rfl;simp only [qN, List.flatMap_cons, List.length_append, List.length_cons] at *;omega
theorem zF3 : ∀ (ss : List ByteArray) (i k : Nat) (hi : i < ss.length), (∀ s ∈ ss, s.size = 64) -> k < 63 -> (qN ss).getD (63 * i + k) 0 = (uN (ss[i]'hi)).data.toList.getD k 0
 | s :: ss, i, k, hi, h, hk => by
   have h1 := fK s (h s (by simp));have h2 : (uN s).data.toList.length = 63 := h1;have e : qN (s :: ss) = (uN s).data.toList ++ qN ss := by simp [qN]
   rw [e];cases i with
   | zero =>
     simp only [List.getD_eq_getElem?_getD, List.getElem_cons_zero];rw [List.getElem?_append_left (by omega)];simp
   | succ i =>
     have := zF3 ss i k (by simpa using hi) (fun x hx => h x (by simp [hx])) hk;simp only [List.getD_eq_getElem?_getD, List.getElem_cons_succ] at this ⊢;rw [List.getElem?_append_right (by omega), h2, show 63 * (i + 1) + k - 63 = 63 * i + k by omega];exact this
theorem zAt (ss : List ByteArray) (h : ∀ s ∈ ss, s.size = 64) (hl : ss.length = 9) : (Js ss).size = 512 := by
 have := Qw ss h;unfold Js;rw [ByteArray.size_extract];have e : (⟨(qN ss).toArray⟩ : ByteArray).size = (qN ss).length := Jb _;omega
theorem zH7 (ss : List ByteArray) (h : ∀ s ∈ ss, s.size = 64) (hl : ss.length = 9) (j : Nat) (hj : j < 512) : bN (Js ss) j = ((qN ss).getD j 0).toNat := by
 have := Qw ss h;have e : (⟨(qN ss).toArray⟩ : ByteArray).size = (qN ss).length := Jb _;unfold Js;rw [yT _ 0 512 j (by omega) (by omega), Nat.zero_add, Yw]
theorem zAm (p : ByteArray) (h : p.size = 512) : Js (gM p) = p := by
 have hs : ∀ s ∈ gM p, s.size = 64 := fun s hs => by
   obtain ⟨i, hi, rfl⟩ := List.mem_map.1 hs;exact secB_size p (by omega) i (List.mem_range.1 hi)
 have hl : (gM p).length = 9 := by simp [gM]
 have hz := zAt (gM p) hs hl;refine qE _ _ (by omega) fun j hj => ?_
 rw [zH7 _ hs hl j (by omega)];have hi : j / 63 < 9 := by omega
 have := zF3 (gM p) (j / 63) (j % 63) (by omega) hs (by omega);rw [show 63 * (j / 63) + j % 63 = j by omega] at this;rw [this, <- Xe];have e : (gM p)[j / 63]'(by omega) = secB p (j / 63) := by simp [gM]
 rw [e, zEa _ (secB_size p (by omega) _ hi) _ (by omega)];split
 · rw [zAa p (by omega) _ hi _ (by omega), if_pos (by assumption)];exact congrArg (bN p) (by omega)
 · rw [zAa p (by omega) _ hi _ (by omega), if_neg (by omega), if_neg (by omega)];exact congrArg (bN p) (by omega)
theorem zH0 (p : ByteArray) (h : p.size = 512) : Qk (gM p) = true := by
 unfold Qk;rw [zAm p h];exact decide_eq_true rfl
theorem gL (n : Nat) : (Vj n).size = 3 := by
 unfold Vj;rw [ByteArray.size_append];show (zU n 2).toArray.size + 1 = 3
 simp [zU]
theorem jL (seq n : Nat) : (yR seq n).size = 64 := vI seq _ (by rw [gL]; omega)
theorem Jw (seq n k : Nat) (hk : k < 48) : bN (yR seq n) (8 + k) = bN (Vj n) k := by
 have h8 := vS seq;have hc := gL n;have hz := xG (48 - (Vj n).size);unfold yR mkB;rw [qU _ _ _ (by simp only [ByteArray.size_append]; omega), ByteArray.append_assoc, <- h8, gA _ _ k (by simp only [ByteArray.size_append]; omega), gZ, zGn];split
 · rfl
 · rw [zA1 _ _ (by omega)]
theorem zAr (n : Nat) : bN (Vj n) 0 = n % 256 /\ bN (Vj n) 1 = n / 256 % 256 /\ bN (Vj n) 2 = 1 := by
 have z : (⟨(zU n 2).toArray⟩ : ByteArray).size = 2 := by show (zU n 2).toArray.size = 2; simp [zU]
 have e : zU n 2 = [xJ n 0, xJ n 1] := rfl;have b0 : (xJ n 0).toNat = n % 256 := by unfold xJ; rw [UInt8.toNat_ofNat']; simp
 have b1 : (xJ n 1).toNat = n / 256 % 256 := by unfold xJ; rw [UInt8.toNat_ofNat']
 unfold Vj;refine ⟨?_, ?_, ?_⟩
 · rw [gZ, z, if_pos (by omega), Yw, e]; exact b0
 · rw [gZ, z, if_pos (by omega), Yw, e]; exact b1
 · rw [gZ, z, if_neg (by omega), zEv]; rfl
theorem Zn (seq n : Nat) : bN (yR seq n) 10 = 1 := by rw [Jw seq n 2 (by omega)]; exact (zAr n).2.2
theorem zDz (seq n : Nat) (hn : n < 65536) : zY (yR seq n) 8 2 = n := by
 have h0 := Jw seq n 0 (by omega);have h1 := Jw seq n 1 (by omega);have hc := zAr n;simp only [zY];rw [show 8 + 0 = 8 + 0 from rfl, h0, h1, hc.1, hc.2.1];omega
theorem Qa (seq n i : Nat) (hi : i < 8) : bN (yR seq n) (56 + i) = bN (nB seq) i := gE seq _ (by rw [gL]; omega) i hi
def cnt (x : ByteArray) (seq left : Nat) : Nat := if 1 <= zY x 8 2 /\ zY x 8 2 <= 64 /\ 1 + 9 * zY x 8 2 <= left /\ x = yR seq (zY x 8 2) then zY x 8 2 else 0
theorem zI5 (x : ByteArray) (seq left : Nat) : cnt x seq left <= 64 := by unfold cnt; split <;> omega
theorem Xi (x : ByteArray) (seq left : Nat) (h : cnt x seq left ≠ 0) : 1 + 9 * cnt x seq left <= left /\ x = yR seq (cnt x seq left) := by
 unfold cnt at h ⊢;split
 · rename_i hc; exact ⟨hc.2.2.1, hc.2.2.2⟩
 · rename_i hc; exact absurd (if_neg hc) h
theorem zJ4 (seq n left : Nat) (h1 : 1 <= n) (h2 : n <= 64) (h3 : 1 + 9 * n <= left) : cnt (yR seq n) seq left = n := by
 unfold cnt;rw [zDz seq n (by omega), if_pos ⟨h1, h2, h3, rfl⟩]
theorem zE4 (x : ByteArray) (seq left : Nat) (h : ∀ n, 1 <= n -> n <= 64 -> x ≠ yR seq n) : cnt x seq left = 0 := by
 unfold cnt;split
 · rename_i hc; exact absurd hc.2.2.2 (h _ hc.1 hc.2.1)
 · rfl
def gJ (f : Nat -> ByteArray) (p : Nat) : List ByteArray := (List.range 9).map fun i => f (p + i)
def pgs (f : Nat -> ByteArray) (p n : Nat) : List ByteArray := (List.range n).map fun k => Js (gJ f (p + 9 * k))
def txn (f : Nat -> ByteArray) (p seq left : Nat) : List ByteArray := if ∀ k, k < cnt (f p) seq left -> Qk (gJ f (p + 1 + 9 * k)) = true then pgs f (p + 1) (cnt (f p) seq left) else []
theorem mL (f : Nat -> ByteArray) (p n : Nat) : (pgs f p n).length = n := by simp [pgs]
theorem zOg (f : Nat -> ByteArray) (p seq left : Nat) : (txn f p seq left).length <= 64 := by
 unfold txn; split
 · rw [mL]; exact zI5 _ _ _
 · simp
theorem zBa (f : Nat -> ByteArray) (p seq left : Nat) (h : (txn f p seq left).length ≠ 0) : 1 + 9 * (txn f p seq left).length <= left := by
 unfold txn at h ⊢; split at h
 · rename_i hc
   rw [if_pos hc, mL];rw [mL] at h;exact (Xi _ _ _ h).1
 · exact absurd rfl h
def stands (f : Nat -> ByteArray) : Nat -> Nat -> Nat -> Nat -> List (Nat × List ByteArray)
 | 0, _, _, _ => []
 | fuel + 1, p, left, seq => if (txn f p seq left).length = 0 then [] else (seq, txn f p seq left) :: stands f fuel (p + (1 + 9 * (txn f p seq left).length)) (left - (1 + 9 * (txn f p seq left).length)) ((seq + 1) % 18446744073709551616)
def long (l : List (Nat × List ByteArray)) : Nat := (l.map fun x => 1 + 9 * x.2.length).sum
def yJ (f : Nat -> ByteArray) (size seq : Nat) : List (Nat × List ByteArray) := stands f (size + 1) 0 size seq
theorem fL (f : Nat -> ByteArray) (fuel p left seq : Nat) (h : (txn f p seq left).length = 0) : stands f fuel p left seq = [] := by
 cases fuel with
 | zero => rfl
 | succ n => unfold stands; rw [if_pos h]
theorem Vt (f : Nat -> ByteArray) (fuel p left seq : Nat) (hf : 0 < fuel) (h : (txn f p seq left).length ≠ 0) : stands f fuel p left seq = (seq, txn f p seq left) :: stands f (fuel - 1) (p + (1 + 9 * (txn f p seq left).length)) (left - (1 + 9 * (txn f p seq left).length)) ((seq + 1) % 18446744073709551616) := by
 cases fuel with
 | zero => omega
 | succ n => rw [stands, if_neg h]; rfl
theorem qR (f : Nat -> ByteArray) : ∀ (fuel p left seq : Nat), long (stands f fuel p left seq) <= left
 | 0, _, _, _ => by simp [stands, long]
 | fuel + 1, p, left, seq => by
   unfold stands;split
   · simp [long]
   · rename_i h
     have ih := qR f fuel (p + (1 + 9 * (txn f p seq left).length)) (left - (1 + 9 * (txn f p seq left).length)) ((seq + 1) % 18446744073709551616);have := zBa f p seq left h;simp only [long, List.map_cons, List.sum_cons] at ih ⊢;omega
theorem zCf (f : Nat -> ByteArray) (p seq : Nat) : txn f p seq 0 = [] := by
 have : cnt (f p) seq 0 = 0 := by
   by_cases h : cnt (f p) seq 0 = 0
   · exact h
   · have := (Xi _ _ _ h).1; omega
 unfold txn;rw [this];split <;> rfl
theorem zOj (f : Nat -> ByteArray) (p seq left k : Nat) (hk : k < cnt (f p) seq left) (h : Qk (gJ f (p + 1 + 9 * k)) = false) : txn f p seq left = [] := by
 unfold txn;rw [if_neg];intro hh;rw [hh k hk] at h;cases h
theorem zGw (f : Nat -> ByteArray) (p seq left : Nat) (h : ∀ k, k < cnt (f p) seq left -> Qk (gJ f (p + 1 + 9 * k)) = true) : txn f p seq left = pgs f (p + 1) (cnt (f p) seq left) := by
 unfold txn; rw [if_pos h]
def lenOf : Value -> Nat
 | .slice _ n _ => n
 | _ => 0
theorem gP (ts : List (Nat × List ByteArray)) (t : Nat × List ByteArray) : long (ts ++ [t]) = long ts + (1 + 9 * t.2.length) := by
 simp [long]
theorem Xh (ts : List (Nat × List ByteArray)) : ts.length <= long ts := by
 induction ts with
 | nil => exact Nat.le_refl _
 | cons t ts ih => simp only [long, List.map_cons, List.sum_cons, List.length_cons] at *; omega
end
section
theorem zL4 : (Tryz.prog.info? 9).map (fun i => (i.zero, i.size, i.bytes)) = some (some (.string ⟨#[]⟩), 1, 16) := by kernel_rfl
def vK (n : Nat) (g : Nat -> ByteArray) (j : Nat) : Array Value := ((List.range n).map fun i => .string (if i < j then g i else ⟨#[]⟩)).toArray
theorem Uk (n : Nat) (g : Nat -> ByteArray) (j : Nat) : (vK n g j).size = n := by simp [vK]
theorem xS (n : Nat) (g : Nat -> ByteArray) (j i : Nat) (hi : i < n) : (vK n g j)[i]? = some (.string (if i < j then g i else ⟨#[]⟩)) := by simp [vK, hi]
theorem zHo (n : Nat) (g : Nat -> ByteArray) : madeCells #[Value.string ⟨#[]⟩] n = vK n g 0 := by
 apply Array.ext'
 rw [toList_madeCells_one];simp only [vK, Nat.not_lt_zero, if_false, List.map_const', List.length_range]
theorem Qh (n : Nat) (g : Nat -> ByteArray) (j : Nat) (hj : j < n) : (vK n g j).setIfInBounds j (.string (g j)) = vK n g (j + 1) := by
 apply Array.ext_getElem?
 intro i;by_cases hi : i < n
 · rw [Array.getElem?_setIfInBounds, xS n g (j + 1) i hi, xS n g j i hi, Uk];by_cases h : j = i
   · subst h; simp [hj]
   · simp only [h, if_false];by_cases h1 : i < j
     · rw [if_pos h1, if_pos (by omega)]
     · rw [if_neg h1, if_neg (by omega)]
 · rw [Array.getElem?_eq_none (by simp [Uk]; omega), Array.getElem?_eq_none (by simp [Uk]; omega)]
theorem mU (n : Nat) (hn : n <= 1000000) (g : Nat -> ByteArray) (w : World) : (Instr.makeSlice 34 (.int .i64 (n : Int)) (.int .i64 (n : Int))).run Tryz.prog w = .ok (.slice (some ⟨w.heap.size, 0, none⟩) n n) (w.alloc (.cells (vK n g 0) 9)) := by
 have := run_make_row' (P := Tryz.prog) 34 9 (.string ⟨#[]⟩) 16 Tryz.underlying34 zL4 rfl .i64 .i64 n (by omega) (by omega) w;rw [zHo n g] at this;exact this
def yO (w : World) (S : Nat -> Prop) (v : Value) (l : List ByteArray) : Prop :=
 ∃ a cap, v = .slice a l.length cap /\ l.length <= cap /\ cap <= maxLen /\ (∀ s ∈ l, s.size <= maxLen) /\
   (l = [] \/ ∃ b o, a = some ⟨b, o, none⟩ /\ S b /\ b < w.heap.size /\ ∀ i (h : i < l.length), w.cell? ⟨b, o + i, none⟩ = some (.string (l[i]'h)))
theorem yO.mono {w : World} {S T : Nat -> Prop} {v : Value} {l : List ByteArray} (h : yO w S v l) (k : ∀ b, b < w.heap.size -> S b -> T b) : yO w T v l := by
 obtain ⟨a, cap, h1, h2, h3, h4, h5⟩ := h;refine ⟨a, cap, h1, h2, h3, h4, ?_⟩;rcases h5 with h5 | ⟨b, o, e, hS, hb, hc⟩
 · exact .inl h5
 · exact .inr ⟨b, o, e, k b hb hS, hb, hc⟩
theorem yO.keep {w w' : World} {S T : Nat -> Prop} {v : Value} {l : List ByteArray} (h : yO w S v l) (hc : Chg T w w') (k : ∀ b, b < w.heap.size -> S b -> ¬ T b) : yO w' S v l := by
 obtain ⟨a, cap, h1, h2, h3, h4, h5⟩ := h;refine ⟨a, cap, h1, h2, h3, h4, ?_⟩;rcases h5 with h5 | ⟨b, o, e, hS, hb, hcl⟩
 · exact .inl h5
 · exact .inr ⟨b, o, e, hS, Nat.lt_of_lt_of_le hb hc.size, fun i hi => hc.cell (hcl i hi) (k b hb hS)⟩
theorem yO.below {w w' : World} {S : Nat -> Prop} {v : Value} {l : List ByteArray} (h : yO w S v l) (hb : Below w.heap.size w w') : yO w' S v l := h.keep (Chg.of (S := fun _ => False) hb) fun _ _ _ => id
theorem yO.nil (w : World) (S : Nat -> Prop) : yO w S (.slice none 0 0) [] := ⟨none, 0, rfl, Nat.le_refl _, Nat.zero_le _, by simp, .inl rfl⟩
theorem yO.row {w : World} {S : Nat -> Prop} {b n : Nat} {g : Nat -> ByteArray} (ho : Own w b 9 (vK n g n)) (hn : n <= maxLen) (hg : ∀ i, i < n -> (g i).size <= maxLen) (hS : S b) : yO w S (.slice (some ⟨b, 0, none⟩) n n) ((List.range n).map g) := by
 refine ⟨some ⟨b, 0, none⟩, n, by simp, by simp, hn, ?_, ?_⟩
 · intro s hs;obtain ⟨i, hi, rfl⟩ := List.mem_map.1 hs;exact hg i (List.mem_range.1 hi)
 · refine .inr ⟨b, 0, rfl, hS, ho.in_, fun i hi => ?_⟩;have hi' : i < n := by simpa using hi
   have := ho.at_.1 i;rw [xS n g n i hi', if_pos hi'] at this;rw [Nat.zero_add, this];simp
theorem yO.open_ {w : World} {S : Nat -> Prop} {v : Value} {l : List ByteArray} (h : yO w S v l) : ∃ a cap, v = .slice a l.length cap /\ l.length <= cap /\ cap <= maxLen /\ (∀ i (hi : i < l.length), (l[i]'hi).size <= maxLen /\ ∃ b o, a = some ⟨b, o, none⟩ /\ S b /\ b < w.heap.size /\ w.cell? ⟨b, o + i, none⟩ = some (.string (l[i]'hi))) := by
 obtain ⟨a, cap, h1, h2, h3, h4, h5⟩ := h;refine ⟨a, cap, h1, h2, h3, fun i hi => ⟨h4 _ (List.getElem_mem hi), ?_⟩⟩;rcases h5 with h5 | ⟨b, o, e, hS, hb, hcl⟩
 · subst h5; simp at hi
 · exact ⟨b, o, e, hS, hb, hcl i hi⟩
end
section
theorem zMh (k : Nat) (w : World) (hk : k <= 1000) :
   Calls Tryz.prog 60 #[.string ⟨#[0]⟩, .int .i64 k] w fun e w' => e = .returned (.string (zB k)) /\ Below w.heap.size w w' := by
 have h := Tryz.strings_Repeat ⟨#[0]⟩ k w (by omega) (by show 1 * k <= _; omega);rw [show Lib.repeatL (⟨#[0]⟩ : ByteArray).data.toList k = List.replicate k 0 from zGe k] at h;exact h
theorem zBv (n : Nat) (w : World) (hn : n <= 1000000000000) :
   Calls Tryz.prog 192 #[.int .i64 n] w fun e w' => e = .returned (.int .i64 (1 + 9 * n : Nat)) /\ w = w' := by
 go_enter Tryz.func192, Tryz.ntmps192;go_wp2;go_ret;exact ⟨gU (by omega), rfl⟩
theorem zGm (seq n : Nat) (w : World) (hs : seq <= 18446744073709551615) (hn : n <= 65535) :
   Calls Tryz.prog 227 #[.int .u64 seq, .int .i64 n] w fun e w' => e = .returned (.string (yR seq n)) /\ Below w.heap.size w w' := by
 have HP := Lh (fun w => uJ n 2 w (by omega) (by omega));have HM := Lh (fun w => zDc seq (Vj n) w hs (by rw [gL]; omega));have HE : ((⟨(zU n 2).toArray⟩ : ByteArray) ++ ⟨#[1]⟩) = Vj n := rfl;have HQ : mkB seq (Vj n) = yR seq n := rfl;rw [HQ] at HM;have z : (⟨(zU n 2).toArray⟩ : ByteArray).size <= 2 := by show (zU n 2).toArray.size <= 2; simp [zU]
 have hw : IntKind.u64.wrap (n : Int) = n := IntWalk.u64_in _ (by omega);clear HQ;generalize (⟨(zU n 2).toArray⟩ : ByteArray) = P at *
 generalize yR seq n = M at *
 generalize Vj n = C at *
 go_enter Tryz.func227, Tryz.ntmps227;go_wp2_with (first | (go_at_call 120; refine (HP.out _).mono ?_; rintro e w1 ⟨rfl, rfl⟩) | (go_at_call 127; refine (HM.out _).mono ?_; rintro e w2 ⟨rfl, hb⟩))
 go_ret;exact ⟨rfl, ((Below.refl _ _).alloc (Nat.le_refl _) _).trans (hb.mono (by simp))⟩
set_option maxRecDepth 10000 in
theorem Yx (p : ByteArray) (w : World) (hp : p.size <= 567) :
   Calls Tryz.prog 229 #[.string p] w fun e w' => ∃ b, e = .returned (.slice (some ⟨b, 0, none⟩) 9 9) /\ Own w' b 9 (vK 9 (secB p) 9) /\ w.heap.size <= b /\ Below w.heap.size w w' := by
 have HR := Lh (fun w => zMh (567 - p.size) w (by omega));have e1 : ((567 - p.size : Nat) : Int) = 567 - (p.size : Int) := by omega
 rw [e1] at HR;clear e1;have HE := Lh (show p ++ zB (567 - p.size) = Jg p from rfl);have hz := Qe p hp;have hZ : (zB (567 - p.size)).size <= 567 := by rw [xG]; omega
 have HS := Lh (fun k => show secB p k = zHn ((Jg p).extract (k * 63) ((k + 1) * 63)) from rfl);generalize zB (567 - p.size) = Z at *
 generalize Jg p = R at *
 have hz := Lh hz;go_enter Tryz.func229, Tryz.ntmps229;go_upto_region 2 with (go_at_call 60; with_reducible refine (HR.out _).mono ?_; rintro e w1 ⟨rfl, hb1⟩)
 have HM : (Instr.makeSlice 34 (.int .i64 9) (.int .i64 9)).run Tryz.prog w1 = .ok (.slice (some ⟨w1.heap.size, 0, none⟩) 9 9) (w1.alloc (.cells (vK 9 (secB p) 0) 9)) := mU 9 (by omega) (secB p) w1;have HO := Own.made w1 9 (vK 9 (secB p) 0);obtain ⟨W0, hW0⟩ : ∃ W0, W0 = w1.alloc (.cells (vK 9 (secB p) 0) 9) := ⟨_, rfl⟩
 have L0 : Below w.heap.size w W0 := hW0 ▸ hb1.alloc hb1.size _;have z1 := hb1.size;rw [<- hW0] at HM HO;replace HO := Lh HO;replace L0 := Lh L0;clear hW0;rw [HE.out];go_wp2;clear HM;go_loopw [16] (fun i wr => ∃ k : Nat, k <= 9 /\ i = .int .i64 k /\ Own wr w1.heap.size 9 (vK 9 (secB p) k) /\ Below w.heap.size w wr) (fun i wr => 9 - (intOf i).toNat)
 case atStart => exact ⟨0, by omega, rfl, HO.out, L0.out⟩
 case round =>
   obtain ⟨k, hk, rfl, hO, hL⟩ := hrel;by_cases hlt : k < 9
   · have hs := hz.out;obtain ⟨A, hA⟩ : ∃ A : Int, (k : Int) * 63 = A := ⟨_, rfl⟩
     obtain ⟨B, hB⟩ : ∃ B : Int, ((k : Int) + 1) * 63 = B := ⟨_, rfl⟩
     have hsl := run_slice_string (P := Tryz.prog) wr 9 R .i64 .i64 A B Tryz.underlying9 (by omega) (by omega) (by omega);have e1 : R.extract A.toNat B.toNat = R.extract (k * 63) ((k + 1) * 63) := by rw [show A.toNat = k * 63 by omega, show B.toNat = (k + 1) * 63 by omega]
     rw [e1] at hsl;have zX : (R.extract (k * 63) ((k + 1) * 63)).size = 63 := by rw [ByteArray.size_extract]; omega
     have hX := HS.out k;obtain ⟨X, hXe⟩ : ∃ X, X = R.extract (k * 63) ((k + 1) * 63) := ⟨_, rfl⟩
     rw [<- hXe] at hsl zX hX;have zXh := Lh zX;have HX := Lh hX;have hsz := hL.size;obtain ⟨c1, c2, c3⟩ := hO.at_;have hck : wr.cell? ⟨w1.heap.size, k, none⟩ = some (.string ⟨#[]⟩) := by
       rw [c1 k, xS 9 _ k k hlt, if_neg (by omega)]
     have hfk := c2 k;replace hO := Lh hO;replace hL := Lh hL;clear hs e1 hXe hX c1 c2;have x1 : (10 : Int) <= X.size := by omega
     have x2 : ¬ (9223372036854775807 < min 10 X.size + 1) := by omega
     have x3 : ¬ (9223372036854775807 < min 10 X.size + 1 + (X.size - 10)) := by omega
     have x4 : (k : Int) < 9 := by omega
     clear zX;go_upto_region 7 with fail;refine zA (fun W => True) (0 :: 1 :: 2 :: 3 :: 4 :: 5 :: 6 :: 7 :: 8 :: []) ([]) (0 :: 1 :: 2 :: 3 :: 4 :: 5 :: 6 :: 7 :: 8 :: 9 :: []) (by kernel_rfl) (by kernel_rfl) rfl (by kernel_rfl) rfl (trivial) (by simp only [zQ, List.filterMap_cons, List.filterMap_nil, List.getElem?_cons_zero, List.getElem?_cons_succ, Option.map_some]; exact rfl) ?_;iterate 9
       refine zC (v := ?_) rfl rfl (fun W hS => ?_) ?_;rotate_left
       · conv => lhs; simp [go_sem, x1, x2, x3, x4]
         first | done | exact rfl
       simp only [Act.put, lA, lZ, lS]
     refine xQ rfl rfl (by kernel_rfl) rfl fun K hK => ?_
     go_wp2;refine hK _ _ ?_;clear hK K;refine zN ?_;go_wp2;go_roundw
     case rel =>
       have e : (X.extract 0 10 ++ (⟨#[0]⟩ : ByteArray) ++ X.extract 10 X.size) = secB p k := HX.out.symm;refine ⟨k + 1, by omega, by go_num, ?_, hL.out.drew.setCell z1 _⟩;have := hO.out.drawn.put k (.string (secB p k));rw [Qh 9 (secB p) k hlt, <- e] at this;exact this
     case measure => simp [intOf]; omega
   · obtain rfl : k = 9 := by omega
     go_wp2;go_ret;exact ⟨_, rfl, hO, z1, hL⟩
end
section
def txc : List (Nat × List ByteArray) -> List Value -> List Value
 | t :: ts, v :: vs => .int .u64 (t.1 : Int) :: v :: txc ts vs
 | _, _ => []
theorem zJh : ∀ (ts : List (Nat × List ByteArray)) (vs : List Value) (h : vs.length = ts.length) (i : Nat) (hi : i < ts.length), (txc ts vs)[i * 2]? = some (.int .u64 ((ts[i]'hi).1 : Int)) /\ (txc ts vs)[i * 2 + 1]? = vs[i]?
 | t :: ts, v :: vs, h, 0, _ => ⟨rfl, rfl⟩
 | t :: ts, v :: vs, h, i + 1, hi => by
   have := zJh ts vs (by simpa using h) i (by simpa using hi);have e : (i + 1) * 2 = i * 2 + 1 + 1 := by omega
   rw [e];exact this
theorem zD4 : ∀ (ts : List (Nat × List ByteArray)) (vs : List Value) (t : Nat × List ByteArray) (v : Value), vs.length = ts.length -> txc (ts ++ [t]) (vs ++ [v]) = txc ts vs ++ [.int .u64 (t.1 : Int), v]
 | [], [], _, _, _ => rfl
 | a :: ts, b :: vs, t, v, h => by
   have := zD4 ts vs t v (by simpa using h);simp only [List.cons_append, txc, this]
def vD (w : World) (S : Nat -> Prop) (v : Value) (ts : List (Nat × List ByteArray)) : Prop :=
 ∃ a cap, v = .slice a ts.length cap /\ ts.length <= cap /\ cap <= maxLen /\
   (ts = [] \/ ∃ b o, a = some ⟨b, o, none⟩ /\ S b /\ b < w.heap.size /\ ∀ i (h : i < ts.length), w.cell? ⟨b, o + i * 2, none⟩ = some (.int .u64 ((ts[i]'h).1 : Int)) /\ ∃ u, w.cell? ⟨b, o + i * 2 + 1, none⟩ = some u /\ yO w S u (ts[i]'h).2)
theorem vD.nil (w : World) (S : Nat -> Prop) : vD w S (.slice none 0 0) [] := ⟨none, 0, rfl, Nat.le_refl _, Nat.zero_le _, .inl rfl⟩
theorem vD.keep {w w' : World} {S T : Nat -> Prop} {v : Value} {ts : List (Nat × List ByteArray)} (h : vD w S v ts) (hc : Chg T w w') (k : ∀ b, b < w.heap.size -> S b -> ¬ T b) : vD w' S v ts := by
 obtain ⟨a, cap, h1, h2, h3, h5⟩ := h;refine ⟨a, cap, h1, h2, h3, ?_⟩;rcases h5 with h5 | ⟨b, o, e, hS, hb, hcl⟩
 · exact .inl h5
 · refine .inr ⟨b, o, e, hS, Nat.lt_of_lt_of_le hb hc.size, fun i hi => ?_⟩;obtain ⟨c1, u, c2, c3⟩ := hcl i hi;exact ⟨hc.cell c1 (k b hb hS), u, hc.cell c2 (k b hb hS), c3.keep hc k⟩
theorem vD.mono {w : World} {S T : Nat -> Prop} {v : Value} {ts : List (Nat × List ByteArray)} (h : vD w S v ts) (k : ∀ b, b < w.heap.size -> S b -> T b) : vD w T v ts := by
 obtain ⟨a, cap, h1, h2, h3, h5⟩ := h;refine ⟨a, cap, h1, h2, h3, ?_⟩;rcases h5 with h5 | ⟨b, o, e, hS, hb, hcl⟩
 · exact .inl h5
 · refine .inr ⟨b, o, e, k b hb hS, hb, fun i hi => ?_⟩;obtain ⟨c1, u, c2, c3⟩ := hcl i hi;exact ⟨c1, u, c2, c3.mono k⟩
theorem vD.below {w w' : World} {S : Nat -> Prop} {v : Value} {ts : List (Nat × List ByteArray)} (h : vD w S v ts) (hb : Below w.heap.size w w') : vD w' S v ts := h.keep (Chg.of (S := fun _ => False) hb) fun _ _ _ => id
theorem vD.open_ {w : World} {S : Nat -> Prop} {v : Value} {ts : List (Nat × List ByteArray)} (h : vD w S v ts) : ∃ a cap, v = .slice a ts.length cap /\ ts.length <= cap /\ cap <= maxLen /\ ∀ i (hi : i < ts.length), ∃ b o, a = some ⟨b, o, none⟩ /\ S b /\ b < w.heap.size /\ w.cell? ⟨b, o + i * 2, none⟩ = some (.int .u64 ((ts[i]'hi).1 : Int)) /\ ∃ u, w.cell? ⟨b, o + i * 2 + 1, none⟩ = some u /\ yO w S u (ts[i]'hi).2 := by
 obtain ⟨a, cap, h1, h2, h3, h5⟩ := h;refine ⟨a, cap, h1, h2, h3, fun i hi => ?_⟩;rcases h5 with h5 | ⟨b, o, e, hS, hb, hcl⟩
 · subst h5; simp at hi
 · exact ⟨b, o, e, hS, hb, hcl i hi⟩
structure zGo (w : World) (T : TypeId) (S : Nat -> Prop) (v : Value) (ts : List (Nat × List ByteArray)) (vs : List Value) : Prop where
 len : vs.length = ts.length
 row : w.ownsRow 0 T 2 v ts.length (txc ts vs)
 at_ : ∀ g, v.ownBlock = some g -> S g
 strs : ∀ i (h : i < ts.length), ∃ u, vs[i]? = some u /\ yO w (fun b => S b /\ v.ownBlock ≠ some b) u (ts[i]'h).2
def jH (w : World) (T : TypeId) (S : Nat -> Prop) (v : Value) (ts : List (Nat × List ByteArray)) : Prop := ∃ vs, zGo w T S v ts vs
theorem jH.nil (w : World) (T : TypeId) (S : Nat -> Prop) : jH w T S (.slice none 0 0) [] :=
 ⟨[], rfl, World.ownsRow_nil _ _ _ _, (by intro g hg; cases hg), (by intro i h; exact absurd h (Nat.not_lt_zero _))⟩
theorem zEc {w w' : World} {e : TypeId} {size : Nat} {v : Value} {n : Nat} {xs : List Value} (h : w.ownsRow 0 e size v n xs) (hk : ∀ g, v.ownBlock = some g -> w'.heap[g]? = w.heap[g]?) : w'.ownsRow 0 e size v n xs := by
 refine ⟨h.1, ?_⟩;rcases h.2 with h2 | ⟨g, cap, cur, rfl, r1, r2, r3⟩
 · exact .inl h2
 · exact .inr ⟨g, cap, cur, rfl, r1, (hk g rfl).trans r2, r3⟩
theorem jH.keep {w w' : World} {T : TypeId} {S U : Nat -> Prop} {v : Value} {ts : List (Nat × List ByteArray)} (h : jH w T S v ts) (hc : Chg U w w') (k : ∀ b, b < w.heap.size -> S b -> ¬ U b) : jH w' T S v ts := by
 obtain ⟨vs, h1, h2, h3, h4⟩ := h;refine ⟨vs, h1, zEc h2 fun g hg => hc.block g (h2.lt g hg).2 (k g (h2.lt g hg).2 (h3 g hg)), h3, fun i hi => ?_⟩;obtain ⟨u, hu, hs⟩ := h4 i hi;exact ⟨u, hu, hs.keep hc fun b hb hS => k b hb hS.1⟩
theorem jH.below {w w' : World} {T : TypeId} {S : Nat -> Prop} {v : Value} {ts : List (Nat × List ByteArray)} (h : jH w T S v ts) (hb : Below w.heap.size w w') : jH w' T S v ts := h.keep (Chg.of (S := fun _ => False) hb) fun _ _ _ => id
theorem jH.mono {w : World} {T : TypeId} {S U : Nat -> Prop} {v : Value} {ts : List (Nat × List ByteArray)} (h : jH w T S v ts) (k : ∀ b, b < w.heap.size -> S b -> U b) : jH w T U v ts := by
 obtain ⟨vs, h1, h2, h3, h4⟩ := h;refine ⟨vs, h1, h2, fun g hg => k g (h2.lt g hg).2 (h3 g hg), fun i hi => ?_⟩;obtain ⟨u, hu, hs⟩ := h4 i hi;exact ⟨u, hu, hs.mono fun b hb hS => ⟨k b hb hS.1, hS.2⟩⟩
theorem jH.shape {w : World} {T : TypeId} {S : Nat -> Prop} {v : Value} {ts : List (Nat × List ByteArray)} (h : jH w T S v ts) : ∃ a c, v = .slice a ts.length c /\ ts.length <= c /\ c <= maxLen := by
 obtain ⟨vs, h1, h2, h3, h4⟩ := h;rcases h2.2 with ⟨rfl, h⟩ | ⟨g, cap, cur, rfl, _, _, r1, r2, _⟩
 · exact ⟨none, 0, by rw [h], by omega, Nat.zero_le _⟩
 · exact ⟨_, _, rfl, r1, r2⟩
theorem zGo.push {w wa w3 : World} {T : TypeId} {S : Nat -> Prop} {v v' u : Value} {ts : List (Nat × List ByteArray)} {vs : List Value} {t : Nat × List ByteArray} (h : zGo w T S v ts vs) (hu : yO w (fun b => S b /\ v.ownBlock ≠ some b) u t.2)
   (ha : Below w.heap.size w wa) (hown : w3.ownsRow 0 T 2 v' (ts.length + 1) (txc ts vs ++ [.int .u64 (t.1 : Int), u])) (hg : wa.grownBy w3 v.ownBlock) (hl : v'.ownBlock = v.ownBlock \/ v'.ownBlock = some wa.heap.size) (hS : ∀ q, w.heap.size <= q -> S q) :
   jH w3 T S v' (ts ++ [t]) /\ Chg (fun q => v.ownBlock = some q) w w3 := by
 have hc : Chg (fun q => v.ownBlock = some q) w w3 := (Chg.of ha).grown hg fun k hk => .inl hk
 have kk : ∀ u l, yO w (fun b => S b /\ v.ownBlock ≠ some b) u l -> yO w3 (fun b => S b /\ v'.ownBlock ≠ some b) u l := fun u l hs => by
   have h1 : yO w (fun b => S b /\ v.ownBlock ≠ some b /\ v'.ownBlock ≠ some b) u l := hs.mono fun b hb hh => ⟨hh.1, hh.2, by
     rcases hl with hl | hl
     · rw [hl]; exact hh.2
     · rw [hl]; have := ha.size; intro e; injection e; omega⟩
   exact (h1.keep hc fun b hb hh => hh.2.1).mono fun b hb hh => ⟨hh.1, hh.2.2⟩
 refine ⟨⟨vs ++ [u], by simp [h.len], ?_, ?_, fun i hi => ?_⟩, hc⟩
 · rw [zD4 ts vs t u h.len, List.length_append];exact hown
 · intro g hg';rcases hl with hl | hl
   · exact h.at_ g (hl ▸ hg')
   · rw [hl] at hg'; injection hg' with e; exact e ▸ hS _ ha.size
 · by_cases hlt : i < ts.length
   · obtain ⟨u', hu', hs'⟩ := h.strs i hlt;refine ⟨u', by rw [List.getElem?_append_left (by have := h.len; omega)]; exact hu', ?_⟩;rw [List.getElem_append_left hlt];exact kk _ _ hs'
   · have e : i = ts.length := by simp at hi; omega
     subst e;refine ⟨u, by rw [List.getElem?_append_right (by have := h.len; omega), h.len]; simp, ?_⟩;rw [List.getElem_append_right (by omega)];simp only [Nat.sub_self, List.getElem_cons_zero];exact kk _ _ hu
theorem jH.in_ {w : World} {T : TypeId} {S : Nat -> Prop} {v : Value} {ts : List (Nat × List ByteArray)} (h : jH w T S v ts) : vD w S v ts := by
 obtain ⟨a, c, hv, hc1, hc2⟩ := h.shape;obtain ⟨vs, h1, h2, h3, h4⟩ := h;refine ⟨a, c, hv, hc1, hc2, ?_⟩;rcases h2.2 with ⟨_, h⟩ | ⟨g, cap, cur, hv2, r0, r1, r2, r3, r4, r5⟩
 · exact .inl (List.length_eq_zero_iff.1 h)
 · by_cases h0 : ts = []
   · exact .inl h0
   · rw [hv2] at h2 h3 h4;refine .inr ⟨g, 0, ?_, h3 g rfl, (h2.lt g rfl).2, fun i hi => ?_⟩
     · rw [hv] at hv2; exact (Value.slice.inj hv2).1
     · have ha := zJh ts vs h1 i hi;obtain ⟨u, hu, hs⟩ := h4 i hi;refine ⟨?_, u, ?_, hs.mono fun b _ hh => hh.1⟩
       · rw [Nat.zero_add];exact (h2.cellAt (i * 2) (by omega)).trans ha.1
       · rw [Nat.zero_add];exact (h2.cellAt (i * 2 + 1) (by omega)).trans (ha.2.trans hu)
end
end Go.Proofs.YtndhmidgnpobjaaGreatDoor
