import Derived.Test.YtndhmidgnpobjaaGreatDoorPagA
import Derived.Test.YtndhmidgnpobjaaGreatDoorShelf
import Derived.Test.YtndhmidgnpobjaaGreatDoorCrcB
import Derived.BigQuiet
import Derived.Deep.QuietTactic
import Derived.Laws.IdiomStrings
import Derived.WalkLawsBesides
import Derived.Test.YtndhmidgnpobjaaGreatDoorDisE
import Derived.Test.YtndhmidgnpobjaaGreatDoorSta
import Derived.Deep.RegionWith
import Derived.Deep.DeepCutAuto
set_option linter.unusedVariables false
set_option linter.unusedSimpArgs false
section
namespace Go.Proofs.YtndhmidgnpobjaaGreatDoor
section
variable {α : Type}
def asc (l : List (Nat × α)) : Prop := l.Pairwise fun x y => x.1 < y.1
def lk (l : List (Nat × α)) (n : Nat) : Option α := (l.find? fun x => x.1 == n).map (·.2)
def ins (n : Nat) (v : α) : List (Nat × α) -> List (Nat × α)
 | [] => [(n, v)]
 | y :: l => if n < y.1 then (n, v) :: y :: l else if n = y.1 then (n, v) :: l else y :: ins n v l
def yH (l ps : List (Nat × α)) : List (Nat × α) := ps.foldl (fun l p => ins p.1 p.2 l) l
theorem fH (n : Nat) : lk ([] : List (Nat × α)) n = none := rfl
theorem yL (x : Nat × α) (l : List (Nat × α)) (n : Nat) : lk (x :: l) n = if x.1 = n then some x.2 else lk l n := by
 unfold lk;by_cases h : x.1 = n
 · simp [h]
 · simp [h]
theorem Xc {l : List (Nat × α)} {n : Nat} (h : ∀ x ∈ l, x.1 ≠ n) : lk l n = none := by
 induction l with
 | nil => rfl
 | cons y l ih => rw [yL, if_neg (h y (by simp)), ih fun x hx => h x (by simp [hx])]
theorem uH {l : List (Nat × α)} {n : Nat} {v : α} (h : lk l n = some v) : (n, v) ∈ l := by
 induction l with
 | nil => simp [fH] at h
 | cons y l ih =>
   rw [yL] at h;split at h
   · rename_i e
     injection h with h;subst h; subst e;simp
   · exact List.mem_cons_of_mem _ (ih h)
theorem zBt {l : List (Nat × α)} {n : Nat} (h : lk l n = none) : ∀ x ∈ l, x.1 ≠ n := by
 induction l with
 | nil => simp
 | cons y l ih =>
   rw [yL] at h;split at h
   · cases h
   · rename_i e
     intro x hx;rcases List.mem_cons.1 hx with rfl | hx
     · exact e
     · exact ih h x hx
theorem xV {x : Nat × α} {l : List (Nat × α)} : asc (x :: l) ↔ (∀ y ∈ l, x.1 < y.1) /\ asc l := List.pairwise_cons
theorem zBn {l : List (Nat × α)} (ha : asc l) {n : Nat} {v : α} (h : (n, v) ∈ l) : lk l n = some v := by
 induction l with
 | nil => simp at h
 | cons y l ih =>
   obtain ⟨h1, h2⟩ := xV.1 ha;rw [yL];rcases List.mem_cons.1 h with rfl | h
   · simp
   · have := h1 _ h;rw [if_neg (by simp only at this; omega), ih h2 h]
theorem zAs {l : List (Nat × α)} (ha : asc l) : (l.map (·.1)).Nodup := by
 unfold asc at ha;rw [List.nodup_iff_pairwise_ne, List.pairwise_map];exact ha.imp fun h => Nat.ne_of_lt h
theorem gW (n : Nat) (v : α) : ∀ (l : List (Nat × α)) (k : Nat), asc l -> lk (ins n v l) k = if n = k then some v else lk l k
 | [], k, _ => by rw [ins, yL]
 | y :: l, k, ha => by
   obtain ⟨h1, h2⟩ := xV.1 ha;unfold ins;split
   · rw [yL]
   · split
     · rename_i e1 e2
       rw [yL, yL];by_cases e : n = k
       · simp [e]
       · simp only [e, if_false];rw [if_neg (by omega)]
     · rename_i e1 e2
       rw [yL, gW n v l k h2, yL];by_cases e : n = k
       · simp only [e, if_true];rw [if_neg (by omega)]
       · simp only [e, if_false]
theorem Qi {n : Nat} {v : α} : ∀ {l : List (Nat × α)} {x : Nat × α}, x ∈ ins n v l -> x = (n, v) \/ x ∈ l
 | [], x, h => .inl (by simpa [ins] using h)
 | y :: l, x, h => by
   unfold ins at h;split at h
   · exact (List.mem_cons.1 h)
   · split at h
     · rcases List.mem_cons.1 h with h | h
       · exact .inl h
       · exact .inr (List.mem_cons_of_mem _ h)
     · rcases List.mem_cons.1 h with h | h
       · exact .inr (by simp [h])
       · rcases Qi h with h | h
         · exact .inl h
         · exact .inr (List.mem_cons_of_mem _ h)
theorem qS (n : Nat) (v : α) : ∀ {l : List (Nat × α)}, asc l -> asc (ins n v l)
 | [], _ => by simp [ins, asc]
 | y :: l, ha => by
   obtain ⟨h1, h2⟩ := xV.1 ha;unfold ins;split
   · rename_i e
     refine xV.2 ⟨fun x hx => ?_, ha⟩;rcases List.mem_cons.1 hx with rfl | hx
     · exact e
     · have := h1 x hx; simp only; omega
   · split
     · rename_i e1 e2
       refine xV.2 ⟨fun x hx => ?_, h2⟩;have := h1 x hx;simp only;omega
     · rename_i e1 e2
       refine xV.2 ⟨fun x hx => ?_, qS n v h2⟩;rcases Qi hx with rfl | hx
       · simp only; omega
       · exact h1 x hx
theorem mW (n : Nat) (v : α) : ∀ (l : List (Nat × α)), asc l -> (ins n v l).length = if (lk l n).isSome then l.length else l.length + 1
 | [], _ => rfl
 | y :: l, ha => by
   obtain ⟨h1, h2⟩ := xV.1 ha;have ih := mW n v l h2;rw [yL];unfold ins;by_cases e : n < y.1
   · have h0 : lk l n = none := Xc fun x hx => by have := h1 x hx; omega
     have e3 : ¬ y.1 = n := by omega
     rw [if_pos e, if_neg e3, h0];rfl
   · rw [if_neg e];by_cases e2 : n = y.1
     · rw [if_pos e2, if_pos e2.symm];simp
     · have e3 : ¬ y.1 = n := fun h => e2 h.symm
       rw [if_neg e2, if_neg e3, List.length_cons, ih];cases (lk l n).isSome <;> simp
theorem zG8 : ∀ {a b : List (Nat × α)}, asc a -> asc b -> (∀ n, lk a n = lk b n) -> a = b
 | [], [], _, _, _ => rfl
 | [], y :: b, _, _, h => by
   have := h y.1;rw [fH, yL, if_pos rfl] at this;cases this
 | x :: a, [], _, _, h => by
   have := h x.1;rw [fH, yL, if_pos rfl] at this;cases this
 | x :: a, y :: b, ha, hb, h => by
   obtain ⟨a1, a2⟩ := xV.1 ha;obtain ⟨b1, b2⟩ := xV.1 hb;have e : x.1 = y.1 := by
     have hx := h x.1;have hy := h y.1;rw [yL, if_pos rfl, yL] at hx;rw [yL, yL, if_pos rfl] at hy;by_cases e : x.1 = y.1
     · exact e
     · rw [if_neg (by omega)] at hx;rw [if_neg e] at hy;have m1 := b1 _ (uH hx.symm);have m2 := a1 _ (uH hy);simp only at m1 m2;omega
   have e2 : x.2 = y.2 := by
     have hx := h x.1;rw [yL, if_pos rfl, yL, if_pos e.symm] at hx;injection hx
   have e3 : x = y := Prod.ext e e2;subst e3;rw [zG8 a2 b2 fun n => ?_];have := h n;rw [yL, yL] at this;by_cases en : x.1 = n
   · rw [Xc fun z hz => by have := a1 z hz; omega, Xc fun z hz => by have := b1 z hz; omega]
   · simpa [en] using this
theorem zCq (l : List (Nat × α)) (p : Nat × α) (ps : List (Nat × α)) : yH l (p :: ps) = yH (ins p.1 p.2 l) ps := rfl
theorem zDk (l : List (Nat × α)) (p : Nat × α) (ps : List (Nat × α)) : yH l (ps ++ [p]) = ins p.1 p.2 (yH l ps) := by simp [yH]
theorem uO : ∀ (ps : List (Nat × α)) {l : List (Nat × α)}, asc l -> asc (yH l ps)
 | [], _, h => h
 | p :: ps, l, h => uO ps (qS p.1 p.2 h)
theorem Jj : ∀ {ps : List (Nat × α)} {l : List (Nat × α)} {x : Nat × α}, x ∈ yH l ps -> x ∈ ps \/ x ∈ l
 | [], _, _, h => .inr h
 | p :: ps, l, x, h => by
   rcases Jj (ps := ps) h with h | h
   · exact .inl (List.mem_cons_of_mem _ h)
   · rcases Qi h with h | h
     · exact .inl (by simp [h])
     · exact .inr h
theorem Vk {l : List (Nat × α)} (ha : asc l) : ∀ (ps : List (Nat × α)), asc ps -> ∀ k, lk (yH l ps) k = match lk ps k with | some v => some v | none => lk l k := by
 intro ps;induction ps generalizing l with
 | nil => intro _ k; rfl
 | cons p ps ih =>
   intro hp k;obtain ⟨h1, h2⟩ := xV.1 hp;rw [zCq, ih (qS p.1 p.2 ha) h2 k, gW _ _ _ _ ha, yL];by_cases e : p.1 = k
   · rw [if_pos e, if_pos e, Xc fun x hx => by have := h1 x hx; omega]
   · rw [if_neg e, if_neg e]
end
abbrev Pag := Nat × ByteArray
structure vE (x : Pag) : Prop where
 lo : 1 <= x.1
 hi : x.1 <= 255
 size : x.2.size = 496
def fl (t : ByteArray) : ByteArray := t ++ zB (496 - t.size)
theorem Qt (t : ByteArray) (h : t.size <= 496) : (fl t).size = 496 := by unfold fl; rw [ByteArray.size_append, xG]; omega
theorem jC (t : ByteArray) (h : t.size = 496) : fl t = t := by
 refine qV ?_;unfold fl;rw [xX, h];simp [zB]
def fr (x : Pag) : ByteArray := ⟨#[UInt8.ofNat x.1]⟩ ++ x.2
theorem gS {x : Pag} (h : x.2.size = 496) : (fr x).size = 497 := by
 unfold fr; rw [ByteArray.size_append, h]; rfl
theorem zMj {x : Pag} (h : vE x) : bN (fr x) 0 = x.1 := by
 unfold fr;rw [qU _ _ 0 (by show 0 < 1; omega)];have h1 := h.hi;rw [qG _ 0 (by show 0 < 1; omega)];show (UInt8.ofNat x.1).toNat = x.1
 simp;omega
theorem zMn {x : Pag} (h : x.2.size = 496) : (fr x).extract 1 (fr x).size = x.2 := by
 refine qV ?_;rw [xK, gS h];unfold fr;rw [xX];show (([UInt8.ofNat x.1] ++ x.2.data.toList).drop 1).take 496 = x.2.data.toList
 rw [show ([UInt8.ofNat x.1] ++ x.2.data.toList).drop 1 = x.2.data.toList from rfl];exact List.take_of_length_le (by rw [jD, h]; omega)
def zM (u f : Nat) (r : Nat -> Nat) : ByteArray := fl ⟨(zU u 4 ++ zU f 4 ++ (List.range 8).flatMap fun i => zU (r i) 8).toArray⟩
def rdU (t : ByteArray) : Nat := zY t 0 4
def rdF (t : ByteArray) : Nat := zY t 4 4
def rdR (t : ByteArray) (i : Nat) : Nat := zY t (8 + 8 * i) 8
def yI (n : Nat) : ByteArray := fl ⟨(zU n 4).toArray⟩
theorem zW (L : List UInt8) : (⟨L.toArray⟩ : ByteArray).size = L.length := by simp [ByteArray.size]
theorem flat8 (r : Nat -> Nat) : ((List.range 8).flatMap fun i => zU (r i) 8).length = 64 := by
 simp [List.range, List.range.loop, zR]
theorem Zw (u f : Nat) (r : Nat -> Nat) : (zU u 4 ++ zU f 4 ++ (List.range 8).flatMap fun i => zU (r i) 8).length = 72 := by
 rw [List.length_append, List.length_append, flat8, zR, zR]
theorem xB (u f : Nat) (r : Nat -> Nat) : (zM u f r).size = 496 := Qt _ (by rw [zW, Zw]; omega)
theorem Jr (n : Nat) : (yI n).size = 496 := Qt _ (by rw [zW, zR]; omega)
theorem Qb (u f : Nat) (r : Nat -> Nat) : (zM u f r).data.toList = zU u 4 ++ (zU f 4 ++ (((List.range 8).flatMap fun i => zU (r i) 8) ++ List.replicate 424 0)) := by
 unfold zM fl;rw [xX, zW, Zw];show (zU u 4 ++ zU f 4 ++ (List.range 8).flatMap fun i => zU (r i) 8) ++ List.replicate 424 0 = _
 rw [List.append_assoc, List.append_assoc]
theorem Uo (n : Nat) (h : n < 4294967296) : num (zU n 4) = n := Yq n h
theorem Xd (u f : Nat) (r : Nat -> Nat) (h : u < 4294967296) : rdU (zM u f r) = u := by
 unfold rdU;rw [vN _ _ _ (by rw [xB]; omega), Qb, List.drop_zero, jA (zR u 4), Uo u h]
theorem zBu (u f : Nat) (r : Nat -> Nat) (h : f < 4294967296) : rdF (zM u f r) = f := by
 unfold rdF;rw [vN _ _ _ (by rw [xB]; omega), Qb, xM (zR u 4), jA (zR f 4), Uo f h]
theorem qD (s : ByteArray) (p k n : Nat) (hk : k <= 8) (h : p + k <= s.size) (hn : n < 2 ^ (8 * k)) (e : (s.data.toList.drop p).take k = zU n k) : zY s p k = n := by
 have key : zY s p k = zY ⟨(zU n k).toArray⟩ 0 k := by
   rw [vN s p k h, vN _ 0 k (by rw [zW, zR]; omega), e];simp [List.take_of_length_le, zR]
 rw [key];have gen : ∀ j, j <= k -> zY ⟨(zU n k).toArray⟩ 0 j = n % 2 ^ (8 * j) := by
   intro j;induction j with
   | zero => intro _; simp [zY, Nat.mod_one]
   | succ j ih =>
     intro hj;rw [zY, ih (by omega)];have hb : bN ⟨(zU n k).toArray⟩ (0 + j) = n / 2 ^ (8 * j) % 256 := by
       rw [qG _ _ (by rw [zW, zR]; omega)];show ((zU n k).toArray[0 + j]'(by simp [zR]; omega)).toNat = _
       simp [zU, xJ]
     rw [hb, show 8 * (j + 1) = 8 * j + 8 by omega, Nat.pow_add, show (2 : Nat) ^ 8 = 256 from rfl, Nat.mod_mul, Nat.mul_comm (2 ^ (8 * j)) (n / 2 ^ (8 * j) % 256)]
 rw [gen k (Nat.le_refl k), Nat.mod_eq_of_lt hn]
theorem zLn (r : Nat -> Nat) (i : Nat) (hi : i < 8) (B : List UInt8) : ((((List.range 8).flatMap fun i => zU (r i) 8) ++ B).drop (8 * i)).take 8 = zU (r i) 8 := by
 have e : ((List.range 8).flatMap fun i => zU (r i) 8) = zU (r 0) 8 ++ (zU (r 1) 8 ++ (zU (r 2) 8 ++ (zU (r 3) 8 ++ (zU (r 4) 8 ++ (zU (r 5) 8 ++ (zU (r 6) 8 ++ (zU (r 7) 8 ++ []))))))) := rfl;rw [e];have d : ∀ (n : Nat) (X : List UInt8) (j : Nat), (zU n 8 ++ X).drop (8 * (j + 1)) = X.drop (8 * j) := fun n X j => by
   rw [show 8 * (j + 1) = 8 + 8 * j by omega, <- List.drop_drop, xM (zR n 8)]
 simp only [List.append_assoc];rcases (by omega : i = 0 \/ i = 1 \/ i = 2 \/ i = 3 \/ i = 4 \/ i = 5 \/ i = 6 \/ i = 7) with rfl | rfl | rfl | rfl | rfl | rfl | rfl | rfl <;>
   simp only [d, show (8 * 1 : Nat) = 8 * (0 + 1) from rfl, show (8 * 2 : Nat) = 8 * (1 + 1) from rfl, show (8 * 3 : Nat) = 8 * (2 + 1) from rfl, show (8 * 4 : Nat) = 8 * (3 + 1) from rfl, show (8 * 5 : Nat) = 8 * (4 + 1) from rfl, show (8 * 6 : Nat) = 8 * (5 + 1) from rfl, show (8 * 7 : Nat) = 8 * (6 + 1) from rfl, Nat.mul_zero, List.drop_zero] <;>
   exact jA (zR _ 8)
theorem zBe (u f : Nat) (r : Nat -> Nat) (i : Nat) (hi : i < 8) (h : r i < 18446744073709551616) : rdR (zM u f r) i = r i := by
 unfold rdR;refine qD _ _ _ _ (by omega) (by rw [xB]; omega) (by rw [show 8 * 8 = 64 from rfl]; exact Nat.lt_of_lt_of_le h (Nat.le_of_eq (by rfl))) ?_;rw [Qb, show 8 + 8 * i = 4 + (4 + 8 * i) by omega, <- List.drop_drop, xM (zR u 4), <- List.drop_drop, xM (zR f 4)];exact zLn r i hi _
theorem mF (u f : Nat) (r q : Nat -> Nat) (h : ∀ i, i < 8 -> r i = q i) : zM u f r = zM u f q := by
 have e : ((List.range 8).flatMap fun i => zU (r i) 8) = (List.range 8).flatMap fun i => zU (q i) 8 := by
   simp only [List.range, List.range.loop, List.flatMap_cons, h 0 (by omega), h 1 (by omega), h 2 (by omega), h 3 (by omega), h 4 (by omega), h 5 (by omega), h 6 (by omega), h 7 (by omega), List.flatMap_nil]
 unfold zM;rw [e]
theorem zH6 (n : Nat) (h : n < 4294967296) : zY (yI n) 0 4 = n := by
 rw [vN _ _ _ (by rw [Jr]; omega)];unfold yI fl;rw [xX, List.drop_zero];rw [show (⟨(zU n 4).toArray⟩ : ByteArray).data.toList = zU n 4 by simp, jA (zR n 4), Uo n h]
structure Um (most : Nat) (x : Pag) : Prop where
 kind : x.1 = 1
 room : x.2 = zM (rdU x.2) (rdF x.2) (rdR x.2)
 lo : 1 <= rdU x.2
 hi : rdU x.2 <= most
 free : rdF x.2 < rdU x.2
theorem Um.ok {most : Nat} {x : Pag} (h : Um most x) : vE x := ⟨by rw [h.kind]; omega, by rw [h.kind]; omega, by rw [h.room, xB]⟩
theorem Um.mk' {most u f : Nat} {r : Nat -> Nat} (h1 : 1 <= u) (h2 : u <= most) (h3 : f < u) (hm : most <= 65536) (hr : ∀ i, i < 8 -> r i < 18446744073709551616) : Um most (1, zM u f r) := by
 have e1 : rdU (zM u f r) = u := Xd u f r (by omega);have e2 : rdF (zM u f r) = f := zBu u f r (by omega);refine ⟨rfl, ?_, by rw [e1]; exact h1, by rw [e1]; exact h2, by rw [e1, e2]; exact h3⟩;show zM u f r = zM (rdU (zM u f r)) (rdF (zM u f r)) (rdR (zM u f r))
 rw [e1, e2];exact mF u f _ _ fun i hi => (zBe u f r i hi (hr i hi)).symm
theorem zLx (t : ByteArray) (i : Nat) : rdR t i < 18446744073709551616 := gQ t _ 8 (by omega)
theorem zJ6 (t : ByteArray) : rdU t < 4294967296 := uL t 0 4
theorem zJy (t : ByteArray) : rdF t < 4294967296 := uL t 4 4
end Go.Proofs.YtndhmidgnpobjaaGreatDoor
end
section
namespace Go.Proofs.YtndhmidgnpobjaaGreatDoor
open Go.ChangeShapes Go.WideShapes Go.ChangeAt Go.RowKit
theorem zGe (k : Nat) : Lib.repeatL [0] k = List.replicate k 0 := by
 induction k with
 | zero => rfl
 | succ k ih => rw [Lib.repeatL, ih, List.replicate_succ]; rfl
theorem repeat_any (k : Nat) (w : World) (hk : k <= 48) :
   Calls Tryz.prog 60 #[.string ⟨#[0]⟩, .int .i64 k] w fun e w' => e = .returned (.string (zB k)) /\ Below w.heap.size w w' := by
 have h := Tryz.strings_Repeat ⟨#[0]⟩ k w (by omega) (by show 1 * k <= _; omega);rw [show Lib.repeatL (⟨#[0]⟩ : ByteArray).data.toList k = List.replicate k 0 from zGe k] at h;exact h
def gv (s : ByteArray) (p : Nat) : Nat := if p + 8 <= s.size then zY s p 8 else 0
def gb (s : ByteArray) (p : Nat) : Bool := decide (p + 8 <= s.size)
theorem zN4 (s : ByteArray) (p : Nat) : gv s p <= 18446744073709551615 := by
 unfold gv; split
 · have := gQ s p 8 (by omega); omega
 · omega
theorem get8 (s : ByteArray) (p : Nat) (w : World) (hs : s.size <= 9223372036854775807) (hp : p <= 1000) :
   Calls Tryz.prog 132 #[.string s, .int .i64 p, .int .i64 8] w fun e w' => e = .returned (.tuple #[.int .u64 (gv s p), .bool (gb s p)]) /\ w = w' := by
 by_cases h : p + 8 <= s.size
 · have := jO s p 8 w hs (by omega) h;unfold gv gb;rw [if_pos h, decide_eq_true h];exact this
 · have := zA5 s p 8 w hs (by omega) (by omega) (by omega) (by omega) (by omega);unfold gv gb;rw [if_neg h, decide_eq_false h];exact this
theorem zDc (n : Nat) (t : ByteArray) (w : World) (hn : n <= 18446744073709551615) (ht : t.size <= 48) :
   Calls Tryz.prog 127 #[.int .u64 n, .string t] w fun e w' => e = .returned (.tuple #[.string (mkB n t), .int .i64 0]) /\ Below w.heap.size w w' := by
 have HP : ∀ w : World, Calls Tryz.prog 120 #[.int .u64 n, .int .i64 8] w fun e w' => e = .returned (.string (nB n)) /\ w' = w.alloc (.cells (putCells n 8) 256) := fun w => uJ n 8 w hn (by omega)
 have HR : ∀ w : World, Calls Tryz.prog 60 #[.string ⟨#[0]⟩, .int .i64 (48 - (t.size : Int))] w fun e w' => e = .returned (.string (zB (48 - t.size))) /\ Below w.heap.size w w' := fun w => by
   have := repeat_any (48 - t.size) w (by omega);rwa [show ((48 - t.size : Nat) : Int) = 48 - (t.size : Int) by omega] at this
 have hN := vS n;have hZ := xG (48 - t.size);have HE := Lh (show nB n ++ t ++ zB (48 - t.size) ++ nB n = mkB n t from rfl);have hN2 : (nB n).size <= 8 := by omega
 have hZ2 : (zB (48 - t.size)).size <= 48 := by omega
 clear hN hZ;generalize nB n = NB at *
 generalize zB (48 - t.size) = ZB at *
 go_enter Tryz.func127, Tryz.ntmps127;go_wp2_with (first
   | (go_at_call 120; refine (HP _).mono ?_; rintro e w1 ⟨rfl, rfl⟩)
   | (go_at_call 60; refine (HR _).mono ?_; rintro e w2 ⟨rfl, hb⟩))
 go_ret2;exact ⟨by rw [HE.out]; rfl, ((Below.refl _ _).alloc (Nat.le_refl _) _).trans (hb.mono (by simp))⟩
theorem Yu (s : ByteArray) (w : World) (hs : s.size <= 9223372036854775807) :
   Calls Tryz.prog 185 #[.string s] w fun e w' => e = .returned (.tuple #[.int .u64 (mN s), .string (mT s), .bool (isM s)]) /\ Below w.heap.size w w' := by
 have G0 := get8 s 0;have G56 := get8 s 56;have b0 := zN4 s 0;have b56 := zN4 s 56;have hmn := zAi s;have HG0 : RowKit.Hid (∀ w : World, Calls Tryz.prog 132 #[.string s, .int .i64 0, .int .i64 8] w fun e w' => e = .returned (.tuple #[.int .u64 (gv s 0), .bool (gb s 0)]) /\ w = w') := Lh (fun w => G0 w hs (by omega));have HG56 : RowKit.Hid (∀ w : World, Calls Tryz.prog 132 #[.string s, .int .i64 56, .int .i64 8] w fun e w' => e = .returned (.tuple #[.int .u64 (gv s 56), .bool (gb s 56)]) /\ w = w') := Lh (fun w => G56 w hs (by omega));clear G0 G56;by_cases h1 : s.size = 64
 · have e0 : gv s 0 = zY s 0 8 := by unfold gv; rw [if_pos (by omega)]
   have e56 : gv s 56 = zY s 56 8 := by unfold gv; rw [if_pos (by omega)]
   have h3 : ((s.size : Int) != 64) = false := by simp; omega
   by_cases h2 : zY s 0 8 = zY s 56 8
   · have hI : isM s = true := decide_eq_true ⟨h1, h2⟩;have hN : mN s = gv s 0 := by unfold mN; rw [if_pos hI, e0]
     have hT : mT s = s.extract 8 56 := by unfold mT; rw [if_pos hI]
     rw [hN, hT, hI];have h4 : ((gv s 0 : Int) != (gv s 56 : Int)) = false := by rw [e0, e56, h2]; simp
     have z1 : (s.extract 8 56).size <= 1000 := by rw [ByteArray.size_extract]; omega
     have HC := Lh (fun w => uS (s.extract 8 56) w (by omega));have g8 : (56 : Int) <= s.size := by omega
     clear e0 e56 h2 hI hN hT hmn h1 z1;generalize gb s 0 = B0 at *
     generalize gb s 56 = B1 at *
     generalize gv s 0 = V0 at *
     generalize gv s 56 = V1 at *
     go_enter Tryz.func185, Tryz.ntmps185;go_wp2_with (first
       | (go_at_call 132; (first | (with_reducible refine (HG0.out _).mono ?_) | (with_reducible refine (HG56.out _).mono ?_)); rintro e w1 ⟨rfl, rfl⟩)
       | (go_at_call 179; refine (HC.out _).mono ?_; rintro e w2 ⟨rfl, hb⟩))
     go_ret3;exact ⟨rfl, hb⟩
   · have hI : isM s = false := decide_eq_false (fun h => h2 h.2);have hN : mN s = 0 := by unfold mN; rw [if_neg (by simp [hI])]
     have hT : mT s = ⟨#[]⟩ := by unfold mT; rw [if_neg (by simp [hI])]
     rw [hN, hT, hI];have h4 : ((gv s 0 : Int) != (gv s 56 : Int)) = true := by rw [e0, e56, bne_iff_ne]; omega
     clear e0 e56 h2 hI hN hT hmn h1;generalize gb s 0 = B0 at *
     generalize gb s 56 = B1 at *
     generalize gv s 0 = V0 at *
     generalize gv s 56 = V1 at *
     go_enter Tryz.func185, Tryz.ntmps185;go_wp2_with (first
       | (go_at_call 132; (first | (with_reducible refine (HG0.out _).mono ?_) | (with_reducible refine (HG56.out _).mono ?_)); rintro e w1 ⟨rfl, rfl⟩))
     go_ret3;exact ⟨rfl, Below.refl _ _⟩
 · have hI : isM s = false := decide_eq_false (fun h => h1 h.1);have hN : mN s = 0 := by unfold mN; rw [if_neg (by simp [hI])]
   have hT : mT s = ⟨#[]⟩ := by unfold mT; rw [if_neg (by simp [hI])]
   rw [hN, hT, hI];have h3 : ((s.size : Int) != 64) = true := by rw [bne_iff_ne]; omega
   clear hI hN hT hmn h1;generalize gb s 0 = B0 at *
   generalize gb s 56 = B1 at *
   generalize gv s 0 = V0 at *
   generalize gv s 56 = V1 at *
   go_enter Tryz.func185, Tryz.ntmps185;go_wp2_with (first
     | (go_at_call 132; (first | (with_reducible refine (HG0.out _).mono ?_) | (with_reducible refine (HG56.out _).mono ?_)); rintro e w1 ⟨rfl, rfl⟩))
   go_ret3;exact ⟨rfl, Below.refl _ _⟩
def bK (a b : ByteArray) : Int := if isM a && (!isM b || decide (mN b <= mN a)) then 0 else if isM b then 1 else -1
def bN_ (a b : ByteArray) : Nat := if bK a b = 0 then mN a else if bK a b = 1 then mN b else 0
def bT (a b : ByteArray) : ByteArray := if bK a b = 0 then mT a else if bK a b = 1 then mT b else ⟨#[]⟩
theorem zJi (a b : ByteArray) (w : World) (ha : a.size <= 9223372036854775807) (hb : b.size <= 9223372036854775807) :
   Calls Tryz.prog 131 #[.string a, .string b] w fun e w' => e = .returned (.tuple #[.int .u64 (bN_ a b), .string (bT a b), .int .i64 (bK a b)]) /\ Below w.heap.size w w' := by
 have GA := Lh (fun w => Yu a w ha);have GB := Lh (fun w => Yu b w hb);have E := Lh (show (bN_ a b, bT a b, bK a b) = (if isM a && (!isM b || decide (mN b <= mN a)) then (mN a, mT a, 0) else if isM b then (mN b, mT b, 1) else (0, ⟨#[]⟩, -1)) by
   unfold bN_ bT bK;by_cases c : mN b <= mN a <;> cases isM a <;> cases isM b <;> simp [c])
 have ba := zAi a;have bb := zAi b;generalize bN_ a b = rn at *
 generalize bT a b = rt at *
 generalize bK a b = rk at *
 generalize mN a = na at *
 generalize mN b = nb at *
 generalize mT a = ta at *
 generalize mT b = tb at *
 generalize isM a = ia at *
 generalize isM b = ib at *
 have main : ∀ (t : Bool), t = decide (nb <= na) -> Calls Tryz.prog 131 #[.string a, .string b] w fun e w' => e = .returned (.tuple #[.int .u64 rn, .string rt, .int .i64 rk]) /\ Below w.heap.size w w' := by
   intro t ht;have E2 : (rn, rt, rk) = (if ia && (!ib || t) then (na, ta, 0) else if ib then (nb, tb, 1) else (0, ⟨#[]⟩, -1)) := by
     rw [E.out, ht]
   have ht' := ht.symm;clear ht E;cases ia <;> cases ib <;> cases t <;> simp only [Bool.not_true, Bool.not_false, Bool.or_true, Bool.or_false, Bool.and_true, Bool.and_false, if_true, if_false, Bool.false_eq_true, Prod.mk.injEq] at E2
   all_goals
     obtain ⟨rfl, rfl, rfl⟩ := E2;go_enter Tryz.func131, Tryz.ntmps131;go_wp2_with (go_at_call 185; (first | (with_reducible refine (GA.out _).mono ?_; rintro e w1 ⟨rfl, hb1⟩) | (with_reducible refine (GB.out _).mono ?_; rintro e w2 ⟨rfl, hb2⟩)))
     go_ret3;exact ⟨rfl, hb1.trans (hb2.mono hb1.size)⟩
 exact main _ rfl
end Go.Proofs.YtndhmidgnpobjaaGreatDoor
end
section
namespace Go.Proofs.YtndhmidgnpobjaaGreatDoor
open Go.ChangeShapes Go.WideShapes Go.ChangeAt Go.RowKit
def vB (s : St) : Int × St :=
 if s.down then (11, s) else if (vH s).1 then (0, ⟨yK (fun _ => 64) s.wr 0 s.sure, [], (vH s).2.fuse, (vH s).2.down⟩) else (11, (vH s).2)
theorem zPa (j : Int) (W : World) : Calls Tryz.prog 184 (#[.int .i64 j] ++ #[]) W fun e w' => e = .returned (.int .i64 64) /\ W = w' := by
 show Calls Tryz.prog 184 #[.int .i64 j] W _
 go_enter Tryz.func184, Tryz.ntmps184;go_wp2;go_ret;exact ⟨rfl, rfl⟩
def Uf (w : World) (a : Option Addr) (len cap : Nat) (zs : List Bool) : Prop :=
 len <= cap /\ cap <= maxLen /\ (len = 0 \/ ∃ b o, a = some ⟨b, o, none⟩ /\ ∀ i, i < len -> w.cell? ⟨b, o + i, none⟩ = some (.bool (zs.getD i false)))
section
variable {w : World} {d sb mb sc : Nat} {wv : Value} {n : Nat} {s : St}
theorem Qj.of {w' : World} {s' : St} (h : zI w' d sb mb sc (.slice none 0 0) n s') (hc : Chg (fp d sb mb wv) w w') (hn : wv = .slice none 0 0 \/ True) : ∃ wv', zI w' d sb mb sc wv' n s' /\ Chg (fp d sb mb wv) w w' /\ (wv'.ownBlock = none \/ wv'.ownBlock = wv.ownBlock) := ⟨_, h, hc, .inl rfl⟩
set_option maxHeartbeats 1000000 in
theorem Zx (h : zI w d sb mb sc wv n s) :
   Calls Tryz.prog 126 #[.pointer (some ⟨d, 0, none⟩)] w fun e w' => e = .returned (.int .i64 (vB s).1) /\ ∃ wv', zI w' d sb mb sc wv' n (vB s).2 /\ Chg (fp d sb mb wv) w w' /\ (wv'.ownBlock = none \/ wv'.ownBlock = wv.ownBlock) := by
 have HD := Lh (mD h);have HL := Lh (zAo h);have H := Lh h;clear h;by_cases c1 : s.down = true
 · have E := Lh (show vB s = (11, s) by simp [vB, c1]);rw [c1] at HD;clear c1;go_enter Tryz.func126, Tryz.ntmps126;go_wp2_with (go_at_call 67; refine HD.out.mono ?_; rintro e w' ⟨rfl, rfl⟩)
   go_ret;rw [E.out];exact ⟨rfl, wv, H.out, Chg.refl _ _, .inr rfl⟩
 have c1 : s.down = false := by simpa using c1
 rw [c1] at HD;obtain ⟨dn, s1, hb⟩ : ∃ b s1, vH s = (b, s1) := ⟨_, _, rfl⟩
 have HW : s1.wr = s.wr /\ s1.sure = s.sure := by have := Qf s; rw [hb] at this; exact this
 rw [hb] at HL;cases dn with
 | false =>
   have E := Lh (show vB s = (11, s1) by simp [vB, c1, hb]);clear c1 hb;go_enter Tryz.func126, Tryz.ntmps126;go_wp2_with (first | (go_at_call 67; refine HD.out.mono ?_; rintro e w' ⟨rfl, rfl⟩) | (go_at_call 183; refine HL.out.mono ?_; rintro e w1 ⟨rfl, h1, h2, h3⟩))
   go_ret;rw [E.out];exact ⟨rfl, wv, h1, h2.mono fun q _ e => .inl e, .inr rfl⟩
 | true =>
   have E := Lh (show vB s = (0, ⟨yK (fun _ => 64) s1.wr 0 s1.sure, [], s1.fuse, s1.down⟩) by simp [vB, c1, hb, HW.1, HW.2]);clear c1 hb HW;go_enter Tryz.func126, Tryz.ntmps126;go_wp2_with (first | (go_at_call 67; refine HD.out.mono ?_; rintro e w' ⟨rfl, rfl⟩) | (go_at_call 183; refine HL.out.mono ?_; rintro e w1 ⟨rfl, h1, h2, h3⟩) | (go_at_call 88; refine (zEn h1 184 #[] (fun _ => 64) (fun _ _ => Nat.le_refl _) (vW Tryz.func184 rfl rfl) (fun W j _ _ => zPa _ _)).mono ?_; rintro e w2 ⟨rfl, h4, h5⟩))
   go_ret;rw [E.out];exact ⟨rfl, _, h4, (h2.mono (T := fp d sb mb wv) fun q _ e => .inl e).same h5, .inl rfl⟩
end
end Go.Proofs.YtndhmidgnpobjaaGreatDoor
end
section
namespace Go.Proofs.YtndhmidgnpobjaaGreatDoor
open Go.ChangeShapes Go.WideShapes Go.ChangeAt Go.RowKit
def uW (d ll : Nat) : Value := .agg #[.pointer (some ⟨d, 0, none⟩), .int .i64 (ll : Int)]
def shV (no : Nat) (x : Pag) : Value := .agg #[.int .i64 (no : Int), .int .i64 (x.1 : Int), .string x.2]
def fW : Value := .agg #[.int .i64 0, .int .i64 0, .string ⟨#[]⟩]
theorem zF (w : World) (T : TypeId) (cs : Array Value) : Below w.heap.size w (w.alloc (.cells cs T)) := (Below.refl _ _).alloc (Nat.le_refl _) _
theorem Qr (k : Int) (w : World) : Calls Tryz.prog 75 #[.int .i64 k] w fun e w' => e = .returned (.bool (decide (2 <= k) && decide (k <= 254))) /\ w = w' := by
 by_cases h1 : 2 <= k
 · by_cases h2 : k <= 254
   · go_enter Tryz.func75, Tryz.ntmps75;go_wp2;go_ret;exact ⟨xT (by simp [h1, h2]), rfl⟩
   · go_enter Tryz.func75, Tryz.ntmps75;go_wp2;go_ret;exact ⟨xT (by simp [h2]), rfl⟩
 · go_enter Tryz.func75, Tryz.ntmps75;go_wp2;go_ret;exact ⟨xT (by simp; omega), rfl⟩
theorem Zu (d ll no : Nat) (w : World) (h1 : ll <= 100000) (h2 : no <= 4294967296) : Calls Tryz.prog 117 #[uW d ll, .int .i64 (no : Int)] w fun e w' => e = .returned (.int .i64 ((2 + ll + no * 8 : Nat) : Int)) /\ Below w.heap.size w w' := by
 unfold uW;go_enter Tryz.func117, Tryz.ntmps117;go_wp2;go_ret;exact ⟨gU (by omega), zF _ _ _⟩
theorem Yv (t : ByteArray) (w : World) (h : t.size <= 496) : Calls Tryz.prog 121 #[.string t] w fun e w' => e = .returned (.string (fl t)) /\ Below w.heap.size w w' := by
 have HR := Lh (Pg.repeat_any (496 - t.size) w (by omega));rw [show ((496 - t.size : Nat) : Int) = 496 - (t.size : Int) by omega] at HR;have HE := Lh (show fl t = t ++ zB (496 - t.size) from rfl);obtain ⟨Z, hZ, hZz⟩ : ∃ Z : ByteArray, Z = zB (496 - t.size) /\ Z.size <= 496 := ⟨_, rfl, by rw [xG]; omega⟩
 rw [<- hZ] at HR HE;clear hZ;go_enter Tryz.func121, Tryz.ntmps121;go_wp2_with (go_at_call 60; refine HR.out.mono ?_; rintro e w2 ⟨rfl, hb⟩)
 go_ret;rw [HE.out];exact ⟨rfl, hb⟩
set_option maxRecDepth 10000 in
theorem Zv (no : Nat) (x : Pag) (w : World) (hx : vE x) (hn : no <= 2147483647) : Calls Tryz.prog 119 #[shV no x] w fun e w' => e = .returned (.string (pgB x.1 no x.2)) /\ Below w.heap.size w w' := by
 obtain ⟨k, r⟩ := x;obtain ⟨h1, h2, h3⟩ := hx;simp only at h1 h2 h3;have HP := Lh (fun w => Pg.pack_yes k no r w h1 h2 hn (by omega));obtain ⟨PG, hPG⟩ : ∃ PG, PG = pgB k no r := ⟨_, rfl⟩
 unfold shV;simp only;rw [<- hPG] at HP ⊢;clear hPG;go_enter Tryz.func119, Tryz.ntmps119;go_wp2_with (go_at_call 180; refine (HP.out _).mono ?_; rintro e w2 ⟨rfl, hb⟩)
 go_ret;exact ⟨rfl, then_ (zF _ _ _) hb (by simp)⟩
set_option maxRecDepth 10000 in
theorem fY (no : Nat) (s : ByteArray) (w : World) (hs : s.size <= 9223372036854775807) : Calls Tryz.prog 138 #[.int .i64 (no : Int), .string s] w fun e w' =>
   e = .returned (.tuple #[if Pg.uE s no = 0 then shV no (Pg.uK s no, Pg.uT s no) else fW, .int .i64 (Pg.uE s no : Nat)]) /\ Below w.heap.size w w' := by
 have HU := Lh (fun w => Pg.unpack_any s (no : Int) w hs);obtain ⟨E, hE⟩ : ∃ E, E = Pg.uE s no := ⟨_, rfl⟩
 obtain ⟨K, hK⟩ : ∃ K, K = Pg.uK s no := ⟨_, rfl⟩
 obtain ⟨T, hT⟩ : ∃ T, T = Pg.uT s no := ⟨_, rfl⟩
 rw [<- hE, <- hK, <- hT] at HU ⊢;clear hE hK hT;by_cases h : E = 0
 · subst h;rw [if_pos rfl];unfold shV;simp only;go_enter Tryz.func138, Tryz.ntmps138;go_wp2_with (go_at_call 194; refine (HU.out _).mono ?_; rintro e w2 ⟨rfl, hb⟩; have O := Own.keep (Own.made w 112 #[.int .i64 0, .int .i64 0, .string ⟨#[]⟩]) hb; obtain ⟨o1, o2, o3⟩ := O.at_)
   refine bodyPost_ret (by simp [results, Tryz.results138, go_sem, *]) rfl ⟨rfl, ?_⟩;have hb2 := then_ (zF w 112 #[.int .i64 0, .int .i64 0, .string ⟨#[]⟩]) hb (by simp);clear hb o1 o2 o3 O;repeat' (first | (with_reducible exact Below.refl _ _) | (with_reducible assumption) | (with_reducible refine zJ ?_ _) | (with_reducible refine Below.drew ?_) | (with_reducible refine Below.alloc ?_ ?_ _) | (with_reducible refine Below.setCell ?_ ?_ _) | (with_reducible refine then_ ?_ (by with_reducible assumption) ?_) | (with_reducible exact Nat.le_refl _) | (with_reducible exact Nat.le_succ _) | (with_reducible exact Nat.le_succ_of_le (by with_reducible assumption)) | omega | (simp; done) | (simp; omega) | (exact Nat.le_succ _) | (exact Nat.le_succ_of_le (by with_reducible assumption)))
 · rw [if_neg h];unfold fW;have t0 : ((E : Int) != 0) = true := by simp; omega
   clear h;go_enter Tryz.func138, Tryz.ntmps138;go_wp2_with (go_at_call 194; refine (HU.out _).mono ?_; rintro e w2 ⟨rfl, hb⟩; have O := Own.keep (Own.made w 112 #[.int .i64 0, .int .i64 0, .string ⟨#[]⟩]) hb; obtain ⟨o1, o2, o3⟩ := O.at_)
   refine bodyPost_ret (by simp [results, Tryz.results138, go_sem, *]) rfl ⟨rfl, ?_⟩;have hb2 := then_ (zF w 112 #[.int .i64 0, .int .i64 0, .string ⟨#[]⟩]) hb (by simp);clear hb o1 o2 o3 O;repeat' (first | (with_reducible exact Below.refl _ _) | (with_reducible assumption) | (with_reducible refine zJ ?_ _) | (with_reducible refine Below.drew ?_) | (with_reducible refine Below.alloc ?_ ?_ _) | (with_reducible refine Below.setCell ?_ ?_ _) | (with_reducible refine then_ ?_ (by with_reducible assumption) ?_) | (with_reducible exact Nat.le_refl _) | (with_reducible exact Nat.le_succ _) | (with_reducible exact Nat.le_succ_of_le (by with_reducible assumption)) | omega | (simp; done) | (simp; omega) | (exact Nat.le_succ _) | (exact Nat.le_succ_of_le (by with_reducible assumption)))
theorem Uz (f ll : Nat) (w : World) (hf : f <= 18446744073709551615) (hl : ll <= 18446744073709551615) : Calls Tryz.prog 128 #[.int .u64 (f : Int), .int .u64 (ll : Int)] w fun e w' =>
   e = .returned (.string (⟨(zU f 8).toArray⟩ ++ ⟨(zU ll 4).toArray⟩)) /\ Below w.heap.size w w' := by
 have H1 := Lh (fun w => show Calls Tryz.prog 120 #[.int .u64 (f : Int), .int .i64 8] w fun e w' => e = .returned (.string ⟨(zU f 8).toArray⟩) /\ w' = w.alloc (.cells (putCells f 8) 256) from uJ f 8 w hf (by omega));have H2 := Lh (fun w => show Calls Tryz.prog 120 #[.int .u64 (ll : Int), .int .i64 4] w fun e w' => e = .returned (.string ⟨(zU ll 4).toArray⟩) /\ w' = w.alloc (.cells (putCells ll 4) 256) from uJ ll 4 w hl (by omega));obtain ⟨A, hA, hAz⟩ : ∃ A : ByteArray, A = ⟨(zU f 8).toArray⟩ /\ A.size = 8 := ⟨_, rfl, by rw [zW, zR]⟩
 obtain ⟨B, hB, hBz⟩ : ∃ B : ByteArray, B = ⟨(zU ll 4).toArray⟩ /\ B.size = 4 := ⟨_, rfl, by rw [zW, zR]⟩
 rw [<- hA] at H1 ⊢;rw [<- hB] at H2 ⊢;obtain ⟨C1, hC1⟩ : ∃ C1, C1 = putCells f 8 := ⟨_, rfl⟩
 obtain ⟨C2, hC2⟩ : ∃ C2, C2 = putCells ll 4 := ⟨_, rfl⟩
 rw [<- hC1] at H1;rw [<- hC2] at H2;clear hA hB hC1 hC2;go_enter Tryz.func128, Tryz.ntmps128;go_wp2_with (go_at_call 120; first | (with_reducible refine (H1.out _).mono ?_; rintro e w2 ⟨rfl, rfl⟩) | (with_reducible refine (H2.out _).mono ?_; rintro e w2 ⟨rfl, rfl⟩))
 go_ret;exact ⟨rfl, (zF _ _ _).alloc (by simp) _⟩
end Go.Proofs.YtndhmidgnpobjaaGreatDoor
end
