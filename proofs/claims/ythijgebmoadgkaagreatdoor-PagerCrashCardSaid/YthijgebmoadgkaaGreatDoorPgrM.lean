import Derived.Test.YthijgebmoadgkaaGreatDoorRdoM
set_option linter.unusedVariables false
set_option linter.unusedSimpArgs false
namespace Go.Proofs.YthijgebmoadgkaaGreatDoor
section
variable {α : Type}
def asc (l : List (Nat × α)) : Prop := l.Pairwise fun x y => x.1 < y.1
def lk (l : List (Nat × α)) (n : Nat) : Option α := (l.find? fun x => x.1 == n).map (·.2)
def ins (n : Nat) (v : α) : List (Nat × α) -> List (Nat × α)
 | [] => [(n, v)]
 | y :: l => if n < y.1 then (n, v) :: y :: l else if n = y.1 then (n, v) :: l else y :: ins n v l
def yF (l ps : List (Nat × α)) : List (Nat × α) := ps.foldl (fun l p => ins p.1 p.2 l) l
theorem fH (n : Nat) : lk ([] : List (Nat × α)) n = none := rfl
theorem yK (x : Nat × α) (l : List (Nat × α)) (n : Nat) : lk (x :: l) n = if x.1 = n then some x.2 else lk l n := by
 unfold lk;by_cases h : x.1 = n
 · simp [h]
 · simp [h]
theorem Vw {l : List (Nat × α)} {n : Nat} (h : ∀ x ∈ l, x.1 ≠ n) : lk l n = none := by
 induction l with
 | nil => rfl
 | cons y l ih => rw [yK, if_neg (h y (by simp)), ih fun x hx => h x (by simp [hx])]
theorem vU {l : List (Nat × α)} {n : Nat} {v : α} (h : lk l n = some v) : (n, v) ∈ l := by
 induction l with
 | nil => simp [fH] at h
 | cons y l ih =>
   rw [yK] at h;split at h
   · rename_i e
     injection h with h;subst h; subst e;simp
   · exact List.mem_cons_of_mem _ (ih h)
theorem zBm {l : List (Nat × α)} {n : Nat} (h : lk l n = none) : ∀ x ∈ l, x.1 ≠ n := by
 induction l with
 | nil => simp
 | cons y l ih =>
   rw [yK] at h;split at h
   · cases h
   · rename_i e
     intro x hx;rcases List.mem_cons.1 hx with rfl | hx
     · exact e
     · exact ih h x hx
theorem xN {x : Nat × α} {l : List (Nat × α)} : asc (x :: l) ↔ (∀ y ∈ l, x.1 < y.1) /\ asc l := List.pairwise_cons
theorem zBg {l : List (Nat × α)} (ha : asc l) {n : Nat} {v : α} (h : (n, v) ∈ l) : lk l n = some v := by
 induction l with
 | nil => simp at h
 | cons y l ih =>
   obtain ⟨h1, h2⟩ := xN.1 ha;rw [yK];rcases List.mem_cons.1 h with rfl | h
   · simp
   · have := h1 _ h;rw [if_neg (by simp only at this; omega), ih h2 h]
theorem zAz {l : List (Nat × α)} (ha : asc l) : (l.map (·.1)).Nodup := by
 unfold asc at ha;rw [List.nodup_iff_pairwise_ne, List.pairwise_map];exact ha.imp fun h => Nat.ne_of_lt h
theorem gR (n : Nat) (v : α) : ∀ (l : List (Nat × α)) (k : Nat), asc l -> lk (ins n v l) k = if n = k then some v else lk l k
 | [], k, _ => by rw [ins, yK]
 | y :: l, k, ha => by
   obtain ⟨h1, h2⟩ := xN.1 ha;unfold ins;split
   · rw [yK]
   · split
     · rename_i e1 e2
       rw [yK, yK];by_cases e : n = k
       · simp [e]
       · simp only [e, if_false];rw [if_neg (by omega)]
     · rename_i e1 e2
       rw [yK, gR n v l k h2, yK];by_cases e : n = k
       · simp only [e, if_true];rw [if_neg (by omega)]
       · simp only [e, if_false]
theorem Qi {n : Nat} {v : α} : ∀ {l : List (Nat × α)} {x : Nat × α}, x ∈ ins n v l -> x = (n, v) \/ x ∈ l
 | [], x, h => .inl (by simpa [ins] using h)
 | y :: l, x, h => by
   unfold ins at h;split at h
   · exact (List.mem_cons.1 h)
   · split at h
     · rcases List.mem_cons.1 h with h | h
       · exact .inl h
       · exact .inr (List.mem_cons_of_mem _ h)
     · rcases List.mem_cons.1 h with h | h
       · exact .inr (by simp [h])
       · rcases Qi h with h | h
         · exact .inl h
         · exact .inr (List.mem_cons_of_mem _ h)
theorem qR (n : Nat) (v : α) : ∀ {l : List (Nat × α)}, asc l -> asc (ins n v l)
 | [], _ => by simp [ins, asc]
 | y :: l, ha => by
   obtain ⟨h1, h2⟩ := xN.1 ha;unfold ins;split
   · rename_i e
     refine xN.2 ⟨fun x hx => ?_, ha⟩;rcases List.mem_cons.1 hx with rfl | hx
     · exact e
     · have := h1 x hx; simp only; omega
   · split
     · rename_i e1 e2
       refine xN.2 ⟨fun x hx => ?_, h2⟩;have := h1 x hx;simp only;omega
     · rename_i e1 e2
       refine xN.2 ⟨fun x hx => ?_, qR n v h2⟩;rcases Qi hx with rfl | hx
       · simp only; omega
       · exact h1 x hx
theorem mS (n : Nat) (v : α) : ∀ (l : List (Nat × α)), asc l -> (ins n v l).length = if (lk l n).isSome then l.length else l.length + 1
 | [], _ => rfl
 | y :: l, ha => by
   obtain ⟨h1, h2⟩ := xN.1 ha;have ih := mS n v l h2;rw [yK];unfold ins;by_cases e : n < y.1
   · have h0 : lk l n = none := Vw fun x hx => by have := h1 x hx; omega
     have e3 : ¬ y.1 = n := by omega
     rw [if_pos e, if_neg e3, h0];rfl
   · rw [if_neg e];by_cases e2 : n = y.1
     · rw [if_pos e2, if_pos e2.symm];simp
     · have e3 : ¬ y.1 = n := fun h => e2 h.symm
       rw [if_neg e2, if_neg e3, List.length_cons, ih];cases (lk l n).isSome <;> simp
theorem zF0 : ∀ {a b : List (Nat × α)}, asc a -> asc b -> (∀ n, lk a n = lk b n) -> a = b
 | [], [], _, _, _ => rfl
 | [], y :: b, _, _, h => by
   have := h y.1;rw [fH, yK, if_pos rfl] at this;cases this
 | x :: a, [], _, _, h => by
   have := h x.1;rw [fH, yK, if_pos rfl] at this;cases this
 | x :: a, y :: b, ha, hb, h => by
   obtain ⟨a1, a2⟩ := xN.1 ha;obtain ⟨b1, b2⟩ := xN.1 hb;have e : x.1 = y.1 := by
     have hx := h x.1;have hy := h y.1;rw [yK, if_pos rfl, yK] at hx;rw [yK, yK, if_pos rfl] at hy;by_cases e : x.1 = y.1
     · exact e
     · rw [if_neg (by omega)] at hx;rw [if_neg e] at hy;have m1 := b1 _ (vU hx.symm);have m2 := a1 _ (vU hy);simp only at m1 m2;omega
   have e2 : x.2 = y.2 := by
     have hx := h x.1;rw [yK, if_pos rfl, yK, if_pos e.symm] at hx;injection hx
   have e3 : x = y := Prod.ext e e2;subst e3;rw [zF0 a2 b2 fun n => ?_];have := h n;rw [yK, yK] at this;by_cases en : x.1 = n
   · rw [Vw fun z hz => by have := a1 z hz; omega, Vw fun z hz => by have := b1 z hz; omega]
   · simpa [en] using this
theorem zCn (l : List (Nat × α)) (p : Nat × α) (ps : List (Nat × α)) : yF l (p :: ps) = yF (ins p.1 p.2 l) ps := rfl
theorem zC8 (l : List (Nat × α)) (p : Nat × α) (ps : List (Nat × α)) : yF l (ps ++ [p]) = ins p.1 p.2 (yF l ps) := by simp [yF]
theorem uC : ∀ (ps : List (Nat × α)) {l : List (Nat × α)}, asc l -> asc (yF l ps)
 | [], _, h => h
 | p :: ps, l, h => uC ps (qR p.1 p.2 h)
theorem Jc : ∀ {ps : List (Nat × α)} {l : List (Nat × α)} {x : Nat × α}, x ∈ yF l ps -> x ∈ ps \/ x ∈ l
 | [], _, _, h => .inr h
 | p :: ps, l, x, h => by
   rcases Jc (ps := ps) h with h | h
   · exact .inl (List.mem_cons_of_mem _ h)
   · rcases Qi h with h | h
     · exact .inl (by simp [h])
     · exact .inr h
theorem Ue {l : List (Nat × α)} (ha : asc l) : ∀ (ps : List (Nat × α)), asc ps -> ∀ k, lk (yF l ps) k = match lk ps k with | some v => some v | none => lk l k := by
 intro ps;induction ps generalizing l with
 | nil => intro _ k; rfl
 | cons p ps ih =>
   intro hp k;obtain ⟨h1, h2⟩ := xN.1 hp;rw [zCn, ih (qR p.1 p.2 ha) h2 k, gR _ _ _ _ ha, yK];by_cases e : p.1 = k
   · rw [if_pos e, if_pos e, Vw fun x hx => by have := h1 x hx; omega]
   · rw [if_neg e, if_neg e]
end
abbrev Pag := Nat × ByteArray
structure xW (x : Pag) : Prop where
 lo : 1 <= x.1
 hi : x.1 <= 255
 size : x.2.size = 496
def fl (t : ByteArray) : ByteArray := t ++ zB (496 - t.size)
theorem Qt (t : ByteArray) (h : t.size <= 496) : (fl t).size = 496 := by unfold fl; rw [ByteArray.size_append, xG]; omega
theorem vL (t : ByteArray) (h : t.size = 496) : fl t = t := by
 refine qM ?_;unfold fl;rw [xO, h];simp [zB]
def fr (x : Pag) : ByteArray := ⟨#[UInt8.ofNat x.1]⟩ ++ x.2
theorem gX {x : Pag} (h : x.2.size = 496) : (fr x).size = 497 := by
 unfold fr; rw [ByteArray.size_append, h]; rfl
theorem zLu {x : Pag} (h : xW x) : bN (fr x) 0 = x.1 := by
 unfold fr;rw [qO _ _ 0 (by show 0 < 1; omega)];have h1 := h.hi;rw [qF _ 0 (by show 0 < 1; omega)];show (UInt8.ofNat x.1).toNat = x.1
 simp;omega
theorem zMe {x : Pag} (h : x.2.size = 496) : (fr x).extract 1 (fr x).size = x.2 := by
 refine qM ?_;rw [xE, gX h];unfold fr;rw [xO];show (([UInt8.ofNat x.1] ++ x.2.data.toList).drop 1).take 496 = x.2.data.toList
 rw [show ([UInt8.ofNat x.1] ++ x.2.data.toList).drop 1 = x.2.data.toList from rfl];exact List.take_of_length_le (by rw [uO, h]; omega)
def zJ (u f : Nat) (r : Nat -> Nat) : ByteArray := fl ⟨(zV u 4 ++ zV f 4 ++ (List.range 8).flatMap fun i => zV (r i) 8).toArray⟩
def rdU (t : ByteArray) : Nat := zT t 0 4
def rdF (t : ByteArray) : Nat := zT t 4 4
def rdR (t : ByteArray) (i : Nat) : Nat := zT t (8 + 8 * i) 8
def yY (n : Nat) : ByteArray := fl ⟨(zV n 4).toArray⟩
theorem zZ (L : List UInt8) : (⟨L.toArray⟩ : ByteArray).size = L.length := by simp [ByteArray.size]
theorem flat8 (r : Nat -> Nat) : ((List.range 8).flatMap fun i => zV (r i) 8).length = 64 := by
 simp [List.range, List.range.loop, zN]
theorem zAy (u f : Nat) (r : Nat -> Nat) : (zV u 4 ++ zV f 4 ++ (List.range 8).flatMap fun i => zV (r i) 8).length = 72 := by
 rw [List.length_append, List.length_append, flat8, zN, zN]
theorem yO (u f : Nat) (r : Nat -> Nat) : (zJ u f r).size = 496 := Qt _ (by rw [zZ, zAy]; omega)
theorem Jt (n : Nat) : (yY n).size = 496 := Qt _ (by rw [zZ, zN]; omega)
theorem Jh (u f : Nat) (r : Nat -> Nat) : (zJ u f r).data.toList = zV u 4 ++ (zV f 4 ++ (((List.range 8).flatMap fun i => zV (r i) 8) ++ List.replicate 424 0)) := by
 unfold zJ fl;rw [xO, zZ, zAy];show (zV u 4 ++ zV f 4 ++ (List.range 8).flatMap fun i => zV (r i) 8) ++ List.replicate 424 0 = _
 rw [List.append_assoc, List.append_assoc]
theorem Un (n : Nat) (h : n < 4294967296) : num (zV n 4) = n := Xy n h
theorem qS (u f : Nat) (r : Nat -> Nat) (h : u < 4294967296) : rdU (zJ u f r) = u := by
 unfold rdU;rw [vI _ _ _ (by rw [yO]; omega), Jh, List.drop_zero, uR (zN u 4), Un u h]
theorem zBt (u f : Nat) (r : Nat -> Nat) (h : f < 4294967296) : rdF (zJ u f r) = f := by
 unfold rdF;rw [vI _ _ _ (by rw [yO]; omega), Jh, xF (zN u 4), uR (zN f 4), Un f h]
theorem jV (s : ByteArray) (p k n : Nat) (hk : k <= 8) (h : p + k <= s.size) (hn : n < 2 ^ (8 * k)) (e : (s.data.toList.drop p).take k = zV n k) : zT s p k = n := by
 have key : zT s p k = zT ⟨(zV n k).toArray⟩ 0 k := by
   rw [vI s p k h, vI _ 0 k (by rw [zZ, zN]; omega), e];simp [List.take_of_length_le, zN]
 rw [key];have gen : ∀ j, j <= k -> zT ⟨(zV n k).toArray⟩ 0 j = n % 2 ^ (8 * j) := by
   intro j;induction j with
   | zero => intro _; simp [zT, Nat.mod_one]
   | succ j ih =>
     intro hj;rw [zT, ih (by omega)];have hb : bN ⟨(zV n k).toArray⟩ (0 + j) = n / 2 ^ (8 * j) % 256 := by
       rw [qF _ _ (by rw [zZ, zN]; omega)];show ((zV n k).toArray[0 + j]'(by simp [zN]; omega)).toNat = _
       simp [zV, xV]
     rw [hb, show 8 * (j + 1) = 8 * j + 8 by omega, Nat.pow_add, show (2 : Nat) ^ 8 = 256 from rfl, Nat.mod_mul, Nat.mul_comm (2 ^ (8 * j)) (n / 2 ^ (8 * j) % 256)]
 rw [gen k (Nat.le_refl k), Nat.mod_eq_of_lt hn]
theorem zIp (r : Nat -> Nat) (i : Nat) (hi : i < 8) (B : List UInt8) : ((((List.range 8).flatMap fun i => zV (r i) 8) ++ B).drop (8 * i)).take 8 = zV (r i) 8 := by
 have e : ((List.range 8).flatMap fun i => zV (r i) 8) = zV (r 0) 8 ++ (zV (r 1) 8 ++ (zV (r 2) 8 ++ (zV (r 3) 8 ++ (zV (r 4) 8 ++ (zV (r 5) 8 ++ (zV (r 6) 8 ++ (zV (r 7) 8 ++ []))))))) := rfl;rw [e];have d : ∀ (n : Nat) (X : List UInt8) (j : Nat), (zV n 8 ++ X).drop (8 * (j + 1)) = X.drop (8 * j) := fun n X j => by
   rw [show 8 * (j + 1) = 8 + 8 * j by omega, <- List.drop_drop, xF (zN n 8)]
 simp only [List.append_assoc];rcases (by omega : i = 0 \/ i = 1 \/ i = 2 \/ i = 3 \/ i = 4 \/ i = 5 \/ i = 6 \/ i = 7) with rfl | rfl | rfl | rfl | rfl | rfl | rfl | rfl <;>
   simp only [d, show (8 * 1 : Nat) = 8 * (0 + 1) from rfl, show (8 * 2 : Nat) = 8 * (1 + 1) from rfl, show (8 * 3 : Nat) = 8 * (2 + 1) from rfl, show (8 * 4 : Nat) = 8 * (3 + 1) from rfl, show (8 * 5 : Nat) = 8 * (4 + 1) from rfl, show (8 * 6 : Nat) = 8 * (5 + 1) from rfl, show (8 * 7 : Nat) = 8 * (6 + 1) from rfl, Nat.mul_zero, List.drop_zero] <;>
   exact uR (zN _ 8)
theorem zB1 (u f : Nat) (r : Nat -> Nat) (i : Nat) (hi : i < 8) (h : r i < 18446744073709551616) : rdR (zJ u f r) i = r i := by
 unfold rdR;refine jV _ _ _ _ (by omega) (by rw [yO]; omega) (by rw [show 8 * 8 = 64 from rfl]; exact Nat.lt_of_lt_of_le h (Nat.le_of_eq (by rfl))) ?_;rw [Jh, show 8 + 8 * i = 4 + (4 + 8 * i) by omega, <- List.drop_drop, xF (zN u 4), <- List.drop_drop, xF (zN f 4)];exact zIp r i hi _
theorem qP (u f : Nat) (r q : Nat -> Nat) (h : ∀ i, i < 8 -> r i = q i) : zJ u f r = zJ u f q := by
 have e : ((List.range 8).flatMap fun i => zV (r i) 8) = (List.range 8).flatMap fun i => zV (q i) 8 := by
   simp only [List.range, List.range.loop, List.flatMap_cons, h 0 (by omega), h 1 (by omega), h 2 (by omega), h 3 (by omega), h 4 (by omega), h 5 (by omega), h 6 (by omega), h 7 (by omega), List.flatMap_nil]
 unfold zJ;rw [e]
theorem zGx (n : Nat) (h : n < 4294967296) : zT (yY n) 0 4 = n := by
 rw [vI _ _ _ (by rw [Jt]; omega)];unfold yY fl;rw [xO, List.drop_zero];rw [show (⟨(zV n 4).toArray⟩ : ByteArray).data.toList = zV n 4 by simp, uR (zN n 4), Un n h]
structure Jq (most : Nat) (x : Pag) : Prop where
 kind : x.1 = 1
 room : x.2 = zJ (rdU x.2) (rdF x.2) (rdR x.2)
 lo : 1 <= rdU x.2
 hi : rdU x.2 <= most
 free : rdF x.2 < rdU x.2
theorem Jq.ok {most : Nat} {x : Pag} (h : Jq most x) : xW x := ⟨by rw [h.kind]; omega, by rw [h.kind]; omega, by rw [h.room, yO]⟩
theorem Jq.mk' {most u f : Nat} {r : Nat -> Nat} (h1 : 1 <= u) (h2 : u <= most) (h3 : f < u) (hm : most <= 65536) (hr : ∀ i, i < 8 -> r i < 18446744073709551616) : Jq most (1, zJ u f r) := by
 have e1 : rdU (zJ u f r) = u := qS u f r (by omega);have e2 : rdF (zJ u f r) = f := zBt u f r (by omega);refine ⟨rfl, ?_, by rw [e1]; exact h1, by rw [e1]; exact h2, by rw [e1, e2]; exact h3⟩;show zJ u f r = zJ (rdU (zJ u f r)) (rdF (zJ u f r)) (rdR (zJ u f r))
 rw [e1, e2];exact qP u f _ _ fun i hi => (zB1 u f r i hi (hr i hi)).symm
theorem zK8 (t : ByteArray) (i : Nat) : rdR t i < 18446744073709551616 := gP t _ 8 (by omega)
theorem zK2 (t : ByteArray) : rdU t < 4294967296 := vW t 0 4
theorem zK4 (t : ByteArray) : rdF t < 4294967296 := vW t 4 4
end Go.Proofs.YthijgebmoadgkaaGreatDoor
