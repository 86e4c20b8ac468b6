import Derived.Test.YtndhmidgnpobjaaGreatDoorPguC
import Derived.Test.YtndhmidgnpobjaaGreatDoorDisE
set_option linter.unusedVariables false
set_option linter.unusedSimpArgs false
namespace Go.Proofs.YtndhmidgnpobjaaGreatDoor
open Go.ChangeShapes Go.WideShapes Go.ChangeAt Go.RowKit
section
def qL (f : Nat -> ByteArray) : Nat -> Nat -> Nat -> List (Nat × List ByteArray) -> Prop
 | _, _, _, [] => True
 | p, left, seq, t :: ts => t.1 = seq /\ t.2.length ≠ 0 /\ txn f p seq left = t.2 /\ qL f (p + (1 + 9 * t.2.length)) (left - (1 + 9 * t.2.length)) ((seq + 1) % 18446744073709551616) ts
theorem qL.fit {f : Nat -> ByteArray} : ∀ (ts : List (Nat × List ByteArray)) (p left seq : Nat), qL f p left seq ts -> long ts <= left
 | [], _, _, _, _ => Nat.zero_le _
 | t :: ts, p, left, seq, h => by
   obtain ⟨h1, h2, h3, h4⟩ := h;have := qL.fit ts _ _ _ h4;have hf := zBa f p seq left (by rw [h3]; exact h2);rw [h3] at hf;simp only [long, List.map_cons, List.sum_cons] at this ⊢;omega
theorem zEp {f g : Nat -> ByteArray} {p seq left : Nat} (h0 : (txn f p seq left).length ≠ 0) (h : ∀ q, p <= q -> q < p + (1 + 9 * (txn f p seq left).length) -> g q = f q) : txn g p seq left = txn f p seq left := by
 have e0 : g p = f p := h p (Nat.le_refl _) (by omega);have hc : ∀ k, k < cnt (f p) seq left -> Qk (gJ f (p + 1 + 9 * k)) = true := by
   by_cases c : ∀ k, k < cnt (f p) seq left -> Qk (gJ f (p + 1 + 9 * k)) = true
   · exact c
   · unfold txn at h0; rw [if_neg c] at h0; exact absurd rfl h0
 have e1 : txn f p seq left = pgs f (p + 1) (cnt (f p) seq left) := by unfold txn; rw [if_pos hc]
 rw [e1, mL] at h;have hn : ∀ k, k < cnt (f p) seq left -> gJ g (p + 1 + 9 * k) = gJ f (p + 1 + 9 * k) := fun k hk => zE8 fun q h1 h2 => h q (by omega) (by omega)
 rw [e1];unfold txn;rw [e0, if_pos (fun k hk => by rw [hn k hk]; exact hc k hk)];unfold pgs;apply List.map_congr_left
 intro k hk;rw [hn k (List.mem_range.1 hk)]
theorem qL.congr {f g : Nat -> ByteArray} : ∀ (ts : List (Nat × List ByteArray)) (p left seq : Nat), qL f p left seq ts -> (∀ q, p <= q -> q < p + long ts -> g q = f q) -> qL g p left seq ts
 | [], _, _, _, _, _ => trivial
 | t :: ts, p, left, seq, h, hg => by
   obtain ⟨h1, h2, h3, h4⟩ := h;have hl : long (t :: ts) = 1 + 9 * t.2.length + long ts := by simp [long]
   rw [hl] at hg;refine ⟨h1, h2, ?_, qL.congr ts _ _ _ h4 fun q a b => hg q (by omega) (by omega)⟩;rw [zEp (by rw [h3]; exact h2) fun q a b => hg q a (by rw [h3] at b; omega), h3]
theorem qL.snoc {f : Nat -> ByteArray} (t : Nat × List ByteArray) (h2 : t.2.length ≠ 0) : ∀ (ts : List (Nat × List ByteArray)) (p left seq : Nat), qL f p left seq ts -> seq < 18446744073709551616 -> t.1 = (seq + ts.length) % 18446744073709551616 -> txn f (p + long ts) t.1 (left - long ts) = t.2 -> qL f p left seq (ts ++ [t])
 | [], p, left, seq, _, hs, h1, h3 => by
   have e : t.1 = seq := by simp at h1; omega
   refine ⟨e, h2, ?_, trivial⟩;rw [<- e]; exact h3
 | a :: ts, p, left, seq, h, hs, h1, h3 => by
   obtain ⟨a1, a2, a3, a4⟩ := h;have hl : long (a :: ts) = 1 + 9 * a.2.length + long ts := by simp [long]
   rw [hl] at h3;refine ⟨a1, a2, a3, qL.snoc t h2 ts _ _ _ a4 (Nat.mod_lt _ (by omega)) ?_ ?_⟩
   · rw [h1, List.length_cons]; omega
   · rw [Nat.add_assoc, Nat.sub_sub]; exact h3
theorem qL.stands {f : Nat -> ByteArray} : ∀ (ts : List (Nat × List ByteArray)) (fuel p left seq : Nat), qL f p left seq ts -> seq < 18446744073709551616 -> ts.length < fuel ->
   (txn f (p + long ts) ((seq + ts.length) % 18446744073709551616) (left - long ts)).length = 0 -> stands f fuel p left seq = ts
 | [], fuel, p, left, seq, _, hs, hf, h0 => by
   refine fL f fuel p left seq ?_;have e : (seq + ([] : List (Nat × List ByteArray)).length) % 18446744073709551616 = seq := by simp; omega
   rw [e] at h0;exact h0
 | t :: ts, fuel, p, left, seq, h, hs, hf, h0 => by
   obtain ⟨h1, h2, h3, h4⟩ := h;have hl : long (t :: ts) = 1 + 9 * t.2.length + long ts := by simp [long]
   rw [hl, List.length_cons] at h0;simp only [List.length_cons] at hf;rw [Vt f fuel p left seq (by omega) (by rw [h3]; exact h2), h3];have ih := qL.stands ts (fuel - 1) (p + (1 + 9 * t.2.length)) (left - (1 + 9 * t.2.length)) ((seq + 1) % 18446744073709551616) h4 (Nat.mod_lt _ (by omega)) (by omega) (by
     have e : ((seq + 1) % 18446744073709551616 + ts.length) % 18446744073709551616 = (seq + (ts.length + 1)) % 18446744073709551616 := by omega
     rw [e, Nat.sub_sub, Nat.add_assoc];exact h0)
   rw [ih, <- h1]
structure zFw (X : ByteArray) (nx : Nat) : Prop where
 size : X.size = 64
 first : bN X 10 = 1 -> ∀ i, i < 8 -> bN X i = bN (nB nx) i
 no : ∀ n, 1 <= n -> n <= 64 -> X ≠ yR nx n
theorem zFw.of {X : ByteArray} {nx : Nat} (h : X.size = 64) (h0 : bN X 10 = 0) : zFw X nx := ⟨h, fun h1 => by omega, fun n _ _ e => by rw [e, Zn] at h0; omega⟩
def gD (t X : ByteArray) (b : Nat) : ByteArray := t.extract 0 b ++ X.extract b 64
theorem qF (t X : ByteArray) (b : Nat) (ht : t.size = 64) (hX : X.size = 64) (hb : b <= 64) : (gD t X b).size = 64 := by
 unfold gD; rw [ByteArray.size_append, ByteArray.size_extract, ByteArray.size_extract]; omega
theorem fA (t X : ByteArray) (b : Nat) (ht : t.size = 64) (hX : X.size = 64) (hb : b <= 64) (i : Nat) (hi : i < 64) : bN (gD t X b) i = if i < b then bN t i else bN X i := by
 have z : (t.extract 0 b).size = b := by rw [ByteArray.size_extract]; omega
 unfold gD;rw [gZ, z];by_cases c : i < b
 · rw [if_pos c, if_pos c, yT t 0 b i (by omega) (by omega), Nat.zero_add]
 · rw [if_neg c, if_neg c, yT X b 64 (i - b) (by omega) (by omega)];exact congrArg (bN X) (by omega)
end
section
theorem zCt (L : List UInt8) (o : Nat) (u : ByteArray) (h : o + u.size <= L.length) (j : Nat) : (Jf L o u)[j]? = if o <= j /\ j < o + u.size then u.data.toList[j - o]? else L[j]? := by
 have hu : u.data.toList.length = u.size := rfl;unfold Jf;rw [hu];by_cases h1 : j < o
 · rw [List.append_assoc, List.getElem?_append_left (by rw [List.length_take]; omega), List.getElem?_take, if_pos h1, if_neg (by omega)]
 · by_cases h2 : j < o + u.size
   · rw [List.append_assoc, List.getElem?_append_right (by rw [List.length_take]; omega), List.length_take, Nat.min_eq_left (by omega), List.getElem?_append_left (by omega), if_pos ⟨by omega, h2⟩]
   · rw [List.getElem?_append_right (by rw [List.length_append, List.length_take]; omega), List.length_append, List.length_take, Nat.min_eq_left (by omega), hu, List.getElem?_drop, if_neg (by omega)];congr 1
     omega
theorem zBx (L : List UInt8) (i j : Nat) : ((L.drop (i * 64)).take 64)[j]? = if j < 64 then L[i * 64 + j]? else none := by
 rw [List.getElem?_take];split
 · rw [List.getElem?_drop]
 · rfl
theorem Jq (L : List UInt8) (a i : Nat) (u : ByteArray) (hne : a ≠ i) (hu : u.size <= 64) (hl : a * 64 + 64 <= L.length) : xN (Jf L (a * 64) u) i = xN L i := by
 unfold xN;congr 1
 refine List.ext_getElem? fun j => ?_
 rw [Int.toNat_natCast, zBx, zBx];split
 · rw [zCt _ _ _ (by omega), if_neg (by omega)]
 · rfl
theorem fI (L : List UInt8) (i : Nat) (hl : i * 64 + 64 <= L.length) : (xN L i).size = 64 := by
 unfold xN zAz;rw [Jb, Int.toNat_natCast, List.length_take, List.length_drop];omega
theorem zC8 (L : List UInt8) (i j : Nat) (hj : j < 64) : bN (xN L i) j = (L[i * 64 + j]?.getD 0).toNat := by
 unfold xN zAz;rw [Yw, Int.toNat_natCast, List.getD_eq_getElem?_getD, zBx, if_pos hj]
theorem Qp (L : List UInt8) (i : Nat) (t : ByteArray) (k : Nat) (ht : t.size = 64) (hk : k <= 64) (hl : i * 64 + 64 <= L.length) : xN (Jf L (i * 64) (t.extract 0 k)) i = gD t (xN L i) k := by
 have hz : (t.extract 0 k).size = k := by rw [ByteArray.size_extract]; omega
 have hX := fI L i hl;have hl2 : (Jf L (i * 64) (t.extract 0 k)).length = L.length := Yi _ _ _ (by omega);refine qE _ _ (by rw [fI _ _ (by omega), qF t _ k ht hX hk]) fun j hj => ?_
 rw [fI _ _ (by omega)] at hj;rw [fA t _ k ht hX hk j hj, zC8 _ _ _ hj, zCt _ _ _ (by omega), hz];by_cases c : j < k
 · rw [if_pos (by omega), if_pos c, <- List.getD_eq_getElem?_getD, <- Xe, show i * 64 + j - i * 64 = j by omega, yT t 0 k j (by omega) (by omega), Nat.zero_add]
 · rw [if_neg (by omega), if_neg c, zC8 _ _ _ hj]
theorem Ub (L : List UInt8) (i : Nat) (t : ByteArray) (ht : t.size = 64) (hl : i * 64 + 64 <= L.length) : xN (Jf L (i * 64) (t.extract 0 64)) i = t := by
 rw [Qp L i t 64 ht (by omega) hl];have hX := fI L i hl;refine qE _ _ (by rw [qF t _ 64 ht hX (by omega), ht]) fun j hj => ?_
 rw [qF t _ 64 ht hX (by omega)] at hj;rw [fA t _ 64 ht hX (by omega) j hj, if_pos hj]
def Uj (n : Nat) (l : List (Nat × ByteArray)) : Prop := ∀ x ∈ l, x.1 < n /\ x.2.size = 64
theorem Uj.tail {n : Nat} {x : Nat × ByteArray} {l : List (Nat × ByteArray)} (h : Uj n (x :: l)) : Uj n l := fun y hy => h y (by simp [hy])
theorem Xb {n : Nat} {x : Nat × ByteArray} {L : List UInt8} {k : Nat} (hL : L.length = n * 64) (h1 : x.1 < n) (h2 : x.2.size = 64) : (Jf L (x.1 * 64) (x.2.extract 0 k)).length = n * 64 := by
 have hs : (x.2.extract 0 k).size <= 64 := by rw [ByteArray.size_extract]; omega
 rw [Yi _ _ _ (by omega), hL]
theorem qP (kp : Nat -> Nat) (n i : Nat) : ∀ (l : List (Nat × ByteArray)) (j : Nat) (L : List UInt8), L.length = n * 64 -> Uj n l -> (∀ x ∈ l, x.1 ≠ i) -> xN (yK kp l j L) i = xN L i
 | [], _, _, _, _, _ => rfl
 | x :: l, j, L, h, hx, hn => by
   have h1 := hx x (by simp);have hs : (x.2.extract 0 (kp j)).size <= 64 := by rw [ByteArray.size_extract]; omega
   exact (qP kp n i l (j + 1) _ (Xb h h1.1 h1.2) hx.tail fun y hy => hn y (by simp [hy])).trans (Jq L x.1 i _ (hn x (by simp)) hs (by omega))
theorem Vs (n : Nat) : ∀ (l : List (Nat × ByteArray)) (j : Nat) (L : List UInt8), L.length = n * 64 -> Uj n l -> (l.map (·.1)).Nodup -> ∀ x ∈ l, xN (yK (fun _ => 64) l j L) x.1 = x.2
 | [], _, _, _, _, _, x, hx => by cases hx
 | y :: l, j, L, h, hf, hn, x, hx => by
   have h1 := hf y (by simp);rw [List.map_cons, List.nodup_cons] at hn;have hl := Xb (k := 64) h h1.1 h1.2;rcases List.mem_cons.1 hx with rfl | hx
   · refine (qP (fun _ => 64) n x.1 l (j + 1) _ hl hf.tail fun z hz e => hn.1 (e ▸ List.mem_map_of_mem hz)).trans ?_;exact Ub L x.1 x.2 h1.2 (by omega)
   · exact Vs n l (j + 1) _ hl hf.tail hn.2 x hx
structure zFi (f : Nat -> ByteArray) (size seq : Nat) (S : List (Nat × List ByteArray)) : Prop where
 laid : qL f 0 size seq S
 sz : ∀ q, q < size -> (f q).size = 64
 zero : ∀ q, long S < q -> q < size -> bN (f q) 10 = 0
 mark : long S < size -> zFw (f (long S)) ((seq + S.length) % 18446744073709551616)
theorem zCu {f : Nat -> ByteArray} {p seq left : Nat} (h : cnt (f p) seq left = 0) : (txn f p seq left).length = 0 := by
 unfold txn;split
 · rw [mL]; exact h
 · rfl
section
variable {f g : Nat -> ByteArray} {size seq : Nat} {S : List (Nat × List ByteArray)}
theorem zFi.fit (h : zFi f size seq S) : long S <= size := h.laid.fit
theorem zFi.keep (h : zFi f size seq S) (h1 : ∀ q, q <= long S -> q < size -> g q = f q) (h2 : ∀ q, q < size -> (g q).size = 64) (h3 : ∀ q, long S < q -> q < size -> bN (g q) 10 = 0) : zFi g size seq S := by
 have hf := h.fit;refine ⟨qL.congr S _ _ _ h.laid fun q _ b => h1 q (by omega) (by omega), h2, h3, fun c => ?_⟩;rw [h1 _ (Nat.le_refl _) c];exact h.mark c
theorem zFi.nil (h2 : ∀ q, q < size -> (f q).size = 64) (h3 : ∀ q, q < size -> bN (f q) 10 = 0) : zFi f size seq [] :=
 ⟨trivial, h2, fun q _ b => h3 q b, fun c => zFw.of (h2 _ c) (h3 _ c)⟩
end
end
section
theorem zLb (n : Nat) (s : St) (i : Nat) (t : ByteArray) : ((xE n s (i : Int) t).1 ≠ 0 /\ (xE n s (i : Int) t).2.wr = s.wr /\ (xE n s (i : Int) t).2.sure = s.sure) \/ ((xE n s (i : Int) t).1 = 0 /\ (xE n s (i : Int) t).2.wr = s.wr ++ [(i, t)] /\ (xE n s (i : Int) t).2.sure = s.sure) := by
 obtain ⟨h1, h2⟩ := Qf s;unfold xE;split
 · exact .inl ⟨by show (11 : Int) ≠ 0; decide, rfl, rfl⟩
 · split
   · exact .inl ⟨by show (1 : Int) ≠ 0; decide, rfl, rfl⟩
   · split
     · refine .inr ⟨rfl, ?_, ?_⟩
       · simp [h1]
       · simp [h2]
     · exact .inl ⟨by show (11 : Int) ≠ 0; decide, h1, h2⟩
theorem zKj (s : St) : ((vB s).1 ≠ 0 /\ (vB s).2.wr = s.wr /\ (vB s).2.sure = s.sure) \/ ((vB s).1 = 0 /\ (vB s).2.wr = [] /\ (vB s).2.sure = yK (fun _ => 64) s.wr 0 s.sure) := by
 obtain ⟨h1, h2⟩ := Qf s;unfold vB;split
 · exact .inl ⟨by show (11 : Int) ≠ 0; decide, rfl, rfl⟩
 · split
   · exact .inr ⟨rfl, rfl, rfl⟩
   · exact .inl ⟨by show (11 : Int) ≠ 0; decide, h1, h2⟩
theorem Yg (N : Nat) : ∀ (W : List (Nat × ByteArray)) (s : St), ∃ k, k <= W.length /\ (zV N (W.map some) (0, s)).2.wr = s.wr ++ W.take k /\ (zV N (W.map some) (0, s)).2.sure = s.sure /\ ((zV N (W.map some) (0, s)).1 = 0 -> k = W.length)
 | [], s => ⟨0, Nat.le_refl _, by simp [zV], rfl, fun _ => rfl⟩
 | x :: W, s => by
   obtain ⟨i, t⟩ := x;have e : zV N (((i, t) :: W).map some) (0, s) = zV N (W.map some) (xE N s (i : Int) t) := by
     show zV N (W.map some) (xI N (0, s) (some (i, t))) = _
     congr 1
   rw [e];have h := zLb N s i t;generalize xE N s (i : Int) t = r at h ⊢
   obtain ⟨e1, s1⟩ := r;simp only at h;rcases h with ⟨h0, h1, h2⟩ | ⟨h0, h1, h2⟩
   · rw [uB N _ _ h0];exact ⟨0, Nat.zero_le _, by simp [h1], h2, fun h => absurd h h0⟩
   · subst h0;obtain ⟨k, a, b, c, d⟩ := Yg N W s1;refine ⟨k + 1, by simp; omega, ?_, c.trans h2, fun h => by rw [d h]; rfl⟩;rw [b, h1];simp
def pgW (base k : Nat) (p : ByteArray) : List (Nat × ByteArray) := (List.range 9).map fun i => (base + (1 + 9 * k + i), secB p i)
def wl (base : Nat) (ps : List ByteArray) (n : Nat) : List (Nat × ByteArray) := (List.range n).flatMap fun j => pgW base j (ps.getD j ⟨#[]⟩)
theorem zG5 (base : Nat) (ps : List ByteArray) (n : Nat) : wl base ps (n + 1) = wl base ps n ++ pgW base n (ps.getD n ⟨#[]⟩) := by simp [wl, List.range_succ]
theorem zMz (base k : Nat) (p : ByteArray) : uQ base k p 9 = (pgW base k p).map some := by unfold uQ pgW; rw [List.map_map]; rfl
theorem zKb (base : Nat) (ps : List ByteArray) : ∀ n, jE base ps n = (wl base ps n).map some
 | 0 => rfl
 | n + 1 => by
   have e : jE base ps (n + 1) = jE base ps n ++ uQ base n (ps.getD n ⟨#[]⟩) 9 := by simp [jE, List.range_succ]
   rw [e, zG5, List.map_append, zKb base ps n, zMz]
theorem zAf (base : Nat) (ps : List ByteArray) : ∀ n, (wl base ps n).map (·.1) = List.range' (base + 1) (9 * n)
 | 0 => rfl
 | n + 1 => by
   have e : (pgW base n (ps.getD n ⟨#[]⟩)).map (·.1) = List.range' (base + 1 + 9 * n) 9 := by
     unfold pgW;rw [List.map_map, List.range'_eq_map_range];apply List.map_congr_left
     intro i _;show base + (1 + 9 * n + i) = base + 1 + 9 * n + i
     omega
   rw [zG5, List.map_append, zAf base ps n, e, List.range'_append_1];congr 1
theorem zJ0 {base : Nat} {ps : List ByteArray} {n : Nat} {x : Nat × ByteArray} (hx : x ∈ wl base ps n) : ∃ k i, k < n /\ i < 9 /\ x = (base + (1 + 9 * k + i), secB (ps.getD k ⟨#[]⟩) i) := by
 obtain ⟨k, hk, hx⟩ := List.mem_flatMap.1 hx;obtain ⟨i, hi, rfl⟩ := List.mem_map.1 hx;exact ⟨k, i, List.mem_range.1 hk, List.mem_range.1 hi, rfl⟩
theorem zOr {base : Nat} {ps : List ByteArray} {n k i : Nat} (hk : k < n) (hi : i < 9) : (base + (1 + 9 * k + i), secB (ps.getD k ⟨#[]⟩) i) ∈ wl base ps n :=
 List.mem_flatMap.2 ⟨k, List.mem_range.2 hk, List.mem_map.2 ⟨i, List.mem_range.2 hi, rfl⟩⟩
section
variable {N at_ size seq : Nat} {S : List (Nat × List ByteArray)} {L : List UInt8} {ps : List ByteArray}
theorem zMs (hsz : ∀ p ∈ ps, p.size = 512) {base : Nat} (hb : base + (1 + 9 * ps.length) <= N) : Uj N (wl base ps ps.length) := fun x hx => by
 obtain ⟨k, i, hk, hi, rfl⟩ := zJ0 hx;have hp : (ps.getD k ⟨#[]⟩).size = 512 := by
   rw [List.getD_eq_getElem?_getD, List.getElem?_eq_getElem hk];exact hsz _ (List.getElem_mem hk)
 exact ⟨by show base + (1 + 9 * k + i) < N; omega, secB_size _ (by omega) i hi⟩
end
end
end Go.Proofs.YtndhmidgnpobjaaGreatDoor
