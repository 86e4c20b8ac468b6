import Derived.Test.YthijgebmoadgkaaGreatDoorPgvE
import Derived.Test.YthijgebmoadgkaaGreatDoorCraR
set_option linter.unusedVariables false
set_option linter.unusedSimpArgs false
namespace Go.Proofs.YthijgebmoadgkaaGreatDoor
open Go.ChangeShapes Go.WideShapes Go.ChangeAt Go.RowKit
def crs (kp : Nat -> Nat) (s : St) : St := ⟨yI kp s.wr 0 s.sure, [], -1, false⟩
theorem gU {s : St} (h : s.wr = []) (k : Nat) : vw s k = xH s.sure (k : Int) := by unfold vw; rw [h]; rfl
theorem Uq {N : Nat} {s : St} (h : Sd N s) (kp : Nat -> Nat) : Sd N (crs kp s) := ⟨jJ kp N _ _ _ h.len h.fits, fun x hx => by cases hx⟩
theorem Ua (kp : Nat -> Nat) (hkp : ∀ j, kp j <= 64) (n : Nat) : ∀ (l : List (Nat × ByteArray)) (j : Nat) (L : List UInt8), L.length = n * 64 -> Up n l -> (l.map (·.1)).Nodup -> ∀ i : Nat, xH (yI kp l j L) (i : Int) = xH L (i : Int) \/ ∃ t b, (i, t) ∈ l /\ b <= 64 /\ xH (yI kp l j L) (i : Int) = qZ t (xH L (i : Int)) b
 | [], _, _, _, _, _, _ => .inl rfl
 | x :: l, j, L, h, hf, hn, i => by
   have h1 := hf x (by simp);have hz := Vv (k := kp j) h h1.1 h1.2;rw [List.map_cons] at hn;have hn2 := List.nodup_cons.1 hn;have hdef : yI kp (x :: l) j L = yI kp l (j + 1) (mW L (x.1 * 64) (x.2.extract 0 (kp j))) := rfl;rw [hdef];by_cases c : x.1 = i
   · right
     have hl : xH (yI kp l (j + 1) (mW L (x.1 * 64) (x.2.extract 0 (kp j)))) (i : Int) = xH (mW L (x.1 * 64) (x.2.extract 0 (kp j))) (i : Int) := qN kp n i l (j + 1) _ hz hf.tail (fun y hy e => hn2.1 (List.mem_map.2 ⟨y, hy, by rw [e, c]⟩));refine ⟨x.2, kp j, by rw [<- c]; simp, hkp j, ?_⟩;rw [hl, <- c];exact Qz L x.1 x.2 (kp j) h1.2 (hkp j) (by have := h1.1; omega)
   · have e := Jo L x.1 i (x.2.extract 0 (kp j)) c (by rw [ByteArray.size_extract]; have := hkp j; omega) (by have := h1.1; omega);rcases Ua kp hkp n l (j + 1) _ hz hf.tail hn2.2 i with h2 | ⟨t, b, h2, h3, h4⟩
     · exact .inl (h2.trans e)
     · exact .inr ⟨t, b, by simp [h2], h3, by rw [h4, e]⟩
def zGa (s : St) (W : List (Nat × ByteArray)) (s' : St) : Prop := ∀ i : Nat, vw s' i = vw s i \/ ∃ t b, (i, t) ∈ W /\ b <= 64 /\ vw s' i = qZ t (vw s i) b
theorem zGa.ne {s s' : St} {W : List (Nat × ByteArray)} (h : zGa s W s') {i : Nat} (hi : ∀ x ∈ W, x.1 ≠ i) : vw s' i = vw s i := by
 rcases h i with h | ⟨t, b, h, -, -⟩
 · exact h
 · exact absurd rfl (hi _ h)
structure Seg (N : Nat) (s : St) (W : List (Nat × ByteArray)) (r : Int × St) : Prop where
 sd : Sd N r.2
 way : (r.1 = 0 /\ r.2.down = false /\ r.2.wr = [] /\ (∀ x ∈ W, vw r.2 x.1 = x.2) /\ ∀ i : Nat, (∀ x ∈ W, x.1 ≠ i) -> vw r.2 i = vw s i) \/ (r.1 = 11 /\ r.2.down = true /\ ∀ kp : Nat -> Nat, (∀ j, kp j <= 64) -> zGa s W (crs kp r.2))
 live : s.fuse < 0 -> r.1 = 0 /\ r.2.fuse = s.fuse
theorem Qw (N : Nat) (W : List (Nat × ByteArray)) (s : St) (hs : Sd N s) (hw : s.wr = []) (hd : s.down = false) (hF : Up N W) (hn : (W.map (·.1)).Nodup) : Seg N s W (zP N (W.map some ++ [none]) (0, s)) := by
 have hfit : ∀ o ∈ W.map some ++ [none], mZ N o := by
   intro o ho;rcases List.mem_append.1 ho with ho | ho
   · obtain ⟨⟨a, t⟩, hx, rfl⟩ := List.mem_map.1 ho;exact hF (a, t) hx
   · obtain rfl : o = none := by simpa using ho
     trivial
 have hsd := Qo N _ s hs hfit;have hup := gZ N _ s hd hfit;refine ⟨hsd, ?_, hup.2⟩;replace hup := hup.1;obtain ⟨k, k1, k2, k3, k4⟩ := Yq N W s;have er : zP N (W.map some ++ [none]) (0, s) = xA N (zP N (W.map some) (0, s)) none := by rw [jI]; rfl
 rw [er] at hup hsd ⊢;obtain ⟨x, hx⟩ : ∃ x, x = zP N (W.map some) (0, s) := ⟨_, rfl⟩
 rw [<- hx] at k2 k3 k4 hup hsd ⊢;rw [hw, List.nil_append] at k2;have hFk : Up N (W.take k) := fun y hy => hF y (List.mem_of_mem_take hy)
 have hnk : ((W.take k).map (·.1)).Nodup := hn.sublist ((List.take_sublist k W).map _);have bad : ∀ r : Int × St, r.2.wr = W.take k -> r.2.sure = s.sure -> ∀ kp : Nat -> Nat, (∀ j, kp j <= 64) -> zGa s W (crs kp r.2) := by
   intro r h1 h2 kp hkp i;have e : vw (crs kp r.2) i = xH (yI kp (W.take k) 0 s.sure) (i : Int) := by rw [gU rfl]; show xH (yI kp r.2.wr 0 r.2.sure) _ = _; rw [h1, h2]
   rw [e, gU hw];rcases Ua kp hkp N (W.take k) 0 s.sure hs.len hFk hnk i with h | ⟨t, b, h3, h4, h5⟩
   · exact .inl h
   · exact .inr ⟨t, b, List.mem_of_mem_take h3, h4, h5⟩
 by_cases c : x.1 = 0
 · have e1 : xA N x none = xQ x.2 := by unfold xA; rw [if_pos c]; rfl
   rw [e1] at hup ⊢;rcases zI7 x.2 with ⟨h0, h1, h2⟩ | ⟨h0, h1, h2⟩
   · right
     rcases hup with h | h
     · exact absurd h.1 h0
     · exact ⟨h.1, h.2, bad _ (h1.trans k2) (h2.trans k3)⟩
   · left
     have hk := k4 c;have ew : W.take k = W := by rw [hk, List.take_length]
     rw [k2, k3, ew] at h2;rcases hup with h | h
     · refine ⟨h.1, h.2, h1, fun y hy => ?_, fun i hi => ?_⟩
       · rw [gU h1, h2];exact Vf N W 0 s.sure hs.len hF hn y hy
       · rw [gU h1, h2, gU hw];exact qN _ N i W 0 s.sure hs.len hF hi
     · omega
 · have e1 : xA N x none = x := by unfold xA; rw [if_neg c]
   rw [e1] at hup ⊢;right
   rcases hup with h | h
   · exact absurd h.1 c
   · exact ⟨h.1, h.2, bad x k2 k3⟩
theorem Qf (n : Nat) : bN (nB n) 0 = n % 256 := by
 rw [zGd n 0 (by omega)];unfold xV;rw [UInt8.toNat_ofNat'];simp
theorem zKk {a b : Nat} (ha : a <= 18446744073709551615) (hb : b <= 18446744073709551615) (h : ∀ i, i < 8 -> bN (nB a) i = bN (nB b) i) : a = b := by
 rw [<- Uj a ha, <- Uj b hb, xY];intro i hi;rw [Nat.zero_add];exact h i hi
theorem Uz {X : ByteArray} (h : isM X = true) : ∀ i, i < 8 -> bN X i = bN X (56 + i) := by
 have := (xY _ _ 0 56 8).1 (of_decide_eq_true h).2;intro i hi;have := this i hi;rwa [Nat.zero_add] at this
theorem zL5 {X : ByteArray} {q : Nat} (hq : q <= 18446744073709551615) (h : isM X = true) (h8 : ∀ i, i < 8 -> bN X i = bN (nB q) i) : mN X = q := by
 unfold mN;rw [if_pos h];refine Eq.trans ?_ (Uj q hq);rw [xY];intro i hi;rw [Nat.zero_add];exact h8 i hi
structure Vt (X : ByteArray) (q : Nat) : Prop where
 size : X.size = 64
 less : isM X = true -> mN X + 1 < q
 first : bN X 56 = bN (nB q) 0 -> ∀ i, i < 8 -> bN X i = bN (nB q) i
theorem Vt.torn {X t : ByteArray} {q b : Nat} (h : Vt X q) (hq : q <= 18446744073709551615) (ht : t.size <= 48) (hb : b <= 64) : Vt (qZ (mkB q t) X b) q \/ qZ (mkB q t) X b = mkB q t := by
 have hm := vD q t ht;have hz := qE (mkB q t) X b hm h.size hb;have hy := gV (mkB q t) X b hm h.size hb;have hX : isM X = true -> ¬ ∀ i, i < 8 -> bN X i = bN (nB q) i := fun hi h8 => by
   have := zL5 hq hi h8;have := h.less hi;omega
 obtain ⟨Y, hY⟩ : ∃ Y, Y = qZ (mkB q t) X b := ⟨_, rfl⟩
 rw [<- hY] at hz hy ⊢;by_cases c : b <= 56
 · left
   have y56 : ∀ i, i < 8 -> bN Y (56 + i) = bN X (56 + i) := fun i hi => by rw [hy _ (by omega), if_neg (by omega)]
   have y8 : (∀ i, i < 8 -> bN X i = bN (nB q) i) -> ∀ i, i < 8 -> bN Y i = bN (nB q) i := fun f8 i hi => by
     rw [hy i (by omega)];split
     · exact vS q t i hi
     · exact f8 i hi
   refine ⟨hz, fun hM => ?_, fun h5 => ?_⟩
   · by_cases c0 : b = 0
     · have e : Y = X := qG _ _ (by rw [hz, h.size]) fun i hi => by rw [hy i (by omega), if_neg (by omega)]
       rw [e] at hM ⊢;exact h.less hM
     · exfalso;have e := Uz hM 0 (by omega);rw [hy 0 (by omega), if_pos (by omega), vS q t 0 (by omega), y56 0 (by omega)] at e;have f8 := h.first e.symm;have l8 := y8 f8;have : isM X = true := decide_eq_true ⟨h.size, (xY _ _ 0 56 8).2 fun i hi => by rw [Nat.zero_add, f8 i hi, <- y56 i hi, <- Uz hM i hi, l8 i hi]⟩;exact hX this f8
   · have h6 : bN X 56 = bN (nB q) 0 := by rw [<- h5]; exact (y56 0 (by omega)).symm
     exact y8 (h.first h6)
 · have f8 : ∀ i, i < 8 -> bN Y i = bN (nB q) i := fun i hi => by rw [hy i (by omega), if_pos (by omega), vS q t i hi]
   by_cases hM : isM Y = true
   · right
     refine qG _ _ (by rw [hz, hm]) fun i hi => ?_
     by_cases ci : i < b
     · rw [hy i (by omega), if_pos ci]
     · have e := Uz hM (i - 56) (by omega);rw [show 56 + (i - 56) = i by omega, f8 _ (by omega)] at e;have m := gH q t ht (i - 56) (by omega);rw [show 56 + (i - 56) = i by omega] at m;rw [<- e, m]
   · exact .inl ⟨hz, fun h => absurd h hM, fun _ => f8⟩
theorem Vt.next {n : Nat} {t : ByteArray} (hn : n <= 18446744073709551615) (ht : t.size <= 48) : Vt (mkB n t) (n + 1 + 1) := by
 refine ⟨vD n t ht, fun _ => ?_, fun h => ?_⟩
 · rw [zBi n t hn ht]; omega
 · have := gH n t ht 0 (by omega);rw [show 56 + 0 = 56 from rfl] at this;rw [this, Qf, Qf] at h;omega
theorem Vt.zero : Vt (zB 64) (1 + 1) := by
 refine ⟨xG 64, fun _ => ?_, fun h => ?_⟩
 · rw [zA0.2]; decide
 · rw [zFm, Qf] at h;omega
theorem mQ {x : ByteArray} {q : Nat} (hx : x.size = 64) : vQ x q = true ↔ ∀ i, i < 8 -> bN x (56 + i) = bN (nB q) i := by
 have h8 := vK q;constructor
 · intro h i hi;obtain ⟨p, hp⟩ := List.isSuffixOf_iff_suffix.1 h;have hl : p.length = 56 := by
     have := congrArg List.length hp;rw [List.length_append] at this;have e1 : (nB q).data.toList.length = 8 := h8;have e2 : x.data.toList.length = 64 := hx;omega
   rw [Xe, Xe, <- hp, List.getD_eq_getElem?_getD, List.getD_eq_getElem?_getD, List.getElem?_append_right (by omega), show 56 + i - p.length = i by omega]
 · intro h;have e : x.extract 56 64 = nB q := qG _ _ (by rw [ByteArray.size_extract, h8]; omega) fun i hi => by
     rw [ByteArray.size_extract] at hi;rw [yR x 56 64 i (by omega) (by omega)];exact h i (by omega)
   have e2 := xE x 56 64;rw [e] at e2;have e3 : (x.data.toList.drop 56).take (64 - 56) = x.data.toList.drop 56 := List.take_of_length_le (by rw [List.length_drop, uO, hx]; omega);exact List.isSuffixOf_iff_suffix.2 ⟨x.data.toList.take 56, by rw [e2, e3, List.take_append_drop]⟩
theorem zB2 {x : ByteArray} {q : Nat} (hx : x.size = 64) (h : ¬ ∀ i, i < 8 -> bN x (56 + i) = bN (nB q) i) : vQ x q = false := by
 cases c : vQ x q with
 | false => rfl
 | true => exact absurd ((mQ hx).1 c) h
theorem zFe (q n : Nat) : vQ (yN q n) q = true := (mQ (uZ q n)).2 fun i hi => Jm q n i hi
theorem zEw {p q n : Nat} (hp : p <= 18446744073709551615) (hq : q <= 18446744073709551615) (h : p ≠ q) : vQ (yN p n) q = false :=
 zB2 (uZ p n) fun e => h (zKk hp hq fun i hi => by rw [<- e i hi, Jm p n i hi])
theorem zLf {x : ByteArray} {q : Nat} (hx : x.size = 64) (hq : q <= 18446744073709551615) : vQ (umB x q) q = false := by
 have hz := fQ (x := x) (q := q) (by omega);refine zB2 (by omega) fun e => ?_
 have e2 : 18446744073709551615 - q = q := zKk (by omega) hq fun i hi => by
   rw [<- e i hi];unfold umB;have h8 := vK (18446744073709551615 - q);have z : (x.extract 0 (x.size - 8)).size = 56 := by rw [ByteArray.size_extract]; omega
   have := gK (x.extract 0 (x.size - 8)) (nB (18446744073709551615 - q)) i (by omega);rw [z] at this;exact this.symm
 omega
theorem zHn {x : ByteArray} {q n b : Nat} (hx : x.size = 64) (h : vQ x q = false) (hb : b <= 64) : qZ (yN q n) x b = yN q n \/ vQ (qZ (yN q n) x b) q = false := by
 have hm := uZ q n;have hz := qE (yN q n) x b hm hx hb;have hy := gV (yN q n) x b hm hx hb;obtain ⟨Y, hY⟩ : ∃ Y, Y = qZ (yN q n) x b := ⟨_, rfl⟩
 rw [<- hY] at hz hy ⊢;cases c : vQ Y q with
 | false => exact .inr rfl
 | true =>
   left
   have e := (mQ hz).1 c;by_cases c5 : b <= 56
   · exfalso;rw [(mQ hx).2 fun i hi => by rw [<- e i hi, hy _ (by omega), if_neg (by omega)]] at h;cases h
   · refine qG _ _ (by omega) fun i hi => ?_
     by_cases ci : i < b
     · rw [hy i (by omega), if_pos ci]
     · have e1 := e (i - 56) (by omega);have e2 := Jm q n (i - 56) (by omega);rw [show 56 + (i - 56) = i by omega] at e1 e2;rw [e1, e2]
end Go.Proofs.YthijgebmoadgkaaGreatDoor
