import Derived.Test.YthijgebmoadgkaaGreatDoorRdoG
import Derived.Test.YthijgebmoadgkaaGreatDoorDisB
import Derived.Test.YthijgebmoadgkaaGreatDoorDisE
import Derived.Test.YthijgebmoadgkaaGreatDoorPguC
import Derived.Test.YthijgebmoadgkaaGreatDoorRdoM
set_option linter.unusedVariables false
set_option linter.unusedSimpArgs false
namespace Go.Proofs.YthijgebmoadgkaaGreatDoor
open Go.ChangeShapes Go.WideShapes Go.ChangeAt Go.RowKit
section
structure vZ (w : World) (S : Nat -> Prop) (v : Value) (l : List ByteArray) : Prop where
 row : w.ownsRow 0 9 1 v l.length (l.map .string)
 at_ : ∀ g, v.ownBlock = some g -> S g
 small : ∀ s ∈ l, s.size <= maxLen
theorem vZ.nil (w : World) (S : Nat -> Prop) : vZ w S (.slice none 0 0) [] := ⟨World.ownsRow_nil _ _ _ _, (by intro g hg; cases hg), (by simp)⟩
theorem vZ.keep {w w' : World} {S U : Nat -> Prop} {v : Value} {l : List ByteArray} (h : vZ w S v l) (hc : Chg U w w') (k : ∀ b, b < w.heap.size -> S b -> ¬ U b) : vZ w' S v l :=
 ⟨zCx h.row fun g hg => hc.block g (h.row.lt g hg).2 (k g (h.row.lt g hg).2 (h.at_ g hg)), h.at_, h.small⟩
theorem vZ.below {w w' : World} {S : Nat -> Prop} {v : Value} {l : List ByteArray} (h : vZ w S v l) (hb : Below w.heap.size w w') : vZ w' S v l := h.keep (Chg.of (S := fun _ => False) hb) fun _ _ _ => id
theorem vZ.shape {w : World} {S : Nat -> Prop} {v : Value} {l : List ByteArray} (h : vZ w S v l) : ∃ a c, v = .slice a l.length c /\ l.length <= c /\ c <= maxLen := by
 rcases h.row.2 with ⟨rfl, h0⟩ | ⟨g, cap, cur, rfl, _, _, r1, r2, _⟩
 · exact ⟨none, 0, by rw [h0], by omega, Nat.zero_le _⟩
 · exact ⟨_, _, rfl, r1, r2⟩
theorem vZ.in_ {w : World} {S : Nat -> Prop} {v : Value} {l : List ByteArray} (h : vZ w S v l) : yJ w S v l := by
 obtain ⟨a, c, hv, hc1, hc2⟩ := h.shape;obtain ⟨h1, h2, h3⟩ := h;refine ⟨a, c, hv, hc1, hc2, h3, ?_⟩;rcases h1.2 with ⟨_, h⟩ | ⟨g, cap, cur, hv2, r0, r1, r2, r3, r4, r5⟩
 · exact .inl (List.length_eq_zero_iff.1 h)
 · rw [hv2] at h1 h2;refine .inr ⟨g, 0, ?_, h2 g rfl, (h1.lt g rfl).2, fun i hi => ?_⟩
   · rw [hv] at hv2; exact (Value.slice.inj hv2).1
   · rw [Nat.zero_add];refine (h1.cellAt i (by omega)).trans ?_;simp [hi]
theorem vZ.push {w wa w3 : World} {S : Nat -> Prop} {v v' : Value} {l : List ByteArray} {t : ByteArray} (h : vZ w S v l) (ht : t.size <= maxLen)
   (ha : Below w.heap.size w wa) (hown : w3.ownsRow 0 9 1 v' (l.length + 1) (l.map .string ++ [.string t])) (hg : wa.grownBy w3 v.ownBlock) (hl : v'.ownBlock = v.ownBlock \/ v'.ownBlock = some wa.heap.size) (hS : ∀ q, w.heap.size <= q -> S q) :
   vZ w3 S v' (l ++ [t]) /\ Chg (fun q => v.ownBlock = some q) w w3 := by
 refine ⟨⟨?_, ?_, ?_⟩, (Chg.of ha).grown hg fun k hk => .inl hk⟩
 · simpa using hown
 · intro g hg';rcases hl with hl | hl
   · exact h.at_ g (hl ▸ hg')
   · rw [hl] at hg'; injection hg' with e; exact e ▸ hS _ ha.size
 · intro s hs;rcases List.mem_append.1 hs with hs | hs
   · exact h.small s hs
   · obtain rfl : s = t := by simpa using hs
     exact ht
theorem one_cell (W : World) (T : TypeId) (x : Value) (j : Nat) {u : Value} (hu : [x][j]? = some u) : (W.alloc (.cells #[x] T)).cell? ((⟨W.heap.size, 0, none⟩ : Addr).add j) = some u := by
 have e : (⟨W.heap.size, 0, none⟩ : Addr).add j = ⟨W.heap.size, j, none⟩ := by unfold Addr.add; split <;> simp_all
 rw [e];have := (Own.made W T #[x]).at_.1 j;exact this.trans (by simpa using hu)
end
section
def gp (a b j : Nat) : Nat := (a + b * (j % 256)) % 256
def pl (a b k : Nat) : List UInt8 := (List.range 512).map fun j => if j < k then UInt8.ofNat (gp a b j) else 0
def Pg (a b : Nat) : ByteArray := zAs (pl a b 512)
end
section
structure Ses (w0 W : World) (lg d sb mb sc : Nat) (wv : Value) (N : Nat) (s : St) (l : yH) : Prop where
 disk : zI W d sb mb sc wv N s
 log : yA W lg d l
 ok : l.Ok
 fit : l.from_ + l.size <= N
 new : ∀ q, fp d sb mb wv q -> w0.heap.size <= q
 lnew : w0.heap.size <= lg
 ap : ¬ fp d sb mb wv lg
 below : Below w0.heap.size w0 W
 few : s.wr.length <= 1000
 clean : l.failed = false -> s.wr = []
theorem Ses.next {w0 W W' : World} {lg d sb mb sc : Nat} {wv : Value} {N : Nat} {s : St} {l : yH} (h : Ses w0 W lg d sb mb sc wv N s l) (hb : Below W.heap.size W W') : Ses w0 W' lg d sb mb sc wv N s l :=
 ⟨h.disk.below hb, Own.keep h.log hb, h.ok, h.fit, h.new, h.lnew, h.ap, then_ h.below hb h.below.size, h.few, h.clean⟩
theorem Ses.blocks {w0 W : World} {lg d sb mb sc : Nat} {wv : Value} {N : Nat} {s : St} {l : yH} (h : Ses w0 W lg d sb mb sc wv N s l) {q : Nat} (hq : fp d sb mb wv q \/ q = lg) : w0.heap.size <= q := by
 rcases hq with hq | rfl
 · exact h.new q hq
 · exact h.lnew
def zOb (w0 W W' : World) (lg d sb mb sc : Nat) (wv : Value) (N : Nat) (s : St) (l : yH) : Prop :=
 ∃ wv', Ses w0 W' lg d sb mb sc wv' N s l /\ Chg (fun q => fp d sb mb wv q \/ q = lg) W W' /\ ∀ q, q < W.heap.size -> fp d sb mb wv' q -> fp d sb mb wv q
theorem Ses.append {w0 W : World} {lg d sb mb sc : Nat} {wv : Value} {N : Nat} {s : St} {l : yH} (h : Ses w0 W lg d sb mb sc wv N s l) (v : Value) (ps : List ByteArray) (hps : yJ W (fun b => ¬ fp d sb mb wv b) v ps) :
   Calls Tryz.prog 247 #[.pointer (some ⟨lg, 0, none⟩), v] W fun e w' => e = .returned (.int .i64 (uN N s l ps).1) /\ zOb w0 W w' lg d sb mb sc wv N (uN N s l ps).2.1 (uN N s l ps).2.2 := by
 refine (Xi h.log h.ok h.disk v ps hps (by have := h.few; omega) h.ap).mono ?_;rintro e w' ⟨rfl, wv', hD, hL, hC, hv⟩;have hold : ∀ q, q < W.heap.size -> fp d sb mb wv' q -> fp d sb mb wv q := fun q hq hf => by
   rcases vR hv hf with h | h
   · exact h
   · omega
 have hnew : ∀ q, fp d sb mb wv' q -> w0.heap.size <= q := fun q hf => by
   rcases vR hv hf with h1 | h1
   · exact h.new q h1
   · have := h.below.size; omega
 have hap : ¬ fp d sb mb wv' lg := fun hf => h.ap (hold lg h.log.in_ hf)
 have hB : Below w0.heap.size w0 w' := h.below.trans (hC.below h.below.size fun q hq => h.blocks hq);refine ⟨rfl, wv', ?_, hC, hold⟩;have hlen : ∀ s', (0, s') = zP N (yB (l.from_ + l.used) ps l.next) (0, s) \/ (11, s') = zP N (yB (l.from_ + l.used) ps l.next) (0, s) -> ps.length <= 64 -> l.failed = false -> s'.wr.length <= 1000 := fun s' hs hp hf => by
   have := vE N (yB (l.from_ + l.used) ps l.next) (0, s);rw [zE9] at this;have hc := h.clean hf;simp only [hc, List.length_nil] at this;rcases hs with hs | hs <;> (rw [<- hs] at this; simp only at this; omega)
 rcases zI3 N s l ps h.ok h.fit with h1 | h1 | h1 | h1 | h1 | h1 | h1
 · obtain ⟨-, e⟩ := h1;rw [e] at hD hL ⊢;exact ⟨hD, hL, h.ok, h.fit, hnew, h.lnew, hap, hB, h.few, h.clean⟩
 · obtain ⟨-, -, e⟩ := h1;rw [e] at hD hL ⊢;exact ⟨hD, hL, h.ok, h.fit, hnew, h.lnew, hap, hB, h.few, h.clean⟩
 · obtain ⟨-, -, -, e⟩ := h1;rw [e] at hD hL ⊢;exact ⟨hD, hL, h.ok, h.fit, hnew, h.lnew, hap, hB, h.few, h.clean⟩
 · obtain ⟨-, -, -, -, e⟩ := h1;rw [e] at hD hL ⊢;exact ⟨hD, hL, h.ok, h.fit, hnew, h.lnew, hap, hB, h.few, h.clean⟩
 · obtain ⟨-, -, -, -, -, e⟩ := h1;rw [e] at hD hL ⊢;exact ⟨hD, hL, ⟨h.ok.fit, h.ok.used, h.ok.next⟩, h.fit, hnew, h.lnew, hap, hB, h.few, fun hf => by cases hf⟩
 · obtain ⟨s', -, hf, hp, hfit, -, hr, hd, hw, -, e⟩ := h1;rw [e] at hD hL ⊢;refine ⟨hD, hL, ⟨h.ok.fit, ?_, ?_⟩, h.fit, hnew, h.lnew, hap, hB, hlen s' (.inl hr) hp hf, fun _ => hw⟩
   · show l.used + (1 + 9 * ps.length) <= l.size
     have := h.ok.used; omega
   · show (l.next + 1) % 18446744073709551616 <= _
     omega
 · obtain ⟨s', -, hf, hp, -, -, hr, hd, -, e⟩ := h1;rw [e] at hD hL ⊢;exact ⟨hD, hL, ⟨h.ok.fit, h.ok.used, h.ok.next⟩, h.fit, hnew, h.lnew, hap, hB, hlen s' (.inr hr) hp hf, fun hf => by cases hf⟩
theorem zM5 (x : ByteArray) (seq left : Nat) (h : bN x 10 ≠ 1) : cnt x seq left = 0 := zBu x seq left fun n _ _ e => h (by rw [e]; exact Zq seq n)
theorem zCf (f : Nat -> ByteArray) (size seq : Nat) (h : bN (f 0) 10 ≠ 1) : yG f size seq = [] := by
 unfold yG;refine fJ f _ 0 size seq ?_;unfold txn;rw [zM5 _ _ _ h];split <;> rfl
def fresh (N : Nat) : St := ⟨List.replicate (N * 64) 0, [], -1, false⟩
theorem Ses.open_ {w0 W1 W2 : World} {d sb mb sc N fr sz seq lg : Nat} {wv : Value} {s : St} {ts : List (Nat × List ByteArray)} (hD : zI W1 d sb mb sc wv N s) (hw : s.wr = []) (hnew : ∀ q, fp d sb mb wv q -> w0.heap.size <= q) (hB : Below w0.heap.size w0 W1) (hfit : fr + sz <= N)
   (hlg : W1.heap.size <= lg) (hL : yA W2 lg d ⟨fr, sz, long ts, (seq + ts.length) % 18446744073709551616, false⟩) (hlong : long ts <= sz) (hb : Below W1.heap.size W1 W2) : Ses w0 W2 lg d sb mb sc wv N s ⟨fr, sz, long ts, (seq + ts.length) % 18446744073709551616, false⟩ := by
 have hN := hD.ok.max;have h1 := hB.size;refine ⟨hD.below hb, hL, ⟨by show fr + sz <= 65536; omega, hlong, by show (seq + ts.length) % 18446744073709551616 <= _; omega⟩, hfit, hnew, by omega, fun h => by have := hD.in_ h; omega, then_ hB hb h1, by rw [hw]; simp, fun _ => hw⟩
end
section
theorem zCz (s : ByteArray) (k : Nat) (h : k < s.size) : s.extract k (k + 1) = ⟨#[UInt8.ofNat (bN s k)]⟩ := by
 have z1 : (s.extract k (k + 1)).size = 1 := by rw [ByteArray.size_extract]; omega
 refine qG _ _ z1 fun i hi => ?_
 have : i = 0 := by omega
 subst this;have hlt := zDt s k;rw [yR s k (k + 1) 0 (by omega) (by omega), zE7, if_pos rfl, UInt8.toNat_ofNat', Nat.mod_eq_of_lt (by omega), Nat.add_zero]
def dn (k : Nat) : Nat := k - (k + 53) / 64
end
section
end
section
theorem zEd {f g : Nat -> ByteArray} {p : Nat} (h : ∀ q, p <= q -> q < p + 9 -> f q = g q) : qH f p = qH g p := by
 unfold qH;apply List.map_congr_left
 intro i hi;have := List.mem_range.1 hi;exact h _ (by omega) (by omega)
end
section
def uW (f : Nat -> ByteArray) : Nat -> Nat -> Nat -> List (Nat × List ByteArray) -> Prop
 | _, _, _, [] => True
 | p, left, seq, t :: ts => t.1 = seq /\ t.2.length ≠ 0 /\ txn f p seq left = t.2 /\ uW f (p + (1 + 9 * t.2.length)) (left - (1 + 9 * t.2.length)) ((seq + 1) % 18446744073709551616) ts
theorem uW.fit {f : Nat -> ByteArray} : ∀ (ts : List (Nat × List ByteArray)) (p left seq : Nat), uW f p left seq ts -> long ts <= left
 | [], _, _, _, _ => Nat.zero_le _
 | t :: ts, p, left, seq, h => by
   obtain ⟨h1, h2, h3, h4⟩ := h;have := uW.fit ts _ _ _ h4;have hf := zBf f p seq left (by rw [h3]; exact h2);rw [h3] at hf;simp only [long, List.map_cons, List.sum_cons] at this ⊢;omega
theorem zEz {f g : Nat -> ByteArray} {p seq left : Nat} (h0 : (txn f p seq left).length ≠ 0) (h : ∀ q, p <= q -> q < p + (1 + 9 * (txn f p seq left).length) -> g q = f q) : txn g p seq left = txn f p seq left := by
 have e0 : g p = f p := h p (Nat.le_refl _) (by omega);have hc : ∀ k, k < cnt (f p) seq left -> Qg (qH f (p + 1 + 9 * k)) = true := by
   by_cases c : ∀ k, k < cnt (f p) seq left -> Qg (qH f (p + 1 + 9 * k)) = true
   · exact c
   · unfold txn at h0; rw [if_neg c] at h0; exact absurd rfl h0
 have e1 : txn f p seq left = pgs f (p + 1) (cnt (f p) seq left) := by unfold txn; rw [if_pos hc]
 rw [e1, gT] at h;have hn : ∀ k, k < cnt (f p) seq left -> qH g (p + 1 + 9 * k) = qH f (p + 1 + 9 * k) := fun k hk => zEd fun q h1 h2 => h q (by omega) (by omega)
 rw [e1];unfold txn;rw [e0, if_pos (fun k hk => by rw [hn k hk]; exact hc k hk)];unfold pgs;apply List.map_congr_left
 intro k hk;rw [hn k (List.mem_range.1 hk)]
theorem uW.congr {f g : Nat -> ByteArray} : ∀ (ts : List (Nat × List ByteArray)) (p left seq : Nat), uW f p left seq ts -> (∀ q, p <= q -> q < p + long ts -> g q = f q) -> uW g p left seq ts
 | [], _, _, _, _, _ => trivial
 | t :: ts, p, left, seq, h, hg => by
   obtain ⟨h1, h2, h3, h4⟩ := h;have hl : long (t :: ts) = 1 + 9 * t.2.length + long ts := by simp [long]
   rw [hl] at hg;refine ⟨h1, h2, ?_, uW.congr ts _ _ _ h4 fun q a b => hg q (by omega) (by omega)⟩;rw [zEz (by rw [h3]; exact h2) fun q a b => hg q a (by rw [h3] at b; omega), h3]
theorem uW.snoc {f : Nat -> ByteArray} (t : Nat × List ByteArray) (h2 : t.2.length ≠ 0) : ∀ (ts : List (Nat × List ByteArray)) (p left seq : Nat), uW f p left seq ts -> seq < 18446744073709551616 -> t.1 = (seq + ts.length) % 18446744073709551616 -> txn f (p + long ts) t.1 (left - long ts) = t.2 -> uW f p left seq (ts ++ [t])
 | [], p, left, seq, _, hs, h1, h3 => by
   have e : t.1 = seq := by simp at h1; omega
   refine ⟨e, h2, ?_, trivial⟩;rw [<- e]; exact h3
 | a :: ts, p, left, seq, h, hs, h1, h3 => by
   obtain ⟨a1, a2, a3, a4⟩ := h;have hl : long (a :: ts) = 1 + 9 * a.2.length + long ts := by simp [long]
   rw [hl] at h3;refine ⟨a1, a2, a3, uW.snoc t h2 ts _ _ _ a4 (Nat.mod_lt _ (by omega)) ?_ ?_⟩
   · rw [h1, List.length_cons]; omega
   · rw [Nat.add_assoc, Nat.sub_sub]; exact h3
theorem uW.stands {f : Nat -> ByteArray} : ∀ (ts : List (Nat × List ByteArray)) (fuel p left seq : Nat), uW f p left seq ts -> seq < 18446744073709551616 -> ts.length < fuel ->
   (txn f (p + long ts) ((seq + ts.length) % 18446744073709551616) (left - long ts)).length = 0 -> stands f fuel p left seq = ts
 | [], fuel, p, left, seq, _, hs, hf, h0 => by
   refine fJ f fuel p left seq ?_;have e : (seq + ([] : List (Nat × List ByteArray)).length) % 18446744073709551616 = seq := by simp; omega
   rw [e] at h0;exact h0
 | t :: ts, fuel, p, left, seq, h, hs, hf, h0 => by
   obtain ⟨h1, h2, h3, h4⟩ := h;have hl : long (t :: ts) = 1 + 9 * t.2.length + long ts := by simp [long]
   rw [hl, List.length_cons] at h0;simp only [List.length_cons] at hf;rw [Vm f fuel p left seq (by omega) (by rw [h3]; exact h2), h3];have ih := uW.stands ts (fuel - 1) (p + (1 + 9 * t.2.length)) (left - (1 + 9 * t.2.length)) ((seq + 1) % 18446744073709551616) h4 (Nat.mod_lt _ (by omega)) (by omega) (by
     have e : ((seq + 1) % 18446744073709551616 + ts.length) % 18446744073709551616 = (seq + (ts.length + 1)) % 18446744073709551616 := by omega
     rw [e, Nat.sub_sub, Nat.add_assoc];exact h0)
   rw [ih, <- h1]
structure zAx (X : ByteArray) (nx : Nat) : Prop where
 size : X.size = 64
 first : bN X 10 = 1 -> ∀ i, i < 8 -> bN X i = bN (nB nx) i
 no : ∀ n, 1 <= n -> n <= 64 -> X ≠ yN nx n
theorem zAx.of {X : ByteArray} {nx : Nat} (h : X.size = 64) (h0 : bN X 10 = 0) : zAx X nx := ⟨h, fun h1 => by omega, fun n _ _ e => by rw [e, Zq] at h0; omega⟩
def qZ (t X : ByteArray) (b : Nat) : ByteArray := t.extract 0 b ++ X.extract b 64
theorem qE (t X : ByteArray) (b : Nat) (ht : t.size = 64) (hX : X.size = 64) (hb : b <= 64) : (qZ t X b).size = 64 := by
 unfold qZ; rw [ByteArray.size_append, ByteArray.size_extract, ByteArray.size_extract]; omega
theorem gV (t X : ByteArray) (b : Nat) (ht : t.size = 64) (hX : X.size = 64) (hb : b <= 64) (i : Nat) (hi : i < 64) : bN (qZ t X b) i = if i < b then bN t i else bN X i := by
 have z : (t.extract 0 b).size = b := by rw [ByteArray.size_extract]; omega
 unfold qZ;rw [gW, z];by_cases c : i < b
 · rw [if_pos c, if_pos c, yR t 0 b i (by omega) (by omega), Nat.zero_add]
 · rw [if_neg c, if_neg c, yR X b 64 (i - b) (by omega) (by omega)];exact congrArg (bN X) (by omega)
end
section
theorem zCb (L : List UInt8) (o : Nat) (u : ByteArray) (h : o + u.size <= L.length) (j : Nat) : (mW L o u)[j]? = if o <= j /\ j < o + u.size then u.data.toList[j - o]? else L[j]? := by
 have hu : u.data.toList.length = u.size := rfl;unfold mW;rw [hu];by_cases h1 : j < o
 · rw [List.append_assoc, List.getElem?_append_left (by rw [List.length_take]; omega), List.getElem?_take, if_pos h1, if_neg (by omega)]
 · by_cases h2 : j < o + u.size
   · rw [List.append_assoc, List.getElem?_append_right (by rw [List.length_take]; omega), List.length_take, Nat.min_eq_left (by omega), List.getElem?_append_left (by omega), if_pos ⟨by omega, h2⟩]
   · rw [List.getElem?_append_right (by rw [List.length_append, List.length_take]; omega), List.length_append, List.length_take, Nat.min_eq_left (by omega), hu, List.getElem?_drop, if_neg (by omega)];congr 1
     omega
theorem zBy (L : List UInt8) (i j : Nat) : ((L.drop (i * 64)).take 64)[j]? = if j < 64 then L[i * 64 + j]? else none := by
 rw [List.getElem?_take];split
 · rw [List.getElem?_drop]
 · rfl
theorem Jo (L : List UInt8) (a i : Nat) (u : ByteArray) (hne : a ≠ i) (hu : u.size <= 64) (hl : a * 64 + 64 <= L.length) : xH (mW L (a * 64) u) i = xH L i := by
 unfold xH;congr 1
 refine List.ext_getElem? fun j => ?_
 rw [Int.toNat_natCast, zBy, zBy];split
 · rw [zCb _ _ _ (by omega), if_neg (by omega)]
 · rfl
theorem fX (L : List UInt8) (i : Nat) (hl : i * 64 + 64 <= L.length) : (xH L i).size = 64 := by
 unfold xH zAs;rw [mE, Int.toNat_natCast, List.length_take, List.length_drop];omega
theorem zDz (L : List UInt8) (i j : Nat) (hj : j < 64) : bN (xH L i) j = (L[i * 64 + j]?.getD 0).toNat := by
 unfold xH zAs;rw [Yj, Int.toNat_natCast, List.getD_eq_getElem?_getD, zBy, if_pos hj]
theorem Qz (L : List UInt8) (i : Nat) (t : ByteArray) (k : Nat) (ht : t.size = 64) (hk : k <= 64) (hl : i * 64 + 64 <= L.length) : xH (mW L (i * 64) (t.extract 0 k)) i = qZ t (xH L i) k := by
 have hz : (t.extract 0 k).size = k := by rw [ByteArray.size_extract]; omega
 have hX := fX L i hl;have hl2 : (mW L (i * 64) (t.extract 0 k)).length = L.length := Xq _ _ _ (by omega);refine qG _ _ (by rw [fX _ _ (by omega), qE t _ k ht hX hk]) fun j hj => ?_
 rw [fX _ _ (by omega)] at hj;rw [gV t _ k ht hX hk j hj, zDz _ _ _ hj, zCb _ _ _ (by omega), hz];by_cases c : j < k
 · rw [if_pos (by omega), if_pos c, <- List.getD_eq_getElem?_getD, <- Xe, show i * 64 + j - i * 64 = j by omega, yR t 0 k j (by omega) (by omega), Nat.zero_add]
 · rw [if_neg (by omega), if_neg c, zDz _ _ _ hj]
theorem Qm (L : List UInt8) (i : Nat) (t : ByteArray) (ht : t.size = 64) (hl : i * 64 + 64 <= L.length) : xH (mW L (i * 64) (t.extract 0 64)) i = t := by
 rw [Qz L i t 64 ht (by omega) hl];have hX := fX L i hl;refine qG _ _ (by rw [qE t _ 64 ht hX (by omega), ht]) fun j hj => ?_
 rw [qE t _ 64 ht hX (by omega)] at hj;rw [gV t _ 64 ht hX (by omega) j hj, if_pos hj]
def Up (n : Nat) (l : List (Nat × ByteArray)) : Prop := ∀ x ∈ l, x.1 < n /\ x.2.size = 64
theorem Up.tail {n : Nat} {x : Nat × ByteArray} {l : List (Nat × ByteArray)} (h : Up n (x :: l)) : Up n l := fun y hy => h y (by simp [hy])
theorem Vv {n : Nat} {x : Nat × ByteArray} {L : List UInt8} {k : Nat} (hL : L.length = n * 64) (h1 : x.1 < n) (h2 : x.2.size = 64) : (mW L (x.1 * 64) (x.2.extract 0 k)).length = n * 64 := by
 have hs : (x.2.extract 0 k).size <= 64 := by rw [ByteArray.size_extract]; omega
 rw [Xq _ _ _ (by omega), hL]
theorem qN (kp : Nat -> Nat) (n i : Nat) : ∀ (l : List (Nat × ByteArray)) (j : Nat) (L : List UInt8), L.length = n * 64 -> Up n l -> (∀ x ∈ l, x.1 ≠ i) -> xH (yI kp l j L) i = xH L i
 | [], _, _, _, _, _ => rfl
 | x :: l, j, L, h, hx, hn => by
   have h1 := hx x (by simp);have hs : (x.2.extract 0 (kp j)).size <= 64 := by rw [ByteArray.size_extract]; omega
   exact (qN kp n i l (j + 1) _ (Vv h h1.1 h1.2) hx.tail fun y hy => hn y (by simp [hy])).trans (Jo L x.1 i _ (hn x (by simp)) hs (by omega))
theorem Vf (n : Nat) : ∀ (l : List (Nat × ByteArray)) (j : Nat) (L : List UInt8), L.length = n * 64 -> Up n l -> (l.map (·.1)).Nodup -> ∀ x ∈ l, xH (yI (fun _ => 64) l j L) x.1 = x.2
 | [], _, _, _, _, _, x, hx => by cases hx
 | y :: l, j, L, h, hf, hn, x, hx => by
   have h1 := hf y (by simp);rw [List.map_cons, List.nodup_cons] at hn;have hl := Vv (k := 64) h h1.1 h1.2;rcases List.mem_cons.1 hx with rfl | hx
   · refine (qN (fun _ => 64) n x.1 l (j + 1) _ hl hf.tail fun z hz e => hn.1 (e ▸ List.mem_map_of_mem hz)).trans ?_;exact Qm L x.1 x.2 h1.2 (by omega)
   · exact Vf n l (j + 1) _ hl hf.tail hn.2 x hx
structure Jr (f : Nat -> ByteArray) (size seq : Nat) (S : List (Nat × List ByteArray)) : Prop where
 laid : uW f 0 size seq S
 sz : ∀ q, q < size -> (f q).size = 64
 zero : ∀ q, long S < q -> q < size -> bN (f q) 10 = 0
 mark : long S < size -> zAx (f (long S)) ((seq + S.length) % 18446744073709551616)
theorem Yt {f : Nat -> ByteArray} {p seq left : Nat} (h : cnt (f p) seq left = 0) : (txn f p seq left).length = 0 := by
 unfold txn;split
 · rw [gT]; exact h
 · rfl
section
variable {f g : Nat -> ByteArray} {size seq : Nat} {S : List (Nat × List ByteArray)}
theorem Jr.fit (h : Jr f size seq S) : long S <= size := h.laid.fit
theorem Jr.stands (h : Jr f size seq S) (hs : seq < 18446744073709551616) : yG f size seq = S := by
 have hf := h.fit;have hg := Qc S;refine uW.stands S (size + 1) 0 size seq h.laid hs (by omega) ?_;rw [Nat.zero_add];by_cases c : long S < size
 · exact Yt (zBu _ _ _ (h.mark c).no)
 · rw [show size - long S = 0 by omega, Zf]; rfl
theorem Jr.keep (h : Jr f size seq S) (h1 : ∀ q, q <= long S -> q < size -> g q = f q) (h2 : ∀ q, q < size -> (g q).size = 64) (h3 : ∀ q, long S < q -> q < size -> bN (g q) 10 = 0) : Jr g size seq S := by
 have hf := h.fit;refine ⟨uW.congr S _ _ _ h.laid fun q _ b => h1 q (by omega) (by omega), h2, h3, fun c => ?_⟩;rw [h1 _ (Nat.le_refl _) c];exact h.mark c
theorem Jr.torn (h : Jr f size seq S) (h1 : ∀ q, q < long S -> g q = f q) (h2 : ∀ q, q < size -> (g q).size = 64) (h3 : ∀ q, long S < q -> q < size -> bN (g q) 10 = 0) (h4 : long S < size -> zAx (g (long S)) ((seq + S.length) % 18446744073709551616)) : Jr g size seq S :=
 ⟨uW.congr S _ _ _ h.laid fun q _ b => h1 q (by omega), h2, h3, h4⟩
theorem Jr.more (h : Jr f size seq S) (hs : seq < 18446744073709551616) (ps : List ByteArray) (n1 : 1 <= ps.length) (n2 : ps.length <= 64) (n3 : 1 + 9 * ps.length <= size - long S) (hp : ∀ p ∈ ps, p.size = 512)
   (h1 : ∀ q, q < long S -> g q = f q) (hm : g (long S) = yN ((seq + S.length) % 18446744073709551616) ps.length)
   (hpg : ∀ k (hk : k < ps.length) i, i < 9 -> g (long S + 1 + 9 * k + i) = secB (ps[k]'hk) i)
   (h2 : ∀ q, q < size -> (g q).size = 64) (h3 : ∀ q, long S < q -> q < size -> bN (g q) 10 = 0) : Jr g size seq (S ++ [((seq + S.length) % 18446744073709551616, ps)]) := by
 have hf := h.fit;have hn : ∀ k (hk : k < ps.length), qH g (long S + 1 + 9 * k) = qI (ps[k]'hk) := fun k hk => by
   unfold qH qI;apply List.map_congr_left
   intro i hi;exact hpg k hk i (List.mem_range.1 hi)
 have hc : cnt (g (long S)) ((seq + S.length) % 18446744073709551616) (size - long S) = ps.length := by rw [hm]; exact zDc _ _ _ n1 n2 n3
 have ht : txn g (long S) ((seq + S.length) % 18446744073709551616) (size - long S) = ps := by
   rw [zBx, hc]
   · refine List.ext_getElem (gT _ _ _) fun k h1 h2 => ?_
     have e : (pgs g (long S + 1) ps.length)[k] = mX (qH g (long S + 1 + 9 * k)) := by simp [pgs]
     rw [e, hn k h2];exact Vd _ (hp _ (List.getElem_mem h2))
   · rw [hc];intro k hk;rw [hn k hk];exact Zm _ (hp _ (List.getElem_mem hk))
 have hl : long (S ++ [((seq + S.length) % 18446744073709551616, ps)]) = long S + (1 + 9 * ps.length) := jY _ _;refine ⟨uW.snoc _ (by show ps.length ≠ 0; omega) S 0 size seq (uW.congr S _ _ _ h.laid fun q _ b => h1 q (by omega)) hs rfl ?_, h2, fun q a b => h3 q (by omega) b, fun c => zAx.of (h2 _ c) (h3 _ (by omega) c)⟩;rw [Nat.zero_add];exact ht
theorem Jr.nil (h2 : ∀ q, q < size -> (f q).size = 64) (h3 : ∀ q, q < size -> bN (f q) 10 = 0) : Jr f size seq [] :=
 ⟨trivial, h2, fun q _ b => h3 q b, fun c => zAx.of (h2 _ c) (h3 _ c)⟩
end
end
section
theorem zI5 (n : Nat) (s : St) (i : Nat) (t : ByteArray) : ((xC n s (i : Int) t).1 ≠ 0 /\ (xC n s (i : Int) t).2.wr = s.wr /\ (xC n s (i : Int) t).2.sure = s.sure) \/ ((xC n s (i : Int) t).1 = 0 /\ (xC n s (i : Int) t).2.wr = s.wr ++ [(i, t)] /\ (xC n s (i : Int) t).2.sure = s.sure) := by
 obtain ⟨h1, h2⟩ := Qr s;unfold xC;split
 · exact .inl ⟨by show (11 : Int) ≠ 0; decide, rfl, rfl⟩
 · split
   · exact .inl ⟨by show (1 : Int) ≠ 0; decide, rfl, rfl⟩
   · split
     · refine .inr ⟨rfl, ?_, ?_⟩
       · simp [h1]
       · simp [h2]
     · exact .inl ⟨by show (11 : Int) ≠ 0; decide, h1, h2⟩
theorem zI7 (s : St) : ((xQ s).1 ≠ 0 /\ (xQ s).2.wr = s.wr /\ (xQ s).2.sure = s.sure) \/ ((xQ s).1 = 0 /\ (xQ s).2.wr = [] /\ (xQ s).2.sure = yI (fun _ => 64) s.wr 0 s.sure) := by
 obtain ⟨h1, h2⟩ := Qr s;unfold xQ;split
 · exact .inl ⟨by show (11 : Int) ≠ 0; decide, rfl, rfl⟩
 · split
   · exact .inr ⟨rfl, rfl, rfl⟩
   · exact .inl ⟨by show (11 : Int) ≠ 0; decide, h1, h2⟩
theorem Yq (N : Nat) : ∀ (W : List (Nat × ByteArray)) (s : St), ∃ k, k <= W.length /\ (zP N (W.map some) (0, s)).2.wr = s.wr ++ W.take k /\ (zP N (W.map some) (0, s)).2.sure = s.sure /\ ((zP N (W.map some) (0, s)).1 = 0 -> k = W.length)
 | [], s => ⟨0, Nat.le_refl _, by simp [zP], rfl, fun _ => rfl⟩
 | x :: W, s => by
   obtain ⟨i, t⟩ := x;have e : zP N (((i, t) :: W).map some) (0, s) = zP N (W.map some) (xC N s (i : Int) t) := by
     show zP N (W.map some) (xA N (0, s) (some (i, t))) = _
     congr 1
   rw [e];have h := zI5 N s i t;generalize xC N s (i : Int) t = r at h ⊢
   obtain ⟨e1, s1⟩ := r;simp only at h;rcases h with ⟨h0, h1, h2⟩ | ⟨h0, h1, h2⟩
   · rw [xX N _ _ h0];exact ⟨0, Nat.zero_le _, by simp [h1], h2, fun h => absurd h h0⟩
   · subst h0;obtain ⟨k, a, b, c, d⟩ := Yq N W s1;refine ⟨k + 1, by simp; omega, ?_, c.trans h2, fun h => by rw [d h]; rfl⟩;rw [b, h1];simp
def pgW (base k : Nat) (p : ByteArray) : List (Nat × ByteArray) := (List.range 9).map fun i => (base + (1 + 9 * k + i), secB p i)
def wl (base : Nat) (ps : List ByteArray) (n : Nat) : List (Nat × ByteArray) := (List.range n).flatMap fun j => pgW base j (ps.getD j ⟨#[]⟩)
theorem zGm (base : Nat) (ps : List ByteArray) (n : Nat) : wl base ps (n + 1) = wl base ps n ++ pgW base n (ps.getD n ⟨#[]⟩) := by simp [wl, List.range_succ]
theorem zL1 (base k : Nat) (p : ByteArray) : uB base k p 9 = (pgW base k p).map some := by unfold uB pgW; rw [List.map_map]; rfl
theorem zJ1 (base : Nat) (ps : List ByteArray) : ∀ n, uH base ps n = (wl base ps n).map some
 | 0 => rfl
 | n + 1 => by
   have e : uH base ps (n + 1) = uH base ps n ++ uB base n (ps.getD n ⟨#[]⟩) 9 := by simp [uH, List.range_succ]
   rw [e, zGm, List.map_append, zJ1 base ps n, zL1]
theorem Zo (base : Nat) (ps : List ByteArray) : ∀ n, (wl base ps n).map (·.1) = List.range' (base + 1) (9 * n)
 | 0 => rfl
 | n + 1 => by
   have e : (pgW base n (ps.getD n ⟨#[]⟩)).map (·.1) = List.range' (base + 1 + 9 * n) 9 := by
     unfold pgW;rw [List.map_map, List.range'_eq_map_range];apply List.map_congr_left
     intro i _;show base + (1 + 9 * n + i) = base + 1 + 9 * n + i
     omega
   rw [zGm, List.map_append, Zo base ps n, e, List.range'_append_1];congr 1
theorem zJo {base : Nat} {ps : List ByteArray} {n : Nat} {x : Nat × ByteArray} (hx : x ∈ wl base ps n) : ∃ k i, k < n /\ i < 9 /\ x = (base + (1 + 9 * k + i), secB (ps.getD k ⟨#[]⟩) i) := by
 obtain ⟨k, hk, hx⟩ := List.mem_flatMap.1 hx;obtain ⟨i, hi, rfl⟩ := List.mem_map.1 hx;exact ⟨k, i, List.mem_range.1 hk, List.mem_range.1 hi, rfl⟩
theorem zOf {base : Nat} {ps : List ByteArray} {n k i : Nat} (hk : k < n) (hi : i < 9) : (base + (1 + 9 * k + i), secB (ps.getD k ⟨#[]⟩) i) ∈ wl base ps n :=
 List.mem_flatMap.2 ⟨k, List.mem_range.2 hk, List.mem_map.2 ⟨i, List.mem_range.2 hi, rfl⟩⟩
section
variable {N at_ size seq : Nat} {S : List (Nat × List ByteArray)} {L : List UInt8} {ps : List ByteArray}
theorem zLc (hsz : ∀ p ∈ ps, p.size = 512) {base : Nat} (hb : base + (1 + 9 * ps.length) <= N) : Up N (wl base ps ps.length) := fun x hx => by
 obtain ⟨k, i, hk, hi, rfl⟩ := zJo hx;have hp : (ps.getD k ⟨#[]⟩).size = 512 := by
   rw [List.getD_eq_getElem?_getD, List.getElem?_eq_getElem hk];exact hsz _ (List.getElem_mem hk)
 exact ⟨by show base + (1 + 9 * k + i) < N; omega, secB_size _ (by omega) i hi⟩
end
end
end Go.Proofs.YthijgebmoadgkaaGreatDoor
