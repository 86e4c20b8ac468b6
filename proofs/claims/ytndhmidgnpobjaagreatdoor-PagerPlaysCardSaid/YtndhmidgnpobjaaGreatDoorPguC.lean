import Derived.Test.YtndhmidgnpobjaaGreatDoorPgrF
import Derived.Test.YtndhmidgnpobjaaGreatDoorTxns
import Derived.Test.YtndhmidgnpobjaaGreatDoorSwap
import Derived.Test.YtndhmidgnpobjaaGreatDoorDisE
import Derived.Test.YtndhmidgnpobjaaGreatDoorPguB
set_option linter.unusedVariables false
set_option linter.unusedSimpArgs false
namespace Go.Proofs.YtndhmidgnpobjaaGreatDoor
open Go.ChangeShapes Go.WideShapes Go.ChangeAt Go.RowKit
section
def Jc (N : Nat) : Dop -> Prop
 | some (i, t) => i < N /\ t.size = 64
 | none => True
theorem zMd (s : St) (h : s.down = false) : (vH s).1 = !(vH s).2.down /\ (s.fuse < 0 -> (vH s).1 = true /\ (vH s).2 = s) := by
 unfold vH;split
 · rename_i h0
   exact ⟨rfl, fun h => by omega⟩
 · split
   · exact ⟨rfl, fun h => by omega⟩
   · exact ⟨rfl, fun _ => ⟨by rw [h]; rfl, rfl⟩⟩
theorem zL9 (N : Nat) (s : St) (o : Dop) (h : s.down = false) (hf : Jc N o) :
   (((uX N s o).1 = 0 /\ (uX N s o).2.down = false) \/ ((uX N s o).1 = 11 /\ (uX N s o).2.down = true)) /\ (s.fuse < 0 -> (uX N s o).1 = 0 /\ (uX N s o).2.fuse = s.fuse) := by
 obtain ⟨hb1, hb2⟩ := zMd s h;cases o with
 | none =>
   show (((vB s).1 = 0 /\ (vB s).2.down = false) \/ ((vB s).1 = 11 /\ (vB s).2.down = true)) /\ (s.fuse < 0 -> (vB s).1 = 0 /\ (vB s).2.fuse = s.fuse)
   unfold vB;rw [if_neg (by rw [h]; simp)];cases hb : (vH s).1 with
   | true =>
     rw [hb] at hb1;rw [if_pos rfl];exact ⟨.inl ⟨rfl, by simpa using hb1.symm⟩, fun hf => ⟨rfl, by show (vH s).2.fuse = s.fuse; rw [(hb2 hf).2]⟩⟩
   | false =>
     rw [hb] at hb1;rw [if_neg (by simp)];exact ⟨.inr ⟨rfl, by simpa using hb1.symm⟩, fun hf => by have := (hb2 hf).1; rw [hb] at this; cases this⟩
 | some x =>
   obtain ⟨i, t⟩ := x;obtain ⟨f1, f2⟩ : i < N /\ t.size = 64 := hf;show (((xE N s (i : Int) t).1 = 0 /\ (xE N s (i : Int) t).2.down = false) \/ ((xE N s (i : Int) t).1 = 11 /\ (xE N s (i : Int) t).2.down = true)) /\ (s.fuse < 0 -> (xE N s (i : Int) t).1 = 0 /\ (xE N s (i : Int) t).2.fuse = s.fuse)
   unfold xE;rw [if_neg (by rw [h]; simp), if_neg (by omega)];cases hb : (vH s).1 with
   | true =>
     rw [hb] at hb1;rw [if_pos rfl];exact ⟨.inl ⟨rfl, by simpa using hb1.symm⟩, fun hf => ⟨rfl, by show (vH s).2.fuse = s.fuse; rw [(hb2 hf).2]⟩⟩
   | false =>
     rw [hb] at hb1;rw [if_neg (by simp)];exact ⟨.inr ⟨rfl, by simpa using hb1.symm⟩, fun hf => by have := (hb2 hf).1; rw [hb] at this; cases this⟩
theorem uB (N : Nat) : ∀ (ops : List Dop) (x : Int × St), x.1 ≠ 0 -> zV N ops x = x
 | [], x, _ => rfl
 | o :: ops, x, h => by
   show zV N ops (xI N x o) = x
   have e : xI N x o = x := by unfold xI; rw [if_neg h]
   rw [e];exact uB N ops x h
theorem mM (N : Nat) : ∀ (ops : List Dop) (s : St), s.down = false -> (∀ o ∈ ops, Jc N o) ->
   (((zV N ops (0, s)).1 = 0 /\ (zV N ops (0, s)).2.down = false) \/ ((zV N ops (0, s)).1 = 11 /\ (zV N ops (0, s)).2.down = true)) /\ (s.fuse < 0 -> (zV N ops (0, s)).1 = 0 /\ (zV N ops (0, s)).2.fuse = s.fuse)
 | [], s, h, _ => ⟨.inl ⟨rfl, h⟩, fun _ => ⟨rfl, rfl⟩⟩
 | o :: ops, s, h, hf => by
   have h1 := zL9 N s o h (hf o (by simp));have e : zV N (o :: ops) (0, s) = zV N ops (uX N s o) := by
     show zV N ops (xI N (0, s) o) = _
     congr 1
   rw [e];generalize uX N s o = r at h1 ⊢
   obtain ⟨e1, s1⟩ := r;rcases h1.1 with h2 | h2
   · obtain ⟨h2, h3⟩ := h2;simp only at h2 h3;subst h2;have ih := mM N ops s1 h3 fun o ho => hf o (by simp [ho])
     refine ⟨ih.1, fun hf => ?_⟩;have h4 := (h1.2 hf).2;simp only at h4;have h5 := ih.2 (by omega);exact ⟨h5.1, h5.2.trans h4⟩
   · obtain ⟨h2, h3⟩ := h2;simp only at h2 h3;rw [uB N ops _ (by show e1 ≠ 0; rw [h2]; decide)];refine ⟨.inr ⟨h2, h3⟩, fun hf => ?_⟩;have := (h1.2 hf).1;simp only at this;omega
theorem Xy (N base : Nat) (ps : List ByteArray) (seq : Nat) (hsz : ∀ p ∈ ps, p.size = 512) (hb : base + (1 + 9 * ps.length) <= N) : ∀ o ∈ yP base ps seq, Jc N o := by
 intro o ho;unfold yP at ho;rcases List.mem_append.1 ho with ho | ho
 · obtain ⟨k, hk, ho⟩ := List.mem_flatMap.1 ho;have hk := List.mem_range.1 hk;obtain ⟨i, hi, rfl⟩ := List.mem_map.1 ho;have hi := List.mem_range.1 hi;have hp : (ps.getD k ⟨#[]⟩).size = 512 := by
     rw [List.getD_eq_getElem?_getD, List.getElem?_eq_getElem hk];exact hsz _ (List.getElem_mem hk)
   exact ⟨by omega, secB_size _ (by omega) i hi⟩
 · simp at ho;rcases ho with rfl | rfl | rfl
   · trivial
   · exact ⟨by omega, jL _ _⟩
   · trivial
theorem Xx (N : Nat) (ops : List Dop) (s : St) (h : (zV N (ops ++ [none]) (0, s)).1 = 0) : (zV N (ops ++ [none]) (0, s)).2.wr = [] := by
 rw [mK] at h ⊢;generalize zV N ops (0, s) = r at h ⊢
 obtain ⟨e1, s1⟩ := r;unfold xI at h ⊢;simp only at h ⊢;split at h
 · rename_i h0
   rw [if_pos h0];change (vB s1).1 = 0 at h;show (vB s1).2.wr = []
   unfold vB at h ⊢;split at h
   · cases h
   · rename_i h1
     rw [if_neg h1];split at h
     · rename_i h2; rw [if_pos h2]
     · cases h
 · rename_i h0
   exact absurd h h0
end
section
structure fN (w : World) (S : Nat -> Prop) (v : Value) (l : List ByteArray) : Prop where
 row : w.ownsRow 0 9 1 v l.length (l.map .string)
 at_ : ∀ g, v.ownBlock = some g -> S g
 small : ∀ s ∈ l, s.size <= maxLen
theorem fN.nil (w : World) (S : Nat -> Prop) : fN w S (.slice none 0 0) [] := ⟨World.ownsRow_nil _ _ _ _, (by intro g hg; cases hg), (by simp)⟩
theorem fN.keep {w w' : World} {S U : Nat -> Prop} {v : Value} {l : List ByteArray} (h : fN w S v l) (hc : Chg U w w') (k : ∀ b, b < w.heap.size -> S b -> ¬ U b) : fN w' S v l :=
 ⟨zEc h.row fun g hg => hc.block g (h.row.lt g hg).2 (k g (h.row.lt g hg).2 (h.at_ g hg)), h.at_, h.small⟩
theorem fN.below {w w' : World} {S : Nat -> Prop} {v : Value} {l : List ByteArray} (h : fN w S v l) (hb : Below w.heap.size w w') : fN w' S v l := h.keep (Chg.of (S := fun _ => False) hb) fun _ _ _ => id
theorem one_cell (W : World) (T : TypeId) (x : Value) (j : Nat) {u : Value} (hu : [x][j]? = some u) : (W.alloc (.cells #[x] T)).cell? ((⟨W.heap.size, 0, none⟩ : Addr).add j) = some u := by
 have e : (⟨W.heap.size, 0, none⟩ : Addr).add j = ⟨W.heap.size, j, none⟩ := by unfold Addr.add; split <;> simp_all
 rw [e];have := (Own.made W T #[x]).at_.1 j;exact this.trans (by simpa using hu)
end
section
def gp (a b j : Nat) : Nat := (a + b * (j % 256)) % 256
def pl (a b k : Nat) : List UInt8 := (List.range 512).map fun j => if j < k then UInt8.ofNat (gp a b j) else 0
def Pg (a b : Nat) : ByteArray := zAz (pl a b 512)
end
section
structure Ses (w0 W : World) (lg d sb mb sc : Nat) (wv : Value) (N : Nat) (s : St) (l : yM) : Prop where
 disk : zI W d sb mb sc wv N s
 log : yD W lg d l
 ok : l.Ok
 fit : l.from_ + l.size <= N
 new : ∀ q, fp d sb mb wv q -> w0.heap.size <= q
 lnew : w0.heap.size <= lg
 ap : ¬ fp d sb mb wv lg
 below : Below w0.heap.size w0 W
 few : s.wr.length <= 1000
 clean : l.failed = false -> s.wr = []
theorem Ses.next {w0 W W' : World} {lg d sb mb sc : Nat} {wv : Value} {N : Nat} {s : St} {l : yM} (h : Ses w0 W lg d sb mb sc wv N s l) (hb : Below W.heap.size W W') : Ses w0 W' lg d sb mb sc wv N s l :=
 ⟨h.disk.below hb, Own.keep h.log hb, h.ok, h.fit, h.new, h.lnew, h.ap, then_ h.below hb h.below.size, h.few, h.clean⟩
theorem zNh (x : ByteArray) (seq left : Nat) (h : bN x 10 ≠ 1) : cnt x seq left = 0 := zE4 x seq left fun n _ _ e => h (by rw [e]; exact Zn seq n)
theorem zCw (f : Nat -> ByteArray) (size seq : Nat) (h : bN (f 0) 10 ≠ 1) : yJ f size seq = [] := by
 unfold yJ;refine fL f _ 0 size seq ?_;unfold txn;rw [zNh _ _ _ h];split <;> rfl
def fresh (N : Nat) : St := ⟨List.replicate (N * 64) 0, [], -1, false⟩
theorem Ses.open_ {w0 W1 W2 : World} {d sb mb sc N fr sz seq lg : Nat} {wv : Value} {s : St} {ts : List (Nat × List ByteArray)} (hD : zI W1 d sb mb sc wv N s) (hw : s.wr = []) (hnew : ∀ q, fp d sb mb wv q -> w0.heap.size <= q) (hB : Below w0.heap.size w0 W1) (hfit : fr + sz <= N)
   (hlg : W1.heap.size <= lg) (hL : yD W2 lg d ⟨fr, sz, long ts, (seq + ts.length) % 18446744073709551616, false⟩) (hlong : long ts <= sz) (hb : Below W1.heap.size W1 W2) : Ses w0 W2 lg d sb mb sc wv N s ⟨fr, sz, long ts, (seq + ts.length) % 18446744073709551616, false⟩ := by
 have hN := hD.ok.max;have h1 := hB.size;refine ⟨hD.below hb, hL, ⟨by show fr + sz <= 65536; omega, hlong, by show (seq + ts.length) % 18446744073709551616 <= _; omega⟩, hfit, hnew, by omega, fun h => by have := hD.in_ h; omega, then_ hB hb h1, by rw [hw]; simp, fun _ => hw⟩
end
section
theorem zC7 (s : ByteArray) (k : Nat) (h : k < s.size) : s.extract k (k + 1) = ⟨#[UInt8.ofNat (bN s k)]⟩ := by
 have z1 : (s.extract k (k + 1)).size = 1 := by rw [ByteArray.size_extract]; omega
 refine qE _ _ z1 fun i hi => ?_
 have : i = 0 := by omega
 subst this;have hlt := zCp s k;rw [yT s k (k + 1) 0 (by omega) (by omega), zEv, if_pos rfl, UInt8.toNat_ofNat', Nat.mod_eq_of_lt (by omega), Nat.add_zero]
def dn (k : Nat) : Nat := k - (k + 53) / 64
end
section
end
section
theorem zE8 {f g : Nat -> ByteArray} {p : Nat} (h : ∀ q, p <= q -> q < p + 9 -> f q = g q) : gJ f p = gJ g p := by
 unfold gJ;apply List.map_congr_left
 intro i hi;have := List.mem_range.1 hi;exact h _ (by omega) (by omega)
end
section
theorem zIx {N : Nat} {s : St} (hok : s.Ok N) {at_ q : Nat} (hat : at_ < N) : ∀ o ∈ yN s at_ q, Jc N o := by
 intro o ho;unfold yN at ho;split at ho
 · rename_i h
   simp only [List.mem_cons, List.not_mem_nil, or_false] at ho;rcases ho with rfl | rfl
   · exact ⟨hat, by rw [fU (zF9 h)]; exact mO hok at_ hat⟩
   · trivial
 · simp at ho
def vV (N : Nat) (s : St) (at_ q k en : Nat) : Int × St :=
 if (zV N (yN s at_ q) (0, s)).1 = 0 /\ at_ + k < en then zV N (yN (zV N (yN s at_ q) (0, s)).2 (at_ + k) ((q + 1) % 18446744073709551616)) (0, (zV N (yN s at_ q) (0, s)).2) else zV N (yN s at_ q) (0, s)
theorem gG {N : Nat} {s : St} {at_ q k en : Nat} {x : Int × St} (hx : x = zV N (yN s at_ q) (0, s)) : vV N s at_ q k en = if x.1 = 0 /\ at_ + k < en then zV N (yN x.2 (at_ + k) ((q + 1) % 18446744073709551616)) (0, x.2) else x := by subst hx; rfl
section
variable {w : World} {p : Nat} {x0 x1 x2 x3 x4 x5 x6 x7 : Value}
set_option maxRecDepth 10000 in
theorem zIy (hO : Own w p 131 #[x0, x1, x2, x3, x4, x5, x6, x7]) : Calls Tryz.prog 86 #[.pointer (some ⟨p, 0, none⟩), .int .i64 11] w fun en w' => en = .returned (.int .i64 11) /\ Own w' p 131 #[x0, x1, x2, x3, x4, x5, x6, .bool true] /\ Chg (· = p) w w' /\ w'.heap.size = w.heap.size := by
 have P7 := Lh ((hO.put 7 (.bool true)).as (cs' := #[x0, x1, x2, x3, x4, x5, x6, .bool true]) rfl);have C7 := Lh (xF w p 7 (.bool true));obtain ⟨q1, q2, q3⟩ := hO.at_;clear hO;go_enter Tryz.func86, Tryz.ntmps86;go_wp2;go_ret;exact ⟨rfl, P7.out, C7.out, by simp [World.setCell]⟩
theorem zH3 (p : Nat) (e : Int) (he : e ≠ 11) (w : World) : Calls Tryz.prog 86 #[.pointer (some ⟨p, 0, none⟩), .int .i64 e] w fun en w' => en = .returned (.int .i64 e) /\ w = w' := by
 have t1 : (e == 11) = false := by simpa using he
 clear he;go_enter Tryz.func86, Tryz.ntmps86;go_wp2;go_ret;exact ⟨rfl, rfl⟩
theorem zCi (a : Option Addr) (n c : Nat) (w : World) (hn : n <= 1000000) : Calls Tryz.prog 150 #[.slice a n c] w fun e w' => e = .returned (.int .i64 ((1 + 9 * n : Nat) : Int)) /\ w = w' := by
 have w1 : IntKind.i64.wrap ((n : Int) * 9) = (n : Int) * 9 := by rw [IntKind.wrap_i64]; omega
 have w2 : IntKind.i64.wrap (1 + (n : Int) * 9) = ((1 + 9 * n : Nat) : Int) := by rw [IntKind.wrap_i64]; omega
 go_enter Tryz.func150, Tryz.ntmps150;go_wp2;go_ret;exact ⟨rfl, rfl⟩
end
section
variable {w : World} {p lg d sb mb sc : Nat} {wv : Value} {N ll : Nat} {s : St} {l : yM} {x2 x4 x5 x6 x7 : Value}
theorem Yp {x3 : Value} (hD : zI w d sb mb sc wv N s) (hd : s.down = false) (hO : Own w p 131 #[.pointer (some ⟨d, 0, none⟩), .int .i64 (ll : Int), x2, x3, x4, x5, x6, x7]) (at_ q : Nat) (hat : at_ < N) (hq : q <= 18446744073709551615) (hfew : s.wr.length <= 300000) :
   Calls Tryz.prog 242 #[.pointer (some ⟨p, 0, none⟩), .int .i64 (at_ : Int), .int .u64 (q : Int)] w fun e w' => e = .returned (.int .i64 (zV N (yN s at_ q) (0, s)).1) /\ Wrt w w' d sb mb sc wv N (zV N (yN s at_ q) (0, s)).2 := by
 cases hE : uA (vw s at_) q with
 | false =>
   have e : yN s at_ q = [] := by unfold yN; rw [hE]; rfl
   rw [e];refine (zH2 hD hd hO at_ q hat hq hE).mono ?_;rintro e w' ⟨rfl, hb⟩;exact ⟨rfl, (Wrt.same hD).below hb⟩
 | true =>
   have e : yN s at_ q = [some (at_, umB (vw s at_) q), none] := by unfold yN; rw [hE]; rfl
   rw [e];exact zEj hD hd hO at_ q hat hq hE hfew
set_option maxRecDepth 10000 in
set_option maxHeartbeats 2000000 in
theorem zCy (hD : zI w d sb mb sc wv N s) (hd : s.down = false) (hL : yD w lg d l) (hk : l.Ok) (hf : l.failed = false) (hsz : l.size = ll) (hO : Own w p 131 #[.pointer (some ⟨d, 0, none⟩), .int .i64 (ll : Int), x2, .pointer (some ⟨lg, 0, none⟩), x4, x5, x6, x7]) (hfit : 2 + ll <= N) (k : Nat) (hk1 : 1 <= k) (hkl : k <= l.left) (hfew : s.wr.length <= 200000) :
   Calls Tryz.prog 201 #[.pointer (some ⟨p, 0, none⟩), .int .i64 (k : Int)] w fun e w' => e = .returned (.int .i64 (vV N s (2 + l.used) l.next k (2 + ll)).1) /\ Wrt w w' d sb mb sc wv N (vV N s (2 + l.used) l.next k (2 + ll)).2 := by
 have hN := hD.ok.max;have hu := hk.used;have hn := hk.next;have hl : l.left = ll - l.used := by unfold yM.left; rw [hf, hsz]; simp
 have HLE := Lh (fun W (hb : Below w.heap.size w W) => fP (show yD W lg d l from Own.keep hL hb) hk);rw [hl] at HLE;have HNX := Lh (fun W (hb : Below w.heap.size w W) => Yh (show yD W lg d l from Own.keep hL hb));have HU := Lh (fun W (hb : Below w.heap.size w W) => Yp (hD.below hb) hd (hO.keep hb) (2 + l.used) l.next (by omega) hn (by omega));have hup := (mM N (yN s (2 + l.used) l.next) s hd (zIx hD.ok (by omega))).1;have hlen := Nat.le_trans (uD N (yN s (2 + l.used) l.next) (0, s)) (Nat.add_le_add_left (Uq s (2 + l.used) l.next) _);have nl := hD.no_own (show Own w lg 207 (l.cells d) from hL) (by decide) (by decide) (by simp [yM.cells]);have np := hD.no_own hO (by decide) (by decide) (by simp);obtain ⟨x, hx⟩ : ∃ x, x = zV N (yN s (2 + l.used) l.next) (0, s) := ⟨_, rfl⟩
 have HPW := Lh (gG (k := k) (en := 2 + ll) hx);rw [<- hx] at HU hup hlen;have hU2 := fun W (hWr : Wrt w W d sb mb sc wv N x.2) (hx0 : x.1 = 0) (hlt : 2 + l.used + k < 2 + ll) => (show Calls Tryz.prog 242 #[.pointer (some ⟨p, 0, none⟩), .int .i64 ((2 + l.used + k : Nat) : Int), .int .u64 (((l.next + 1) % 18446744073709551616 : Nat) : Int)] W fun e w' => e = .returned (.int .i64 (zV N (yN x.2 (2 + l.used + k) ((l.next + 1) % 18446744073709551616)) (0, x.2)).1) /\ Wrt w w' d sb mb sc wv N (zV N (yN x.2 (2 + l.used + k) ((l.next + 1) % 18446744073709551616)) (0, x.2)).2 from by
   obtain ⟨wv', h1, h2, h3⟩ := hWr;have hdn : x.2.down = false := by
     rcases hup with h | h
     · exact h.2
     · omega
   refine (Yp h1 hdn (h2.own hO np) (2 + l.used + k) ((l.next + 1) % 18446744073709551616) (by omega) (by omega) (by simp only at hlen; omega)).mono ?_;rintro e w' ⟨rfl, h⟩;exact ⟨rfl, Wrt.then_ h2 h3 h⟩)
 have HKEEP := Lh (fun W (hWr : Wrt w W d sb mb sc wv N x.2) => (show yD W lg d l /\ Own W p 131 #[.pointer (some ⟨d, 0, none⟩), .int .i64 (ll : Int), x2, .pointer (some ⟨lg, 0, none⟩), x4, x5, x6, x7] from by
   obtain ⟨wv', h1, h2, h3⟩ := hWr;exact ⟨h2.own (show Own w lg 207 (l.cells d) from hL) nl, h2.own hO np⟩))
 have HNX2 := Lh (fun W (h : yD W lg d l) => Yh h);have HO := Lh hO;have us : l.used + k <= ll := by omega
 obtain ⟨U, hU⟩ : ∃ U, U = l.used := ⟨_, rfl⟩
 obtain ⟨Q, hQ⟩ : ∃ Q, Q = l.next := ⟨_, rfl⟩
 rw [<- hU] at HLE HU HPW us hu hU2 ⊢;rw [<- hQ] at HNX HU HPW hn HNX2 hU2 ⊢;have W1 : IntKind.i64.wrap (2 + (ll : Int)) = 2 + (ll : Int) := by rw [IntKind.wrap_i64]; omega
 have W2 : IntKind.i64.wrap (2 + (ll : Int) - ((ll - U : Nat) : Int)) = ((2 + U : Nat) : Int) := by rw [IntKind.wrap_i64]; omega
 have W3 : IntKind.i64.wrap (((2 + U : Nat) : Int) + (k : Int)) = ((2 + U + k : Nat) : Int) := by rw [IntKind.wrap_i64]; omega
 have W4 : IntKind.u64.wrap ((Q : Int) + 1) = (((Q + 1) % 18446744073709551616 : Nat) : Int) := by rw [IntKind.wrap_u64]; omega
 have t0 : 2 + U + k < 2 + ll -> decide (((2 + U + k : Nat) : Int) < 2 + (ll : Int)) = true := fun h => by simp; omega
 have t9 : ¬ 2 + U + k < 2 + ll -> decide (((2 + U + k : Nat) : Int) < 2 + (ll : Int)) = false := fun h => by simp; omega
 obtain ⟨A, hA⟩ : ∃ A, A = 2 + U := ⟨_, rfl⟩
 rw [<- hA] at HU HPW hU2 W2 W3 t0 t9 ⊢;obtain ⟨C, hC⟩ : ∃ C, C = A + k := ⟨_, rfl⟩
 rw [<- hC] at HPW hU2 W3 t0 t9;obtain ⟨Q1, hQ1⟩ : ∃ Q1, Q1 = (Q + 1) % 18446744073709551616 := ⟨_, rfl⟩
 rw [<- hQ1] at HPW hU2 W4;obtain ⟨r, hr⟩ : ∃ r, r = vV N s A Q k (2 + ll) := ⟨_, rfl⟩
 rw [<- hr] at HPW ⊢;clear hA hC hQ1 hU hQ hx hr hD hL hk hsz hO hl hf hd hlen hup hu nl np;obtain ⟨e1, s1⟩ := x;simp only at HPW HU hU2 HKEEP;replace hU2 := Lh hU2;have T0 := Lh t0;have T9 := Lh t9;clear t0 t9;obtain ⟨q1, q2, q3⟩ := HO.out.at_;by_cases c : e1 = 0 /\ C < 2 + ll
 · obtain ⟨rfl, hlt⟩ := c;have E := HPW.out;rw [if_pos ⟨rfl, hlt⟩] at E;have HU3 := Lh (fun W h => hU2.out W h rfl hlt);have t1 := T0.out hlt;rw [E];obtain ⟨r2, hr2⟩ : ∃ r2, r2 = zV N (yN s1 C Q1) (0, s1) := ⟨_, rfl⟩
   rw [<- hr2] at HU3 ⊢;clear hr2 E HPW hU2 hlt;go_enter Tryz.func201, Tryz.ntmps201;go_wp2_with (first
     | (go_at_call 188; refine (HLE.out _ (Below.refl _ _)).mono ?_; rintro e w5 ⟨rfl, q5, rfl⟩)
     | (go_at_call 153; refine (HNX.out _ (zJ (Below.refl _ _) q5)).mono ?_; rintro e w6 ⟨rfl, rfl⟩)
     | (go_at_call 242; with_reducible refine (HU.out _ (zJ (Below.refl _ _) q5)).mono ?_; rintro e w7 ⟨rfl, hw7⟩; have R7 := Lh (Wrt.from_ hw7 (zJ (Below.refl _ _) q5)); clear hw7; obtain ⟨k1, k2⟩ := HKEEP.out _ R7.out; have L7 := Lh k1; obtain ⟨q1, q2, q3⟩ := k2.at_; clear k1 k2)
     | (go_at_call 153; refine (HNX2.out _ L7.out).mono ?_; rintro e w8 ⟨rfl, rfl⟩)
     | (go_at_call 242; with_reducible refine (HU3.out _ R7.out).mono ?_; rintro e w9 ⟨rfl, hw9⟩; have R9 := Lh hw9; clear hw9))
   go_ret;exact ⟨rfl, R9.out⟩
 · have E := HPW.out;rw [if_neg c] at E;rw [E];have t1 : e1 ≠ 0 \/ e1 = 0 /\ decide ((C : Int) < 2 + (ll : Int)) = false := by
     by_cases c1 : e1 = 0
     · exact .inr ⟨c1, T9.out fun h => c ⟨c1, h⟩⟩
     · exact .inl c1
   clear c E HPW hU2;rcases t1 with t1 | ⟨rfl, t1⟩
   · have t2 : (e1 == 0) = false := by simpa using t1
     clear t1;go_enter Tryz.func201, Tryz.ntmps201;go_wp2_with (first
       | (go_at_call 188; refine (HLE.out _ (Below.refl _ _)).mono ?_; rintro e w5 ⟨rfl, q5, rfl⟩)
       | (go_at_call 153; refine (HNX.out _ (zJ (Below.refl _ _) q5)).mono ?_; rintro e w6 ⟨rfl, rfl⟩)
       | (go_at_call 242; with_reducible refine (HU.out _ (zJ (Below.refl _ _) q5)).mono ?_; rintro e w7 ⟨rfl, hw7⟩; have R7 := Lh (Wrt.from_ hw7 (zJ (Below.refl _ _) q5)); clear hw7))
     go_ret;exact ⟨rfl, R7.out⟩
   · go_enter Tryz.func201, Tryz.ntmps201;go_wp2_with (first
       | (go_at_call 188; refine (HLE.out _ (Below.refl _ _)).mono ?_; rintro e w5 ⟨rfl, q5, rfl⟩)
       | (go_at_call 153; refine (HNX.out _ (zJ (Below.refl _ _) q5)).mono ?_; rintro e w6 ⟨rfl, rfl⟩)
       | (go_at_call 242; with_reducible refine (HU.out _ (zJ (Below.refl _ _) q5)).mono ?_; rintro e w7 ⟨rfl, hw7⟩; have R7 := Lh (Wrt.from_ hw7 (zJ (Below.refl _ _) q5)); clear hw7))
     go_ret;exact ⟨rfl, R7.out⟩
end
end
end Go.Proofs.YtndhmidgnpobjaaGreatDoor
