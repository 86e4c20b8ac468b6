import Derived.Test.YthijgebmoadgkaaGreatDoorPgrF
import Derived.Test.YthijgebmoadgkaaGreatDoorPguB
set_option linter.unusedVariables false
set_option linter.unusedSimpArgs false
namespace Go.Proofs.YthijgebmoadgkaaGreatDoor
open Go.ChangeShapes Go.WideShapes Go.ChangeAt Go.RowKit
section
def mZ (N : Nat) : Dop -> Prop
 | some (i, t) => i < N /\ t.size = 64
 | none => True
theorem zLs (s : St) (h : s.down = false) : (vC s).1 = !(vC s).2.down /\ (s.fuse < 0 -> (vC s).1 = true /\ (vC s).2 = s) := by
 unfold vC;split
 · rename_i h0
   exact ⟨rfl, fun h => by omega⟩
 · split
   · exact ⟨rfl, fun h => by omega⟩
   · exact ⟨rfl, fun _ => ⟨by rw [h]; rfl, rfl⟩⟩
theorem zH9 (N : Nat) (s : St) (o : Dop) (h : s.down = true) : uA N s o = (11, s) := by
 cases o with
 | none => show xQ s = _; unfold xQ; rw [if_pos h]
 | some x => obtain ⟨i, t⟩ := x; show xC N s (i : Int) t = _; unfold xC; rw [if_pos h]
theorem zMv (N : Nat) (s : St) (o : Dop) (h : s.down = false) (hf : mZ N o) :
   (((uA N s o).1 = 0 /\ (uA N s o).2.down = false) \/ ((uA N s o).1 = 11 /\ (uA N s o).2.down = true)) /\ (s.fuse < 0 -> (uA N s o).1 = 0 /\ (uA N s o).2.fuse = s.fuse) := by
 obtain ⟨hb1, hb2⟩ := zLs s h;cases o with
 | none =>
   show (((xQ s).1 = 0 /\ (xQ s).2.down = false) \/ ((xQ s).1 = 11 /\ (xQ s).2.down = true)) /\ (s.fuse < 0 -> (xQ s).1 = 0 /\ (xQ s).2.fuse = s.fuse)
   unfold xQ;rw [if_neg (by rw [h]; simp)];cases hb : (vC s).1 with
   | true =>
     rw [hb] at hb1;rw [if_pos rfl];exact ⟨.inl ⟨rfl, by simpa using hb1.symm⟩, fun hf => ⟨rfl, by show (vC s).2.fuse = s.fuse; rw [(hb2 hf).2]⟩⟩
   | false =>
     rw [hb] at hb1;rw [if_neg (by simp)];exact ⟨.inr ⟨rfl, by simpa using hb1.symm⟩, fun hf => by have := (hb2 hf).1; rw [hb] at this; cases this⟩
 | some x =>
   obtain ⟨i, t⟩ := x;obtain ⟨f1, f2⟩ : i < N /\ t.size = 64 := hf;show (((xC N s (i : Int) t).1 = 0 /\ (xC N s (i : Int) t).2.down = false) \/ ((xC N s (i : Int) t).1 = 11 /\ (xC N s (i : Int) t).2.down = true)) /\ (s.fuse < 0 -> (xC N s (i : Int) t).1 = 0 /\ (xC N s (i : Int) t).2.fuse = s.fuse)
   unfold xC;rw [if_neg (by rw [h]; simp), if_neg (by omega)];cases hb : (vC s).1 with
   | true =>
     rw [hb] at hb1;rw [if_pos rfl];exact ⟨.inl ⟨rfl, by simpa using hb1.symm⟩, fun hf => ⟨rfl, by show (vC s).2.fuse = s.fuse; rw [(hb2 hf).2]⟩⟩
   | false =>
     rw [hb] at hb1;rw [if_neg (by simp)];exact ⟨.inr ⟨rfl, by simpa using hb1.symm⟩, fun hf => by have := (hb2 hf).1; rw [hb] at this; cases this⟩
theorem xX (N : Nat) : ∀ (ops : List Dop) (x : Int × St), x.1 ≠ 0 -> zP N ops x = x
 | [], x, _ => rfl
 | o :: ops, x, h => by
   show zP N ops (xA N x o) = x
   have e : xA N x o = x := by unfold xA; rw [if_neg h]
   rw [e];exact xX N ops x h
theorem zIf (N : Nat) (ops : List Dop) (s : St) (h : s.down = true) (hn : ops ≠ []) : zP N ops (0, s) = (11, s) := by
 cases ops with
 | nil => exact absurd rfl hn
 | cons o ops =>
   show zP N ops (xA N (0, s) o) = _
   have e : xA N (0, s) o = (11, s) := by unfold xA; rw [if_pos rfl]; exact zH9 N s o h
   rw [e];exact xX N ops _ (by show (11 : Int) ≠ 0; decide)
theorem gZ (N : Nat) : ∀ (ops : List Dop) (s : St), s.down = false -> (∀ o ∈ ops, mZ N o) ->
   (((zP N ops (0, s)).1 = 0 /\ (zP N ops (0, s)).2.down = false) \/ ((zP N ops (0, s)).1 = 11 /\ (zP N ops (0, s)).2.down = true)) /\ (s.fuse < 0 -> (zP N ops (0, s)).1 = 0 /\ (zP N ops (0, s)).2.fuse = s.fuse)
 | [], s, h, _ => ⟨.inl ⟨rfl, h⟩, fun _ => ⟨rfl, rfl⟩⟩
 | o :: ops, s, h, hf => by
   have h1 := zMv N s o h (hf o (by simp));have e : zP N (o :: ops) (0, s) = zP N ops (uA N s o) := by
     show zP N ops (xA N (0, s) o) = _
     congr 1
   rw [e];generalize uA N s o = r at h1 ⊢
   obtain ⟨e1, s1⟩ := r;rcases h1.1 with h2 | h2
   · obtain ⟨h2, h3⟩ := h2;simp only at h2 h3;subst h2;have ih := gZ N ops s1 h3 fun o ho => hf o (by simp [ho])
     refine ⟨ih.1, fun hf => ?_⟩;have h4 := (h1.2 hf).2;simp only at h4;have h5 := ih.2 (by omega);exact ⟨h5.1, h5.2.trans h4⟩
   · obtain ⟨h2, h3⟩ := h2;simp only at h2 h3;rw [xX N ops _ (by show e1 ≠ 0; rw [h2]; decide)];refine ⟨.inr ⟨h2, h3⟩, fun hf => ?_⟩;have := (h1.2 hf).1;simp only at this;omega
theorem Je (N base : Nat) (ps : List ByteArray) (seq : Nat) (hsz : ∀ p ∈ ps, p.size = 512) (hb : base + (1 + 9 * ps.length) <= N) : ∀ o ∈ yB base ps seq, mZ N o := by
 intro o ho;unfold yB at ho;rcases List.mem_append.1 ho with ho | ho
 · obtain ⟨k, hk, ho⟩ := List.mem_flatMap.1 ho;have hk := List.mem_range.1 hk;obtain ⟨i, hi, rfl⟩ := List.mem_map.1 ho;have hi := List.mem_range.1 hi;have hp : (ps.getD k ⟨#[]⟩).size = 512 := by
     rw [List.getD_eq_getElem?_getD, List.getElem?_eq_getElem hk];exact hsz _ (List.getElem_mem hk)
   exact ⟨by omega, secB_size _ (by omega) i hi⟩
 · simp at ho;rcases ho with rfl | rfl | rfl
   · trivial
   · exact ⟨by omega, uZ _ _⟩
   · trivial
theorem Jj (N : Nat) (ops : List Dop) (s : St) (h : (zP N (ops ++ [none]) (0, s)).1 = 0) : (zP N (ops ++ [none]) (0, s)).2.wr = [] := by
 rw [mP] at h ⊢;generalize zP N ops (0, s) = r at h ⊢
 obtain ⟨e1, s1⟩ := r;unfold xA at h ⊢;simp only at h ⊢;split at h
 · rename_i h0
   rw [if_pos h0];change (xQ s1).1 = 0 at h;show (xQ s1).2.wr = []
   unfold xQ at h ⊢;split at h
   · cases h
   · rename_i h1
     rw [if_neg h1];split at h
     · rename_i h2; rw [if_pos h2]
     · cases h
 · rename_i h0
   exact absurd h h0
theorem zE9 (base : Nat) (ps : List ByteArray) (seq : Nat) : (yB base ps seq).length = 9 * ps.length + 3 := by
 unfold yB;rw [List.length_append, Uf];rfl
theorem zA9 (N base : Nat) (ps : List ByteArray) (seq : Nat) (s : St) (h : (zP N (yB base ps seq) (0, s)).1 = 0) : (zP N (yB base ps seq) (0, s)).2.wr = [] := by
 have e : yB base ps seq = (uH base ps ps.length ++ [none, some (base, yN seq ps.length)]) ++ [none] := by simp [yB]
 rw [e] at h ⊢;exact Jj N _ s h
theorem zI3 (N : Nat) (s : St) (l : yH) (ps : List ByteArray) (hk : l.Ok) (hfit : l.from_ + l.size <= N) :
   (uQ ps = false /\ uN N s l ps = (1, s, l)) \/
   (uQ ps = true /\ l.failed = true /\ uN N s l ps = (17, s, l)) \/
   (uQ ps = true /\ l.failed = false /\ 64 < ps.length /\ uN N s l ps = (10, s, l)) \/
   (uQ ps = true /\ l.failed = false /\ ps.length <= 64 /\ l.size - l.used < 1 + 9 * ps.length /\ uN N s l ps = (9, s, l)) \/
   (uQ ps = true /\ l.failed = false /\ ps.length <= 64 /\ 1 + 9 * ps.length <= l.size - l.used /\ s.down = true /\ uN N s l ps = (11, s, { l with failed := true })) \/
   (∃ s', uQ ps = true /\ l.failed = false /\ ps.length <= 64 /\ 1 + 9 * ps.length <= l.size - l.used /\ s.down = false /\ (0, s') = zP N (yB (l.from_ + l.used) ps l.next) (0, s) /\ s'.down = false /\ s'.wr = [] /\ (s.fuse < 0 -> s'.fuse = s.fuse) /\ uN N s l ps = (0, s', l.plus ps.length)) \/
   (∃ s', uQ ps = true /\ l.failed = false /\ ps.length <= 64 /\ 1 + 9 * ps.length <= l.size - l.used /\ s.down = false /\ (11, s') = zP N (yB (l.from_ + l.used) ps l.next) (0, s) /\ s'.down = true /\ 0 <= s.fuse /\ uN N s l ps = (11, s', { l with failed := true })) := by
 unfold uN;cases ha : uQ ps with
 | false => exact .inl ⟨rfl, by rw [if_pos rfl]⟩
 | true =>
   rw [if_neg (by simp)];cases hf : l.failed with
   | true => exact .inr (.inl ⟨rfl, rfl, by rw [if_pos rfl]⟩)
   | false =>
     rw [if_neg (by simp)];have hl : l.left = l.size - l.used := by unfold yH.left; rw [hf]; rfl
     by_cases c1 : 64 < ps.length
     · exact .inr (.inr (.inl ⟨rfl, rfl, c1, by rw [if_pos c1]⟩))
     rw [if_neg c1];by_cases c2 : l.left < 1 + 9 * ps.length
     · exact .inr (.inr (.inr (.inl ⟨rfl, rfl, by omega, by omega, by rw [if_pos c2]⟩)))
     rw [if_neg c2];have hu := hk.used;have hsz : ∀ p ∈ ps, p.size = 512 := (of_decide_eq_true ha).2;cases hd : s.down with
     | true =>
       refine .inr (.inr (.inr (.inr (.inl ⟨rfl, rfl, by omega, by omega, rfl, ?_⟩))));rw [zIf N _ s hd (by simp [yB]), if_neg (by show ¬ (11 : Int) = 0; decide)]
     | false =>
       have hr := gZ N (yB (l.from_ + l.used) ps l.next) s hd (Je N _ ps _ hsz (by omega));have hw := zA9 N (l.from_ + l.used) ps l.next s;generalize zP N (yB (l.from_ + l.used) ps l.next) (0, s) = r at hr hw ⊢
       obtain ⟨e1, s1⟩ := r;simp only at hr hw;rcases hr.1 with ⟨h1, h2⟩ | ⟨h1, h2⟩
       · subst h1;exact .inr (.inr (.inr (.inr (.inr (.inl ⟨s1, rfl, rfl, by omega, by omega, rfl, rfl, h2, hw rfl, fun h => (hr.2 h).2, by rw [if_pos rfl]⟩)))))
       · subst h1;exact .inr (.inr (.inr (.inr (.inr (.inr ⟨s1, rfl, rfl, by omega, by omega, rfl, rfl, h2, by
           by_cases h : s.fuse < 0
           · have := (hr.2 h).1; omega
           · omega, by rw [if_neg (by show ¬ (11 : Int) = 0; decide)]⟩)))))
end
section
theorem zIm {N : Nat} {s : St} (hok : s.Ok N) {at_ q : Nat} (hat : at_ < N) : ∀ o ∈ yM s at_ q, mZ N o := by
 intro o ho;unfold yM at ho;split at ho
 · rename_i h
   simp only [List.mem_cons, List.not_mem_nil, or_false] at ho;rcases ho with rfl | rfl
   · exact ⟨hat, by rw [fQ (zFz h)]; exact mF hok at_ hat⟩
   · trivial
 · simp at ho
def vN (N : Nat) (s : St) (at_ q k en : Nat) : Int × St :=
 if (zP N (yM s at_ q) (0, s)).1 = 0 /\ at_ + k < en then zP N (yM (zP N (yM s at_ q) (0, s)).2 (at_ + k) ((q + 1) % 18446744073709551616)) (0, (zP N (yM s at_ q) (0, s)).2) else zP N (yM s at_ q) (0, s)
theorem gD {N : Nat} {s : St} {at_ q k en : Nat} {x : Int × St} (hx : x = zP N (yM s at_ q) (0, s)) : vN N s at_ q k en = if x.1 = 0 /\ at_ + k < en then zP N (yM x.2 (at_ + k) ((q + 1) % 18446744073709551616)) (0, x.2) else x := by subst hx; rfl
section
variable {w : World} {p : Nat} {x0 x1 x2 x3 x4 x5 x6 x7 : Value}
set_option maxRecDepth 10000 in
theorem zH4 (hO : Own w p 150 #[x0, x1, x2, x3, x4, x5, x6, x7]) : Calls Tryz.prog 96 #[.pointer (some ⟨p, 0, none⟩), .int .i64 11] w fun en w' => en = .returned (.int .i64 11) /\ Own w' p 150 #[x0, x1, x2, x3, x4, x5, x6, .bool true] /\ Chg (· = p) w w' /\ w'.heap.size = w.heap.size := by
 have P7 := Lh ((hO.put 7 (.bool true)).as (cs' := #[x0, x1, x2, x3, x4, x5, x6, .bool true]) rfl);have C7 := Lh (yT w p 7 (.bool true));obtain ⟨q1, q2, q3⟩ := hO.at_;clear hO;go_enter Tryz.func96, Tryz.ntmps96;go_wp2;go_ret;exact ⟨rfl, P7.out, C7.out, by simp [World.setCell]⟩
theorem zG4 (p : Nat) (e : Int) (he : e ≠ 11) (w : World) : Calls Tryz.prog 96 #[.pointer (some ⟨p, 0, none⟩), .int .i64 e] w fun en w' => en = .returned (.int .i64 e) /\ w = w' := by
 have t1 : (e == 11) = false := by simpa using he
 clear he;go_enter Tryz.func96, Tryz.ntmps96;go_wp2;go_ret;exact ⟨rfl, rfl⟩
theorem zD0 (a : Option Addr) (n c : Nat) (w : World) (hn : n <= 1000000) : Calls Tryz.prog 179 #[.slice a n c] w fun e w' => e = .returned (.int .i64 ((1 + 9 * n : Nat) : Int)) /\ w = w' := by
 have w1 : IntKind.i64.wrap ((n : Int) * 9) = (n : Int) * 9 := by rw [IntKind.wrap_i64]; omega
 have w2 : IntKind.i64.wrap (1 + (n : Int) * 9) = ((1 + 9 * n : Nat) : Int) := by rw [IntKind.wrap_i64]; omega
 go_enter Tryz.func179, Tryz.ntmps179;go_wp2;go_ret;exact ⟨rfl, rfl⟩
end
section
variable {w : World} {p lg d sb mb sc : Nat} {wv : Value} {N ll : Nat} {s : St} {l : yH} {x2 x4 x5 x6 x7 : Value}
theorem Xh {x3 : Value} (hD : zI w d sb mb sc wv N s) (hd : s.down = false) (hO : Own w p 150 #[.pointer (some ⟨d, 0, none⟩), .int .i64 (ll : Int), x2, x3, x4, x5, x6, x7]) (at_ q : Nat) (hat : at_ < N) (hq : q <= 18446744073709551615) (hfew : s.wr.length <= 300000) :
   Calls Tryz.prog 295 #[.pointer (some ⟨p, 0, none⟩), .int .i64 (at_ : Int), .int .u64 (q : Int)] w fun e w' => e = .returned (.int .i64 (zP N (yM s at_ q) (0, s)).1) /\ Wrt w w' d sb mb sc wv N (zP N (yM s at_ q) (0, s)).2 := by
 cases hE : vQ (vw s at_) q with
 | false =>
   have e : yM s at_ q = [] := by unfold yM; rw [hE]; rfl
   rw [e];refine (zG6 hD hd hO at_ q hat hq hE).mono ?_;rintro e w' ⟨rfl, hb⟩;exact ⟨rfl, (Wrt.same hD).below hb⟩
 | true =>
   have e : yM s at_ q = [some (at_, umB (vw s at_) q), none] := by unfold yM; rw [hE]; rfl
   rw [e];exact zE6 hD hd hO at_ q hat hq hE hfew
set_option maxRecDepth 10000 in
set_option maxHeartbeats 2000000 in
theorem zDn (hD : zI w d sb mb sc wv N s) (hd : s.down = false) (hL : yA w lg d l) (hk : l.Ok) (hf : l.failed = false) (hsz : l.size = ll) (hO : Own w p 150 #[.pointer (some ⟨d, 0, none⟩), .int .i64 (ll : Int), x2, .pointer (some ⟨lg, 0, none⟩), x4, x5, x6, x7]) (hfit : 2 + ll <= N) (k : Nat) (hk1 : 1 <= k) (hkl : k <= l.left) (hfew : s.wr.length <= 200000) :
   Calls Tryz.prog 246 #[.pointer (some ⟨p, 0, none⟩), .int .i64 (k : Int)] w fun e w' => e = .returned (.int .i64 (vN N s (2 + l.used) l.next k (2 + ll)).1) /\ Wrt w w' d sb mb sc wv N (vN N s (2 + l.used) l.next k (2 + ll)).2 := by
 have hN := hD.ok.max;have hu := hk.used;have hn := hk.next;have hl : l.left = ll - l.used := by unfold yH.left; rw [hf, hsz]; simp
 have HLE := Lh (fun W (hb : Below w.heap.size w W) => fW (show yA W lg d l from Own.keep hL hb) hk);rw [hl] at HLE;have HNX := Lh (fun W (hb : Below w.heap.size w W) => Yr (show yA W lg d l from Own.keep hL hb));have HU := Lh (fun W (hb : Below w.heap.size w W) => Xh (hD.below hb) hd (hO.keep hb) (2 + l.used) l.next (by omega) hn (by omega));have hup := (gZ N (yM s (2 + l.used) l.next) s hd (zIm hD.ok (by omega))).1;have hlen := Nat.le_trans (vE N (yM s (2 + l.used) l.next) (0, s)) (Nat.add_le_add_left (Uv s (2 + l.used) l.next) _);have nl := hD.no_own (show Own w lg 246 (l.cells d) from hL) (by decide) (by decide) (by simp [yH.cells]);have np := hD.no_own hO (by decide) (by decide) (by simp);obtain ⟨x, hx⟩ : ∃ x, x = zP N (yM s (2 + l.used) l.next) (0, s) := ⟨_, rfl⟩
 have HPW := Lh (gD (k := k) (en := 2 + ll) hx);rw [<- hx] at HU hup hlen;have hU2 := fun W (hWr : Wrt w W d sb mb sc wv N x.2) (hx0 : x.1 = 0) (hlt : 2 + l.used + k < 2 + ll) => (show Calls Tryz.prog 295 #[.pointer (some ⟨p, 0, none⟩), .int .i64 ((2 + l.used + k : Nat) : Int), .int .u64 (((l.next + 1) % 18446744073709551616 : Nat) : Int)] W fun e w' => e = .returned (.int .i64 (zP N (yM x.2 (2 + l.used + k) ((l.next + 1) % 18446744073709551616)) (0, x.2)).1) /\ Wrt w w' d sb mb sc wv N (zP N (yM x.2 (2 + l.used + k) ((l.next + 1) % 18446744073709551616)) (0, x.2)).2 from by
   obtain ⟨wv', h1, h2, h3⟩ := hWr;have hdn : x.2.down = false := by
     rcases hup with h | h
     · exact h.2
     · omega
   refine (Xh h1 hdn (h2.own hO np) (2 + l.used + k) ((l.next + 1) % 18446744073709551616) (by omega) (by omega) (by simp only at hlen; omega)).mono ?_;rintro e w' ⟨rfl, h⟩;exact ⟨rfl, Wrt.then_ h2 h3 h⟩)
 have HKEEP := Lh (fun W (hWr : Wrt w W d sb mb sc wv N x.2) => (show yA W lg d l /\ Own W p 150 #[.pointer (some ⟨d, 0, none⟩), .int .i64 (ll : Int), x2, .pointer (some ⟨lg, 0, none⟩), x4, x5, x6, x7] from by
   obtain ⟨wv', h1, h2, h3⟩ := hWr;exact ⟨h2.own (show Own w lg 246 (l.cells d) from hL) nl, h2.own hO np⟩))
 have HNX2 := Lh (fun W (h : yA W lg d l) => Yr h);have HO := Lh hO;have us : l.used + k <= ll := by omega
 obtain ⟨U, hU⟩ : ∃ U, U = l.used := ⟨_, rfl⟩
 obtain ⟨Q, hQ⟩ : ∃ Q, Q = l.next := ⟨_, rfl⟩
 rw [<- hU] at HLE HU HPW us hu hU2 ⊢;rw [<- hQ] at HNX HU HPW hn HNX2 hU2 ⊢;have W1 : IntKind.i64.wrap (2 + (ll : Int)) = 2 + (ll : Int) := by rw [IntKind.wrap_i64]; omega
 have W2 : IntKind.i64.wrap (2 + (ll : Int) - ((ll - U : Nat) : Int)) = ((2 + U : Nat) : Int) := by rw [IntKind.wrap_i64]; omega
 have W3 : IntKind.i64.wrap (((2 + U : Nat) : Int) + (k : Int)) = ((2 + U + k : Nat) : Int) := by rw [IntKind.wrap_i64]; omega
 have W4 : IntKind.u64.wrap ((Q : Int) + 1) = (((Q + 1) % 18446744073709551616 : Nat) : Int) := by rw [IntKind.wrap_u64]; omega
 have t0 : 2 + U + k < 2 + ll -> decide (((2 + U + k : Nat) : Int) < 2 + (ll : Int)) = true := fun h => by simp; omega
 have t9 : ¬ 2 + U + k < 2 + ll -> decide (((2 + U + k : Nat) : Int) < 2 + (ll : Int)) = false := fun h => by simp; omega
 obtain ⟨A, hA⟩ : ∃ A, A = 2 + U := ⟨_, rfl⟩
 rw [<- hA] at HU HPW hU2 W2 W3 t0 t9 ⊢;obtain ⟨C, hC⟩ : ∃ C, C = A + k := ⟨_, rfl⟩
 rw [<- hC] at HPW hU2 W3 t0 t9;obtain ⟨Q1, hQ1⟩ : ∃ Q1, Q1 = (Q + 1) % 18446744073709551616 := ⟨_, rfl⟩
 rw [<- hQ1] at HPW hU2 W4;obtain ⟨r, hr⟩ : ∃ r, r = vN N s A Q k (2 + ll) := ⟨_, rfl⟩
 rw [<- hr] at HPW ⊢;clear hA hC hQ1 hU hQ hx hr hD hL hk hsz hO hl hf hd hlen hup hu nl np;obtain ⟨e1, s1⟩ := x;simp only at HPW HU hU2 HKEEP;replace hU2 := Lh hU2;have T0 := Lh t0;have T9 := Lh t9;clear t0 t9;obtain ⟨q1, q2, q3⟩ := HO.out.at_;by_cases c : e1 = 0 /\ C < 2 + ll
 · obtain ⟨rfl, hlt⟩ := c;have E := HPW.out;rw [if_pos ⟨rfl, hlt⟩] at E;have HU3 := Lh (fun W h => hU2.out W h rfl hlt);have t1 := T0.out hlt;rw [E];obtain ⟨r2, hr2⟩ : ∃ r2, r2 = zP N (yM s1 C Q1) (0, s1) := ⟨_, rfl⟩
   rw [<- hr2] at HU3 ⊢;clear hr2 E HPW hU2 hlt;go_enter Tryz.func246, Tryz.ntmps246;go_wp2_with (first
     | (go_at_call 233; refine (HLE.out _ (Below.refl _ _)).mono ?_; rintro e w5 ⟨rfl, q5, rfl⟩)
     | (go_at_call 182; refine (HNX.out _ (zM (Below.refl _ _) q5)).mono ?_; rintro e w6 ⟨rfl, rfl⟩)
     | (go_at_call 295; with_reducible refine (HU.out _ (zM (Below.refl _ _) q5)).mono ?_; rintro e w7 ⟨rfl, hw7⟩; have R7 := Lh (Wrt.from_ hw7 (zM (Below.refl _ _) q5)); clear hw7; obtain ⟨k1, k2⟩ := HKEEP.out _ R7.out; have L7 := Lh k1; obtain ⟨q1, q2, q3⟩ := k2.at_; clear k1 k2)
     | (go_at_call 182; refine (HNX2.out _ L7.out).mono ?_; rintro e w8 ⟨rfl, rfl⟩)
     | (go_at_call 295; with_reducible refine (HU3.out _ R7.out).mono ?_; rintro e w9 ⟨rfl, hw9⟩; have R9 := Lh hw9; clear hw9))
   go_ret;exact ⟨rfl, R9.out⟩
 · have E := HPW.out;rw [if_neg c] at E;rw [E];have t1 : e1 ≠ 0 \/ e1 = 0 /\ decide ((C : Int) < 2 + (ll : Int)) = false := by
     by_cases c1 : e1 = 0
     · exact .inr ⟨c1, T9.out fun h => c ⟨c1, h⟩⟩
     · exact .inl c1
   clear c E HPW hU2;rcases t1 with t1 | ⟨rfl, t1⟩
   · have t2 : (e1 == 0) = false := by simpa using t1
     clear t1;go_enter Tryz.func246, Tryz.ntmps246;go_wp2_with (first
       | (go_at_call 233; refine (HLE.out _ (Below.refl _ _)).mono ?_; rintro e w5 ⟨rfl, q5, rfl⟩)
       | (go_at_call 182; refine (HNX.out _ (zM (Below.refl _ _) q5)).mono ?_; rintro e w6 ⟨rfl, rfl⟩)
       | (go_at_call 295; with_reducible refine (HU.out _ (zM (Below.refl _ _) q5)).mono ?_; rintro e w7 ⟨rfl, hw7⟩; have R7 := Lh (Wrt.from_ hw7 (zM (Below.refl _ _) q5)); clear hw7))
     go_ret;exact ⟨rfl, R7.out⟩
   · go_enter Tryz.func246, Tryz.ntmps246;go_wp2_with (first
       | (go_at_call 233; refine (HLE.out _ (Below.refl _ _)).mono ?_; rintro e w5 ⟨rfl, q5, rfl⟩)
       | (go_at_call 182; refine (HNX.out _ (zM (Below.refl _ _) q5)).mono ?_; rintro e w6 ⟨rfl, rfl⟩)
       | (go_at_call 295; with_reducible refine (HU.out _ (zM (Below.refl _ _) q5)).mono ?_; rintro e w7 ⟨rfl, hw7⟩; have R7 := Lh (Wrt.from_ hw7 (zM (Below.refl _ _) q5)); clear hw7))
     go_ret;exact ⟨rfl, R7.out⟩
end
end
end Go.Proofs.YthijgebmoadgkaaGreatDoor
