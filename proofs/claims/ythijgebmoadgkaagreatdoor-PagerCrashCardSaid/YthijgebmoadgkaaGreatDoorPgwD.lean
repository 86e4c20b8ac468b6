import Derived.Test.YthijgebmoadgkaaGreatDoorPgwB
import Derived.Test.YthijgebmoadgkaaGreatDoorPgtN
set_option linter.unusedVariables false
set_option linter.unusedSimpArgs false
namespace Go.Proofs.YthijgebmoadgkaaGreatDoor
open Go.ChangeShapes Go.WideShapes Go.ChangeAt Go.RowKit
section
structure uY (P : PS) (first : Nat) (ts : List (Nat × List ByteArray)) : Prop where
 dsk : Dsk P.N P.ll P.s P.seq first ts P.M
 used : P.l.used = long ts
 next : P.l.next = (first + ts.length) % 18446744073709551616
 wr : P.s.wr = []
 up : P.s.down = false
 lf : P.l.failed = false
 ff : P.failed = false
def Ux (N ll top : Nat) (s : St) (b v : Nat -> Pag × Nat) : Prop := ∀ kp : Nat -> Nat, (∀ j, kp j <= 64) -> ∃ seq first ts M, seq <= top /\ Dsk N ll (crs kp s) seq first ts M /\ ((∀ no, no < (N - 2 - ll) / 8 -> dbs (crs kp s) ll M no = b no) \/ ∀ no, no < (N - 2 - ll) / 8 -> dbs (crs kp s) ll M no = v no)
theorem Ux.up {N ll top top' : Nat} {s : St} {b v : Nat -> Pag × Nat} (h : Ux N ll top s b v) (ht : top <= top') : Ux N ll top' s b v := fun kp hkp => by
 obtain ⟨seq, first, ts, M, h1, h2, h3⟩ := h kp hkp;exact ⟨seq, first, ts, M, Nat.le_trans h1 ht, h2, h3⟩
theorem Ux.of {N ll top : Nat} {s : St} {b v b' v' : Nat -> Pag × Nat} (h : Ux N ll top s b v) (hb : ∀ no, no < (N - 2 - ll) / 8 -> b no = b' no) (hv : ∀ no, no < (N - 2 - ll) / 8 -> v no = v' no) : Ux N ll top s b' v' := fun kp hkp => by
 obtain ⟨seq, first, ts, M, h1, h2, h3⟩ := h kp hkp;exact ⟨seq, first, ts, M, h1, h2, h3.imp (fun h no hn => (h no hn).trans (hb no hn)) fun h no hn => (h no hn).trans (hv no hn)⟩
section
variable {P : PS} {first : Nat} {ts : List (Nat × List ByteArray)}
theorem zLn (l : yH) {a b c d : Nat} {e : Bool} (h1 : l.from_ = a) (h2 : l.size = b) (h3 : l.used = c) (h4 : l.next = d) (h5 : l.failed = e) : (⟨a, b, c, d, e⟩ : yH) = l := by
 subst h1 h2 h3 h4 h5;rfl
theorem uY.left (h : uY P first ts) (hk : P.Ok) : P.l.left = P.ll - long ts := by
 unfold yH.left;rw [h.lf, hk.size, h.used];simp
theorem uY.opened (h : uY P first ts) (hk : P.Ok) (r : Nat) : opn P.N P.s r = some { P with room := r, T := [] } := by
 obtain ⟨o1, o2⟩ := h.dsk.opens h.up hk.bd0 hk.bd r;rw [o1];congr 1
 have e := zLn P.l hk.from_ hk.size h.used h.next h.lf;have o3 : (⟨2, P.ll, long (yG (st P.s 2) P.ll first), (first + (yG (st P.s 2) P.ll first).length) % 18446744073709551616, false⟩ : yH) = P.l := o2.trans e;unfold opP;rw [o3, <- h.ff]
theorem Dsk.reopen {N ll seq : Nat} {s : St} {M : List (Nat × Pag)} (h : Dsk N ll s seq first ts M) (hd : s.down = false) (hw : s.wr = []) (h0 : (dbs s ll M 0).2 = 0) (hh : Jq ((N - 2 - ll) / 8) (dbs s ll M 0).1) (r : Nat) : opn N s r = some (opP N s r ll seq first M) /\ uY (opP N s r ll seq first M) first ts := by
 obtain ⟨o1, o2⟩ := h.opens hd h0 hh r;exact ⟨o1, ⟨h, by rw [o2], by rw [o2], hw, hd, by rw [o2], rfl⟩⟩
theorem zFk {s : St} (hw : s.wr = []) (kp : Nat -> Nat) (k : Nat) : vw (crs kp s) k = vw s k := by
 rw [gU hw, gU rfl];show xH (yI kp s.wr 0 s.sure) _ = _
 rw [hw];rfl
theorem uY.rest (h : uY P first ts) : Ux P.N P.ll P.seq P.s P.base P.base := fun kp hkp =>
 ⟨_, _, _, _, Nat.le_refl _, h.dsk.keep (Uq h.dsk.sd kp) fun k _ => zFk h.wr kp k, .inl fun no _ => zD2 fun i _ => zFk h.wr kp _⟩
theorem zFv (hk : P.Ok) {s' : St} (hv : ∀ k, 2 + P.ll <= k -> vw s' k = vw P.s k) : (∀ no, dbs s' P.ll P.M no = P.base no) /\ ∀ no, dbs s' P.ll (yF P.M P.T) no = P.view no := by
 have h1 : ∀ no, dbs s' P.ll P.M no = P.base no := fun no => zD2 fun i _ => hv _ (by omega)
 refine ⟨h1, fun no => ?_⟩;have h2 := h1 no;unfold dbs at h2 ⊢;rw [Ue hk.M.1 P.T hk.T.1];unfold PS.view;cases hT : lk P.T no with
 | some x => rfl
 | none => exact h2
theorem uY.addD (h : uY P first ts) (hk : P.Ok) (h1 : P.T ≠ []) (h64 : P.T.length <= 64) (hle : 1 + 9 * P.T.length <= P.ll - long ts) {X : Int × St × yH} (hX : X = uX P.N P.s P.l P.pgs) :
   Sd P.N X.2.1 /\ ((X.1 = 0 /\ X.2.2 = P.l.plus P.T.length /\ X.2.1.down = false /\ X.2.1.wr = [] /\ Dsk P.N P.ll X.2.1 P.seq first (ts ++ [(P.l.next, P.pgs)]) (yF P.M P.T)) \/
     (X.1 = 11 /\ X.2.1.down = true /\ Ux P.N P.ll P.seq X.2.1 P.base P.view)) /\ (P.s.fuse < 0 -> X.1 = 0 /\ X.2.1.fuse = P.s.fuse) := by
 have hm := hk.most;have hsz := hk.size;have hfr := hk.from_;have hlen := fK P;have hp := hk.pgs h1;have hps : ∀ p ∈ P.pgs, p.size = 512 := (of_decide_eq_true hp).2;have hpos : 1 <= P.T.length := List.length_pos_iff.2 h1;have hg : fD ((P.N - 2 - P.ll) / 8) P.pgs (some P.M) = some (yF P.M P.T) := zF8 hm.2.1 P.T P.M hk.T.2;have hl := h.left hk;have hle2 : 1 + 9 * P.pgs.length <= P.ll - long ts := by rw [hlen]; exact hle
 obtain ⟨x, hx⟩ : ∃ x, x = vN P.N P.s (2 + long ts) ((first + ts.length) % 18446744073709551616) (1 + 9 * P.pgs.length) (2 + P.ll) := ⟨_, rfl⟩
 obtain ⟨c1, c2, c3⟩ := zI8 h.dsk (by omega) hle2 h.wr h.up hx;have eX : X = if x.1 = 0 then uN P.N x.2 P.l P.pgs else (x.1, x.2, P.l) := by
   rw [hX];unfold uX;rw [if_pos (by rw [hl]; exact hle2), h.used, h.next, hsz, <- hx]
 rcases c2 with ⟨p1, p2, p3, p4, p5, p6⟩ | ⟨p1, p2, p3⟩
 · rw [if_pos p1] at eX;have D1 : Dsk P.N P.ll x.2 P.seq first ts P.M := h.dsk.keep c1 fun k hk => p4 k (by omega)
   obtain ⟨r, hr⟩ : ∃ r, r = zP P.N (yB (2 + long ts) P.pgs ((first + ts.length) % 18446744073709551616)) (0, x.2) := ⟨_, rfl⟩
   have ea : X = if r.1 = 0 then (0, r.2, P.l.plus P.pgs.length) else (r.1, r.2, { P.l with failed := true }) := by
     rw [eX];unfold uN;have hr2 : zP P.N (yB (P.l.from_ + P.l.used) P.pgs P.l.next) (0, x.2) = r := by rw [hfr, h.used, h.next]; exact hr.symm
     rw [if_neg (by rw [hp]; simp), if_neg (by rw [h.lf]; simp), if_neg (by omega), if_neg (by rw [hl]; omega), hr2]
   obtain ⟨t1, t2, t3⟩ := zMp D1 (ps := P.pgs) (M' := yF P.M P.T) (by omega) (by omega) hle2 hps hg p3 p2 p6 hr;rcases t2 with ⟨q1, q2, q3, q4, q5⟩ | ⟨q1, q2, q3⟩
   · rw [if_pos q1] at ea;rw [ea];refine ⟨t1, .inl ⟨rfl, by rw [hlen], q2, q3, by rw [h.next]; exact q4⟩, fun hf => ⟨rfl, ?_⟩⟩;have h2 := c3 hf;exact (t3 (by rw [h2.2]; exact hf)).2.trans h2.2
   · rw [if_neg (by omega)] at ea;rw [ea];refine ⟨t1, .inr ⟨q1, q2, fun kp hkp => ?_⟩, fun hf => ?_⟩
     · obtain ⟨u1, u2⟩ := q3 kp hkp;obtain ⟨d1, d2⟩ := zFv hk (s' := crs kp r.2) fun k hk => (u2 k hk).trans (p5 k hk)
       rcases u1 with u | u
       · exact ⟨_, _, _, _, Nat.le_refl _, u, .inl fun no _ => d1 no⟩
       · exact ⟨_, _, _, _, Nat.le_refl _, u, .inr fun no _ => d2 no⟩
     · have h2 := c3 hf;exact absurd (t3 (by rw [h2.2]; exact hf)).1 (by omega)
 · rw [if_neg (by omega)] at eX;rw [eX];refine ⟨c1, .inr ⟨p1, p2, fun kp hkp => ?_⟩, fun hf => absurd (c3 hf).1 (by omega)⟩;obtain ⟨u1, u2⟩ := p3 kp hkp;obtain ⟨d1, d2⟩ := zFv hk (s' := crs kp x.2) u2;exact ⟨_, _, _, _, Nat.le_refl _, h.dsk.keep (Uq c1 kp) (fun k hk => u1 k (by omega)), .inl fun no _ => d1 no⟩
theorem uY.empD (h : uY P first ts) (hk : P.Ok) (hq : P.seq + 2 <= 18446744073709551615) :
   ((P.empR.1 = 0 /\ P.emp = { P with s := P.empR.2, seq := P.seq + 1, M := [], l := { P.l with used := 0 } } /\ uY P.emp P.l.next [] /\ ∀ no, P.emp.base no = P.base no) \/
     (P.empR.1 = 11 /\ P.emp.s = P.empR.2 /\ P.emp.s.down = true /\ Ux P.N P.ll (P.seq + 1) P.emp.s P.base P.base)) /\ (P.s.fuse < 0 -> P.empR.1 = 0 /\ P.emp.s.fuse = P.s.fuse) := by
 obtain ⟨c1, c2, c3⟩ := zM3 (r := P.empR) h.dsk hk.M hq h.wr h.up (by unfold PS.empR; rw [h.next]);rcases c2 with ⟨p1, p2, p3, p4, p5⟩ | ⟨p1, p2, p3⟩
 · have e : P.emp = { P with s := P.empR.2, seq := P.seq + 1, M := [], l := { P.l with used := 0 } } := if_pos p1;have es : P.emp.s = P.empR.2 := by rw [e]
   refine ⟨.inl ⟨p1, e, ?_, fun no => ?_⟩, fun hf => ⟨p1, by rw [es]; exact (c3 hf).2⟩⟩
   · rw [e];refine ⟨by rw [h.next]; exact p4, rfl, ?_, p3, p2, h.lf, h.ff⟩;show P.l.next = (P.l.next + 0) % 18446744073709551616
     have := hk.log.next;omega
   · rw [e];exact p5 no
 · have e : P.emp = { P with s := P.empR.2 } := if_neg (by omega);have es : P.emp.s = P.empR.2 := by rw [e]
   refine ⟨.inr ⟨p1, es, by rw [es]; exact p2, ?_⟩, fun hf => absurd (c3 hf).1 (by omega)⟩;rw [es];intro kp hkp;rcases p3 kp hkp with ⟨u, v⟩ | ⟨u, v⟩
   · exact ⟨_, _, _, _, Nat.le_succ _, u, .inl fun no _ => v no⟩
   · exact ⟨_, _, _, _, Nat.le_refl _, u, .inl fun no _ => v no⟩
theorem uY.grown (h : uY P first ts) (hk : P.Ok) {X : Int × St × yH} (e2 : X.2.2 = P.l.plus P.T.length) (e3 : X.2.1.down = false) (e4 : X.2.1.wr = []) (e5 : Dsk P.N P.ll X.2.1 P.seq first (ts ++ [(P.l.next, P.pgs)]) (yF P.M P.T)) :
   uY { P with s := X.2.1, l := X.2.2, M := yF P.M P.T, T := [] } first (ts ++ [(P.l.next, P.pgs)]) := by
 have hn := h.next;refine ⟨e5, ?_, ?_, e4, e3, ?_, h.ff⟩
 · show X.2.2.used = _
   rw [e2, jY, fK];show P.l.used + _ = _
   rw [h.used]
 · show X.2.2.next = _
   rw [e2, List.length_append, List.length_singleton];show (P.l.next + 1) % 18446744073709551616 = _
   rw [hn];omega
 · show X.2.2.failed = false
   rw [e2];exact h.lf
theorem uY.entD (h : uY P first ts) (hk : P.Ok) (h1 : P.T ≠ []) (h64 : P.T.length <= 64) (hle : 1 + 9 * P.T.length <= P.ll) (hq : P.seq + 2 <= 18446744073709551615) :
   ((P.entR.1 = 0 /\ P.ent = P.entR.2 /\ P.ent.seq <= P.seq + 1 /\ ∃ first' ts', uY { P.ent with M := yF P.ent.M P.T, T := [] } first' ts') \/
     (P.entR.1 = 11 /\ P.ent.s.down = true /\ Ux P.N P.ll (P.seq + 1) P.ent.s P.base P.view)) /\ (P.s.fuse < 0 -> P.entR.1 = 0 /\ P.ent.s.fuse = P.s.fuse) := by
 have hl := h.left hk;have told0 : P.entR.1 = 0 -> P.ent = P.entR.2 := fun e => by unfold PS.ent PS.told; rw [if_neg (by omega)]
 have tolds : P.ent.s = P.entR.2.s := (Uk _ _).1;by_cases c1 : 1 + 9 * P.T.length <= P.l.left
 · have eR : P.entR = ((P.addR P.pgs).1, P.addP P.pgs) := by unfold PS.entR; rw [if_pos c1]
   obtain ⟨X, hX⟩ : ∃ X, X = P.addR P.pgs := ⟨_, rfl⟩
   have eP : P.addP P.pgs = { P with s := X.2.1, l := X.2.2 } := by rw [hX]; rfl
   rw [<- hX, eP] at eR;obtain ⟨a1, a2, a3⟩ := h.addD hk h1 h64 (by omega) (X := X) (by rw [hX]; rfl);rcases a2 with ⟨b1, b2, b3, b4, b5⟩ | ⟨b1, b2, b3⟩
   · have e0 : P.entR.1 = 0 := by rw [eR]; exact b1
     have eE := told0 e0;refine ⟨.inl ⟨e0, eE, ?_, first, ts ++ [(P.l.next, P.pgs)], ?_⟩, fun hf => ⟨e0, ?_⟩⟩
     · rw [eE, eR]; exact Nat.le_succ _
     · rw [eE, eR];exact h.grown hk b2 b3 b4 b5
     · rw [eE, eR];exact (a3 hf).2
   · have e0 : P.entR.1 = 11 := by rw [eR]; exact b1
     have es : P.ent.s = X.2.1 := by rw [tolds, eR]
     refine ⟨.inr ⟨e0, by rw [es]; exact b2, by rw [es]; exact b3.up (Nat.le_succ _)⟩, fun hf => absurd (a3 hf).1 (by omega)⟩
 · obtain ⟨m1, m2⟩ := h.empD hk hq;rcases m1 with ⟨p1, p2, p3, p4⟩ | ⟨p1, p2, p3, p4⟩
   · have eR : P.entR = ((P.emp.addR P.pgs).1, P.emp.addP P.pgs) := by unfold PS.entR; rw [if_neg c1, if_pos hle, if_pos p1]
     have hE : P.emp.Ok := (PS.emp_kin hk h.dsk.sd h.up h.lf).1.ok hk (by omega);have eT : P.emp.T = P.T := by rw [p2]
     have eN : P.emp.N = P.N /\ P.emp.ll = P.ll /\ P.emp.seq = P.seq + 1 := by rw [p2]; exact ⟨rfl, rfl, rfl⟩
     have ep : P.emp.pgs = P.pgs := by unfold PS.pgs; rw [eT]
     have ev : ∀ no, P.emp.view no = P.view no := fun no => by unfold PS.view; rw [eT, p4]
     obtain ⟨X, hX⟩ : ∃ X, X = P.emp.addR P.pgs := ⟨_, rfl⟩
     have eP : P.emp.addP P.pgs = { P.emp with s := X.2.1, l := X.2.2 } := by rw [hX]; rfl
     rw [<- hX, eP] at eR;obtain ⟨a1, a2, a3⟩ := p3.addD hE (by rw [eT]; exact h1) (by rw [eT]; exact h64) (by rw [eT, eN.2.1]; show _ <= P.ll - 0; omega) (X := X) (by rw [hX, ep]; rfl);rcases a2 with ⟨b1, b2, b3, b4, b5⟩ | ⟨b1, b2, b3⟩
     · have e0 : P.entR.1 = 0 := by rw [eR]; exact b1
       have eE := told0 e0;refine ⟨.inl ⟨e0, eE, ?_, P.l.next, [] ++ [(P.emp.l.next, P.emp.pgs)], ?_⟩, fun hf => ⟨e0, ?_⟩⟩
       · rw [eE, eR]; show P.emp.seq <= _; rw [eN.2.2]; exact Nat.le_refl _
       · rw [eE, eR, <- eT];exact p3.grown hE b2 b3 b4 b5
       · obtain ⟨f1, f2⟩ := m2 hf;rw [eE, eR];exact (a3 (by rw [f2]; exact hf)).2.trans f2
     · have e0 : P.entR.1 = 11 := by rw [eR]; exact b1
       have es : P.ent.s = X.2.1 := by rw [tolds, eR]
       rw [eN.1, eN.2.1, eN.2.2] at b3;refine ⟨.inr ⟨e0, by rw [es]; exact b2, by rw [es]; exact b3.of (fun no _ => p4 no) fun no _ => ev no⟩, fun hf => ?_⟩;obtain ⟨f1, f2⟩ := m2 hf;exact absurd (a3 (by rw [f2]; exact hf)).1 (by omega)
   · have eR : P.entR = (P.empR.1, P.emp) := by unfold PS.entR; rw [if_neg c1, if_pos hle, if_neg (by omega)]
     have e0 : P.entR.1 = 11 := by rw [eR]; exact p1
     have es : P.ent.s = P.emp.s := by rw [tolds, eR]
     refine ⟨.inr ⟨e0, by rw [es]; exact p3, by
       rw [es];intro kp hkp;obtain ⟨seq, f, t, M, u1, u2, u3⟩ := p4 kp hkp;exact ⟨seq, f, t, M, u1, u2, .inl (u3.elim id id)⟩⟩, fun hf => absurd (m2 hf).1 (by omega)⟩
theorem uY.comD (h : uY P first ts) (hk : P.Ok) (h64 : P.T.length <= 64) (hq : P.seq + 2 <= 18446744073709551615) :
   ((P.T = [] /\ P.comE = 0 /\ P.com = P) \/ (P.ll < 1 + 9 * P.T.length /\ P.comE = 9 /\ P.com = P) \/
     (P.T ≠ [] /\ 1 + 9 * P.T.length <= P.ll /\ P.comE = 0 /\ P.com.T = [] /\ P.com.N = P.N /\ P.com.ll = P.ll /\ P.com.room = P.room /\ P.com.seq <= P.seq + 1 /\ (∀ no, no < P.most -> P.com.base no = P.view no) /\ ∃ first' ts', uY P.com first' ts') \/
     (P.T ≠ [] /\ 1 + 9 * P.T.length <= P.ll /\ P.comE = 11 /\ P.com.s.down = true /\ P.com.N = P.N /\ P.com.ll = P.ll /\ Ux P.N P.ll (P.seq + 1) P.com.s P.base P.view)) /\ (P.s.fuse < 0 -> P.comE ≠ 11 /\ P.com.s.fuse = P.s.fuse) := by
 have eE : P.comE = if P.T = [] then 0 else P.entR.1 := by
   unfold PS.comE;rw [if_neg (by rw [h.ff]; simp)];by_cases c : P.T = []
   · rw [if_pos c, if_pos c]
   · rw [if_neg c, if_neg c, if_neg (by omega)]
 have eC : P.com = if P.T = [] then P else if P.entR.1 = 0 then P.done else P.ent := by
   unfold PS.com;by_cases c : P.T = []
   · rw [if_pos (.inr (.inl c)), if_pos c]
   · rw [if_neg (by rw [h.ff]; simp [c]; omega), if_neg c]
 by_cases c : P.T = []
 · rw [eE, eC, if_pos c, if_pos c];exact ⟨.inl ⟨c, rfl, rfl⟩, fun _ => ⟨by decide, rfl⟩⟩
 · rw [if_neg c] at eE eC;obtain ⟨k1, k2, k3⟩ := PS.ent_kin hk h.dsk.sd h.up h.lf c h64 (by omega);by_cases c2 : 1 + 9 * P.T.length <= P.ll
   · obtain ⟨d1, d2⟩ := h.entD hk c h64 c2 hq;rcases d1 with ⟨a1, a2, a3, f', t', a4⟩ | ⟨a1, a2, a3⟩
     · rw [if_pos a1] at eC;rw [eE, a1, eC];refine ⟨.inr (.inr (.inl ⟨c, c2, rfl, rfl, k1.N, k1.ll, k1.room, a3, fun no hno => mJ hk k1 hno, f', t', a4⟩)), fun hf => ⟨by decide, (d2 hf).2⟩⟩
     · rw [if_neg (by omega)] at eC;rw [eE, a1, eC];exact ⟨.inr (.inr (.inr ⟨c, c2, rfl, a2, k1.N, k1.ll, a3⟩)), fun hf => absurd (d2 hf).1 (by omega)⟩
   · have e9 : P.entR.1 = 9 /\ P.ent = P := by
       have hlf := h.left hk;have e : P.entR = (9, P) := by unfold PS.entR; rw [if_neg (by omega), if_neg c2]
       refine ⟨by rw [e], ?_⟩;unfold PS.ent PS.told;rw [e, if_neg (show ¬ (9 : Int) = 11 by decide)]
     rw [if_neg (by omega), e9.2] at eC;rw [eE, e9.1, eC];exact ⟨.inr (.inl ⟨by omega, rfl, rfl⟩), fun _ => ⟨by decide, rfl⟩⟩
theorem uY.ckD (h : uY P first ts) (hk : P.Ok) (hq : P.seq + 2 <= 18446744073709551615) :
   ((P.empR.1 = 0 /\ (∃ first' ts', uY (PS.told P.empR.1 P.emp) first' ts') /\ (PS.told P.empR.1 P.emp).seq = P.seq + 1) \/
     (P.empR.1 = 11 /\ (PS.told P.empR.1 P.emp).s.down = true /\ Ux P.N P.ll (P.seq + 1) (PS.told P.empR.1 P.emp).s P.base P.base)) /\
   (PS.told P.empR.1 P.emp).N = P.N /\ (PS.told P.empR.1 P.emp).ll = P.ll /\ (PS.told P.empR.1 P.emp).room = P.room /\ (PS.told P.empR.1 P.emp).T = P.T /\ (∀ no, no < P.most -> (PS.told P.empR.1 P.emp).base no = P.base no) /\ (P.s.fuse < 0 -> P.empR.1 = 0 /\ (PS.told P.empR.1 P.emp).s.fuse = P.s.fuse) := by
 have k := (PS.emp_kin hk h.dsk.sd h.up h.lf).1.told P.empR.1;obtain ⟨m1, m2⟩ := h.empD hk hq;have es := (Uk P.empR.1 P.emp).1;refine ⟨?_, k.N, k.ll, k.room, k.T, k.base, fun hf => ⟨(m2 hf).1, by rw [es]; exact (m2 hf).2⟩⟩;rcases m1 with ⟨p1, p2, p3, p4⟩ | ⟨p1, p2, p3, p4⟩
 · have et : PS.told P.empR.1 P.emp = P.emp := by unfold PS.told; rw [if_neg (by omega)]
   rw [et];exact .inl ⟨p1, ⟨_, _, p3⟩, by rw [p2]⟩
 · rw [es];exact .inr ⟨p1, p3, p4⟩
theorem qC.hold {N ll room : Nat} (h : qC P N ll room) (hk : P.Ok) (hd : Dsk P.N P.ll P.s P.seq 1 [] P.M) : uY P 1 [] := by
 refine ⟨hd, ?_, ?_, h.wr, h.up, ?_, h.failed⟩
 · rw [h.l]; rfl
 · rw [h.l]; rfl
 · rw [h.l]
theorem zMk {N ll : Nat} {s s' : St} (hs : Sd N s') (h10 : 10 <= ll) (hN : ll + 10 <= N) (h6 : N <= 65536)
   (hv : ∀ k, vw s' k = if k = 1 then mkB 1 (mkT 1 ll) else if k < 2 + ll then zB 64 else if k < 2 + ll + 8 then Pg.secB (pgB 1 0 (zJ 1 0 fun _ => 0)) (k - (2 + ll)) else vw s k) : Dsk N ll s' 1 1 [] [] :=
 { sd := hs, l10 := h10, fit := hN, n6 := h6, pos := Nat.le_refl _, top := by omega, f9 := by omega
   mrk := by rw [hv, if_pos (by decide)]
   oth := by
     rw [hv, if_neg (by decide), if_pos (by omega)];exact Vt.zero
   laid := trivial
   end_ := fun _ => by
     show vQ (vw s' 2) 1 = false
     rw [hv, if_neg (by omega), if_pos (by omega)];refine zB2 (xG 64) fun e => ?_
     have := e 0 (by omega);rw [zFm, Qf] at this;omega
   gat := rfl }
end
end
section
structure xI (most : Nat) (v : Nat -> Pag × Nat) (s : RSt) : Prop where
 m8 : most <= 8191
 kr : s.rooms.length = s.kinds.length
 lo : 1 <= s.kinds.length
 hi : s.kinds.length <= most
 at_ : ∀ i, i < s.kinds.length -> v i = ((s.kinds.getD i 0, s.rooms.getD i ⟨#[]⟩), 0)
 hk : s.kinds.getD 0 0 = 1
 hr : s.rooms.getD 0 ⟨#[]⟩ = zJ s.kinds.length s.first s.roots
 roots : ∀ i, i < 8 -> s.roots i < 18446744073709551616
 free : ∀ x ∈ s.free, 1 <= x /\ x < s.kinds.length
 nd : s.free.Nodup
 ch : ∀ (j x : Nat), s.free[j]? = some x -> s.kinds.getD x 0 = 255 /\ s.rooms.getD x ⟨#[]⟩ = yY (if j = 0 then 0 else s.free.getD (j - 1) 0)
structure Sim (P : PS) (R : RS) : Prop where
 most : R.most = P.most
 room : R.room = P.room
 len : R.dirty.length = P.most
 dirty : ∀ i, R.dirty.getD i false = true ↔ lk P.T i ≠ none
 way : xI P.most P.view R.way
 sure : xI P.most P.base R.sure
theorem zY {α : Type} (l : List α) (i j : Nat) (a d : α) : (l.set i a).getD j d = if i = j /\ i < l.length then a else l.getD j d := by
 rw [List.getD_eq_getElem?_getD, List.getD_eq_getElem?_getD, List.getElem?_set];by_cases c : i = j
 · subst c;by_cases c2 : i < l.length
   · simp [c2]
   · simp [c2, List.getElem?_eq_none (Nat.le_of_not_lt c2)]
 · simp [c]
theorem fV {α : Type} (l : List α) (a d : α) (j : Nat) : (l ++ [a]).getD j d = if j = l.length then a else l.getD j d := by
 rw [List.getD_eq_getElem?_getD, List.getD_eq_getElem?_getD];by_cases c : j = l.length
 · subst c; simp
 · rw [if_neg c];by_cases c2 : j < l.length
   · rw [List.getElem?_append_left c2]
   · rw [List.getElem?_eq_none (by simp; omega), List.getElem?_eq_none (by omega)]
theorem zIe (n : Nat) (l : List Nat) (hn : l.Nodup) (h : ∀ x ∈ l, x < n) : l.length <= n := by
 have hp : l.Perm ((List.range n).filter fun x => l.contains x) := by
   rw [List.perm_ext_iff_of_nodup hn (List.nodup_range.filter _)];intro x;rw [List.mem_filter, List.mem_range];constructor
   · intro hx; exact ⟨h x hx, by simpa using hx⟩
   · intro hx; simpa using hx.2
 rw [hp.length_eq];exact Nat.le_trans (List.length_filter_le _ _) (by rw [List.length_range]; exact Nat.le_refl _)
theorem Qn : ∀ D : List Bool, D.count true = ((List.range D.length).filter fun i => D.getD i false).length
 | [] => rfl
 | b :: D => by
   rw [List.length_cons, List.range_succ_eq_map, List.filter_cons, List.filter_map, List.count_cons, Qn D];have e : (List.range D.length).filter ((fun i => (b :: D).getD i false) ∘ Nat.succ) = (List.range D.length).filter fun i => D.getD i false := by
     congr 1
   rw [e];cases b <;> simp
section
variable {P : PS} {R : RS} {s : RSt} {v v' : Nat -> Pag × Nat} {most : Nat}
theorem xI.fl_ (h : xI most v s) : s.free.length <= most := Nat.le_trans (zIe s.kinds.length s.free h.nd fun x hx => (h.free x hx).2) h.hi
theorem xI.first_lt (h : xI most v s) : s.first < s.kinds.length := by
 have h1 := h.lo;unfold RSt.first;cases c : s.free.getLast? with
 | none => simp; omega
 | some x => exact (h.free x (List.mem_of_getLast? c)).2
theorem xI.ok (h : xI most v s) : s.Ok :=
 ⟨by have := h.hi; have := h.m8; omega, h.kr, by have := h.kr; have := h.lo; omega, fun x hx => by have := (h.free x hx).2; have := h.hi; have := h.m8; omega, h.roots, by have := h.fl_; have := h.m8; omega⟩
theorem xI.congr (h : xI most v s) (hv : ∀ i, i < s.kinds.length -> v' i = v i) : xI most v' s := { h with at_ := fun i hi => (hv i hi).trans (h.at_ i hi) }
theorem xI.zero (h : xI most v s) : v 0 = ((1, zJ s.kinds.length s.first s.roots), 0) := by rw [h.at_ 0 h.lo, h.hk, h.hr]
theorem xI.used (h : xI P.most P.view s) : P.used = s.kinds.length := by
 have := h.hi;have := h.m8;unfold PS.used;rw [h.zero];exact qS _ _ _ (by omega)
theorem xI.first (h : xI P.most P.view s) : P.free = s.first := by
 have := h.hi;have := h.m8;have := h.first_lt;unfold PS.free;rw [h.zero];exact zBt _ _ _ (by omega)
theorem xI.root (h : xI P.most P.view s) {i : Nat} (hi : i < 8) : P.root i = s.roots i := by
 unfold PS.root;rw [h.zero];exact zB1 _ _ _ i hi (h.roots i hi)
theorem xI.head (h : xI P.most P.view s) (u f : Nat) : zJ u f P.root = zJ u f s.roots := qP u f _ _ fun i hi => h.root hi
theorem Sim.ok (h : Sim P R) (hk : P.Ok) : R.Ok :=
 ⟨by rw [h.most]; have := hk.most; omega, by rw [h.room]; have := hk.r6; omega, by rw [h.len, h.most], h.sure.ok, h.way.ok, by rw [h.most]; exact h.way.hi⟩
theorem Sim.count (h : Sim P R) (hT : asc P.T) : R.count = P.T.length := by
 have n1 : (P.T.map (·.1)).Nodup := zAz hT;have hp : (P.T.map (·.1)).Perm ((List.range R.dirty.length).filter fun i => R.dirty.getD i false) := by
   rw [List.perm_ext_iff_of_nodup n1 (List.nodup_range.filter _)];intro x;rw [List.mem_filter, List.mem_range];constructor
   · intro hx;obtain ⟨q, hq, rfl⟩ := List.mem_map.1 hx;have hd : R.dirty.getD q.1 false = true := (h.dirty q.1).2 (by rw [zBg hT (show (q.1, q.2) ∈ P.T from hq)]; simp);refine ⟨?_, hd⟩;by_cases c : q.1 < R.dirty.length
     · exact c
     · rw [List.getD_eq_getElem?_getD, List.getElem?_eq_none (by omega)] at hd; cases hd
   · intro ⟨h1, h2⟩;cases hl : lk P.T x with
     | none => exact absurd hl ((h.dirty x).1 h2)
     | some y => exact List.mem_map.2 ⟨(x, y), vU hl, rfl⟩
 unfold RS.count;rw [Qn, <- hp.length_eq, List.length_map]
theorem lk_wh (L : List (Nat × Pag)) (i : Nat) : lk (L.map wh) i = (lk L i).map fun x => (x.1, fl x.2) := by
 induction L with
 | nil => rfl
 | cons q L ih =>
   rw [List.map_cons, yK, yK, ih];by_cases c : q.1 = i
   · rw [if_pos (show (wh q).1 = i from c), if_pos c]; rfl
   · rw [if_neg (show ¬ (wh q).1 = i from c), if_neg c]
theorem zOj {L : List (Nat × Pag)} (h : asc L) : asc (L.map wh) := by
 unfold asc at h ⊢;rw [List.pairwise_map];exact h.imp fun h => h
theorem zK6 (hT : asc P.T) {L : List (Nat × Pag)} (hL : asc L) (i : Nat) : lk (P.put L).T i = match lk L i with | some x => some (x.1, fl x.2) | none => lk P.T i := by
 show lk (yF P.T (L.map wh)) i = _
 rw [Ue hT _ (zOj hL), lk_wh];cases lk L i <;> rfl
theorem jH (hT : asc P.T) {L : List (Nat × Pag)} (hL : asc L) (i : Nat) : (P.put L).view i = match lk L i with | some x => ((x.1, fl x.2), 0) | none => P.view i := by
 unfold PS.view;rw [zK6 hT hL];cases lk L i <;> rfl
theorem Ys (n i : Nat) (x : Pag) : lk [(n, x)] i = if n = i then some x else none := by rw [yK, fH]
theorem zBd (a n i : Nat) (x y : Pag) : lk [(a, x), (n, y)] i = if a = i then some x else if n = i then some y else none := by rw [yK, yK, fH]
theorem zL6 (R : RS) (n : Nat) : R.new [n] = if R.dirty.getD n false then 0 else 1 := by
 unfold RS.new;rw [List.filter_cons];cases R.dirty.getD n false <;> rfl
theorem zLi (R : RS) (n : Nat) : R.new [n, 0] = (if R.dirty.getD n false then 0 else 1) + (if R.dirty.getD 0 false then 0 else 1) := by
 unfold RS.new;rw [List.filter_cons, List.filter_cons];cases R.dirty.getD n false <;> cases R.dirty.getD 0 false <;> rfl
theorem Sim.some_ (h : Sim P R) (n : Nat) : (lk P.T n).isSome = R.dirty.getD n false := by
 have hd := h.dirty n;cases c : R.dirty.getD n false with
 | true =>
   rw [c] at hd;cases hl : lk P.T n with
   | none => exact absurd hl (hd.1 rfl)
   | some y => rfl
 | false =>
   rw [c] at hd;cases hl : lk P.T n with
   | none => rfl
   | some y => rw [hl] at hd; exact absurd (hd.2 (by simp)) (by simp)
theorem Sim.len1 (h : Sim P R) (hT : asc P.T) (n : Nat) (x : Pag) : (P.put [(n, x)]).T.length = R.count + R.new [n] := by
 show (ins n (x.1, fl x.2) P.T).length = _
 rw [mS _ _ _ hT, h.some_ n, h.count hT, zL6];cases R.dirty.getD n false <;> rfl
theorem Sim.len2 (h : Sim P R) (hT : asc P.T) {n : Nat} (hn : n ≠ 0) (x y : Pag) : (P.put [(0, y), (n, x)]).T.length = R.count + R.new [n, 0] := by
 show (ins n (x.1, fl x.2) (ins 0 (y.1, fl y.2) P.T)).length = _
 have e1 : lk (ins 0 (y.1, fl y.2) P.T) n = lk P.T n := by rw [gR _ _ _ _ hT, if_neg (fun e => hn e.symm)]
 rw [mS _ _ _ (qR _ _ hT), e1, h.some_ n, mS _ _ _ hT, h.some_ 0, h.count hT, zLi];cases R.dirty.getD n false <;> cases R.dirty.getD 0 false <;> simp <;> omega
theorem Sim.big1 (h : Sim P R) (hT : asc P.T) (n : Nat) (x : Pag) : R.big [n] = !decide ((P.put [(n, x)]).T.length <= P.room) := by
 unfold RS.big;rw [h.len1 hT n x, h.room];by_cases c : R.count + R.new [n] <= P.room
 · simp [c]
 · simp [c]; omega
theorem Sim.big2 (h : Sim P R) (hT : asc P.T) {n : Nat} (hn : n ≠ 0) (x y : Pag) : R.big [n, 0] = !decide ((P.put [(0, y), (n, x)]).T.length <= P.room) := by
 unfold RS.big;rw [h.len2 hT hn x y, h.room];by_cases c : R.count + R.new [n, 0] <= P.room
 · simp [c]
 · simp [c]; omega
theorem Yh (L : List Nat) : ∀ (D : List Bool) (i : Nat), (∀ x ∈ L, x < D.length) -> ((fC D L).getD i false = true ↔ i ∈ L \/ D.getD i false = true) := by
 induction L with
 | nil => intro D i _; simp [fC]
 | cons x L ih =>
   intro D i h;show (fC (D.set x true) L).getD i false = true ↔ _
   rw [ih _ _ (fun y hy => by rw [List.length_set]; exact h y (by simp [hy])), zY, List.mem_cons];by_cases c : x = i
   · subst c;simp [h x (by simp)]
   · simp [c];constructor
     · rintro (h | h)
       · exact .inl (.inr h)
       · exact .inr h
     · rintro ((h | h) | h)
       · exact absurd h.symm c
       · exact .inl h
       · exact .inr h
theorem Sim.change (h : Sim P R) (hT : asc P.T) {L : List (Nat × Pag)} (hL : asc L) {way' : RSt} {D : List Bool} (hw : xI P.most (P.put L).view way') (hl : D.length = P.most) (hD : ∀ i, D.getD i false = true ↔ (lk L i ≠ none \/ R.dirty.getD i false = true)) : Sim (P.put L) { R with way := way', dirty := D } :=
 { most := h.most, room := h.room, len := hl, way := hw
   sure := h.sure.congr fun _ _ => rfl
   dirty := fun i => by
     show D.getD i false = true ↔ _
     rw [hD i, zK6 hT hL, h.dirty i];cases lk L i <;> simp }
theorem Sim.write (h : Sim P R) (hT : asc P.T) {no k : Nat} {t : ByteArray} (h1 : 1 <= no) (h2 : no < R.way.kinds.length) (hf : R.way.kinds.getD no 0 ≠ 255) : Sim (P.put [(no, (k, t))]) (R.wrS no k t) := by
 have hw := h.way;have hkr := hw.kr;have hhi := hw.hi;refine h.change hT (L := [(no, (k, t))]) (by simp [asc]) ?_ (by rw [List.length_set]; exact h.len) fun i => ?_
 · have nf : no ∉ R.way.free := fun hm => by
     obtain ⟨j, hj⟩ := List.mem_iff_getElem?.1 hm;exact hf (hw.ch j no hj).1
   exact {
     m8 := hw.m8
     kr := by simp; exact hkr
     lo := by simp; exact hw.lo
     hi := by simp; exact hhi
     at_ := fun i hi => by
       simp only [List.length_set] at hi;rw [jH hT (by simp [asc]), Ys, zY, zY, hkr];by_cases c : no = i
       · subst c; simp [h2]
       · simp [c]; exact hw.at_ i hi
     hk := by show (R.way.kinds.set no k).getD 0 0 = 1; rw [zY, if_neg (by omega)]; exact hw.hk
     hr := by
       show (R.way.rooms.set no (fl t)).getD 0 ⟨#[]⟩ = zJ (R.way.kinds.set no k).length R.way.first R.way.roots
       rw [zY, if_neg (by omega), List.length_set]; exact hw.hr
     roots := hw.roots
     free := fun x hx => by rw [List.length_set]; exact hw.free x hx
     nd := hw.nd
     ch := fun j x hx => by
       have hne : no ≠ x := fun e => nf (e ▸ List.mem_iff_getElem?.2 ⟨j, hx⟩)
       show (R.way.kinds.set no k).getD x 0 = 255 /\ (R.way.rooms.set no (fl t)).getD x ⟨#[]⟩ = _
       rw [zY, zY, if_neg (fun e => hne e.1), if_neg (fun e => hne e.1)];exact hw.ch j x hx }
 · show (R.dirty.set no true).getD i false = true ↔ _
   rw [zY, Ys, h.len];by_cases c : no = i
   · subst c;rw [if_pos ⟨rfl, by omega⟩, if_pos rfl];exact ⟨fun _ => .inl (by simp), fun _ => rfl⟩
   · rw [if_neg (fun e => c e.1), if_neg c];exact ⟨.inr, fun h => h.elim (fun h => absurd rfl h) id⟩
theorem Sim.two (h : Sim P R) (hT : asc P.T) {G : RS} {no k u f : Nat} {t : ByteArray} {r : Nat -> Nat} (hno : 1 <= no) (hnm : no < P.most) (hG : G.most = R.most /\ G.room = R.room /\ G.sure = R.sure /\ G.dirty = R.dirty)
   (hu : u = G.way.kinds.length) (hf : f = G.way.first) (hrt : ∀ i, i < 8 -> r i = G.way.roots i) (hlt : no < u) (hum : u <= P.most) (hkr : G.way.rooms.length = G.way.kinds.length) (hk0 : G.way.kinds.getD 0 0 = 1) (hkn : G.way.kinds.getD no 0 = k) (hrn : G.way.rooms.getD no ⟨#[]⟩ = fl t)
   (hat : ∀ i, i < u -> i ≠ 0 -> i ≠ no -> P.view i = ((G.way.kinds.getD i 0, G.way.rooms.getD i ⟨#[]⟩), 0)) (hroots : ∀ i, i < 8 -> G.way.roots i < 18446744073709551616) (hfree : ∀ x ∈ G.way.free, 1 <= x /\ x < u) (hnd : G.way.free.Nodup)
   (hch : ∀ (j x : Nat), G.way.free[j]? = some x -> G.way.kinds.getD x 0 = 255 /\ G.way.rooms.getD x ⟨#[]⟩ = yY (if j = 0 then 0 else G.way.free.getD (j - 1) 0)) :
   Sim (P.put [(0, (1, zJ u f r)), (no, (k, t))]) (G.touch [no, 0]) := by
 have hL : asc [(0, ((1, zJ u f r) : Pag)), (no, (k, t))] := by unfold asc; simp; omega
 have h9 : fl (zJ u f r) = zJ u f r := vL _ (yO u f r);have hm0 := h.way.hi;have hl0 := h.way.lo;obtain ⟨g1, g2, g3, g4⟩ := hG;have key : Sim (P.put [(0, (1, zJ u f r)), (no, (k, t))]) { R with way := (G.touch [no, 0]).way, dirty := (G.touch [no, 0]).dirty } := by
   refine h.change hT hL ?_ (by show (fC G.dirty [no, 0]).length = _; rw [Yn, g4]; exact h.len) fun i => ?_
   · have hl : (G.touch [no, 0]).way.rooms = G.way.rooms.set 0 (zJ G.way.kinds.length G.way.first G.way.roots) := rfl;have hr9 : zJ u f r = zJ G.way.kinds.length G.way.first G.way.roots := by rw [hu, hf]; exact qP _ _ _ _ hrt
     exact {
       m8 := h.way.m8
       kr := by rw [hl, List.length_set]; exact hkr
       lo := by show 1 <= G.way.kinds.length; omega
       hi := by show G.way.kinds.length <= P.most; omega
       at_ := fun i hi => by
         have hi : i < G.way.kinds.length := hi;rw [jH hT hL, zBd, hl, zY];show _ = ((G.way.kinds.getD i 0, _), 0)
         by_cases c0 : (0 : Nat) = i
         · subst c0;rw [if_pos rfl, if_pos ⟨rfl, by omega⟩];simp only;rw [h9, hr9, hk0]
         · rw [if_neg c0, if_neg (show ¬ (0 = i /\ 0 < G.way.rooms.length) from fun e => c0 e.1)];by_cases cn : no = i
           · subst cn;rw [if_pos rfl];simp only;rw [hkn, hrn]
           · rw [if_neg cn];exact hat i (by omega) (fun e => c0 e.symm) fun e => cn e.symm
       hk := hk0
       hr := by
         rw [hl, zY, if_pos ⟨rfl, by omega⟩];rfl
       roots := hroots
       free := fun x hx => by show 1 <= x /\ x < G.way.kinds.length; rw [<- hu]; exact hfree x hx
       nd := hnd
       ch := fun j x hx => by
         have hx : G.way.free[j]? = some x := hx;have h1 := hfree x (List.mem_iff_getElem?.2 ⟨j, hx⟩);rw [hl, zY, if_neg (fun e => by omega)];exact hch j x hx }
   · show (fC G.dirty [no, 0]).getD i false = true ↔ _
     rw [Yh _ _ _ (fun x hx => by
       have hx : x = no \/ x = 0 := by simpa using hx
       rw [g4, h.len];rcases hx with rfl | rfl <;> omega), zBd, g4]
     have hm : i ∈ [no, 0] ↔ (i = no \/ i = 0) := by simp
     rw [hm];by_cases c0 : (0 : Nat) = i
     · rw [if_pos c0];exact ⟨fun _ => .inl (by simp), fun _ => .inl (.inr c0.symm)⟩
     · rw [if_neg c0];by_cases cn : no = i
       · rw [if_pos cn];exact ⟨fun _ => .inl (by simp), fun _ => .inl (.inl cn.symm)⟩
       · rw [if_neg cn];exact ⟨fun h => h.elim (fun h => h.elim (fun e => absurd e.symm cn) fun e => absurd e.symm c0) .inr, fun h => h.elim (fun h => absurd rfl h) .inr⟩
 have e : G.touch [no, 0] = { R with way := (G.touch [no, 0]).way, dirty := (G.touch [no, 0]).dirty } := by
   show (⟨G.most, G.room, G.sure, _, _⟩ : RS) = ⟨R.most, R.room, R.sure, _, _⟩
   rw [g1, g2, g3];rfl
 rw [e];exact key
end
end
end Go.Proofs.YthijgebmoadgkaaGreatDoor
