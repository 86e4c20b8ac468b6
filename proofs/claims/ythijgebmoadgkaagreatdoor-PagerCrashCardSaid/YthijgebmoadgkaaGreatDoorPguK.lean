import Derived.Test.YthijgebmoadgkaaGreatDoorPguJ
set_option linter.unusedVariables false
set_option linter.unusedSimpArgs false
namespace Go.Proofs.YthijgebmoadgkaaGreatDoor
open Go.ChangeShapes Go.WideShapes Go.ChangeAt Go.RowKit
section
section
variable {N : Nat} {s : St}
theorem Sd.size (h : Sd N s) (k : Nat) (hk : k < N) : (vw s k).size = 64 := by
 unfold vw;cases hl : xR s.wr (k : Int) with
 | some x => exact (h.fits x (gY hl).1).2
 | none => exact fX _ _ (by have := h.len; omega)
theorem zAc (h : Sd N s) {at_ q : Nat} (hat : at_ < N) : ∀ o ∈ yM s at_ q, mZ N o := by
 intro o ho;unfold yM at ho;split at ho
 · rename_i h1
   simp only [List.mem_cons, List.not_mem_nil, or_false] at ho;rcases ho with rfl | rfl
   · exact ⟨hat, by rw [fQ (zFz h1)]; exact h.size at_ hat⟩
   · trivial
 · simp at ho
theorem zMs {at_ q k : Nat} (hk : at_ ≠ k) : ∀ o ∈ yM s at_ q, noD k o := by
 intro o ho;unfold yM at ho;split at ho
 · simp only [List.mem_cons, List.not_mem_nil, or_false] at ho;rcases ho with rfl | rfl
   · exact hk
   · trivial
 · simp at ho
structure Ran (N : Nat) (s : St) (x : Int × St) (away : Nat -> Prop) : Prop where
 sd : Sd N x.2
 up : (x.1 = 0 /\ x.2.down = false) \/ (x.1 = 11 /\ x.2.down = true)
 vw : ∀ k, away k -> vw x.2 k = Go.Proofs.YthijgebmoadgkaaGreatDoor.vw s k
theorem Xf (h : Sd N s) (hd : s.down = false) (ops : List Dop) (hf : ∀ o ∈ ops, mZ N o) : Ran N s (zP N ops (0, s)) fun k => ∀ o ∈ ops, noD k o :=
 ⟨Qo N ops s h hf, (gZ N ops s hd hf).1, fun k hk => Zw N k ops s h hf hk⟩
theorem zDw (h : Sd N s) (hd : s.down = false) (at_ q k en : Nat) (hat : at_ < N) (hen : en <= N) : Ran N s (vN N s at_ q k en) fun j => j ≠ at_ /\ j ≠ at_ + k := by
 have h1 := Xf h hd (yM s at_ q) (zAc h hat);rw [gD rfl];obtain ⟨x, hx⟩ : ∃ x, x = zP N (yM s at_ q) (0, s) := ⟨_, rfl⟩
 rw [<- hx] at h1 ⊢;by_cases c : x.1 = 0 /\ at_ + k < en
 · rw [if_pos c];have hdn : x.2.down = false := by
     rcases h1.up with h | h
     · exact h.2
     · omega
   have h2 := Xf h1.sd hdn (yM x.2 (at_ + k) ((q + 1) % 18446744073709551616)) (zAc h1.sd (by omega));refine ⟨h2.sd, h2.up, fun j hj => ?_⟩;rw [h2.vw j (zMs fun e => hj.2 e.symm), h1.vw j (zMs fun e => hj.1 e.symm)]
 · rw [if_neg c];exact ⟨h1.sd, h1.up, fun j hj => h1.vw j (zMs fun e => hj.1 e.symm)⟩
theorem txnNo {base : Nat} {ps : List ByteArray} {seq k : Nat} (hk : k < base \/ base + 9 * ps.length < k) : ∀ o ∈ yB base ps seq, noD k o := by
 intro o ho;unfold yB at ho;rcases List.mem_append.1 ho with ho | ho
 · obtain ⟨j, hj, ho⟩ := List.mem_flatMap.1 ho;have hj := List.mem_range.1 hj;obtain ⟨i, hi, rfl⟩ := List.mem_map.1 ho;have hi := List.mem_range.1 hi;show base + (1 + 9 * j + i) ≠ k
   omega
 · simp at ho;rcases ho with rfl | rfl | rfl
   · trivial
   · show base ≠ k
     omega
   · trivial
theorem zI1 (h : Sd N s) (hd : s.down = false) {l : yH} (hk : l.Ok) (hf : l.failed = false) (hfr : l.from_ = 2) (hN : 2 + l.size <= N) {ps : List ByteArray} (hp : uQ ps = true) (h64 : ps.length <= 64) (hle : 1 + 9 * ps.length <= l.left) :
   Ran N s ((uX N s l ps).1, (uX N s l ps).2.1) (fun j => j < 2 \/ 2 + l.size <= j) /\ (uX N s l ps).2.2.Ok /\ (uX N s l ps).2.2.from_ = l.from_ /\ (uX N s l ps).2.2.size = l.size /\ ((uX N s l ps).1 = 0 -> (uX N s l ps).2.2 = l.plus ps.length) := by
 have hl : l.left = l.size - l.used := by unfold yH.left; rw [hf]; simp
 have hu := hk.used;have hp1 : 1 <= ps.length := by
   have := (of_decide_eq_true hp).1;cases ps with
   | nil => exact absurd rfl this
   | cons a b => simp
 have P1 := zDw h hd (2 + l.used) l.next (1 + 9 * ps.length) (2 + l.size) (by omega) hN;unfold uX;rw [if_pos hle];obtain ⟨x, hx⟩ : ∃ x, x = vN N s (2 + l.used) l.next (1 + 9 * ps.length) (2 + l.size) := ⟨_, rfl⟩
 rw [<- hx] at P1 ⊢;have vfar : ∀ j, j < 2 \/ 2 + l.size <= j -> vw x.2 j = vw s j \/ j = 2 + l.used + (1 + 9 * ps.length) := fun j hj => by
   by_cases c : j = 2 + l.used + (1 + 9 * ps.length)
   · exact .inr c
   · exact .inl (P1.vw j ⟨by omega, c⟩)
 have vfar2 : ∀ j, j < 2 \/ 2 + l.size <= j -> vw x.2 j = vw s j := fun j hj => by
   rcases vfar j hj with e | e
   · exact e
   · have h1 := Xf h hd (yM s (2 + l.used) l.next) (zAc h (by omega));have : 2 + l.used + (1 + 9 * ps.length) = 2 + l.size := by omega
     rw [hx, gD rfl, if_neg (by omega)];exact h1.vw j (zMs (by omega))
 by_cases c : x.1 = 0
 · rw [if_pos c];have hdn : x.2.down = false := by
     rcases P1.up with h | h
     · exact h.2
     · omega
   have hsz : ∀ p ∈ ps, p.size = 512 := (of_decide_eq_true hp).2;have h2 := Xf P1.sd hdn (yB (l.from_ + l.used) ps l.next) (Je N _ ps _ hsz (by omega));have ea : uN N x.2 l ps = if (zP N (yB (l.from_ + l.used) ps l.next) (0, x.2)).1 = 0 then (0, (zP N (yB (l.from_ + l.used) ps l.next) (0, x.2)).2, l.plus ps.length)
       else ((zP N (yB (l.from_ + l.used) ps l.next) (0, x.2)).1, (zP N (yB (l.from_ + l.used) ps l.next) (0, x.2)).2, { l with failed := true }) := by
     unfold uN;rw [if_neg (by rw [hp]; simp), if_neg (by rw [hf]; simp), if_neg (by omega), if_neg (by omega)]
   rw [ea];obtain ⟨y, hy⟩ : ∃ y, y = zP N (yB (l.from_ + l.used) ps l.next) (0, x.2) := ⟨_, rfl⟩
   rw [<- hy] at h2 ⊢;have v2 : ∀ j, j < 2 \/ 2 + l.size <= j -> vw y.2 j = vw s j := fun j hj => by rw [h2.vw j (txnNo (by omega)), vfar2 j hj]
   by_cases c2 : y.1 = 0
   · rw [if_pos c2];refine ⟨⟨h2.sd, ?_, v2⟩, yH.plus_ok hk hf hle, rfl, rfl, fun _ => rfl⟩;rcases h2.up with h | h
     · exact .inl ⟨rfl, h.2⟩
     · omega
   · rw [if_neg c2];exact ⟨⟨h2.sd, h2.up, v2⟩, ⟨hk.fit, hk.used, hk.next⟩, rfl, rfl, fun e => absurd e c2⟩
 · rw [if_neg c];exact ⟨⟨P1.sd, P1.up, vfar2⟩, hk, rfl, rfl, fun e => absurd e c⟩
theorem add_none {l : yH} (hf : l.failed = false) {ps : List ByteArray} (hp : uQ ps = true) (h64 : ps.length <= 64) (hle : ¬ 1 + 9 * ps.length <= l.left) : uX N s l ps = (9, s, l) := by
 unfold uX;rw [if_neg hle];unfold uN;rw [if_neg (by rw [hp]; simp), if_neg (by rw [hf]; simp), if_neg (by omega), if_pos (by omega)]
end
theorem zN2 {N ll most : Nat} {M : List (Nat × Pag)} (hM : Qj most M) (hm : 2 + ll + most * 8 <= N) : ∀ o ∈ xJ ll M, mZ N o := by
 intro o ho;obtain ⟨q, hq, ho⟩ := List.mem_flatMap.1 ho;obtain ⟨i, hi, rfl⟩ := List.mem_map.1 ho;have hi := List.mem_range.1 hi;obtain ⟨h1, h2⟩ := hM.2 q hq;exact ⟨by omega, Pg.secB_size _ _ (vF _ _ _ (by have := h2.size; omega)) hi⟩
theorem zEt {N ll most seq next : Nat} {M : List (Nat × Pag)} (hM : Qj most M) (hm : 2 + ll + most * 8 <= N) (h2 : 2 <= N) : ∀ o ∈ xZ ll M seq next, mZ N o := by
 intro o ho;rw [mR] at ho;rcases List.mem_append.1 ho with ho | ho
 · exact zN2 hM hm o ho
 · simp at ho;rcases ho with rfl | rfl | rfl
   · trivial
   · exact ⟨by omega, vD _ _ (by rw [xL]; omega)⟩
   · trivial
theorem zNd {ll k : Nat} {M : List (Nat × Pag)} (h : ∀ q ∈ M, k < 2 + ll + q.1 * 8 \/ 2 + ll + q.1 * 8 + 8 <= k) : ∀ o ∈ xJ ll M, noD k o := by
 intro o ho;obtain ⟨q, hq, ho⟩ := List.mem_flatMap.1 ho;obtain ⟨i, hi, rfl⟩ := List.mem_map.1 ho;have hi := List.mem_range.1 hi;have := h q hq;show 2 + ll + q.1 * 8 + i ≠ k
 omega
theorem zCg (ll : Nat) {no i : Nat} (hi : i < 8) (v : ByteArray) : ∀ {M : List (Nat × Pag)}, asc M -> (xJ ll M).foldl (vwO (2 + ll + no * 8 + i)) v = match lk M no with | some x => Pg.secB (pgB x.1 no x.2) i | none => v
 | [], _ => rfl
 | q :: M, h => by
   obtain ⟨h1, h2⟩ := xN.1 h;show (vV ll q.1 q.2 ++ xJ ll M).foldl _ v = _
   rw [List.foldl_append, yK];by_cases c : q.1 = no
   · rw [if_pos c];have e1 : (vV ll q.1 q.2).foldl (vwO (2 + ll + no * 8 + i)) v = Pg.secB (pgB q.2.1 no q.2.2) i := by
       unfold vV;rw [c, fZ, if_pos hi]
     rw [e1];exact jQ _ _ _ (zNd fun p hp => by have := h1 p hp; omega)
   · rw [if_neg c];have e1 : (vV ll q.1 q.2).foldl (vwO (2 + ll + no * 8 + i)) v = v := jQ _ _ _ fun o ho => by
       obtain ⟨j, hj, rfl⟩ := List.mem_map.1 ho;have := List.mem_range.1 hj;show 2 + ll + q.1 * 8 + j ≠ 2 + ll + no * 8 + i
       omega
     rw [e1];exact zCg ll hi v h2
theorem zIs (s : ByteArray) (h : s.size = 512) : (⟨((List.range 8).flatMap fun i => (Pg.secB s i).data.toList).toArray⟩ : ByteArray) = s := by
 apply qM
 show ((List.range 8).flatMap fun i => (Pg.secB s i).data.toList) = s.data.toList
 have hl : s.data.toList.length = 512 := h;have key : ∀ n, n <= 8 -> ((List.range n).flatMap fun i => (Pg.secB s i).data.toList) = s.data.toList.take (n * 64) := by
   intro n;induction n with
   | zero => intro _; simp
   | succ n ih =>
     intro hn;rw [List.range_succ, List.flatMap_append, ih (by omega), List.flatMap_singleton];unfold Pg.secB;rw [xE, show (n + 1) * 64 - n * 64 = 64 by omega, show (n + 1) * 64 = n * 64 + 64 by omega, List.take_add]
 rw [key 8 (Nat.le_refl _)];exact List.take_of_length_le (by omega)
theorem jU {s s' : St} {ll no : Nat} (h : ∀ i, i < 8 -> vw s' (2 + ll + no * 8 + i) = vw s (2 + ll + no * 8 + i)) : dpg s' ll no = dpg s ll no := by
 unfold dpg;rw [zGw h]
theorem zJh {s : St} {p : Nat} {G : ByteArray} (hG : G.size = 512) (h : ∀ i, i < 8 -> vw s (p + i) = Pg.secB G i) : dby s p = G := by
 have e : dby s p = ⟨((List.range 8).flatMap fun i => (Pg.secB G i).data.toList).toArray⟩ := by
   unfold dby dbl;have e2 : (List.range 8).map (fun i => (vw s (p + i)).data.toList) = (List.range 8).map fun i => (Pg.secB G i).data.toList := List.map_congr_left fun i hi => by rw [h i (List.mem_range.1 hi)]
   rw [List.flatMap_def, List.flatMap_def, e2]
 rw [e];exact zIs G hG
theorem Xs {s : St} {ll no : Nat} {x : Pag} (hx : xW x) (hno : no <= 2147483647) (h : ∀ i, i < 8 -> vw s (2 + ll + no * 8 + i) = Pg.secB (pgB x.1 no x.2) i) : dpg s ll no = (x, 0) := by
 have hs := hx.size;have e1 : dby s (2 + ll + no * 8) = pgB x.1 no x.2 := zJh (vF _ _ _ (by omega)) h;have hlo := hx.lo;have hhi := hx.hi;have eE := zCa x.1 no x.2 hlo hhi hno (by omega);have eK := zNp x.1 no x.2 hlo hhi hno (by omega);have eN := zNj x.1 no x.2 hlo hhi hno (by omega);have eT := zNn x.1 no x.2 hlo hhi hno (by omega);have uE : Pg.uE (pgB x.1 no x.2) (no : Int) = 0 := by unfold Pg.uE; rw [if_neg (by omega), if_pos (by rw [eN])]
 have ez : x.2 ++ zB (496 - x.2.size) = x.2 := vL x.2 hs;unfold dpg;rw [e1];unfold Pg.uK Pg.uT;rw [uE, if_pos rfl, if_pos rfl, eK, eT, ez]
end
section
structure Kin (P P' : PS) : Prop where
 N : P'.N = P.N
 ll : P'.ll = P.ll
 room : P'.room = P.room
 T : P'.T = P.T
 M : Qj P.most P'.M
 seq : P'.seq <= P.seq + 1
 from_ : P'.l.from_ = P.l.from_
 size : P'.l.size = P.l.size
 log : P'.l.Ok
 base : ∀ no, no < P.most -> P'.base no = P.base no
theorem Kin.most {P P' : PS} (h : Kin P P') : P'.most = P.most := by unfold PS.most; rw [h.N, h.ll]
theorem Kin.ok {P P' : PS} (h : Kin P P') (k : P.Ok) (hs : P.seq + 1 <= 18446744073709551615) : P'.Ok := by
 have hm := h.most;have h1 := k.most;have hb := h.base 0 (by omega);have hv : P'.view 0 = P.view 0 := by unfold PS.view; rw [h.T, hb]
 exact {
   N := by rw [h.N]; exact k.N
   l10 := by rw [h.ll]; exact k.l10
   fit := by rw [h.N, h.ll]; exact k.fit
   M := by rw [hm]; exact h.M
   T := by rw [hm, h.T]; exact k.T
   few := by rw [h.T, h.room]; exact k.few
   r2 := by rw [h.room]; exact k.r2
   r6 := by rw [h.room]; exact k.r6
   seq := by have := h.seq; omega
   from_ := h.from_.trans k.from_
   size := by rw [h.size, h.ll]; exact k.size
   log := h.log
   hd := by rw [hm, hv]; exact k.hd
   hd0 := by rw [hv]; exact k.hd0
   bd := by rw [hm, hb]; exact k.bd
   bd0 := by rw [hb]; exact k.bd0 }
theorem Kin.coh {P P' : PS} (h : Kin P P') {R : List Po.RF} (k : Coh P R) : Coh P' R := by
 refine ⟨fun f hf => ?_, fun q hq => k.all q (h.T ▸ hq)⟩;obtain ⟨no, x, e, hn, hx, hs, hp, ht, hc⟩ := k.good f hf;refine ⟨no, x, e, by rw [h.most]; exact hn, hx, hs, hp, fun hd => by rw [h.T]; exact ht hd, fun hd => ?_⟩;rw [h.T, h.base no hn];exact hc hd
theorem Kin.told {P P' : PS} (h : Kin P P') (e : Int) : Kin P (PS.told e P') := by
 unfold PS.told;split
 · exact { h with base := h.base }
 · exact h
section
variable {P : PS}
theorem PS.Ok.sd (h : P.Ok) {w : World} {d sb mb sc : Nat} {wv : Value} (hD : zI w d sb mb sc wv P.N P.s) : Sd P.N P.s := Sd.of hD.ok
theorem Xp {P P' : PS} (hM : P'.M = P.M) (hll : P'.ll = P.ll) {no : Nat} (h : ∀ i, i < 8 -> vw P'.s (2 + P.ll + no * 8 + i) = vw P.s (2 + P.ll + no * 8 + i)) : P'.base no = P.base no := by
 unfold PS.base;rw [hM, hll, jU h]
def PS.pgs (P : PS) : List ByteArray := P.T.map fun q => pgB q.2.1 q.1 q.2.2
theorem PS.Ok.pgs (h : P.Ok) (h1 : P.T ≠ []) : uQ P.pgs = true := by
 refine decide_eq_true ⟨by unfold PS.pgs; simpa using h1, fun x hx => ?_⟩;obtain ⟨q, hq, rfl⟩ := List.mem_map.1 hx;have := (h.T.2 q hq).2.size;exact vF _ _ _ (by omega)
theorem fK (P : PS) : P.pgs.length = P.T.length := by simp [PS.pgs]
theorem PS.add_kin (h : P.Ok) (hs : Sd P.N P.s) (hd : P.s.down = false) (hf : P.l.failed = false) (ps : List ByteArray) (hp : uQ ps = true) (h64 : ps.length <= 64) (hle : 1 + 9 * ps.length <= P.l.left) :
   Kin P (P.addP ps) /\ (((P.addR ps).1 = 0 /\ (P.addP ps).s.down = false) \/ ((P.addR ps).1 = 11 /\ (P.addP ps).s.down = true)) /\ Sd P.N (P.addP ps).s /\ ((P.addR ps).1 = 0 -> (P.addP ps).l = P.l.plus ps.length) := by
 have hm := h.most;have hsz := h.size;obtain ⟨h1, h2, h3, h4, h5⟩ := zI1 hs hd h.log hf h.from_ (by rw [hsz]; have := h.fit; omega) hp h64 hle;have eR : P.addR ps = uX P.N P.s P.l ps := rfl;have eP : P.addP ps = { P with s := (P.addR ps).2.1, l := (P.addR ps).2.2 } := rfl;rw [eP, eR];obtain ⟨X, hX⟩ : ∃ X, X = uX P.N P.s P.l ps := ⟨_, rfl⟩
 rw [<- hX] at h1 h2 h3 h4 h5 ⊢;clear hX eR eP;refine ⟨⟨rfl, rfl, rfl, rfl, h.M, Nat.le_succ _, h3, h4, h2, fun no hno => Xp (P := P) (P' := { P with s := X.2.1, l := X.2.2 }) (no := no) rfl rfl fun i hi => h1.vw (2 + P.ll + no * 8 + i) (.inr (by rw [hsz]; omega))⟩, h1.up, h1.sd, h5⟩
theorem PS.add_none (hf : P.l.failed = false) {ps : List ByteArray} (hp : uQ ps = true) (h64 : ps.length <= 64) (hle : ¬ 1 + 9 * ps.length <= P.l.left) : (P.addR ps).1 = 9 /\ P.addP ps = P := by
 have e := Go.Proofs.YthijgebmoadgkaaGreatDoor.add_none (N := P.N) (s := P.s) hf hp h64 hle;unfold PS.addP PS.addR;rw [e];exact ⟨rfl, rfl⟩
theorem PS.emp_ran (h : P.Ok) (hs : Sd P.N P.s) (hd : P.s.down = false) : Ran P.N P.s P.empR fun k => ∀ o ∈ xZ P.ll P.M P.seq P.l.next, noD k o :=
 Xf hs hd _ (zEt h.M h.most.2.2 (by have := h.fit; omega))
theorem empNo {ll seq next k : Nat} {M : List (Nat × Pag)} (h2 : 2 <= k) (h : ∀ q ∈ M, k < 2 + ll + q.1 * 8 \/ 2 + ll + q.1 * 8 + 8 <= k) : ∀ o ∈ xZ ll M seq next, noD k o := by
 intro o ho;rw [mR] at ho;rcases List.mem_append.1 ho with ho | ho
 · exact zNd h o ho
 · simp at ho;rcases ho with rfl | rfl | rfl
   · trivial
   · show (seq + 1) % 2 ≠ k
     omega
   · trivial
theorem PS.emp_kin (h : P.Ok) (hs : Sd P.N P.s) (hd : P.s.down = false) (hf : P.l.failed = false) :
   Kin P P.emp /\ ((P.empR.1 = 0 /\ P.emp.s.down = false /\ P.emp.M = [] /\ P.emp.l = { P.l with used := 0 } /\ P.emp.seq = P.seq + 1 /\ P.emp.T = P.T) \/ (P.empR.1 = 11 /\ P.emp.s.down = true)) /\ Sd P.N P.emp.s /\ P.emp.s = P.empR.2 := by
 have hm := h.most;have R := PS.emp_ran h hs hd;have hfit := zEt (seq := P.seq) (next := P.l.next) h.M h.most.2.2 (show 2 <= P.N by have := h.fit; omega);by_cases c : P.empR.1 = 0
 · have e : P.emp = { P with s := P.empR.2, seq := P.seq + 1, M := [], l := { P.l with used := 0 } } := if_pos c;have hdn : P.empR.2.down = false := by
     rcases R.up with k | k
     · exact k.2
     · omega
   rw [e];refine ⟨⟨rfl, rfl, rfl, rfl, ⟨by simp [asc], by simp⟩, Nat.le_refl _, rfl, rfl, ⟨h.log.fit, Nat.zero_le _, h.log.next⟩, fun no hno => ?_⟩, .inl ⟨c, hdn, rfl, rfl, rfl, rfl⟩, R.sd, rfl⟩;have hv : ∀ i, i < 8 -> vw P.empR.2 (2 + P.ll + no * 8 + i) = match lk P.M no with | some x => Pg.secB (pgB x.1 no x.2) i | none => vw P.s (2 + P.ll + no * 8 + i) := fun i hi => by
     have e2 := Uw P.N (2 + P.ll + no * 8 + i) _ P.s hs hfit c;refine e2.trans ?_;rw [mR, List.foldl_append, zCg P.ll hi _ h.M.1];refine jQ _ _ _ fun o ho => ?_
     simp at ho;rcases ho with rfl | rfl | rfl
     · trivial
     · show (P.seq + 1) % 2 ≠ 2 + P.ll + no * 8 + i
       omega
     · trivial
   show dpg P.empR.2 P.ll no = P.base no
   unfold PS.base;cases hl : lk P.M no with
   | some x =>
     rw [hl] at hv;exact Xs (h.M.2 _ (vU hl)).2 (by omega) hv
   | none =>
     rw [hl] at hv;exact jU hv
 · have e : P.emp = { P with s := P.empR.2 } := if_neg c;rw [e];have h11 : P.empR.1 = 11 /\ P.empR.2.down = true := by
     rcases R.up with k | k
     · exact absurd k.1 c
     · exact k
   refine ⟨⟨rfl, rfl, rfl, rfl, h.M, Nat.le_succ _, rfl, rfl, h.log, fun no hno => ?_⟩, .inr h11, R.sd, rfl⟩;unfold PS.base;show (match lk P.M no with | some x => (x, 0) | none => dpg P.empR.2 P.ll no) = _
   cases hl : lk P.M no with
   | some x => rfl
   | none =>
     refine jU fun i hi => R.vw _ (empNo (by omega) fun q hq => ?_)
     have := zBm hl q hq;omega
def PS.entR (P : PS) : Int × PS :=
 if 1 + 9 * P.T.length <= P.l.left then ((P.addR P.pgs).1, P.addP P.pgs)
 else if 1 + 9 * P.T.length <= P.ll then if P.empR.1 = 0 then ((P.emp.addR P.pgs).1, P.emp.addP P.pgs) else (P.empR.1, P.emp)
 else (9, P)
def PS.ent (P : PS) : PS := PS.told P.entR.1 P.entR.2
theorem Kin.trans {P Q R : PS} (h : Kin P Q) (k : Kin Q R) (hs : P.seq + 1 = Q.seq -> R.seq <= Q.seq) (hs2 : Q.seq = P.seq \/ Q.seq = P.seq + 1) : Kin P R :=
 ⟨k.N.trans h.N, k.ll.trans h.ll, k.room.trans h.room, k.T.trans h.T, by rw [<- h.most]; exact k.M, by have := k.seq; rcases hs2 with e | e; omega; have := hs e.symm; omega, k.from_.trans h.from_, k.size.trans h.size, k.log, fun no hno => (k.base no (by rw [h.most]; exact hno)).trans (h.base no hno)⟩
theorem Uk (e : Int) (P : PS) : (PS.told e P).s = P.s /\ (PS.told e P).l = P.l /\ (PS.told e P).M = P.M /\ (PS.told e P).T = P.T /\ (PS.told e P).N = P.N /\ (PS.told e P).seq = P.seq := by
 unfold PS.told; split <;> exact ⟨rfl, rfl, rfl, rfl, rfl, rfl⟩
theorem PS.ent_kin (h : P.Ok) (hs : Sd P.N P.s) (hd : P.s.down = false) (hf : P.l.failed = false) (h1 : P.T ≠ []) (h64 : P.T.length <= 64) (hq : P.seq + 1 <= 18446744073709551615) :
   Kin P P.ent /\ Sd P.N P.ent.s /\ ((P.entR.1 = 0 /\ P.ent.s.down = false) \/ (P.entR.1 = 11 /\ P.ent.s.down = true) \/ (P.entR.1 = 9 /\ P.ent = P /\ ¬ 1 + 9 * P.T.length <= P.ll)) := by
 have hp := h.pgs h1;have hlen := fK P;have key : Kin P P.entR.2 /\ Sd P.N P.entR.2.s /\ ((P.entR.1 = 0 /\ P.entR.2.s.down = false) \/ (P.entR.1 = 11 /\ P.entR.2.s.down = true) \/ (P.entR.1 = 9 /\ P.entR.2 = P /\ ¬ 1 + 9 * P.T.length <= P.ll)) := by
   unfold PS.entR;by_cases c1 : 1 + 9 * P.T.length <= P.l.left
   · rw [if_pos c1];obtain ⟨k1, k2, k3, k4⟩ := PS.add_kin h hs hd hf P.pgs hp (by omega) (by omega);exact ⟨k1, k3, k2.elim .inl fun k => .inr (.inl k)⟩
   · rw [if_neg c1];by_cases c2 : 1 + 9 * P.T.length <= P.ll
     · rw [if_pos c2];obtain ⟨k1, k2, k3, k4⟩ := PS.emp_kin h hs hd hf;by_cases c3 : P.empR.1 = 0
       · rw [if_pos c3];rcases k2 with ⟨-, kd, kM, kl, kq, kT⟩ | k
         · have hE := k1.ok h hq;have hll : P.emp.l.left = P.ll := by
             rw [kl];unfold yH.left;simp only;rw [hf, h.size];simp
           obtain ⟨j1, j2, j3, j4⟩ := PS.add_kin (P := P.emp) hE (by rw [k1.N]; exact k3) kd (by rw [kl]; exact hf) P.pgs hp (by omega) (by omega);exact ⟨k1.trans j1 (fun _ => Nat.le_refl _) (.inr kq), by rw [k1.N] at j3; exact j3, j2.elim .inl fun k => .inr (.inl k)⟩
         · omega
       · rw [if_neg c3];exact ⟨k1, k3, k2.elim (fun k => absurd k.1 c3) fun k => .inr (.inl k)⟩
     · rw [if_neg c2];exact ⟨⟨rfl, rfl, rfl, rfl, h.M, Nat.le_succ _, rfl, rfl, h.log, fun _ _ => rfl⟩, hs, .inr (.inr ⟨rfl, rfl, c2⟩)⟩
 obtain ⟨k1, k2, k3⟩ := key;refine ⟨k1.told _, by unfold PS.ent; rw [(Uk _ _).1]; exact k2, ?_⟩;rcases k3 with k | k | ⟨k, e, c⟩
 · exact .inl ⟨k.1, by unfold PS.ent; rw [(Uk _ _).1]; exact k.2⟩
 · exact .inr (.inl ⟨k.1, by unfold PS.ent; rw [(Uk _ _).1]; exact k.2⟩)
 · refine .inr (.inr ⟨k, ?_, c⟩);unfold PS.ent PS.told;rw [if_neg (by omega), e]
end
end
end Go.Proofs.YthijgebmoadgkaaGreatDoor
