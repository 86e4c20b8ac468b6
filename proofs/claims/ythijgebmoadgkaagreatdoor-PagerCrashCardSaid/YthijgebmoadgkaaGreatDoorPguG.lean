import Derived.Test.YthijgebmoadgkaaGreatDoorMapM
import Derived.Test.YthijgebmoadgkaaGreatDoorPgrN
import Derived.Test.YthijgebmoadgkaaGreatDoorPooG
set_option linter.unusedVariables false
set_option linter.unusedSimpArgs false
namespace Go.Proofs.YthijgebmoadgkaaGreatDoor
open Go.ChangeShapes Go.WideShapes Go.ChangeAt Go.RowKit
section
section
variable {P : Program} {w : World} {t e : TypeId} {k : IntKind} {l : List (Int × Value)} {b : Nat} {kt : TypeId}
theorem zW.look2 (h : zW w b k l) (ht : P.underlying t = some (.map kt e)) (hk : P.underlying kt = some (.int k)) {z : Value} (hz : (zeroValue e).run P w = .ok z w) {i : Int} {v : Value} (hp : (i, v) ∈ l) :
   (Instr.lookup t (.map (some b)) (.int k i) true).run P w = .ok (.tuple #[v, .bool true]) w := by
 obtain ⟨es, ck, j, e0, hb, E, h1, h2, h3, h4⟩ := h.find_some hp;simp [Instr.lookup, run_underlying ht, MapKept.run_getObj_map hb, yQ hk, Instr.findKey, run_underlying hk, h4, hz, Result.andThen]
theorem zW.miss2 (h : zW w b k l) (ht : P.underlying t = some (.map kt e)) (hk : P.underlying kt = some (.int k)) {z : Value} (hz : (zeroValue e).run P w = .ok z w) {i : Int} (hp : ∀ v, (i, v) ∉ l) :
   (Instr.lookup t (.map (some b)) (.int k i) true).run P w = .ok (.tuple #[z, .bool false]) w := by
 obtain ⟨es, ck, hb, E, h4⟩ := h.find_none hp;simp [Instr.lookup, run_underlying ht, MapKept.run_getObj_map hb, yQ hk, Instr.findKey, run_underlying hk, h4, hz, Result.andThen]
theorem zCo {α : Type} : ∀ (L : List α) (j : Nat) (e e' : α), L[j]? = some e -> (L.set j e').Perm (e' :: L.eraseIdx j)
 | [], j, e, e', h => by simp at h
 | x :: L, 0, e, e', h => by simp
 | x :: L, j + 1, e, e', h => by
   have ih := zCo L j e e' (by simpa using h);rw [List.set_cons_succ, List.eraseIdx_cons_succ];exact (ih.cons x).trans (List.Perm.swap e' x _)
theorem zW.up (h : zW w b k l) (ht : P.underlying t = some (.map kt e)) (hk : P.underlying kt = some (.int k)) (i : Int) (v : Value) :
   ∃ w', (Instr.mapUpdate t (.map (some b)) (.int k i) v).run P w = .ok () w' /\ zW w' b k ((i, v) :: l.filter fun p => p.1 != i) /\ Chg (· = b) w w' /\ w'.heap.size = w.heap.size := by
 by_cases hp : ∀ u, (i, u) ∉ l
 · obtain ⟨w', h1, h2, h3, h4⟩ := h.put ht hk v hp;refine ⟨w', h1, ?_, h3, h4⟩;rw [gE hp];exact h2.perm (List.perm_append_singleton _ _)
 · obtain ⟨u, hu⟩ : ∃ u, (i, u) ∈ l := by simpa using hp
   have hlt := h.in_;obtain ⟨es, ck, j, e0, hb, E, h1, h2, h3, h4⟩ := h.find_some hu;have hst : (Instr.keyThatStays (.int k i) (.int k i)).run P w = .ok (.int k i) w := by
     have : Instr.sameBits 10000 (.int k i) (.int k i) = true := by unfold Instr.sameBits; simp
     simp [Instr.keyThatStays, this]
   have h5 : es.toList[j]? = some e0 := by simpa using h1
   have hlist : (es.modify j (fun e' => { e' with key := .int k i, val := v })).toList = es.toList.set j { e0 with key := .int k i, val := v } := by
     rw [Array.toList_modify];refine List.ext_getElem? fun n => ?_
     rw [List.getElem?_modify, List.getElem?_set];by_cases e : j = n
     · subst e;have := (List.getElem?_eq_some_iff.1 h5).1;simp only [h5, if_true, this];rfl
     · simp [e]
   refine ⟨{ w with heap := w.heap.setIfInBounds b (.map (es.modify j fun e' => { e' with key := .int k i, val := v }) ck) }, by simp [Instr.mapUpdate, run_underlying ht, MapKept.run_getObj_map hb, yQ hk, Instr.findKey, run_underlying hk, h4, h1, h2, hst, MapKept.run_setObj_map _ hb, Result.andThen], ⟨_, _, (jD hlt _).2, ⟨?_, ?_, ?_, ?_⟩⟩, (jD hlt _).1, by simp⟩
   · rw [hlist];refine ((zCo es.toList j e0 _ h5).map kv).trans ?_;rw [List.map_cons, List.map_cons];exact (zCd kv E.perm E.nodup h5 h2).cons _
   · rw [List.map_cons, List.nodup_cons];refine ⟨fun hm => ?_, ((List.filter_sublist (l := l) (p := fun p => p.1 != i)).map fun p => p.1).nodup E.nodup⟩;obtain ⟨q, hq, e⟩ := List.mem_map.1 hm;have := (List.mem_filter.1 hq).2;simp at this;exact this e
   · intro x hx;rw [hlist] at hx;rcases List.mem_or_eq_of_mem_set hx with hx | rfl
     · exact E.born x hx
     · exact E.born e0 (List.mem_of_getElem? h5)
   · rw [hlist];have hm : (es.toList.set j { e0 with key := .int k i, val := v }).map (·.born) = es.toList.map (·.born) := by
       rw [List.map_set];have h6 : (es.toList.map (·.born))[j]? = some e0.born := by simp [h1]
       refine List.ext_getElem? fun n => ?_
       rw [List.getElem?_set];by_cases e : j = n
       · subst e;rw [h6];have := (List.getElem?_eq_some_iff.1 h6).1;simp only [if_true, this]
       · simp [e]
     rw [hm];exact E.once
theorem zW.clr (h : zW w b k l) (ty : TypeId) (ht : P.underlying t = some (.map kt e)) :
   ∃ w', (Builtin.clear_ #[t] ty #[.map (some b)]).run P w = .ok (.tuple #[]) w' /\ zW w' b k [] /\ Chg (· = b) w w' /\ w'.heap.size = w.heap.size := by
 have hlt := h.in_;obtain ⟨es, ck, hb, E⟩ := h;exact ⟨{ w with heap := w.heap.setIfInBounds b (.map #[] ck) }, by simp [Builtin.clear_, run_underlying ht, MapKept.run_getObj_map hb, MapKept.run_setObj_map _ hb, Result.andThen], ⟨#[], ck, (jD hlt _).2, ⟨by simp, by simp, by simp, by simp⟩⟩, (jD hlt _).1, by simp⟩
end
end
section
structure PS where
 N : Nat
 ll : Nat
 seq : Nat
 room : Nat
 s : St
 l : yH
 M : List (Nat × Pag)
 T : List (Nat × Pag)
 failed : Bool
def PS.most (P : PS) : Nat := (P.N - 2 - P.ll) / 8
def dpg (s : St) (ll no : Nat) : Pag × Nat := ((Pg.uK (dby s (2 + ll + no * 8)) no, Pg.uT (dby s (2 + ll + no * 8)) no), Pg.uE (dby s (2 + ll + no * 8)) no)
def PS.base (P : PS) (no : Nat) : Pag × Nat := match lk P.M no with
 | some x => (x, 0)
 | none => dpg P.s P.ll no
def PS.view (P : PS) (no : Nat) : Pag × Nat := match lk P.T no with
 | some x => (x, 0)
 | none => P.base no
def Qj (most : Nat) (L : List (Nat × Pag)) : Prop := asc L /\ ∀ p ∈ L, p.1 < most /\ xW p.2
structure PS.Ok (P : PS) : Prop where
 N : P.N <= 65536
 l10 : 10 <= P.ll
 fit : P.ll + 10 <= P.N
 M : Qj P.most P.M
 T : Qj P.most P.T
 few : P.T.length <= P.room
 r2 : 2 <= P.room
 r6 : P.room <= 65536
 seq : P.seq <= 18446744073709551615
 from_ : P.l.from_ = 2
 size : P.l.size = P.ll
 log : P.l.Ok
 hd : Jq P.most (P.view 0).1
 hd0 : (P.view 0).2 = 0
 bd : Jq P.most (P.base 0).1
 bd0 : (P.base 0).2 = 0
theorem PS.Ok.most {P : PS} (h : P.Ok) : 1 <= P.most /\ P.most <= 8191 /\ 2 + P.ll + P.most * 8 <= P.N := by
 have := h.N; have := h.fit; have := h.l10;unfold PS.most;omega
theorem zAk {P : PS} (h : P.Ok) {no : Nat} (h0 : (P.view no).2 = 0) : xW (P.view no).1 := by
 unfold PS.view at h0 ⊢;cases hT : lk P.T no with
 | some x => exact (h.T.2 _ (vU hT)).2
 | none =>
   rw [hT] at h0;simp only at h0 ⊢;unfold PS.base at h0 ⊢;cases hM : lk P.M no with
   | some x => exact (h.M.2 _ (vU hM)).2
   | none =>
     rw [hM] at h0;simp only [dpg] at h0 ⊢;unfold Pg.uK Pg.uT;rw [if_pos h0, if_pos h0];unfold Pg.uE at h0;have hE : hE (dby P.s (2 + P.ll + no * 8)) = 0 := by
       by_cases c : hE (dby P.s (2 + P.ll + no * 8)) = 0
       · exact c
       · rw [if_pos c] at h0; exact absurd h0 c
     refine ⟨?_, zF9 _, Xc _ hE⟩;show 1 <= hK _
     unfold hK;rw [if_pos hE];unfold Go.Proofs.YthijgebmoadgkaaGreatDoor.hE at hE;by_cases c1 : (dby P.s (2 + P.ll + no * 8)).size ≠ 512
     · rw [if_pos c1] at hE; cases hE
     · rw [if_neg c1] at hE;split at hE
       · cases hE
       · split at hE
         · cases hE
         · rename_i c2; omega
def uD (p : Nat × Pag) : Int × Value := ((p.1 : Int), shV p.1 p.2)
def PS.cells (P : PS) (d lg lm pl : Nat) : Array Value := #[.pointer (some ⟨d, 0, none⟩), .int .i64 (P.ll : Int), .int .u64 (P.seq : Int), .pointer (some ⟨lg, 0, none⟩), .map (some lm), .int .i64 (P.room : Int), .pointer (some ⟨pl, 0, none⟩), .bool P.failed]
structure Coh (P : PS) (R : List Po.RF) : Prop where
 good : ∀ f ∈ R, ∃ no x, f.no = (no : Nat) /\ no < P.most /\ xW x /\ f.s = fr x /\ f.pins = 0 /\ (f.dirty = true -> lk P.T no = some x) /\ (f.dirty = false -> lk P.T no = none /\ P.base no = (x, 0))
 all : ∀ p ∈ P.T, ∃ f ∈ R, f.no = (p.1 : Nat) /\ f.dirty = true
def FT (w : World) (B S q : Nat) : Prop := B <= q /\ ((∃ es ck, w.heap[q]? = some (.map es ck)) \/ q = S \/
 ∃ cs T fz, w.heap[q]? = some (.cells cs T fz) /\ (T = 167 \/ T = 271 \/ T = 246 \/ T = 150 \/ T = 255 \/ T = 269))
theorem FT.congr {w w' : World} {B S q : Nat} (e : w'.heap[q]? = w.heap[q]?) (h : FT w' B S q) : FT w B S q := by
 obtain ⟨hB, h⟩ := h;refine ⟨hB, ?_⟩;rw [e] at h;exact h
theorem Yf {a b c : World} {B S : Nat} (h : Chg (FT a B S) a b) (k : Chg (FT b B S) b c) : Chg (FT a B S) a c := h.trans k fun q hq hf => by
 by_cases c : FT a B S q
 · exact c
 · exact hf.congr (h.block q hq c)
theorem zC3 {w : World} {B Bp S q : Nat} (hB : B <= Bp) (h : Po.PT w Bp q) : FT w B S q := by
 obtain ⟨h1, h2⟩ := h;refine ⟨by omega, ?_⟩;rcases h2 with h | ⟨cs, h⟩ | ⟨cs, h⟩
 · exact .inl h
 · exact .inr (.inr ⟨cs, _, _, h, .inr (.inr (.inr (.inr (.inl rfl))))⟩)
 · exact .inr (.inr ⟨cs, _, _, h, .inr (.inr (.inr (.inr (.inr rfl))))⟩)
theorem ft_fp {w : World} {B d sb mb sc : Nat} {wv : Value} {N : Nat} {s : St} (hD : zI w d sb mb sc wv N s) (h1 : B <= d) (h2 : B <= sb) (h3 : B <= mb) (h4 : ∀ g, wv.ownBlock = some g -> B <= g) {q : Nat} (hq : fp d sb mb wv q) : FT w B sb q := by
 rcases hq with e | e | e | e
 · subst e; exact ⟨h1, .inr (.inr ⟨_, _, _, hD.own, .inl rfl⟩)⟩
 · subst e;exact ⟨h2, .inr (.inl rfl)⟩
 · subst e;obtain ⟨es, ck, hb, _⟩ := hD.map;exact ⟨h3, .inl ⟨es, ck, hb⟩⟩
 · refine ⟨h4 q e, .inr (.inr ?_)⟩;rcases hD.wrs.2 with ⟨h6, _⟩ | ⟨g6, c6, u6, h6, _, h7, _⟩
   · rw [h6] at e; cases e
   · rw [h6] at e;injection e with e;have e : g6 = q := e;subst e;exact ⟨_, _, _, h7, .inr (.inl rfl)⟩
def uI (w : World) (d S : Nat) : Prop := ∃ n c, w.cell? ⟨d, 0, none⟩ = some (.slice (some ⟨S, 0, none⟩) n c)
theorem uI.inj {w : World} {d S S' : Nat} (h : uI w d S) (k : uI w d S') : S = S' := by
 obtain ⟨n, c, h⟩ := h;obtain ⟨n', c', k⟩ := k;rw [h] at k;injection k with k;injection k with k _ _;injection k with k;injection k
theorem zI.sureB {w : World} {d sb mb sc N : Nat} {wv : Value} {s : St} (h : zI w d sb mb sc wv N s) : uI w d sb := ⟨_, _, h.own.at_.1 0⟩
def qY (w : World) (B d N : Nat) (s : St) : Prop := ∃ sb mb sc wv, zI w d sb mb sc wv N s /\ B <= d /\ B <= sb /\ B <= mb /\ ∀ g, wv.ownBlock = some g -> B <= g
theorem qY.below {w w' : World} {B d N : Nat} {s : St} (h : qY w B d N s) (hb : Below w.heap.size w w') : qY w' B d N s := by
 obtain ⟨sb, mb, sc, wv, h1, h2⟩ := h;exact ⟨sb, mb, sc, wv, h1.below hb, h2⟩
structure Pgr (w : World) (B Bp d p c sb mb sc : Nat) (wv : Value) (lg lm pl : Nat) (R : List Po.RF) (P : PS) : Prop where
 disk : zI w d sb mb sc wv P.N P.s
 log : yA w lg d P.l
 own : Own w p 150 (P.cells d lg lm pl)
 map : zW w lm .i64 (P.M.map uD)
 pool : Po.PoolAt w Bp pl P.room c R
 coh : Coh P R
 ok : P.Ok
 b1 : B <= d
 b2 : B <= sb
 b3 : B <= mb
 b4 : ∀ g, wv.ownBlock = some g -> B <= g
 b5 : B <= lg
 b6 : B <= lm
 b7 : B <= p
 b8 : B <= Bp
 a1 : sb < Bp
 a2 : mb < Bp
 a3 : lm < Bp
 a4 : lm ≠ mb
def zF (w : World) (B Bp d p c : Nat) (P : PS) : Prop := ∃ sb mb sc wv lg lm pl R, Pgr w B Bp d p c sb mb sc wv lg lm pl R P
section
variable {w w' : World} {B Bp d p c sb mb sc lg lm pl : Nat} {wv : Value} {R : List Po.RF} {P : PS}
theorem Pgr.not_pt (h : Pgr w B Bp d p c sb mb sc wv lg lm pl R P) {q : Nat} (hq : q = lg \/ q = p \/ q = lm \/ fp d sb mb wv q) : ¬ Po.PT w Bp q := fun k => by
 have key : ∀ {T : TypeId} {cs : Array Value}, w.heap[q]? = some (.cells cs T (0, 0)) -> T ≠ 255 -> T ≠ 269 -> False := fun ho h1 h2 => by
   rcases k.2 with ⟨es, ck, h⟩ | ⟨cs', h⟩ | ⟨cs', h⟩
   · rw [ho] at h; cases h
   · unfold Own at h;rw [ho] at h;injection h with h;injection h with e1 e2;exact h1 e2
   · unfold Own at h;rw [ho] at h;injection h with h;injection h with e1 e2;exact h2 e2
 rcases hq with e | e | e | e | e | e | e
 · subst e; exact key h.log (by decide) (by decide)
 · subst e; exact key h.own (by decide) (by decide)
 · subst e; have := h.a3; have := k.1; omega
 · subst e; exact key h.disk.own (by decide) (by decide)
 · subst e; have := h.a1; have := k.1; omega
 · subst e; have := h.a2; have := k.1; omega
 · rcases h.disk.wrs.2 with ⟨h6, _⟩ | ⟨g6, c6, u6, h6, _, h7, _⟩
   · rw [h6] at e; cases e
   · rw [h6] at e;injection e with e;have e : g6 = q := e;subst e;exact key h7 (by decide) (by decide)
theorem Pgr.pooled (h : Pgr w B Bp d p c sb mb sc wv lg lm pl R P) {c' : Nat} {R' : List Po.RF} (hc : Chg (Po.PT w Bp) w w') (hp : Po.PoolAt w' Bp pl P.room c' R') (hR : Coh P R') : Pgr w' B Bp d p c' sb mb sc wv lg lm pl R' P :=
 { h with
   disk := h.disk.keep hc fun q hq => h.not_pt (.inr (.inr (.inr hq)))
   log := hc.own h.log (h.not_pt (.inl rfl))
   own := hc.own h.own (h.not_pt (.inr (.inl rfl)))
   map := h.map.keep (hc.block lm h.map.in_ (h.not_pt (.inr (.inr (.inl rfl)))))
   pool := hp
   coh := hR }
theorem Pgr.below (h : Pgr w B Bp d p c sb mb sc wv lg lm pl R P) (hb : Below w.heap.size w w') : Pgr w' B Bp d p c sb mb sc wv lg lm pl R P :=
 { h with disk := h.disk.below hb, log := Own.keep h.log hb, own := h.own.keep hb, map := h.map.keep (hb.block lm h.map.in_), pool := h.pool.below hb }
theorem Pgr.more (h : Pgr w B Bp d p c sb mb sc wv lg lm pl R P) {c' : Nat} (hc : c <= c') : Pgr w B Bp d p c' sb mb sc wv lg lm pl R P := { h with pool := h.pool.more hc }
theorem zF.sure_ask (h : zF w B Bp d p c P) (hc : Chg (Po.PT w Bp) w w') {S : Nat} (hS : uI w d S) : uI w' d S := by
 obtain ⟨sb, mb, sc, wv, lg, lm, pl, R, h⟩ := h;obtain ⟨n, c, hS⟩ := hS;exact ⟨n, c, hc.cell hS (h.not_pt (.inr (.inr (.inr (.inl rfl)))))⟩
theorem zF.sureB (h : zF w B Bp d p c P) : ∃ S, uI w d S /\ S < w.heap.size := by
 obtain ⟨sb, mb, sc, wv, lg, lm, pl, R, h⟩ := h;have := h.a1;have := h.pool.base;exact ⟨sb, h.disk.sureB, by omega⟩
theorem zF.below (h : zF w B Bp d p c P) (hb : Below w.heap.size w w') : zF w' B Bp d p c P := by
 obtain ⟨sb, mb, sc, wv, lg, lm, pl, R, h⟩ := h;exact ⟨sb, mb, sc, wv, lg, lm, pl, R, h.below hb⟩
theorem zF.more (h : zF w B Bp d p c P) {c' : Nat} (hc : c <= c') : zF w B Bp d p c' P := by
 obtain ⟨sb, mb, sc, wv, lg, lm, pl, R, h⟩ := h;exact ⟨sb, mb, sc, wv, lg, lm, pl, R, h.more hc⟩
theorem zF.ok (h : zF w B Bp d p c P) : P.Ok := by
 obtain ⟨sb, mb, sc, wv, lg, lm, pl, R, h⟩ := h;exact h.ok
theorem zF.base (h : zF w B Bp d p c P) : Bp <= w.heap.size /\ B <= Bp /\ p < w.heap.size := by
 obtain ⟨sb, mb, sc, wv, lg, lm, pl, R, h⟩ := h;exact ⟨h.pool.base, h.b8, h.own.in_⟩
theorem zF.disk (h : zF w B Bp d p c P) : qY w B d P.N P.s := by
 obtain ⟨sb, mb, sc, wv, lg, lm, pl, R, h⟩ := h;exact ⟨sb, mb, sc, wv, h.disk, h.b1, h.b2, h.b3, h.b4⟩
end
end
section
theorem zDo {w w' : World} {B q : Nat} (e : w'.heap[q]? = w.heap[q]?) (h : Po.PT w' B q) : Po.PT w B q := by
 obtain ⟨hB, h⟩ := h;refine ⟨hB, ?_⟩;unfold Own at h ⊢;rw [e] at h;exact h
theorem yU {a b c : World} {B : Nat} (h : Chg (Po.PT a B) a b) (k : Chg (Po.PT b B) b c) : Chg (Po.PT a B) a c := h.trans k fun q hq hf => by
 by_cases c : Po.PT a B q
 · exact c
 · exact zDo (h.block q hq c) hf
theorem xD {a b c : World} {B : Nat} (h : Chg (Po.PT a B) a b) (k : Below b.heap.size b c) : Chg (Po.PT a B) a c := yU h (Chg.of k)
theorem yZ {w w' : World} {B q : Nat} {T : TypeId} {cs : Array Value} (hc : Chg (Po.PT w B) w w') (ho : Own w q T cs) (h1 : T ≠ 255) (h2 : T ≠ 269) : Own w' q T cs := by
 refine (hc.block q ho.in_ fun h => ?_).trans ho;obtain ⟨-, h⟩ := h;unfold Own at ho h;rw [ho] at h;rcases h with ⟨es, ck, h⟩ | ⟨cs', h⟩ | ⟨cs', h⟩
 · cases h
 · injection h with h; injection h with e1 e2; exact h1 e2
 · injection h with h; injection h with e1 e2; exact h2 e2
theorem Coh.perm {P : PS} {R R' : List Po.RF} (h : Coh P R) (hp : R.Perm R') : Coh P R' :=
 ⟨fun f hf => h.good f (hp.mem_iff.2 hf), fun p hp' => by obtain ⟨f, hf, r⟩ := h.all p hp'; exact ⟨f, hp.mem_iff.1 hf, r⟩⟩
theorem Uh {R : List Po.RF} {n c : Nat} (h : Po.OkR R n c) (no : Int) : R.Perm (Po.getR R no).2 := by
 unfold Po.getR;cases hl : Po.look R no with
 | none => exact List.Perm.refl _
 | some f =>
   obtain ⟨h1, S, T, rfl⟩ := Po.look_some hl;show (S ++ f :: T).Perm (Po.del (S ++ f :: T) no ++ [f])
   rw [<- h1, Po.del_at h.nos];exact Po.perm_end
theorem Coh.look {P : PS} {R : List Po.RF} (h : Coh P R) {no : Nat} {f : Po.RF} (hl : Po.look R (no : Int) = some f) : ∃ x, xW x /\ f.s = fr x /\ P.view no = (x, 0) := by
 obtain ⟨h1, S, T, rfl⟩ := Po.look_some hl;obtain ⟨n, x, e, hn, hx, hs, hp, ht, hf⟩ := h.good f (by simp);obtain rfl : n = no := by rw [h1] at e; omega
 refine ⟨x, hx, hs, ?_⟩;unfold PS.view;cases hd : f.dirty with
 | true => rw [ht hd]
 | false => obtain ⟨e1, e2⟩ := hf hd; rw [e1, e2]
theorem Coh.miss {P : PS} {R : List Po.RF} (h : Coh P R) {no : Nat} (hl : Po.look R (no : Int) = none) : lk P.T no = none := by
 cases ht : lk P.T no with
 | none => rfl
 | some x =>
   obtain ⟨f, hf, e, _⟩ := h.all _ (vU ht);exact absurd (List.mem_map.2 ⟨f, hf, e⟩) (Po.look_none hl)
theorem Coh.put {P : PS} {R : List Po.RF} (h : Coh P R) {n : Nat} {no : Nat} {x : Pag} (hno : no < P.most) (hx : xW x) (hT : lk P.T no = none) (hb : P.base no = (x, 0)) : Coh P (Po.putR R n (no : Int) (fr x)).2 := by
 unfold Po.putR;cases hl : Po.look R (no : Int) with
 | some f => exact h
 | none =>
   unfold Po.addR;have add : ∀ R', Coh P R' -> Coh P (R' ++ [⟨(no : Int), fr x, false, 0⟩]) := fun R' h' => ⟨fun f hf => by
     rcases List.mem_append.1 hf with hf | hf
     · exact h'.good f hf
     · simp at hf;subst hf;exact ⟨no, x, rfl, hno, hx, rfl, rfl, fun e => (by cases e), fun _ => ⟨hT, hb⟩⟩, fun p hp => by
     obtain ⟨f, hf, r⟩ := h'.all p hp;exact ⟨f, by simp [hf], r⟩⟩
   cases hr : Po.roomR R n with
   | none => exact h
   | some R' =>
     refine add R' ?_;unfold Po.roomR at hr;split at hr
     · injection hr with hr; subst hr; exact h
     · cases hv : Po.victim R with
       | none => rw [hv] at hr; cases hr
       | some v =>
         rw [hv] at hr;injection hr with hr;subst hr;obtain ⟨hfr, -⟩ := Po.victim_some hv;refine ⟨fun f hf => h.good f (List.mem_filter.1 hf).1, fun p hp => ?_⟩;obtain ⟨f, hf, e, hd⟩ := h.all p hp;refine ⟨f, List.mem_filter.2 ⟨hf, ?_⟩, e, hd⟩;have hvm : v ∈ R := by obtain ⟨S, T, e, _⟩ := (Po.victim_some hv).2; rw [e]; simp
         obtain ⟨n1, x1, e1, -, -, -, -, -, hvd⟩ := h.good v hvm;have hv0 : v.dirty = false := by
           unfold Po.free at hfr;cases hd' : v.dirty with
           | false => rfl
           | true => rw [hd'] at hfr; cases hfr
         have hn := (hvd hv0).1;have : f.no ≠ v.no := fun ee => by
           rw [e, e1] at ee;have : p.1 = n1 := by omega
           rw [<- this] at hn;exact zBm hn p hp rfl
         simpa using this
end
section
def Zg (most : Nat) (M : Option (List (Nat × Pag))) (b : ByteArray) : Option (List (Nat × Pag)) := match M with
 | none => none
 | some M => if hE b = 0 /\ hN b < most then some (ins (hN b) (hK b, hT b) M) else none
def fD (most : Nat) (ps : List ByteArray) (M : Option (List (Nat × Pag))) : Option (List (Nat × Pag)) := ps.foldl (Zg most) M
def Zi (most : Nat) (ts : List (Nat × List ByteArray)) : Option (List (Nat × Pag)) := fD most (ts.flatMap (·.2)) (some [])
theorem mG (most : Nat) : ∀ ps, fD most ps none = none
 | [] => rfl
 | p :: ps => mG most ps
theorem jZ (most : Nat) (a b : List ByteArray) (M : Option (List (Nat × Pag))) : fD most (a ++ b) M = fD most b (fD most a M) := by simp [fD]
theorem Ui (most : Nat) : ∀ (ps : List ByteArray) (M M' : List (Nat × Pag)), Qj most M -> fD most ps (some M) = some M' -> Qj most M'
 | [], M, M', h, e => by injection e with e; subst e; exact h
 | b :: ps, M, M', h, e => by
   have e : fD most ps (Zg most (some M) b) = some M' := e;unfold Zg at e;simp only at e;by_cases c : hE b = 0 /\ hN b < most
   · rw [if_pos c] at e;refine Ui most ps _ _ ⟨qR _ _ h.1, fun p hp => ?_⟩ e;rcases Qi hp with rfl | hp
     · refine ⟨c.2, ?_, zF9 _, Xc _ c.1⟩;show 1 <= hK b
       have hE := c.1;unfold hK;rw [if_pos hE];unfold Go.Proofs.YthijgebmoadgkaaGreatDoor.hE at hE;by_cases c1 : b.size ≠ 512
       · rw [if_pos c1] at hE; cases hE
       · rw [if_neg c1] at hE;split at hE
         · cases hE
         · split at hE
           · cases hE
           · rename_i c2; omega
     · exact h.2 p hp
   · rw [if_neg c, mG] at e; cases e
theorem zCw (n : Nat) (v : Pag) : ∀ {l : List (Nat × Pag)}, asc l -> (ins n v l).Perm ((n, v) :: l.filter fun p => p.1 != n)
 | [], _ => List.Perm.refl _
 | x :: l, h => by
   obtain ⟨h1, h2⟩ := xN.1 h;unfold ins;by_cases c1 : n < x.1
   · rw [if_pos c1];have e : (x :: l).filter (fun p => p.1 != n) = x :: l := by
       rw [List.filter_eq_self];intro y hy;rcases List.mem_cons.1 hy with rfl | hy
       · simp; omega
       · have := h1 y hy; simp; omega
     rw [e]
   · rw [if_neg c1];by_cases c2 : n = x.1
     · rw [if_pos c2];have e : (x :: l).filter (fun p => p.1 != n) = l := by
         rw [List.filter_cons, if_neg (by simp [c2]), List.filter_eq_self];intro y hy;have := h1 y hy; simp; omega
       rw [e]
     · rw [if_neg c2, List.filter_cons, if_pos (by simp; omega)];exact ((zCw n v h2).cons x).trans (List.Perm.swap _ _ _)
theorem zLz (n : Nat) (v : Pag) {l : List (Nat × Pag)} (h : asc l) : (((n : Int), shV n v) :: (l.map uD).filter fun p => p.1 != (n : Int)).Perm ((ins n v l).map uD) := by
 refine List.Perm.trans ?_ ((zCw n v h).map uD).symm;rw [List.map_cons, List.filter_map];refine List.Perm.cons _ ?_;have e : (l.filter ((fun p : Int × Value => p.1 != (n : Int)) ∘ uD)) = l.filter fun p => p.1 != n := by
   congr 1
   funext p
   show ((p.1 : Int) != (n : Int)) = (p.1 != n)
   by_cases c : p.1 = n
   · rw [c]; simp
   · have h1 : (p.1 : Int) ≠ (n : Int) := by omega
     rw [bne_iff_ne.2 h1, bne_iff_ne.2 c]
 rw [e]
theorem zW.insM {w : World} {b : Nat} {M : List (Nat × Pag)} (h : zW w b .i64 (M.map uD)) (ha : asc M) (n : Nat) (v : Pag) :
   ∃ w', (Instr.mapUpdate 143 (.map (some b)) (.int .i64 (n : Int)) (shV n v)).run Tryz.prog w = .ok () w' /\ zW w' b .i64 ((ins n v M).map uD) /\ Chg (· = b) w w' /\ w'.heap.size = w.heap.size := by
 obtain ⟨w', h1, h2, h3, h4⟩ := h.up (P := Tryz.prog) (t := 143) Tryz.underlying143 Tryz.underlying3 (n : Int) (shV n v);exact ⟨w', h1, h2.perm (zLz n v ha), h3, h4⟩
theorem Vq {w : World} {b : Nat} {k : IntKind} {l : List (Int × Value)} (h : zW w b k l) {o : Nat} {v : Value} (hc : w.cell? ⟨b, o, none⟩ = some v) : False := by
 obtain ⟨es, ck, hb, _⟩ := h;simp [World.cell?, hb] at hc
theorem zNw {s : ByteArray} (h : hE s = 0) : Pg.uE s ((hN s : Nat) : Int) = 0 /\ Pg.uK s ((hN s : Nat) : Int) = hK s /\ Pg.uT s ((hN s : Nat) : Int) = hT s := by
 have e : Pg.uE s ((hN s : Nat) : Int) = 0 := by unfold Pg.uE; rw [if_neg (by omega), if_pos rfl]
 exact ⟨e, by unfold Pg.uK; rw [if_pos e], by unfold Pg.uT; rw [if_pos e]⟩
set_option maxRecDepth 10000 in
set_option maxHeartbeats 2000000 in
theorem zDg {w : World} {S : Nat -> Prop} {v : Value} {ts : List (Nat × List ByteArray)} (hT : xT w S v ts) (most : Nat) (hm : most <= 1000000) (hn : ts.length <= 1000000) (hpn : ∀ t ∈ ts, t.2.length <= 1000000) :
   Calls Tryz.prog 79 #[v, .int .i64 (most : Int)] w fun e w' => ((∃ m M, Zi most ts = some M /\ e = .returned (.tuple #[.map (some m), .bool true]) /\ zW w' m .i64 (M.map uD) /\ w.heap.size <= m) \/ (Zi most ts = none /\ e = .returned (.tuple #[.map none, .bool false]))) /\ Below w.heap.size w w' := by
 obtain ⟨a, cap, rfl, h2, h3, hcl⟩ := hT.open_;obtain ⟨n, hn2⟩ : ∃ n, n = ts.length := ⟨_, rfl⟩
 have HN := Lh hn2;have HCL := Lh hcl;have HPN := Lh hpn;rw [<- hn2] at hn ⊢;clear hcl hT h2 h3 hn2 hpn;have hmm := @run_makeMap Tryz.prog;go_enter Tryz.func79, Tryz.ntmps79;go_upto_region 2 with fail;have M0 := zW.made w .i64;have B0 : Below w.heap.size w (w.alloc (.map #[] 0)) := (Below.refl _ _).alloc (Nat.le_refl _) _;go_name_world W0 hW0;rw [hW0] at M0 B0;clear hW0;obtain ⟨m, hm0⟩ : ∃ m, m = w.heap.size := ⟨_, rfl⟩
 rw [<- hm0] at M0 ⊢;have HMZ := Lh hm0;clear hm0;go_wp2;go_loopw [16] (fun i wr => ∃ (k : Nat) (M : List (Nat × Pag)), k <= n /\ i = .int .i64 (k : Int) /\ fD most ((ts.take k).flatMap (·.2)) (some []) = some M /\ Qj most M /\ zW wr m .i64 (M.map uD) /\ Below w.heap.size w wr) (fun i wr => n - (intOf i).toNat)
 case atStart => exact ⟨0, [], by omega, rfl, rfl, ⟨by simp [asc], by simp⟩, M0, B0⟩
 case round =>
   clear M0 B0;obtain ⟨k, M, hk, rfl, hg, hf, hmo, hb⟩ := hrel;by_cases hlt : k < n
   · have hlt' : k < ts.length := by rw [<- HN.out]; exact hlt
     obtain ⟨b, o, rfl, hS, hbw, hc0, u, hc1, hu⟩ := HCL.out k hlt';obtain ⟨t, ht⟩ : ∃ t, t = ts[k]'hlt' := ⟨_, rfl⟩
     rw [<- ht] at hc0 hu;have hpl : t.2.length <= 1000000 := by rw [ht]; exact HPN.out _ (List.getElem_mem hlt')
     have ETK : Hid ((ts.take (k + 1)).flatMap (·.2) = (ts.take k).flatMap (·.2) ++ t.2) := Lh (by rw [List.take_add_one, List.getElem?_eq_getElem hlt', <- ht]; simp);have ETA : Hid (∃ r, ts.flatMap (·.2) = (ts.take k).flatMap (·.2) ++ t.2 ++ r) := Lh ⟨(ts.drop (k + 1)).flatMap (·.2), by
       rw [<- ETK.out, <- List.flatMap_append, List.take_append_drop]⟩
     have hu0 := hu.below hb;have hbs := hb.size;have hc0' : wr.cell? ⟨b, o + k * 2, none⟩ = some (.int .u64 (t.1 : Int)) := by rw [World.cell?_of_block (a := ⟨b, o + k * 2, none⟩) (hb.block b hbw)]; exact hc0
     have hc1' : wr.cell? ⟨b, o + k * 2 + 1, none⟩ = some u := by rw [World.cell?_of_block (a := ⟨b, o + k * 2 + 1, none⟩) (hb.block b hbw)]; exact hc1
     obtain ⟨pa, pc, rfl, pl, pm, pcl⟩ := hu0.open_;obtain ⟨pn, hpn⟩ : ∃ pn, pn = t.2.length := ⟨_, rfl⟩
     rw [<- hpn] at hc1' hpl;have HP := Lh hpn;have PCL := Lh pcl;have HG := Lh hg;have HF := Lh hf;have HMO := Lh hmo;have HB := Lh hb;clear hg hf hmo hb hu hu0 hc0 hc1 pl pm pcl hpn ht hS;go_upto_region 5 with fail;have B1 : Below wr.heap.size wr (wr.alloc (.cells #[.int .u64 (t.1 : Int), .slice pa pn pc] 250)) := zG _ _ _;have OT := Own.made wr 250 #[.int .u64 (t.1 : Int), .slice pa pn pc];go_name_world W1 hW1;rw [hW1] at B1 OT;clear hW1;have MO1 := Lh (HMO.out.keep (B1.block m HMO.out.in_));have HB1 := Lh (then_ HB.out B1 hbs);have OT1 := Lh OT;have PCL1 : Hid (∀ j (hj : j < t.2.length), (t.2[j]'hj).size <= maxLen /\ ∃ b o, pa = some ⟨b, o, none⟩ /\ b ≠ m /\ b < W1.heap.size /\ W1.cell? ⟨b, o + j, none⟩ = some (.string (t.2[j]'hj))) := Lh fun j hj => by
       obtain ⟨h1, b2, o2, h2, -, h3, h4⟩ := PCL.out j hj;refine ⟨h1, b2, o2, h2, fun e => ?_, Nat.lt_of_lt_of_le h3 B1.size, ?_⟩
       · subst e; exact Vq HMO.out h4
       · rw [World.cell?_of_block (a := ⟨b2, o2 + j, none⟩) (B1.block b2 h3)]; exact h4
     obtain ⟨q1, q2, q3⟩ := OT.at_;have mz : w.heap.size <= m := by rw [HMZ.out]; exact Nat.le_refl _
     clear B1 OT PCL HMO HB hc0' hc1';go_wp2;go_loopw [23] (fun i w2 => ∃ (j : Nat) (M2 : List (Nat × Pag)), j <= pn /\ i = .int .i64 (j : Int) /\ fD most (t.2.take j) (some M) = some M2 /\ Qj most M2 /\ zW w2 m .i64 (M2.map uD) /\ Chg (· = m) W1 w2) (fun i w2 => pn - (intOf i).toNat)
     case atStart => exact ⟨0, M, by omega, rfl, rfl, HF.out, MO1.out, Chg.refl _ _⟩
     case round =>
       clear q1 q2 q3;obtain ⟨j, M2, hj, rfl, hg2, hf2, hm2, hc2⟩ := hrel;have hb2 : Below w.heap.size w wr := ((Chg.of (S := fun q => w.heap.size <= q) HB1.out).same (hc2.mono fun q _ e => by rw [show q = m from e]; exact mz)).below (Nat.le_refl _) fun q e => e
       by_cases hjl : j < pn
       · have hj' : j < t.2.length := by rw [<- HP.out]; exact hjl
         obtain ⟨hsz, b2, o2, rfl, hbm, hbz, hcj⟩ := PCL1.out j hj';obtain ⟨x, hx⟩ : ∃ x, x = t.2[j]'hj' := ⟨_, rfl⟩
         rw [<- hx] at hsz hcj;have hcj2 : wr.cell? ⟨b2, o2 + j, none⟩ = some (.string x) := by rw [World.cell?_of_block (a := ⟨b2, o2 + j, none⟩) (hc2.block b2 hbz hbm)]; exact hcj
         have ETJ : Hid (t.2.take (j + 1) = t.2.take j ++ [x]) := Lh (by rw [List.take_add_one, List.getElem?_eq_getElem hj', <- hx]; rfl);have ETR : Hid (∃ r, t.2 = t.2.take j ++ [x] ++ r) := Lh ⟨t.2.drop (j + 1), by rw [<- ETJ.out, List.take_append_drop]⟩;have hxm : x.size <= 9223372036854775807 := Nat.le_trans hsz (by unfold maxLen; omega);have NU := Lh (fun w => Pg.number_any x w hxm);have hNl := zKe x;have hm2l : m < wr.heap.size := hm2.in_;by_cases hok : hE x = 0 /\ hN x < most
         · obtain ⟨ok1, ok2⟩ := hok;obtain ⟨u1, u2, u3⟩ := zNw ok1;have SO := fun w => fG (hN x) x w hxm
           rw [u1, u2, u3, if_pos rfl] at SO;rw [ok1] at NU;have HST : Hid (fD most (t.2.take (j + 1)) (some M) = some (ins (hN x) (hK x, hT x) M2)) := Lh (by rw [ETJ.out, jZ, hg2]; show Zg most (some M2) x = _; unfold Zg; exact if_pos ⟨ok1, ok2⟩);have HF2 := Lh (Ui most _ M _ HF.out HST.out);have asM2 := hf2.1;obtain ⟨v, hv⟩ : ∃ v : Pag, v = (hK x, hT x) := ⟨_, rfl⟩
           rw [<- hv] at SO HST HF2;obtain ⟨no, hno⟩ : ∃ no, no = hN x := ⟨_, rfl⟩
           rw [<- hno] at NU SO HST HF2 ok2 hNl;have tt : decide (most <= no) = false := by simp; omega
           have HUP : Hid (∀ W, Below wr.heap.size wr W -> ∃ w', (Instr.mapUpdate 143 (.map (some m)) (.int .i64 (no : Int)) (shV no v)).run Tryz.prog W = .ok () w' /\ zW w' m .i64 ((ins no v M2).map uD) /\ Chg (· = m) W w' /\ w'.heap.size = W.heap.size) := Lh fun W hW => (hm2.keep (hW.block m hm2l)).insM asM2 no v
           unfold shV at SO HUP;replace SO := Lh SO;have HC2 := Lh hc2;clear hv hno u1 u2 u3 ok1 hg2 hf2 hm2 hc2 hb2 hcj hx hsz hj' asM2;go_wp2_with (first
             | (go_at_call 165; refine (NU.out _).mono ?_; rintro e w3 ⟨rfl, hb3⟩; have B3 := Lh hb3; clear hb3)
             | (go_at_call 166; refine (SO.out _).mono ?_; rintro e w4 ⟨rfl, hb4⟩; have B4 := Lh (then_ B3.out hb4 B3.out.size); clear hb4; obtain ⟨w5, hmu, hm5, hc5, hs5⟩ := HUP.out _ B4.out; have M5 := Lh hm5; have C5 := Lh ((HC2.out.call B4.out).trans hc5 fun q _ e => e); clear hm5 hc5 hs5))
           go_roundw
           case rel => exact ⟨j + 1, _, by omega, by go_num, HST.out, HF2.out, M5.out, C5.out⟩
           case measure => simp [intOf]; omega
         · have HNO : Hid (Zi most ts = none) := Lh (by
             obtain ⟨r1, e1⟩ := ETA.out;obtain ⟨r2, e2⟩ := ETR.out;unfold Zi;rw [e1, jZ, jZ, HG.out];have e3 : fD most t.2 (some M) = none := by
               rw [e2, jZ, jZ, hg2];have e4 : fD most [x] (some M2) = none := by show Zg most (some M2) x = none; unfold Zg; exact if_neg hok
               rw [e4, mG]
             rw [e3, mG])
           have HB2 := Lh hb2;obtain ⟨no, hno⟩ : ∃ no, no = hN x := ⟨_, rfl⟩
           obtain ⟨er, her⟩ : ∃ er, er = hE x := ⟨_, rfl⟩
           rw [<- hno, <- her] at NU hok;rw [<- hno] at hNl;clear hno her hg2 hf2 hm2 hc2 hb2 hcj hx hsz hj';by_cases c1 : er = 0
           · subst c1;have tt : decide (most <= no) = true := by simp; omega
             clear hok;go_wp2_with (go_at_call 165; refine (NU.out _).mono ?_; rintro e w3 ⟨rfl, hb3⟩; have B3 := Lh (then_ HB2.out hb3 HB2.out.size); clear hb3)
             go_ret2;exact ⟨.inr ⟨HNO.out, rfl⟩, B3.out⟩
           · have tt : ((er : Int) != 0) = true := by simpa using c1
             clear hok c1;go_wp2_with (go_at_call 165; refine (NU.out _).mono ?_; rintro e w3 ⟨rfl, hb3⟩; have B3 := Lh (then_ HB2.out hb3 HB2.out.size); clear hb3)
             go_ret2;exact ⟨.inr ⟨HNO.out, rfl⟩, B3.out⟩
       · obtain rfl : j = pn := by omega
         have e1 : t.2.take j = t.2 := by rw [HP.out, List.take_length]
         rw [e1] at hg2;have HG2 : Hid (fD most ((ts.take (k + 1)).flatMap (·.2)) (some []) = some M2) := Lh (by rw [ETK.out, jZ, HG.out]; exact hg2);have HF2 := Lh hf2;have HM2 := Lh hm2;have HB2 := Lh hb2;clear hg2 hf2 hm2 hc2 hb2 e1;go_wp2;go_roundw
         case rel => exact ⟨k + 1, M2, by omega, by go_num, HG2.out, HF2.out, HM2.out, HB2.out⟩
         case measure => simp [intOf]; omega
   · obtain rfl : k = n := by omega
     have e1 : ts.take k = ts := by rw [HN.out, List.take_length]
     rw [e1] at hg;have MO := Lh hmo;have HB := Lh hb;have HG := Lh hg;clear hmo hb hg hf e1;go_wp2;go_ret2;exact ⟨.inl ⟨m, M, HG.out, rfl, MO.out, by rw [HMZ.out]; exact Nat.le_refl _⟩, HB.out⟩
end
end Go.Proofs.YthijgebmoadgkaaGreatDoor
