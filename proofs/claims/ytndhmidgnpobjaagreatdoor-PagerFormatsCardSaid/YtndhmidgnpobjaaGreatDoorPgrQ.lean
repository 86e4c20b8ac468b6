/- merged: More of maps as lists of pairs: v, ok := m[i]; m[i] = v whatever stands there; clear. It speaks of no function. What a pager is, as a state; what it holds in memory; what its calls may turn. Conditions: none of their own. The contract of a pager's find. Conditions: a disk that isn't down, a page that there is room for. -/
import Derived.Test.YtndhmidgnpobjaaGreatDoorMapM
import Derived.Test.YtndhmidgnpobjaaGreatDoorPgrN
import Derived.Test.YtndhmidgnpobjaaGreatDoorPooG
section
namespace Go.Proofs.YtndhmidgnpobjaaGreatDoor
open Go.ChangeShapes Go.WideShapes Go.ChangeAt Go.RowKit
set_option linter.unusedVariables false
set_option linter.unusedSimpArgs false

section
variable {P : Program} {w : World} {t e : TypeId} {k : IntKind} {l : List (Int × Value)} {b : Nat} {kt : TypeId}
/-- v, ok := m[i], there -/
theorem MapOf.look2 (h : MapOf w b k l) (ht : P.underlying t = some (.map kt e)) (hk : P.underlying kt = some (.int k)) {z : Value} (hz : (zeroValue e).run P w = .ok z w) {i : Int} {v : Value} (hp : (i, v) ∈ l) :
    (Instr.lookup t (.map (some b)) (.int k i) true).run P w = .ok (.tuple #[v, .bool true]) w := by
  obtain ⟨es, ck, j, e0, hb, E, h1, h2, h3, h4⟩ := h.find_some hp
  simp [Instr.lookup, run_underlying ht, MapKept.run_getObj_map hb, checkKey_int hk, Instr.findKey, run_underlying hk, h4, hz, Result.andThen]
/-- v, ok := m[i], not there -/
theorem MapOf.miss2 (h : MapOf w b k l) (ht : P.underlying t = some (.map kt e)) (hk : P.underlying kt = some (.int k)) {z : Value} (hz : (zeroValue e).run P w = .ok z w) {i : Int} (hp : ∀ v, (i, v) ∉ l) :
    (Instr.lookup t (.map (some b)) (.int k i) true).run P w = .ok (.tuple #[z, .bool false]) w := by
  obtain ⟨es, ck, hb, E, h4⟩ := h.find_none hp
  simp [Instr.lookup, run_underlying ht, MapKept.run_getObj_map hb, checkKey_int hk, Instr.findKey, run_underlying hk, h4, hz, Result.andThen]
theorem perm_set {α : Type} : ∀ (L : List α) (j : Nat) (e e' : α), L[j]? = some e → (L.set j e').Perm (e' :: L.eraseIdx j)
  | [], j, e, e', h => by simp at h
  | x :: L, 0, e, e', h => by simp
  | x :: L, j + 1, e, e', h => by
    have ih := perm_set L j e e' (by simpa using h)
    rw [List.set_cons_succ, List.eraseIdx_cons_succ]
    exact (ih.cons x).trans (List.Perm.swap e' x _)
/-- m[i] = v -/
theorem MapOf.up (h : MapOf w b k l) (ht : P.underlying t = some (.map kt e)) (hk : P.underlying kt = some (.int k)) (i : Int) (v : Value) :
    ∃ w', (Instr.mapUpdate t (.map (some b)) (.int k i) v).run P w = .ok () w' ∧ MapOf w' b k ((i, v) :: l.filter fun p => p.1 != i) ∧ Chg (· = b) w w' ∧ w'.heap.size = w.heap.size := by
  by_cases hp : ∀ u, (i, u) ∉ l
  · obtain ⟨w', h1, h2, h3, h4⟩ := h.put ht hk v hp
    refine ⟨w', h1, ?_, h3, h4⟩
    rw [perm_filter_none hp]
    exact h2.perm (List.perm_append_singleton _ _)
  · obtain ⟨u, hu⟩ : ∃ u, (i, u) ∈ l := by simpa using hp
    have hlt := h.in_
    obtain ⟨es, ck, j, e0, hb, E, h1, h2, h3, h4⟩ := h.find_some hu
    have hst : (Instr.keyThatStays (.int k i) (.int k i)).run P w = .ok (.int k i) w := by
      have : Instr.sameBits 10000 (.int k i) (.int k i) = true := by unfold Instr.sameBits; simp
      simp [Instr.keyThatStays, this]
    have h5 : es.toList[j]? = some e0 := by simpa using h1
    have hlist : (es.modify j (fun e' => { e' with key := .int k i, val := v })).toList = es.toList.set j { e0 with key := .int k i, val := v } := by
      rw [Array.toList_modify]
      refine List.ext_getElem? fun n => ?_
      rw [List.getElem?_modify, List.getElem?_set]
      by_cases e : j = n
      · subst e
        have := (List.getElem?_eq_some_iff.1 h5).1
        simp only [h5, if_true, this]
        rfl
      · simp [e]
    refine ⟨{ w with heap := w.heap.setIfInBounds b (.map (es.modify j fun e' => { e' with key := .int k i, val := v }) ck) }, by simp [Instr.mapUpdate, run_underlying ht, MapKept.run_getObj_map hb, checkKey_int hk, Instr.findKey, run_underlying hk, h4, h1, h2, hst, MapKept.run_setObj_map _ hb, Result.andThen], ⟨_, _, (chg_map hlt _).2, ⟨?_, ?_, ?_, ?_⟩⟩, (chg_map hlt _).1, by simp⟩
    · rw [hlist]
      refine ((perm_set es.toList j e0 _ h5).map kv).trans ?_
      rw [List.map_cons, List.map_cons]
      exact (perm_del kv E.perm E.nodup h5 h2).cons _
    · rw [List.map_cons, List.nodup_cons]
      refine ⟨fun hm => ?_, ((List.filter_sublist (l := l) (p := fun p => p.1 != i)).map fun p => p.1).nodup E.nodup⟩
      obtain ⟨q, hq, e⟩ := List.mem_map.1 hm
      have := (List.mem_filter.1 hq).2
      simp at this
      exact this e
    · intro x hx
      rw [hlist] at hx
      rcases List.mem_or_eq_of_mem_set hx with hx | rfl
      · exact E.born x hx
      · exact E.born e0 (List.mem_of_getElem? h5)
    · rw [hlist]
      have hm : (es.toList.set j { e0 with key := .int k i, val := v }).map (·.born) = es.toList.map (·.born) := by
        rw [List.map_set]
        have h6 : (es.toList.map (·.born))[j]? = some e0.born := by simp [h1]
        refine List.ext_getElem? fun n => ?_
        rw [List.getElem?_set]
        by_cases e : j = n
        · subst e
          rw [h6]
          have := (List.getElem?_eq_some_iff.1 h6).1
          simp only [if_true, this]
        · simp [e]
      rw [hm]
      exact E.once
/-- clear(m) -/
theorem MapOf.clr (h : MapOf w b k l) (ty : TypeId) (ht : P.underlying t = some (.map kt e)) :
    ∃ w', (Builtin.clear_ #[t] ty #[.map (some b)]).run P w = .ok (.tuple #[]) w' ∧ MapOf w' b k [] ∧ Chg (· = b) w w' ∧ w'.heap.size = w.heap.size := by
  have hlt := h.in_
  obtain ⟨es, ck, hb, E⟩ := h
  exact ⟨{ w with heap := w.heap.setIfInBounds b (.map #[] ck) }, by simp [Builtin.clear_, run_underlying ht, MapKept.run_getObj_map hb, MapKept.run_setObj_map _ hb, Result.andThen], ⟨#[], ck, (chg_map hlt _).2, ⟨by simp, by simp, by simp, by simp⟩⟩, (chg_map hlt _).1, by simp⟩
end
end Go.Proofs.YtndhmidgnpobjaaGreatDoor
end
section
namespace Go.Proofs.YtndhmidgnpobjaaGreatDoor
open Go.ChangeShapes Go.WideShapes Go.ChangeAt Go.RowKit
set_option linter.unusedVariables false
set_option linter.unusedSimpArgs false

/-- a pager: its disk of N sectors, the log's length, the mark's number, the log, for how many pages there is room; the pages that count by the log, those that are dirty; whether a call ended with the power -/
structure PS where
  N : Nat
  ll : Nat
  seq : Nat
  room : Nat
  s : St
  l : LogS
  M : List (Nat × Pag)
  T : List (Nat × Pag)
  failed : Bool
def PS.most (P : PS) : Nat := (P.N - 2 - P.ll) / 8
/-- what stands at a page's place -/
def dpg (s : St) (ll no : Nat) : Pag × Nat := ((Pg.uK (dby s (2 + ll + no * 8)) no, Pg.uT (dby s (2 + ll + no * 8)) no), Pg.uE (dby s (2 + ll + no * 8)) no)
def PS.base (P : PS) (no : Nat) : Pag × Nat := match lk P.M no with
  | some x => (x, 0)
  | none => dpg P.s P.ll no
def PS.view (P : PS) (no : Nat) : Pag × Nat := match lk P.T no with
  | some x => (x, 0)
  | none => P.base no
/-- pages that may be there -/
def Fine (most : Nat) (L : List (Nat × Pag)) : Prop := asc L ∧ ∀ p ∈ L, p.1 < most ∧ PagOk p.2
structure PS.Ok (P : PS) : Prop where
  N : P.N ≤ 65536
  l10 : 10 ≤ P.ll
  fit : P.ll + 10 ≤ P.N
  M : Fine P.most P.M
  T : Fine P.most P.T
  few : P.T.length ≤ P.room
  r2 : 2 ≤ P.room
  r6 : P.room ≤ 65536
  seq : P.seq ≤ 18446744073709551615
  from_ : P.l.from_ = 2
  size : P.l.size = P.ll
  log : P.l.Ok
  hd : IsHd P.most (P.view 0).1
  hd0 : (P.view 0).2 = 0
  bd : IsHd P.most (P.base 0).1
  bd0 : (P.base 0).2 = 0
theorem PS.Ok.most {P : PS} (h : P.Ok) : 1 ≤ P.most ∧ P.most ≤ 8191 ∧ 2 + P.ll + P.most * 8 ≤ P.N := by
  have := h.N; have := h.fit; have := h.l10
  unfold PS.most
  omega
theorem view_fine {P : PS} (h : P.Ok) {no : Nat} (h0 : (P.view no).2 = 0) : PagOk (P.view no).1 := by
  unfold PS.view at h0 ⊢
  cases hT : lk P.T no with
  | some x => exact (h.T.2 _ (lk_mem hT)).2
  | none =>
    rw [hT] at h0
    simp only at h0 ⊢
    unfold PS.base at h0 ⊢
    cases hM : lk P.M no with
    | some x => exact (h.M.2 _ (lk_mem hM)).2
    | none =>
      rw [hM] at h0
      simp only [dpg] at h0 ⊢
      unfold Pg.uK Pg.uT
      rw [if_pos h0, if_pos h0]
      unfold Pg.uE at h0
      have hE : hE (dby P.s (2 + P.ll + no * 8)) = 0 := by
        by_cases c : hE (dby P.s (2 + P.ll + no * 8)) = 0
        · exact c
        · rw [if_pos c] at h0; exact absurd h0 c
      refine ⟨?_, hK_le _, hT_size _ hE⟩
      show 1 ≤ hK _
      unfold hK
      rw [if_pos hE]
      unfold Go.Proofs.YtndhmidgnpobjaaGreatDoor.hE at hE
      by_cases c1 : (dby P.s (2 + P.ll + no * 8)).size ≠ 512
      · rw [if_pos c1] at hE; cases hE
      · rw [if_neg c1] at hE
        split at hE
        · cases hE
        · split at hE
          · cases hE
          · rename_i c2; omega
/-- an entry of the map of pages -/
def entM (p : Nat × Pag) : Int × Value := ((p.1 : Int), shV p.1 p.2)
def PS.cells (P : PS) (d lg lm pl : Nat) : Array Value := #[.pointer (some ⟨d, 0, none⟩), .int .i64 (P.ll : Int), .int .u64 (P.seq : Int), .pointer (some ⟨lg, 0, none⟩), .map (some lm), .int .i64 (P.room : Int), .pointer (some ⟨pl, 0, none⟩), .bool P.failed]
/-- the frames say what the state says -/
structure Coh (P : PS) (R : List Po.RF) : Prop where
  good : ∀ f ∈ R, ∃ no x, f.no = (no : Nat) ∧ no < P.most ∧ PagOk x ∧ f.s = fr x ∧ f.pins = 0 ∧ (f.dirty = true → lk P.T no = some x) ∧ (f.dirty = false → lk P.T no = none ∧ P.base no = (x, 0))
  all : ∀ p ∈ P.T, ∃ f ∈ R, f.no = (p.1 : Nat) ∧ f.dirty = true
/-- blocks that a pager or a disk may turn, by what lies in them, from B on; S: the disk's bytes -/
def FT (w : World) (B S q : Nat) : Prop := B ≤ q ∧ ((∃ es ck, w.heap[q]? = some (.map es ck)) ∨ q = S ∨
  ∃ cs T fz, w.heap[q]? = some (.cells cs T fz) ∧ (T = 148 ∨ T = 232 ∨ T = 207 ∨ T = 131 ∨ T = 216 ∨ T = 229))
theorem FT.congr {w w' : World} {B S q : Nat} (e : w'.heap[q]? = w.heap[q]?) (h : FT w' B S q) : FT w B S q := by
  obtain ⟨hB, h⟩ := h
  refine ⟨hB, ?_⟩
  rw [e] at h
  exact h
/-- calls behind one another -/
theorem ft_trans {a b c : World} {B S : Nat} (h : Chg (FT a B S) a b) (k : Chg (FT b B S) b c) : Chg (FT a B S) a c := h.trans k fun q hq hf => by
  by_cases c : FT a B S q
  · exact c
  · exact hf.congr (h.block q hq c)
theorem ft_pt {w : World} {B Bp S q : Nat} (hB : B ≤ Bp) (h : Po.PT w Bp q) : FT w B S q := by
  obtain ⟨h1, h2⟩ := h
  refine ⟨by omega, ?_⟩
  rcases h2 with h | ⟨cs, h⟩ | ⟨cs, h⟩
  · exact .inl h
  · exact .inr (.inr ⟨cs, _, _, h, .inr (.inr (.inr (.inr (.inl rfl))))⟩)
  · exact .inr (.inr ⟨cs, _, _, h, .inr (.inr (.inr (.inr (.inr rfl))))⟩)
theorem ft_fp {w : World} {B d sb mb sc : Nat} {wv : Value} {N : Nat} {s : St} (hD : DiskAt w d sb mb sc wv N s) (h1 : B ≤ d) (h2 : B ≤ sb) (h3 : B ≤ mb) (h4 : ∀ g, wv.ownBlock = some g → B ≤ g) {q : Nat} (hq : fp d sb mb wv q) : FT w B sb q := by
  rcases hq with e | e | e | e
  · subst e; exact ⟨h1, .inr (.inr ⟨_, _, _, hD.own, .inl rfl⟩)⟩
  · subst e
    exact ⟨h2, .inr (.inl rfl)⟩
  · subst e
    obtain ⟨es, ck, hb, _⟩ := hD.map
    exact ⟨h3, .inl ⟨es, ck, hb⟩⟩
  · refine ⟨h4 q e, .inr (.inr ?_)⟩
    rcases hD.wrs.2 with ⟨h6, _⟩ | ⟨g6, c6, u6, h6, _, h7, _⟩
    · rw [h6] at e; cases e
    · rw [h6] at e
      injection e with e
      have e : g6 = q := e
      subst e
      exact ⟨_, _, _, h7, .inr (.inl rfl)⟩
/-- where a disk's bytes lie, as its struct tells -/
def SureB (w : World) (d S : Nat) : Prop := ∃ n c, w.cell? ⟨d, 0, none⟩ = some (.slice (some ⟨S, 0, none⟩) n c)
theorem SureB.inj {w : World} {d S S' : Nat} (h : SureB w d S) (k : SureB w d S') : S = S' := by
  obtain ⟨n, c, h⟩ := h
  obtain ⟨n', c', k⟩ := k
  rw [h] at k
  injection k with k
  injection k with k _ _
  injection k with k
  injection k
theorem DiskAt.sureB {w : World} {d sb mb sc N : Nat} {wv : Value} {s : St} (h : DiskAt w d sb mb sc wv N s) : SureB w d sb := ⟨_, _, h.own.at_.1 0⟩
/-- a disk, whatever its blocks are, from B on -/
def DiskO (w : World) (B d N : Nat) (s : St) : Prop := ∃ sb mb sc wv, DiskAt w d sb mb sc wv N s ∧ B ≤ d ∧ B ≤ sb ∧ B ≤ mb ∧ ∀ g, wv.ownBlock = some g → B ≤ g
theorem DiskO.below {w w' : World} {B d N : Nat} {s : St} (h : DiskO w B d N s) (hb : Below w.heap.size w w') : DiskO w' B d N s := by
  obtain ⟨sb, mb, sc, wv, h1, h2⟩ := h
  exact ⟨sb, mb, sc, wv, h1.below hb, h2⟩
/-- the pager at block p, over the disk at block d -/
structure Pgr (w : World) (B Bp d p c sb mb sc : Nat) (wv : Value) (lg lm pl : Nat) (R : List Po.RF) (P : PS) : Prop where
  disk : DiskAt w d sb mb sc wv P.N P.s
  log : LogAt w lg d P.l
  own : Own w p 131 (P.cells d lg lm pl)
  map : MapOf w lm .i64 (P.M.map entM)
  pool : Po.PoolAt w Bp pl P.room c R
  coh : Coh P R
  ok : P.Ok
  b1 : B ≤ d
  b2 : B ≤ sb
  b3 : B ≤ mb
  b4 : ∀ g, wv.ownBlock = some g → B ≤ g
  b5 : B ≤ lg
  b6 : B ≤ lm
  b7 : B ≤ p
  b8 : B ≤ Bp
  a1 : sb < Bp
  a2 : mb < Bp
  a3 : lm < Bp
  a4 : lm ≠ mb
def PagerAt (w : World) (B Bp d p c : Nat) (P : PS) : Prop := ∃ sb mb sc wv lg lm pl R, Pgr w B Bp d p c sb mb sc wv lg lm pl R P
section
variable {w w' : World} {B Bp d p c sb mb sc lg lm pl : Nat} {wv : Value} {R : List Po.RF} {P : PS}
/-- the pool's blocks are none of the others -/
theorem Pgr.not_pt (h : Pgr w B Bp d p c sb mb sc wv lg lm pl R P) {q : Nat} (hq : q = lg ∨ q = p ∨ q = lm ∨ fp d sb mb wv q) : ¬ Po.PT w Bp q := fun k => by
  have key : ∀ {T : TypeId} {cs : Array Value}, w.heap[q]? = some (.cells cs T (0, 0)) → T ≠ 216 → T ≠ 229 → False := fun ho h1 h2 => by
    rcases k.2 with ⟨es, ck, h⟩ | ⟨cs', h⟩ | ⟨cs', h⟩
    · rw [ho] at h; cases h
    · unfold Own at h
      rw [ho] at h
      injection h with h
      injection h with e1 e2
      exact h1 e2
    · unfold Own at h
      rw [ho] at h
      injection h with h
      injection h with e1 e2
      exact h2 e2
  rcases hq with e | e | e | e | e | e | e
  · subst e; exact key h.log (by decide) (by decide)
  · subst e; exact key h.own (by decide) (by decide)
  · subst e; have := h.a3; have := k.1; omega
  · subst e; exact key h.disk.own (by decide) (by decide)
  · subst e; have := h.a1; have := k.1; omega
  · subst e; have := h.a2; have := k.1; omega
  · rcases h.disk.wrs.2 with ⟨h6, _⟩ | ⟨g6, c6, u6, h6, _, h7, _⟩
    · rw [h6] at e; cases e
    · rw [h6] at e
      injection e with e
      have e : g6 = q := e
      subst e
      exact key h7 (by decide) (by decide)
/-- only the pool was turned -/
theorem Pgr.pooled (h : Pgr w B Bp d p c sb mb sc wv lg lm pl R P) {c' : Nat} {R' : List Po.RF} (hc : Chg (Po.PT w Bp) w w') (hp : Po.PoolAt w' Bp pl P.room c' R') (hR : Coh P R') : Pgr w' B Bp d p c' sb mb sc wv lg lm pl R' P :=
  { h with
    disk := h.disk.keep hc fun q hq => h.not_pt (.inr (.inr (.inr hq)))
    log := hc.own h.log (h.not_pt (.inl rfl))
    own := hc.own h.own (h.not_pt (.inr (.inl rfl)))
    map := h.map.keep (hc.block lm h.map.in_ (h.not_pt (.inr (.inr (.inl rfl)))))
    pool := hp
    coh := hR }
theorem Pgr.below (h : Pgr w B Bp d p c sb mb sc wv lg lm pl R P) (hb : Below w.heap.size w w') : Pgr w' B Bp d p c sb mb sc wv lg lm pl R P :=
  { h with disk := h.disk.below hb, log := Own.keep h.log hb, own := h.own.keep hb, map := h.map.keep (hb.block lm h.map.in_), pool := h.pool.below hb }
theorem Pgr.more (h : Pgr w B Bp d p c sb mb sc wv lg lm pl R P) {c' : Nat} (hc : c ≤ c') : Pgr w B Bp d p c' sb mb sc wv lg lm pl R P := { h with pool := h.pool.more hc }
theorem PagerAt.sure_ask (h : PagerAt w B Bp d p c P) (hc : Chg (Po.PT w Bp) w w') {S : Nat} (hS : SureB w d S) : SureB w' d S := by
  obtain ⟨sb, mb, sc, wv, lg, lm, pl, R, h⟩ := h
  obtain ⟨n, c, hS⟩ := hS
  exact ⟨n, c, hc.cell hS (h.not_pt (.inr (.inr (.inr (.inl rfl)))))⟩
theorem PagerAt.sureB (h : PagerAt w B Bp d p c P) : ∃ S, SureB w d S ∧ S < w.heap.size := by
  obtain ⟨sb, mb, sc, wv, lg, lm, pl, R, h⟩ := h
  have := h.a1
  have := h.pool.base
  exact ⟨sb, h.disk.sureB, by omega⟩
theorem PagerAt.below (h : PagerAt w B Bp d p c P) (hb : Below w.heap.size w w') : PagerAt w' B Bp d p c P := by
  obtain ⟨sb, mb, sc, wv, lg, lm, pl, R, h⟩ := h
  exact ⟨sb, mb, sc, wv, lg, lm, pl, R, h.below hb⟩
theorem PagerAt.more (h : PagerAt w B Bp d p c P) {c' : Nat} (hc : c ≤ c') : PagerAt w B Bp d p c' P := by
  obtain ⟨sb, mb, sc, wv, lg, lm, pl, R, h⟩ := h
  exact ⟨sb, mb, sc, wv, lg, lm, pl, R, h.more hc⟩
theorem PagerAt.ok (h : PagerAt w B Bp d p c P) : P.Ok := by
  obtain ⟨sb, mb, sc, wv, lg, lm, pl, R, h⟩ := h
  exact h.ok
theorem PagerAt.base (h : PagerAt w B Bp d p c P) : Bp ≤ w.heap.size ∧ B ≤ Bp ∧ p < w.heap.size := by
  obtain ⟨sb, mb, sc, wv, lg, lm, pl, R, h⟩ := h
  exact ⟨h.pool.base, h.b8, h.own.in_⟩
theorem PagerAt.disk (h : PagerAt w B Bp d p c P) : DiskO w B d P.N P.s := by
  obtain ⟨sb, mb, sc, wv, lg, lm, pl, R, h⟩ := h
  exact ⟨sb, mb, sc, wv, h.disk, h.b1, h.b2, h.b3, h.b4⟩
end
end Go.Proofs.YtndhmidgnpobjaaGreatDoor
end
section
namespace Go.Proofs.YtndhmidgnpobjaaGreatDoor
open Go.ChangeShapes Go.WideShapes Go.ChangeAt Go.RowKit
set_option linter.unusedVariables false
set_option linter.unusedSimpArgs false

theorem pt_congr {w w' : World} {B q : Nat} (e : w'.heap[q]? = w.heap[q]?) (h : Po.PT w' B q) : Po.PT w B q := by
  obtain ⟨hB, h⟩ := h
  refine ⟨hB, ?_⟩
  unfold Own at h ⊢
  rw [e] at h
  exact h
theorem pt_trans {a b c : World} {B : Nat} (h : Chg (Po.PT a B) a b) (k : Chg (Po.PT b B) b c) : Chg (Po.PT a B) a c := h.trans k fun q hq hf => by
  by_cases c : Po.PT a B q
  · exact c
  · exact pt_congr (h.block q hq c) hf
theorem pt_then {a b c : World} {B : Nat} (h : Chg (Po.PT a B) a b) (k : Below b.heap.size b c) : Chg (Po.PT a B) a c := pt_trans h (Chg.of k)
theorem pt_own {w w' : World} {B q : Nat} {T : TypeId} {cs : Array Value} (hc : Chg (Po.PT w B) w w') (ho : Own w q T cs) (h1 : T ≠ 216) (h2 : T ≠ 229) : Own w' q T cs := by
  refine (hc.block q ho.in_ fun h => ?_).trans ho
  obtain ⟨-, h⟩ := h
  unfold Own at ho h
  rw [ho] at h
  rcases h with ⟨es, ck, h⟩ | ⟨cs', h⟩ | ⟨cs', h⟩
  · cases h
  · injection h with h; injection h with e1 e2; exact h1 e2
  · injection h with h; injection h with e1 e2; exact h2 e2
theorem Coh.perm {P : PS} {R R' : List Po.RF} (h : Coh P R) (hp : R.Perm R') : Coh P R' :=
  ⟨fun f hf => h.good f (hp.mem_iff.2 hf), fun p hp' => by obtain ⟨f, hf, r⟩ := h.all p hp'; exact ⟨f, hp.mem_iff.1 hf, r⟩⟩
theorem getR_perm {R : List Po.RF} {n c : Nat} (h : Po.OkR R n c) (no : Int) : R.Perm (Po.getR R no).2 := by
  unfold Po.getR
  cases hl : Po.look R no with
  | none => exact List.Perm.refl _
  | some f =>
    obtain ⟨h1, S, T, rfl⟩ := Po.look_some hl
    show (S ++ f :: T).Perm (Po.del (S ++ f :: T) no ++ [f])
    rw [← h1, Po.del_at h.nos]
    exact Po.perm_end
/-- what stands in the pool of a page -/
theorem Coh.look {P : PS} {R : List Po.RF} (h : Coh P R) {no : Nat} {f : Po.RF} (hl : Po.look R (no : Int) = some f) : ∃ x, PagOk x ∧ f.s = fr x ∧ P.view no = (x, 0) := by
  obtain ⟨h1, S, T, rfl⟩ := Po.look_some hl
  obtain ⟨n, x, e, hn, hx, hs, hp, ht, hf⟩ := h.good f (by simp)
  obtain rfl : n = no := by rw [h1] at e; omega
  refine ⟨x, hx, hs, ?_⟩
  unfold PS.view
  cases hd : f.dirty with
  | true => rw [ht hd]
  | false => obtain ⟨e1, e2⟩ := hf hd; rw [e1, e2]
theorem Coh.miss {P : PS} {R : List Po.RF} (h : Coh P R) {no : Nat} (hl : Po.look R (no : Int) = none) : lk P.T no = none := by
  cases ht : lk P.T no with
  | none => rfl
  | some x =>
    obtain ⟨f, hf, e, _⟩ := h.all _ (lk_mem ht)
    exact absurd (List.mem_map.2 ⟨f, hf, e⟩) (Po.look_none hl)
/-- a page at hand is read and kept -/
theorem Coh.put {P : PS} {R : List Po.RF} (h : Coh P R) {n : Nat} {no : Nat} {x : Pag} (hno : no < P.most) (hx : PagOk x) (hT : lk P.T no = none) (hb : P.base no = (x, 0)) : Coh P (Po.putR R n (no : Int) (fr x)).2 := by
  unfold Po.putR
  cases hl : Po.look R (no : Int) with
  | some f => exact h
  | none =>
    unfold Po.addR
    have add : ∀ R', Coh P R' → Coh P (R' ++ [⟨(no : Int), fr x, false, 0⟩]) := fun R' h' => ⟨fun f hf => by
      rcases List.mem_append.1 hf with hf | hf
      · exact h'.good f hf
      · simp at hf
        subst hf
        exact ⟨no, x, rfl, hno, hx, rfl, rfl, fun e => (by cases e), fun _ => ⟨hT, hb⟩⟩, fun p hp => by
      obtain ⟨f, hf, r⟩ := h'.all p hp
      exact ⟨f, by simp [hf], r⟩⟩
    cases hr : Po.roomR R n with
    | none => exact h
    | some R' =>
      refine add R' ?_
      unfold Po.roomR at hr
      split at hr
      · injection hr with hr; subst hr; exact h
      · cases hv : Po.victim R with
        | none => rw [hv] at hr; cases hr
        | some v =>
          rw [hv] at hr
          injection hr with hr
          subst hr
          obtain ⟨hfr, -⟩ := Po.victim_some hv
          refine ⟨fun f hf => h.good f (List.mem_filter.1 hf).1, fun p hp => ?_⟩
          obtain ⟨f, hf, e, hd⟩ := h.all p hp
          refine ⟨f, List.mem_filter.2 ⟨hf, ?_⟩, e, hd⟩
          have hvm : v ∈ R := by obtain ⟨S, T, e, _⟩ := (Po.victim_some hv).2; rw [e]; simp
          obtain ⟨n1, x1, e1, -, -, -, -, -, hvd⟩ := h.good v hvm
          have hv0 : v.dirty = false := by
            unfold Po.free at hfr
            cases hd' : v.dirty with
            | false => rfl
            | true => rw [hd'] at hfr; cases hfr
          have hn := (hvd hv0).1
          have : f.no ≠ v.no := fun ee => by
            rw [e, e1] at ee
            have : p.1 = n1 := by omega
            rw [← this] at hn
            exact lk_not hn p hp rfl
          simpa using this
end Go.Proofs.YtndhmidgnpobjaaGreatDoor
end
