
/- Maps from integers as lists of pairs in some order: look, put, delete, length, and the loop over one. It speaks of no function. -/
import Derived.Test.YtibnackmddigaaaSta
import Derived.Maps.RangeWalk
namespace Go.Proofs.Ytibnackmddigaaa.Mp
open Go.ChangeShapes Go.WideShapes Go.ChangeAt Go.RowKit Go.MapKept
set_option linter.unusedVariables false
set_option linter.unusedSimpArgs false

def kv (e : MapEntry) : Value × Value := (e.key, e.val)
def enc (k : IntKind) (p : Int × Value) : Value × Value := (.int k p.1, p.2)
/-- the entries are these pairs, in some order -/
structure Ents (es : Array MapEntry) (ck : Nat) (k : IntKind) (l : List (Int × Value)) : Prop where
  perm : (es.toList.map kv).Perm (l.map (enc k))
  nodup : (l.map (·.1)).Nodup
  born : ∀ e ∈ es.toList, e.born < ck
  once : (es.toList.map (·.born)).Nodup
def MapOf (w : World) (b : Nat) (k : IntKind) (l : List (Int × Value)) : Prop := ∃ es ck, w.heap[b]? = some (.map es ck) ∧ Ents es ck k l

theorem Ents.keys {es : Array MapEntry} {ck : Nat} {k : IntKind} {l : List (Int × Value)} (h : Ents es ck k l) : ∀ e ∈ es.toList, e.key = .int k (intOf e.key) := by
  intro e he
  have h1 : kv e ∈ l.map (enc k) := h.perm.mem_iff.1 (List.mem_map.2 ⟨e, he, rfl⟩)
  obtain ⟨p, hp, hpe⟩ := List.mem_map.1 h1
  have : e.key = .int k p.1 := by have := congrArg Prod.fst hpe; exact this.symm
  rw [this]; rfl
theorem Ents.size {es : Array MapEntry} {ck : Nat} {k : IntKind} {l : List (Int × Value)} (h : Ents es ck k l) : es.size = l.length := by
  have := h.perm.length_eq
  simpa using this
/-- a pair of the list is an entry -/
theorem Ents.of_mem {es : Array MapEntry} {ck : Nat} {k : IntKind} {l : List (Int × Value)} (h : Ents es ck k l) {i : Int} {v : Value} (hp : (i, v) ∈ l) : ∃ e ∈ es.toList, e.key = .int k i ∧ e.val = v := by
  have h1 : enc k (i, v) ∈ es.toList.map kv := h.perm.mem_iff.2 (List.mem_map.2 ⟨_, hp, rfl⟩)
  obtain ⟨e, he, hpe⟩ := List.mem_map.1 h1
  exact ⟨e, he, congrArg Prod.fst hpe, congrArg Prod.snd hpe⟩
theorem Ents.mem {es : Array MapEntry} {ck : Nat} {k : IntKind} {l : List (Int × Value)} (h : Ents es ck k l) {e : MapEntry} (he : e ∈ es.toList) : (intOf e.key, e.val) ∈ l := by
  have h1 : kv e ∈ l.map (enc k) := h.perm.mem_iff.1 (List.mem_map.2 ⟨e, he, rfl⟩)
  obtain ⟨p, hp, hpe⟩ := List.mem_map.1 h1
  have h2 : .int k p.1 = e.key := congrArg Prod.fst hpe
  have h3 : p.2 = e.val := congrArg Prod.snd hpe
  rw [← h2, ← h3]
  exact hp
theorem pair_one : ∀ {l : List (Int × Value)}, (l.map (·.1)).Nodup → ∀ {i : Int} {u v : Value}, (i, u) ∈ l → (i, v) ∈ l → u = v
  | [], _, _, _, _, h, _ => by simp at h
  | x :: l, hn, i, u, v, h1, h2 => by
    have hn' := List.nodup_cons.1 hn
    rcases List.mem_cons.1 h1 with e1 | e1
    · rcases List.mem_cons.1 h2 with e2 | e2
      · have := e1.trans e2.symm; simpa using this
      · exact absurd (List.mem_map.2 ⟨_, e2, by rw [← e1]⟩) hn'.1
    · rcases List.mem_cons.1 h2 with e2 | e2
      · exact absurd (List.mem_map.2 ⟨_, e1, by rw [← e2]⟩) hn'.1
      · exact pair_one hn'.2 e1 e2

section
variable {w : World} {b : Nat} {k : IntKind} {l : List (Int × Value)}
theorem MapOf.in_ (h : MapOf w b k l) : b < w.heap.size := by
  obtain ⟨es, ck, hb, _⟩ := h
  exact (Array.getElem?_eq_some_iff.1 hb).1
theorem MapOf.keep {w' : World} (h : MapOf w b k l) (e : w'.heap[b]? = w.heap[b]?) : MapOf w' b k l := by
  obtain ⟨es, ck, hb, r⟩ := h
  exact ⟨es, ck, e.trans hb, r⟩
theorem MapOf.made (w : World) (k : IntKind) : MapOf (w.alloc (.map #[] 0)) w.heap.size k [] :=
  ⟨#[], 0, by unfold World.alloc; simp, ⟨by simp, by simp, by simp, by simp⟩⟩
theorem MapOf.ne (h : MapOf w b k l) {p : Nat} {T : TypeId} {cs : Array Value} (ho : Own w p T cs) : b ≠ p := by
  rintro rfl
  obtain ⟨es, ck, hb, _⟩ := h
  unfold Own at ho
  rw [ho] at hb
  cases hb
theorem MapOf.find_some (h : MapOf w b k l) {i : Int} {v : Value} (hp : (i, v) ∈ l) : ∃ es ck j e, w.heap[b]? = some (.map es ck) ∧ Ents es ck k l ∧ es[j]? = some e ∧ e.key = .int k i ∧ e.val = v ∧ Instr.findNow (.int k) (.int k i) es.toList 0 = some (some (j, v)) := by
  obtain ⟨es, ck, hb, E⟩ := h
  obtain ⟨e, he, h1, h2⟩ := E.of_mem hp
  rcases findNow_int k i es.toList 0 E.keys with ⟨h3, _⟩ | ⟨j, e0, h3, h4, h5, h6, h7⟩
  · have := List.find?_eq_none.1 h3 e he
    rw [h1] at this
    simp [intOf] at this
  · have hm := E.mem (List.mem_of_getElem? h3)
    rw [h4] at hm
    have hv : e0.val = v := pair_one E.nodup hm hp
    refine ⟨es, ck, j, e0, hb, E, by simpa using h3, ?_, hv, by rw [h7, hv]; simp⟩
    rw [E.keys e0 (List.mem_of_getElem? h3), h4]
theorem MapOf.find_none (h : MapOf w b k l) {i : Int} (hp : ∀ v, (i, v) ∉ l) : ∃ es ck, w.heap[b]? = some (.map es ck) ∧ Ents es ck k l ∧ Instr.findNow (.int k) (.int k i) es.toList 0 = some none := by
  obtain ⟨es, ck, hb, E⟩ := h
  rcases findNow_int k i es.toList 0 E.keys with ⟨_, h3⟩ | ⟨j, e0, h3, h4, h5, h6, h7⟩
  · exact ⟨es, ck, hb, E, h3⟩
  · have hm := E.mem (List.mem_of_getElem? h3)
    rw [h4] at hm
    exact absurd hm (hp _)
end

section
variable {P : Program} {w : World} {t e : TypeId} {k : IntKind} {l : List (Int × Value)} {b : Nat} {kt : TypeId}
/-- m[i], there -/
theorem MapOf.look (h : MapOf w b k l) (ht : P.underlying t = some (.map kt e)) (hk : P.underlying kt = some (.int k)) {z : Value} (hz : (zeroValue e).run P w = .ok z w) {i : Int} {v : Value} (hp : (i, v) ∈ l) :
    (Instr.lookup t (.map (some b)) (.int k i) false).run P w = .ok v w := by
  obtain ⟨es, ck, j, e0, hb, E, h1, h2, h3, h4⟩ := h.find_some hp
  simp [Instr.lookup, run_underlying ht, MapKept.run_getObj_map hb, checkKey_int hk, Instr.findKey, run_underlying hk, h1, h3, h4, hz, Result.andThen]
/-- m[i], not there -/
theorem MapOf.miss (h : MapOf w b k l) (ht : P.underlying t = some (.map kt e)) (hk : P.underlying kt = some (.int k)) {z : Value} (hz : (zeroValue e).run P w = .ok z w) {i : Int} (hp : ∀ v, (i, v) ∉ l) :
    (Instr.lookup t (.map (some b)) (.int k i) false).run P w = .ok z w := by
  obtain ⟨es, ck, hb, E, h4⟩ := h.find_none hp
  simp [Instr.lookup, run_underlying ht, MapKept.run_getObj_map hb, checkKey_int hk, Instr.findKey, run_underlying hk, h4, hz, Result.andThen]
theorem chg_map (hb : b < w.heap.size) (o : Obj) : Chg (· = b) w { w with heap := w.heap.setIfInBounds b o } ∧ ({ w with heap := w.heap.setIfInBounds b o } : World).heap[b]? = some o :=
  ⟨⟨rfl, rfl, rfl, by simp, fun q _ hq => by simp; rw [Array.getElem?_setIfInBounds_ne (Ne.symm hq)]⟩, by simp [hb]⟩
/-- m[i] = v, a new i -/
theorem MapOf.put (h : MapOf w b k l) (ht : P.underlying t = some (.map kt e)) (hk : P.underlying kt = some (.int k)) {i : Int} (v : Value) (hp : ∀ v, (i, v) ∉ l) :
    ∃ w', (Instr.mapUpdate t (.map (some b)) (.int k i) v).run P w = .ok () w' ∧ MapOf w' b k (l ++ [(i, v)]) ∧ Chg (· = b) w w' ∧ w'.heap.size = w.heap.size := by
  have hlt := h.in_
  obtain ⟨es, ck, hb, E, h2⟩ := h.find_none hp
  refine ⟨{ w with heap := w.heap.setIfInBounds b (.map (es.push ⟨.int k i, v, ck⟩) (ck + 1)) }, by simp [Instr.mapUpdate, run_underlying ht, MapKept.run_getObj_map hb, checkKey_int hk, Instr.findKey, run_underlying hk, h2, MapKept.run_setObj_map _ hb, Result.andThen], ⟨_, _, (chg_map hlt _).2, ⟨?_, ?_, ?_, ?_⟩⟩, (chg_map hlt _).1, by simp⟩
  · rw [Array.toList_push, List.map_append, List.map_append]
    exact E.perm.append_right _
  · rw [List.map_append, List.nodup_append]
    refine ⟨E.nodup, by simp, ?_⟩
    intro x hx y hy
    obtain ⟨q, hq, rfl⟩ := List.mem_map.1 hx
    simp at hy
    subst hy
    intro e
    exact hp q.2 (by rw [← e]; exact hq)
  · intro x hx
    rw [Array.toList_push, List.mem_append] at hx
    rcases hx with hx | hx
    · have := E.born x hx; omega
    · simp at hx; subst hx; exact Nat.lt_succ_self _
  · rw [Array.toList_push, List.map_append, List.nodup_append]
    refine ⟨E.once, by simp, ?_⟩
    intro x hx y hy
    obtain ⟨q, hq, rfl⟩ := List.mem_map.1 hx
    simp at hy
    subst hy
    have := E.born q hq
    omega
theorem perm_erase {α : Type} : ∀ (L : List α) (j : Nat) (e : α), L[j]? = some e → (e :: L.eraseIdx j).Perm L
  | [], j, e, h => by simp at h
  | x :: L, 0, e, h => by simp at h; subst h; simp
  | x :: L, j + 1, e, h => by
    have ih := perm_erase L j e (by simpa using h)
    rw [List.eraseIdx_cons_succ]
    exact (List.Perm.swap x e _).trans (ih.cons x)
theorem perm_del {α : Type} (f : α → Value × Value) {es : List α} {k : IntKind} {l : List (Int × Value)} (hp : (es.map f).Perm (l.map (enc k))) (hn : (l.map (·.1)).Nodup) {j : Nat} {e : α} (hj : es[j]? = some e) {i : Int} (he : (f e).1 = .int k i) :
    ((es.eraseIdx j).map f).Perm ((l.filter fun p => p.1 != i).map (enc k)) := by
  have hjl : j < es.length := (List.getElem?_eq_some_iff.1 hj).1
  have hje : es[j] = e := (List.getElem?_eq_some_iff.1 hj).2
  have h1 : (e :: es.eraseIdx j).Perm es := perm_erase es j e hj
  have hm : f e ∈ l.map (enc k) := hp.mem_iff.1 (List.mem_map.2 ⟨e, List.mem_of_getElem? hj, rfl⟩)
  obtain ⟨p, hpl, hpe⟩ := List.mem_map.1 hm
  have hpi : p.1 = i := by
    have : (enc k p).1 = .int k i := by rw [hpe, he]
    simpa [enc] using this
  obtain ⟨s, t, rfl⟩ := List.append_of_mem hpl
  have hfil : (s ++ p :: t).filter (fun q => q.1 != i) = s ++ t := by
    rw [List.map_append, List.map_cons, List.nodup_append, List.nodup_cons] at hn
    rw [List.filter_append, List.filter_cons]
    have h2 : (p.1 != i) = false := by simp [hpi]
    rw [h2]
    have h3 : s.filter (fun q => q.1 != i) = s := List.filter_eq_self.2 fun q hq => by
      have := hn.2.2 q.1 (List.mem_map.2 ⟨q, hq, rfl⟩) p.1 (by simp)
      simp; omega
    have h4 : t.filter (fun q => q.1 != i) = t := List.filter_eq_self.2 fun q hq => by
      have : p.1 ≠ q.1 := fun e => hn.2.1.1 (by rw [e]; exact List.mem_map.2 ⟨q, hq, rfl⟩)
      simp; omega
    rw [h3]
    simp [h4]
  rw [hfil]
  have h5 : (f e :: (es.eraseIdx j).map f).Perm (enc k p :: (s ++ t).map (enc k)) := by
    have a1 : (f e :: (es.eraseIdx j).map f).Perm (es.map f) := h1.map f
    refine a1.trans (hp.trans ?_)
    rw [List.map_append, List.map_cons, List.map_append]
    exact List.perm_middle
  rw [hpe] at h5
  exact h5.cons_inv
theorem perm_filter_none {l : List (Int × Value)} {i : Int} (hp : ∀ v, (i, v) ∉ l) : l.filter (fun p => p.1 != i) = l :=
  List.filter_eq_self.2 fun q hq => by
    have : q.1 ≠ i := fun e => hp q.2 (by rw [← e]; exact hq)
    simpa using this
/-- the loop over a map under way: rest is still to come -/
def Rng (w : World) (r b : Nat) (k : IntKind) (l rest : List (Int × Value)) : Prop :=
  ∃ es ck since seen c0, w.heap[b]? = some (.map es ck) ∧ Ents es ck k l ∧ w.heap[r]? = some (.mapIter (some b) since seen c0) ∧ (∀ x ∈ es.toList, x.born < since) ∧ since ≤ c0 ∧ since ≤ ck ∧
    ((leftOf es seen).toList.map kv).Perm (rest.map (enc k))
theorem Rng.in_ {r : Nat} {rest : List (Int × Value)} (h : Rng w r b k l rest) : r < w.heap.size := by
  obtain ⟨es, ck, since, seen, c0, hb, E, hr, _⟩ := h
  exact (Array.getElem?_eq_some_iff.1 hr).1
theorem Rng.keep {r : Nat} {rest : List (Int × Value)} {w' : World} (h : Rng w r b k l rest) (e1 : w'.heap[b]? = w.heap[b]?) (e2 : w'.heap[r]? = w.heap[r]?) : Rng w' r b k l rest := by
  obtain ⟨es, ck, since, seen, c0, hb, E, hr, x⟩ := h
  exact ⟨es, ck, since, seen, c0, e1.trans hb, E, e2.trans hr, x⟩
theorem Rng.left {r : Nat} {rest : List (Int × Value)} (h : Rng w r b k l rest) : w.rangeLeft b r = rest.length := by
  obtain ⟨es, ck, since, seen, c0, hb, E, hr, _, _, _, hp⟩ := h
  simp only [World.rangeLeft, hb, hr]
  have := hp.length_eq
  simpa using this
theorem MapOf.range_ (h : MapOf w b k l) (ht : P.underlying t = some (.map kt e)) :
    ∃ w', (Instr.range t (.map (some b))).run P w = .ok (.pointer (some ⟨w.heap.size, 0, none⟩)) w' ∧ Rng w' w.heap.size b k l l ∧ Below w.heap.size w w' ∧ w'.heap.size = w.heap.size + 1 := by
  have hlt := h.in_
  obtain ⟨es, ck, hb, E⟩ := h
  refine ⟨_, run_range_map w t kt e b es ck ht hb, ⟨es, ck, ck, #[], ck, ((MapKept.heap_alloc w _).2 b hlt).trans hb, E, (MapKept.heap_alloc w _).1, E.born, Nat.le_refl _, Nat.le_refl _, ?_⟩, (Below.refl _ _).alloc (Nat.le_refl _) _, by simp⟩
  have : leftOf es #[] = es := by unfold leftOf; simp
  rw [this]
  exact E.perm
theorem left_push (es : Array MapEntry) (seen : Array Nat) (hn : (es.toList.map (·.born)).Nodup) (e : MapEntry) (he : e ∈ (leftOf es seen).toList) :
    ∃ j, (leftOf es seen).toList[j]? = some e ∧ (leftOf es (seen.push e.born)).toList = (leftOf es seen).toList.eraseIdx j := by
  have hsub : (leftOf es seen).toList.Sublist es.toList := by unfold leftOf; rw [Array.toList_filter]; exact List.filter_sublist
  have hn1 : ((leftOf es seen).toList.map (·.born)).Nodup := (hsub.map _).nodup hn
  obtain ⟨j, hj⟩ := List.getElem?_of_mem he
  refine ⟨j, hj, ?_⟩
  have h1 : (leftOf es (seen.push e.born)).toList = (leftOf es seen).toList.filter fun x => x.born != e.born := by
    unfold leftOf
    rw [Array.toList_filter, Array.toList_filter, List.filter_filter]
    refine List.filter_congr fun x _ => ?_
    rw [contains_push]
    cases seen.contains x.born <;> cases h : (x.born == e.born) <;> simp [bne, h]
  rw [h1]
  generalize (leftOf es seen).toList = L at hn1 hj
  clear h1 he hsub
  induction L generalizing j with
  | nil => simp at hj
  | cons x L ih =>
    rw [List.map_cons, List.nodup_cons] at hn1
    cases j with
    | zero =>
      simp at hj
      subst hj
      rw [List.filter_cons]
      simp
      intro y hy e
      exact hn1.1 (by rw [← e]; exact List.mem_map.2 ⟨y, hy, rfl⟩)
    | succ j =>
      have hj' : L[j]? = some e := by simpa using hj
      have hx : (x.born != e.born) = true := by
        have : x.born ≠ e.born := fun h => hn1.1 (by rw [h]; exact List.mem_map.2 ⟨e, List.mem_of_getElem? hj', rfl⟩)
        simpa using this
      rw [List.filter_cons, hx]
      simp [ih j hn1.2 hj']
/-- the step -/
theorem Rng.next {r : Nat} {rest : List (Int × Value)} (h : Rng w r b k l rest) (ty : TypeId) :
    (rest = [] ∧ (Instr.next (.pointer (some ⟨r, 0, none⟩)) false ty).run P w = .ok (.tuple #[.bool false]) w) ∨
    ∃ s i v t w', rest = s ++ (i, v) :: t ∧ (Instr.next (.pointer (some ⟨r, 0, none⟩)) false ty).run P w = .ok (.tuple #[.bool true, .int k i, v]) w' ∧ Rng w' r b k l (s ++ t) ∧ Chg (· = r) w w' ∧ w'.heap.size = w.heap.size ∧
      (Instr.entry (.pointer (some ⟨r, 0, none⟩))).run P w' = .ok (.tuple #[.int k i, v]) w' := by
  obtain ⟨es, ck, since, seen, c0, hb, E, hr, hold, hsc, hsk, hp⟩ := h
  have hne : r ≠ b := by rintro rfl; rw [hb] at hr; cases hr
  rcases run_next_at (P := P) w ty r b since c0 seen es ck hr hb hold hsc with ⟨h0, hrun⟩ | ⟨e, he, w1, hal, hrun⟩
  · left
    refine ⟨?_, hrun⟩
    have := hp.length_eq
    rw [List.length_map, List.length_map] at this
    have h1 : rest.length = 0 := by rw [← this]; simpa using h0
    exact List.eq_nil_of_length_eq_zero h1
  · right
    obtain ⟨j, hj, hpush⟩ := left_push es seen E.once e he
    have hem : kv e ∈ rest.map (enc k) := hp.mem_iff.1 (List.mem_map.2 ⟨e, he, rfl⟩)
    obtain ⟨p, hpl, hpe⟩ := List.mem_map.1 hem
    obtain ⟨s, t, rfl⟩ := List.append_of_mem hpl
    have hk1 : e.key = .int k p.1 := (congrArg Prod.fst hpe).symm
    have hv1 : e.val = p.2 := (congrArg Prod.snd hpe).symm
    have hr1 : w1.heap[r]? = some (.mapIter (some b) since seen c0) := by rcases hal with rfl | rfl <;> exact hr
    have hb1 : w1.heap[b]? = some (.map es ck) := by rcases hal with rfl | rfl <;> exact hb
    have hset := heap_set (o' := .mapIter (some b) since (seen.push e.born) ck) hr1
    have hb' : (ChangeMaps.setBlock w1 r (.mapIter (some b) since (seen.push e.born) ck)).heap[b]? = some (.map es ck) := (hset.2 b (fun e1 => hne e1.symm)).trans hb1
    refine ⟨s, p.1, p.2, t, _, rfl, by rw [hrun, hk1, hv1], ⟨es, ck, since, seen.push e.born, ck, hb', E, hset.1, hold, hsk, hsk, ?_⟩, ?_, ?_, ?_⟩
    · rw [hpush]
      have hjl : j < (leftOf es seen).toList.length := (List.getElem?_eq_some_iff.1 hj).1
      have hje : (leftOf es seen).toList[j] = e := (List.getElem?_eq_some_iff.1 hj).2
      have h1 : (e :: (leftOf es seen).toList.eraseIdx j).Perm (leftOf es seen).toList := perm_erase _ j e hj
      have h5 : (kv e :: ((leftOf es seen).toList.eraseIdx j).map kv).Perm (enc k p :: (s ++ t).map (enc k)) := by
        have a1 : (kv e :: ((leftOf es seen).toList.eraseIdx j).map kv).Perm ((leftOf es seen).toList.map kv) := h1.map kv
        refine a1.trans (hp.trans ?_)
        rw [List.map_append, List.map_cons, List.map_append]
        exact List.perm_middle
      rw [hpe] at h5
      exact h5.cons_inv
    · rcases hal with rfl | rfl <;> exact ⟨rfl, rfl, rfl, by simp [ChangeMaps.setBlock], fun i _ hi => hset.2 i hi⟩
    · rcases hal with rfl | rfl <;> simp [ChangeMaps.setBlock]
    · rw [← hk1, ← hv1]
      exact run_entry_at _ r b since seen es ck e hset.1 hb' (mem_left he).1 E.once
end

section
variable {P : Program} (w : World) {ops : Array Oper} {rest : List Oper} {o : Oper} {a : Act} {Q : Exit → Act → World → Prop}
theorem wp_range_map (hg : o.guard = none) (m : Operand) (t : TypeId) (hop : o.op = Op.range t m) (kt e : TypeId) (ht : P.underlying t = some (.map kt e)) (k : IntKind) (b : Nat) (l : List (Int × Value)) (hm : a.eval m = .map (some b)) (h : MapOf w b k l)
    (hK : ∀ w', Rng w' w.heap.size b k l l → Below w.heap.size w w' → w'.heap.size = w.heap.size + 1 → wpList P ops Q rest (a.put o.dst (.pointer (some ⟨w.heap.size, 0, none⟩))) w') :
    wpList P ops Q (o :: rest) a w := by
  refine wpList_plain hg fun K' hK' => ?_
  obtain ⟨w', hrun, r1, r2, r3⟩ := h.range_ ht
  unfold Oper.wp
  simp [execOp, hop, hm, hrun, Result.andThen]
  exact hK' _ _ (hK w' r1 r2 r3)
theorem wp_next_map (hg : o.guard = none) (it : Operand) (hop : o.op = Op.next it false) (k : IntKind) (b r : Nat) (l left : List (Int × Value)) (hit : a.eval it = .pointer (some ⟨r, 0, none⟩)) (h : Rng w r b k l left)
    (hDone : left = [] → wpList P ops Q rest (a.put o.dst (.tuple #[.bool false])) w)
    (hMore : ∀ s i v t w', left = s ++ (i, v) :: t → Rng w' r b k l (s ++ t) → Chg (· = r) w w' → w'.heap.size = w.heap.size → (Instr.entry (.pointer (some ⟨r, 0, none⟩))).run P w' = .ok (.tuple #[.int k i, v]) w' →
      wpList P ops Q rest (a.put o.dst (.tuple #[.bool true, .int k i, v])) w') :
    wpList P ops Q (o :: rest) a w := by
  refine wpList_plain hg fun K' hK' => ?_
  unfold Oper.wp
  rcases h.next (P := P) o.type with ⟨h0, hrun⟩ | ⟨s, i, v, t, w', h1, hrun, h2, h3, h4, h5⟩
  · simp [execOp, hop, hit, hrun, Result.andThen]
    exact hK' _ _ (hDone h0)
  · simp [execOp, hop, hit, hrun, Result.andThen]
    exact hK' _ _ (hMore s i v t w' h1 h2 h3 h4 h5)
end
theorem MapOf.perm {w : World} {b : Nat} {k : IntKind} {l l' : List (Int × Value)} (h : MapOf w b k l) (hp : l.Perm l') : MapOf w b k l' := by
  obtain ⟨es, ck, hb, E⟩ := h
  exact ⟨es, ck, hb, E.perm.trans (hp.map _), (hp.map _).nodup_iff.1 E.nodup, E.born, E.once⟩
theorem MapOf.nodup {w : World} {b : Nat} {k : IntKind} {l : List (Int × Value)} (h : MapOf w b k l) : (l.map (·.1)).Nodup := by
  obtain ⟨es, ck, hb, E⟩ := h
  exact E.nodup
theorem MapOf.len {P : Program} {w : World} {t kt e : TypeId} {k : IntKind} {l : List (Int × Value)} {b : Nat} (h : MapOf w b k l) (ht : P.underlying t = some (.map kt e)) (ty : TypeId) : (Builtin.len_ #[t] ty #[.map (some b)]).run P w = .ok (.int .i64 (l.length : Int)) w := by
  obtain ⟨es, ck, hb, E⟩ := h
  rw [← E.size]
  simp [Builtin.len_, run_underlying ht, MapKept.run_getObj_map hb, goInt, Result.andThen]
end Go.Proofs.Ytibnackmddigaaa.Mp