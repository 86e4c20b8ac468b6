import Derived.Test.YtndhmidgnpobjaaGreatDoorSta
import Derived.Maps.RangeWalk
import Derived.Lib.Hide
import Derived.Test.YtndhmidgnpobjaaGreatDoorCrcB
import Derived.Test.YtndhmidgnpobjaaGreatDoorSwap
import Derived.WalkLawsBesides
set_option linter.unusedVariables false
set_option linter.unusedSimpArgs false
section
namespace Go.Proofs.YtndhmidgnpobjaaGreatDoor
open Go.ChangeShapes Go.WideShapes Go.ChangeAt Go.RowKit Go.MapKept
def kv (e : MapEntry) : Value × Value := (e.key, e.val)
def enc (k : IntKind) (p : Int × Value) : Value × Value := (.int k p.1, p.2)
structure Vz (es : Array MapEntry) (ck : Nat) (k : IntKind) (l : List (Int × Value)) : Prop where
 perm : (es.toList.map kv).Perm (l.map (enc k))
 nodup : (l.map (·.1)).Nodup
 born : ∀ e ∈ es.toList, e.born < ck
 once : (es.toList.map (·.born)).Nodup
def yA (w : World) (b : Nat) (k : IntKind) (l : List (Int × Value)) : Prop := ∃ es ck, w.heap[b]? = some (.map es ck) /\ Vz es ck k l
theorem Vz.keys {es : Array MapEntry} {ck : Nat} {k : IntKind} {l : List (Int × Value)} (h : Vz es ck k l) : ∀ e ∈ es.toList, e.key = .int k (intOf e.key) := by
 intro e he;have h1 : kv e ∈ l.map (enc k) := h.perm.mem_iff.1 (List.mem_map.2 ⟨e, he, rfl⟩);obtain ⟨p, hp, hpe⟩ := List.mem_map.1 h1;have : e.key = .int k p.1 := by have := congrArg Prod.fst hpe; exact this.symm
 rw [this]; rfl
theorem Vz.size {es : Array MapEntry} {ck : Nat} {k : IntKind} {l : List (Int × Value)} (h : Vz es ck k l) : es.size = l.length := by
 have := h.perm.length_eq;simpa using this
theorem Vz.of_mem {es : Array MapEntry} {ck : Nat} {k : IntKind} {l : List (Int × Value)} (h : Vz es ck k l) {i : Int} {v : Value} (hp : (i, v) ∈ l) : ∃ e ∈ es.toList, e.key = .int k i /\ e.val = v := by
 have h1 : enc k (i, v) ∈ es.toList.map kv := h.perm.mem_iff.2 (List.mem_map.2 ⟨_, hp, rfl⟩);obtain ⟨e, he, hpe⟩ := List.mem_map.1 h1;exact ⟨e, he, congrArg Prod.fst hpe, congrArg Prod.snd hpe⟩
theorem Vz.mem {es : Array MapEntry} {ck : Nat} {k : IntKind} {l : List (Int × Value)} (h : Vz es ck k l) {e : MapEntry} (he : e ∈ es.toList) : (intOf e.key, e.val) ∈ l := by
 have h1 : kv e ∈ l.map (enc k) := h.perm.mem_iff.1 (List.mem_map.2 ⟨e, he, rfl⟩);obtain ⟨p, hp, hpe⟩ := List.mem_map.1 h1;have h2 : .int k p.1 = e.key := congrArg Prod.fst hpe;have h3 : p.2 = e.val := congrArg Prod.snd hpe;rw [<- h2, <- h3];exact hp
theorem zD9 : ∀ {l : List (Int × Value)}, (l.map (·.1)).Nodup -> ∀ {i : Int} {u v : Value}, (i, u) ∈ l -> (i, v) ∈ l -> u = v
 | [], _, _, _, _, h, _ => by simp at h
 | x :: l, hn, i, u, v, h1, h2 => by
   have hn' := List.nodup_cons.1 hn;rcases List.mem_cons.1 h1 with e1 | e1
   · rcases List.mem_cons.1 h2 with e2 | e2
     · have := e1.trans e2.symm; simpa using this
     · exact absurd (List.mem_map.2 ⟨_, e2, by rw [<- e1]⟩) hn'.1
   · rcases List.mem_cons.1 h2 with e2 | e2
     · exact absurd (List.mem_map.2 ⟨_, e1, by rw [<- e2]⟩) hn'.1
     · exact zD9 hn'.2 e1 e2
section
variable {w : World} {b : Nat} {k : IntKind} {l : List (Int × Value)}
theorem yA.in_ (h : yA w b k l) : b < w.heap.size := by
 obtain ⟨es, ck, hb, _⟩ := h;exact (Array.getElem?_eq_some_iff.1 hb).1
theorem yA.keep {w' : World} (h : yA w b k l) (e : w'.heap[b]? = w.heap[b]?) : yA w' b k l := by
 obtain ⟨es, ck, hb, r⟩ := h;exact ⟨es, ck, e.trans hb, r⟩
theorem yA.made (w : World) (k : IntKind) : yA (w.alloc (.map #[] 0)) w.heap.size k [] :=
 ⟨#[], 0, by unfold World.alloc; simp, ⟨by simp, by simp, by simp, by simp⟩⟩
theorem yA.ne (h : yA w b k l) {p : Nat} {T : TypeId} {cs : Array Value} (ho : Own w p T cs) : b ≠ p := by
 rintro rfl;obtain ⟨es, ck, hb, _⟩ := h;unfold Own at ho;rw [ho] at hb;cases hb
theorem yA.find_some (h : yA w b k l) {i : Int} {v : Value} (hp : (i, v) ∈ l) : ∃ es ck j e, w.heap[b]? = some (.map es ck) /\ Vz es ck k l /\ es[j]? = some e /\ e.key = .int k i /\ e.val = v /\ Instr.findNow (.int k) (.int k i) es.toList 0 = some (some (j, v)) := by
 obtain ⟨es, ck, hb, E⟩ := h;obtain ⟨e, he, h1, h2⟩ := E.of_mem hp;rcases jR k i es.toList 0 E.keys with ⟨h3, _⟩ | ⟨j, e0, h3, h4, h5, h6, h7⟩
 · have := List.find?_eq_none.1 h3 e he;rw [h1] at this;simp [intOf] at this
 · have hm := E.mem (List.mem_of_getElem? h3);rw [h4] at hm;have hv : e0.val = v := zD9 E.nodup hm hp;refine ⟨es, ck, j, e0, hb, E, by simpa using h3, ?_, hv, by rw [h7, hv]; simp⟩;rw [E.keys e0 (List.mem_of_getElem? h3), h4]
theorem yA.find_none (h : yA w b k l) {i : Int} (hp : ∀ v, (i, v) ∉ l) : ∃ es ck, w.heap[b]? = some (.map es ck) /\ Vz es ck k l /\ Instr.findNow (.int k) (.int k i) es.toList 0 = some none := by
 obtain ⟨es, ck, hb, E⟩ := h;rcases jR k i es.toList 0 E.keys with ⟨_, h3⟩ | ⟨j, e0, h3, h4, h5, h6, h7⟩
 · exact ⟨es, ck, hb, E, h3⟩
 · have hm := E.mem (List.mem_of_getElem? h3);rw [h4] at hm;exact absurd hm (hp _)
end
section
variable {P : Program} {w : World} {t e : TypeId} {k : IntKind} {l : List (Int × Value)} {b : Nat} {kt : TypeId}
theorem yA.look (h : yA w b k l) (ht : P.underlying t = some (.map kt e)) (hk : P.underlying kt = some (.int k)) {z : Value} (hz : (zeroValue e).run P w = .ok z w) {i : Int} {v : Value} (hp : (i, v) ∈ l) :
   (Instr.lookup t (.map (some b)) (.int k i) false).run P w = .ok v w := by
 obtain ⟨es, ck, j, e0, hb, E, h1, h2, h3, h4⟩ := h.find_some hp;simp [Instr.lookup, run_underlying ht, MapKept.run_getObj_map hb, yS hk, Instr.findKey, run_underlying hk, h1, h3, h4, hz, Result.andThen]
theorem yA.miss (h : yA w b k l) (ht : P.underlying t = some (.map kt e)) (hk : P.underlying kt = some (.int k)) {z : Value} (hz : (zeroValue e).run P w = .ok z w) {i : Int} (hp : ∀ v, (i, v) ∉ l) :
   (Instr.lookup t (.map (some b)) (.int k i) false).run P w = .ok z w := by
 obtain ⟨es, ck, hb, E, h4⟩ := h.find_none hp;simp [Instr.lookup, run_underlying ht, MapKept.run_getObj_map hb, yS hk, Instr.findKey, run_underlying hk, h4, hz, Result.andThen]
theorem jP (hb : b < w.heap.size) (o : Obj) : Chg (· = b) w { w with heap := w.heap.setIfInBounds b o } /\ ({ w with heap := w.heap.setIfInBounds b o } : World).heap[b]? = some o :=
 ⟨⟨rfl, rfl, rfl, by simp, fun q _ hq => by simp; rw [Array.getElem?_setIfInBounds_ne (Ne.symm hq)]⟩, by simp [hb]⟩
theorem yA.put (h : yA w b k l) (ht : P.underlying t = some (.map kt e)) (hk : P.underlying kt = some (.int k)) {i : Int} (v : Value) (hp : ∀ v, (i, v) ∉ l) :
   ∃ w', (Instr.mapUpdate t (.map (some b)) (.int k i) v).run P w = .ok () w' /\ yA w' b k (l ++ [(i, v)]) /\ Chg (· = b) w w' /\ w'.heap.size = w.heap.size := by
 have hlt := h.in_;obtain ⟨es, ck, hb, E, h2⟩ := h.find_none hp;refine ⟨{ w with heap := w.heap.setIfInBounds b (.map (es.push ⟨.int k i, v, ck⟩) (ck + 1)) }, by simp [Instr.mapUpdate, run_underlying ht, MapKept.run_getObj_map hb, yS hk, Instr.findKey, run_underlying hk, h2, MapKept.run_setObj_map _ hb, Result.andThen], ⟨_, _, (jP hlt _).2, ⟨?_, ?_, ?_, ?_⟩⟩, (jP hlt _).1, by simp⟩
 · rw [Array.toList_push, List.map_append, List.map_append];exact E.perm.append_right _
 · rw [List.map_append, List.nodup_append];refine ⟨E.nodup, by simp, ?_⟩;intro x hx y hy;obtain ⟨q, hq, rfl⟩ := List.mem_map.1 hx;simp at hy;subst hy;intro e;exact hp q.2 (by rw [<- e]; exact hq)
 · intro x hx;rw [Array.toList_push, List.mem_append] at hx;rcases hx with hx | hx
   · have := E.born x hx; omega
   · simp at hx; subst hx; exact Nat.lt_succ_self _
 · rw [Array.toList_push, List.map_append, List.nodup_append];refine ⟨E.once, by simp, ?_⟩;intro x hx y hy;obtain ⟨q, hq, rfl⟩ := List.mem_map.1 hx;simp at hy;subst hy;have := E.born q hq;omega
theorem Qc {α : Type} : ∀ (L : List α) (j : Nat) (e : α), L[j]? = some e -> (e :: L.eraseIdx j).Perm L
 | [], j, e, h => by simp at h
 | x :: L, 0, e, h => by simp at h; subst h; simp
 | x :: L, j + 1, e, h => by
   have ih := Qc L j e (by simpa using h);rw [List.eraseIdx_cons_succ];exact (List.Perm.swap x e _).trans (ih.cons x)
theorem zD5 {α : Type} (f : α -> Value × Value) {es : List α} {k : IntKind} {l : List (Int × Value)} (hp : (es.map f).Perm (l.map (enc k))) (hn : (l.map (·.1)).Nodup) {j : Nat} {e : α} (hj : es[j]? = some e) {i : Int} (he : (f e).1 = .int k i) :
   ((es.eraseIdx j).map f).Perm ((l.filter fun p => p.1 != i).map (enc k)) := by
 have hjl : j < es.length := (List.getElem?_eq_some_iff.1 hj).1;have hje : es[j] = e := (List.getElem?_eq_some_iff.1 hj).2;have h1 : (e :: es.eraseIdx j).Perm es := Qc es j e hj;have hm : f e ∈ l.map (enc k) := hp.mem_iff.1 (List.mem_map.2 ⟨e, List.mem_of_getElem? hj, rfl⟩);obtain ⟨p, hpl, hpe⟩ := List.mem_map.1 hm;have hpi : p.1 = i := by
   have : (enc k p).1 = .int k i := by rw [hpe, he]
   simpa [enc] using this
 obtain ⟨s, t, rfl⟩ := List.append_of_mem hpl;have hfil : (s ++ p :: t).filter (fun q => q.1 != i) = s ++ t := by
   rw [List.map_append, List.map_cons, List.nodup_append, List.nodup_cons] at hn;rw [List.filter_append, List.filter_cons];have h2 : (p.1 != i) = false := by simp [hpi]
   rw [h2];have h3 : s.filter (fun q => q.1 != i) = s := List.filter_eq_self.2 fun q hq => by
     have := hn.2.2 q.1 (List.mem_map.2 ⟨q, hq, rfl⟩) p.1 (by simp);simp; omega
   have h4 : t.filter (fun q => q.1 != i) = t := List.filter_eq_self.2 fun q hq => by
     have : p.1 ≠ q.1 := fun e => hn.2.1.1 (by rw [e]; exact List.mem_map.2 ⟨q, hq, rfl⟩)
     simp; omega
   rw [h3];simp [h4]
 rw [hfil];have h5 : (f e :: (es.eraseIdx j).map f).Perm (enc k p :: (s ++ t).map (enc k)) := by
   have a1 : (f e :: (es.eraseIdx j).map f).Perm (es.map f) := h1.map f;refine a1.trans (hp.trans ?_);rw [List.map_append, List.map_cons, List.map_append];exact List.perm_middle
 rw [hpe] at h5;exact h5.cons_inv
theorem gK {l : List (Int × Value)} {i : Int} (hp : ∀ v, (i, v) ∉ l) : l.filter (fun p => p.1 != i) = l :=
 List.filter_eq_self.2 fun q hq => by
   have : q.1 ≠ i := fun e => hp q.2 (by rw [<- e]; exact hq)
   simpa using this
theorem yA.del (h : yA w b k l) (ht : P.underlying t = some (.map kt e)) (hk : P.underlying kt = some (.int k)) (i : Int) (ty : TypeId) :
   ∃ w', (Builtin.delete_ #[t, kt] ty #[.map (some b), .int k i]).run P w = .ok (.tuple #[]) w' /\ yA w' b k (l.filter fun p => p.1 != i) /\ Chg (· = b) w w' /\ w'.heap.size = w.heap.size := by
 have hlt := h.in_;by_cases hc : ∃ v, (i, v) ∈ l
 · obtain ⟨v, hv⟩ := hc;obtain ⟨es, ck, j, e0, hb, E, h1, h2, h3, h4⟩ := h.find_some hv;have hjs : j < es.size := (Array.getElem?_eq_some_iff.1 h1).1;have hsub : (es.eraseIdxIfInBounds j).toList = es.toList.eraseIdx j := by
     unfold Array.eraseIdxIfInBounds;rw [dif_pos hjs];simp
   refine ⟨{ w with heap := w.heap.setIfInBounds b (.map (es.eraseIdxIfInBounds j) ck) }, by simp [Builtin.delete_, run_underlying ht, MapKept.run_getObj_map hb, yS hk, Instr.findKey, run_underlying hk, h4, MapKept.run_setObj_map _ hb, Result.andThen], ⟨_, _, (jP hlt _).2, ⟨?_, ?_, ?_, ?_⟩⟩, (jP hlt _).1, by simp⟩
   · rw [hsub];exact zD5 kv E.perm E.nodup (by simpa using h1) h2
   · exact (List.Sublist.map _ List.filter_sublist).nodup E.nodup
   · intro x hx;rw [hsub] at hx;exact E.born x ((List.eraseIdx_sublist _ _).subset hx)
   · rw [hsub];exact ((List.eraseIdx_sublist _ _).map _).nodup E.once
 · have hp : ∀ v, (i, v) ∉ l := fun v hv => hc ⟨v, hv⟩
   obtain ⟨es, ck, hb, E, h4⟩ := h.find_none hp;refine ⟨{ w with heap := w.heap.setIfInBounds b (.map es ck) }, by simp [Builtin.delete_, run_underlying ht, MapKept.run_getObj_map hb, yS hk, Instr.findKey, run_underlying hk, h4, MapKept.run_setObj_map _ hb, Result.andThen], ⟨_, _, (jP hlt _).2, ?_⟩, (jP hlt _).1, by simp⟩;rw [gK hp];exact E
def Rng (w : World) (r b : Nat) (k : IntKind) (l rest : List (Int × Value)) : Prop :=
 ∃ es ck since seen c0, w.heap[b]? = some (.map es ck) /\ Vz es ck k l /\ w.heap[r]? = some (.mapIter (some b) since seen c0) /\ (∀ x ∈ es.toList, x.born < since) /\ since <= c0 /\ since <= ck /\
   ((leftOf es seen).toList.map kv).Perm (rest.map (enc k))
theorem Rng.in_ {r : Nat} {rest : List (Int × Value)} (h : Rng w r b k l rest) : r < w.heap.size := by
 obtain ⟨es, ck, since, seen, c0, hb, E, hr, _⟩ := h;exact (Array.getElem?_eq_some_iff.1 hr).1
theorem Rng.keep {r : Nat} {rest : List (Int × Value)} {w' : World} (h : Rng w r b k l rest) (e1 : w'.heap[b]? = w.heap[b]?) (e2 : w'.heap[r]? = w.heap[r]?) : Rng w' r b k l rest := by
 obtain ⟨es, ck, since, seen, c0, hb, E, hr, x⟩ := h;exact ⟨es, ck, since, seen, c0, e1.trans hb, E, e2.trans hr, x⟩
theorem Rng.left {r : Nat} {rest : List (Int × Value)} (h : Rng w r b k l rest) : w.rangeLeft b r = rest.length := by
 obtain ⟨es, ck, since, seen, c0, hb, E, hr, _, _, _, hp⟩ := h;simp only [World.rangeLeft, hb, hr];have := hp.length_eq;simpa using this
theorem yA.range_ (h : yA w b k l) (ht : P.underlying t = some (.map kt e)) :
   ∃ w', (Instr.range t (.map (some b))).run P w = .ok (.pointer (some ⟨w.heap.size, 0, none⟩)) w' /\ Rng w' w.heap.size b k l l /\ Below w.heap.size w w' /\ w'.heap.size = w.heap.size + 1 := by
 have hlt := h.in_;obtain ⟨es, ck, hb, E⟩ := h;refine ⟨_, run_range_map w t kt e b es ck ht hb, ⟨es, ck, ck, #[], ck, ((MapKept.heap_alloc w _).2 b hlt).trans hb, E, (MapKept.heap_alloc w _).1, E.born, Nat.le_refl _, Nat.le_refl _, ?_⟩, (Below.refl _ _).alloc (Nat.le_refl _) _, by simp⟩;have : leftOf es #[] = es := by unfold leftOf; simp
 rw [this];exact E.perm
theorem zIn (es : Array MapEntry) (seen : Array Nat) (hn : (es.toList.map (·.born)).Nodup) (e : MapEntry) (he : e ∈ (leftOf es seen).toList) :
   ∃ j, (leftOf es seen).toList[j]? = some e /\ (leftOf es (seen.push e.born)).toList = (leftOf es seen).toList.eraseIdx j := by
 have hsub : (leftOf es seen).toList.Sublist es.toList := by unfold leftOf; rw [Array.toList_filter]; exact List.filter_sublist
 have hn1 : ((leftOf es seen).toList.map (·.born)).Nodup := (hsub.map _).nodup hn;obtain ⟨j, hj⟩ := List.getElem?_of_mem he;refine ⟨j, hj, ?_⟩;have h1 : (leftOf es (seen.push e.born)).toList = (leftOf es seen).toList.filter fun x => x.born != e.born := by
   unfold leftOf;rw [Array.toList_filter, Array.toList_filter, List.filter_filter];refine List.filter_congr fun x _ => ?_
   rw [contains_push];cases seen.contains x.born <;> cases h : (x.born == e.born) <;> simp [bne, h]
 rw [h1];generalize (leftOf es seen).toList = L at hn1 hj
 clear h1 he hsub;induction L generalizing j with
 | nil => simp at hj
 | cons x L ih =>
   rw [List.map_cons, List.nodup_cons] at hn1;cases j with
   | zero =>
     simp at hj;subst hj;rw [List.filter_cons];simp;intro y hy e;exact hn1.1 (by rw [<- e]; exact List.mem_map.2 ⟨y, hy, rfl⟩)
   | succ j =>
     have hj' : L[j]? = some e := by simpa using hj
     have hx : (x.born != e.born) = true := by
       have : x.born ≠ e.born := fun h => hn1.1 (by rw [h]; exact List.mem_map.2 ⟨e, List.mem_of_getElem? hj', rfl⟩)
       simpa using this
     rw [List.filter_cons, hx];simp [ih j hn1.2 hj']
theorem Rng.next {r : Nat} {rest : List (Int × Value)} (h : Rng w r b k l rest) (ty : TypeId) :
   (rest = [] /\ (Instr.next (.pointer (some ⟨r, 0, none⟩)) false ty).run P w = .ok (.tuple #[.bool false]) w) \/
   ∃ s i v t w', rest = s ++ (i, v) :: t /\ (Instr.next (.pointer (some ⟨r, 0, none⟩)) false ty).run P w = .ok (.tuple #[.bool true, .int k i, v]) w' /\ Rng w' r b k l (s ++ t) /\ Chg (· = r) w w' /\ w'.heap.size = w.heap.size /\
     (Instr.entry (.pointer (some ⟨r, 0, none⟩))).run P w' = .ok (.tuple #[.int k i, v]) w' := by
 obtain ⟨es, ck, since, seen, c0, hb, E, hr, hold, hsc, hsk, hp⟩ := h;have hne : r ≠ b := by rintro rfl; rw [hb] at hr; cases hr
 rcases run_next_at (P := P) w ty r b since c0 seen es ck hr hb hold hsc with ⟨h0, hrun⟩ | ⟨e, he, w1, hal, hrun⟩
 · left
   refine ⟨?_, hrun⟩;have := hp.length_eq;rw [List.length_map, List.length_map] at this;have h1 : rest.length = 0 := by rw [<- this]; simpa using h0
   exact List.eq_nil_of_length_eq_zero h1
 · right
   obtain ⟨j, hj, hpush⟩ := zIn es seen E.once e he;have hem : kv e ∈ rest.map (enc k) := hp.mem_iff.1 (List.mem_map.2 ⟨e, he, rfl⟩);obtain ⟨p, hpl, hpe⟩ := List.mem_map.1 hem;obtain ⟨s, t, rfl⟩ := List.append_of_mem hpl;have hk1 : e.key = .int k p.1 := (congrArg Prod.fst hpe).symm;have hv1 : e.val = p.2 := (congrArg Prod.snd hpe).symm;have hr1 : w1.heap[r]? = some (.mapIter (some b) since seen c0) := by rcases hal with rfl | rfl <;> exact hr
   have hb1 : w1.heap[b]? = some (.map es ck) := by rcases hal with rfl | rfl <;> exact hb
   have hset := heap_set (o' := .mapIter (some b) since (seen.push e.born) ck) hr1;have hb' : (ChangeMaps.setBlock w1 r (.mapIter (some b) since (seen.push e.born) ck)).heap[b]? = some (.map es ck) := (hset.2 b (fun e1 => hne e1.symm)).trans hb1;refine ⟨s, p.1, p.2, t, _, rfl, by rw [hrun, hk1, hv1], ⟨es, ck, since, seen.push e.born, ck, hb', E, hset.1, hold, hsk, hsk, ?_⟩, ?_, ?_, ?_⟩
   · rw [hpush];have hjl : j < (leftOf es seen).toList.length := (List.getElem?_eq_some_iff.1 hj).1;have hje : (leftOf es seen).toList[j] = e := (List.getElem?_eq_some_iff.1 hj).2;have h1 : (e :: (leftOf es seen).toList.eraseIdx j).Perm (leftOf es seen).toList := Qc _ j e hj;have h5 : (kv e :: ((leftOf es seen).toList.eraseIdx j).map kv).Perm (enc k p :: (s ++ t).map (enc k)) := by
       have a1 : (kv e :: ((leftOf es seen).toList.eraseIdx j).map kv).Perm ((leftOf es seen).toList.map kv) := h1.map kv;refine a1.trans (hp.trans ?_);rw [List.map_append, List.map_cons, List.map_append];exact List.perm_middle
     rw [hpe] at h5;exact h5.cons_inv
   · rcases hal with rfl | rfl <;> exact ⟨rfl, rfl, rfl, by simp [ChangeMaps.setBlock], fun i _ hi => hset.2 i hi⟩
   · rcases hal with rfl | rfl <;> simp [ChangeMaps.setBlock]
   · rw [<- hk1, <- hv1];exact run_entry_at _ r b since seen es ck e hset.1 hb' (mem_left he).1 E.once
end
section
variable {P : Program} (w : World) {ops : Array Oper} {rest : List Oper} {o : Oper} {a : Act} {Q : Exit -> Act -> World -> Prop}
theorem qB (hg : o.guard = none) (m : Operand) (t : TypeId) (hop : o.op = Op.range t m) (kt e : TypeId) (ht : P.underlying t = some (.map kt e)) (k : IntKind) (b : Nat) (l : List (Int × Value)) (hm : a.eval m = .map (some b)) (h : yA w b k l)
   (hK : ∀ w', Rng w' w.heap.size b k l l -> Below w.heap.size w w' -> w'.heap.size = w.heap.size + 1 -> wpList P ops Q rest (a.put o.dst (.pointer (some ⟨w.heap.size, 0, none⟩))) w') :
   wpList P ops Q (o :: rest) a w := by
 refine wpList_plain hg fun K' hK' => ?_
 obtain ⟨w', hrun, r1, r2, r3⟩ := h.range_ ht;unfold Oper.wp;simp [execOp, hop, hm, hrun, Result.andThen];exact hK' _ _ (hK w' r1 r2 r3)
theorem qT (hg : o.guard = none) (it : Operand) (hop : o.op = Op.next it false) (k : IntKind) (b r : Nat) (l left : List (Int × Value)) (hit : a.eval it = .pointer (some ⟨r, 0, none⟩)) (h : Rng w r b k l left)
   (hDone : left = [] -> wpList P ops Q rest (a.put o.dst (.tuple #[.bool false])) w)
   (hMore : ∀ s i v t w', left = s ++ (i, v) :: t -> Rng w' r b k l (s ++ t) -> Chg (· = r) w w' -> w'.heap.size = w.heap.size -> (Instr.entry (.pointer (some ⟨r, 0, none⟩))).run P w' = .ok (.tuple #[.int k i, v]) w' ->
     wpList P ops Q rest (a.put o.dst (.tuple #[.bool true, .int k i, v])) w') :
   wpList P ops Q (o :: rest) a w := by
 refine wpList_plain hg fun K' hK' => ?_
 unfold Oper.wp;rcases h.next (P := P) o.type with ⟨h0, hrun⟩ | ⟨s, i, v, t, w', h1, hrun, h2, h3, h4, h5⟩
 · simp [execOp, hop, hit, hrun, Result.andThen];exact hK' _ _ (hDone h0)
 · simp [execOp, hop, hit, hrun, Result.andThen];exact hK' _ _ (hMore s i v t w' h1 h2 h3 h4 h5)
theorem Jh (hg : o.guard = none) (m x : Operand) (t kt : TypeId) (hop : o.op = Op.call { callee := Callee.builtin Builtin.delete, args := #[m, x], argTypes := #[t, kt] })
   (e : TypeId) (ht : P.underlying t = some (.map kt e)) (k : IntKind) (hk : P.underlying kt = some (.int k)) (b : Nat) (l : List (Int × Value)) (i : Int) (hm : a.eval m = .map (some b)) (hx : a.eval x = .int k i) (h : yA w b k l)
   (hK : ∀ w', yA w' b k (l.filter fun p => p.1 != i) -> Chg (· = b) w w' -> w'.heap.size = w.heap.size -> wpList P ops Q rest (a.put o.dst (.tuple #[])) w') :
   wpList P ops Q (o :: rest) a w := by
 refine wpList_plain hg fun K' hK' => ?_
 obtain ⟨w', hrun, r1, r2, r3⟩ := h.del ht hk i o.type;unfold Oper.wp;simp [execOp, hop, resolve, invoke, builtin, hm, hx, hrun, Result.andThen];exact hK' _ _ (hK w' r1 r2 r3)
end
theorem yA.perm {w : World} {b : Nat} {k : IntKind} {l l' : List (Int × Value)} (h : yA w b k l) (hp : l.Perm l') : yA w b k l' := by
 obtain ⟨es, ck, hb, E⟩ := h;exact ⟨es, ck, hb, E.perm.trans (hp.map _), (hp.map _).nodup_iff.1 E.nodup, E.born, E.once⟩
theorem yA.len {P : Program} {w : World} {t kt e : TypeId} {k : IntKind} {l : List (Int × Value)} {b : Nat} (h : yA w b k l) (ht : P.underlying t = some (.map kt e)) (ty : TypeId) : (Builtin.len_ #[t] ty #[.map (some b)]).run P w = .ok (.int .i64 (l.length : Int)) w := by
 obtain ⟨es, ck, hb, E⟩ := h;rw [<- E.size];simp [Builtin.len_, run_underlying ht, MapKept.run_getObj_map hb, goInt, Result.andThen]
theorem Rng.ne_row {w : World} {r b : Nat} {k : IntKind} {l rest : List (Int × Value)} (h : Rng w r b k l rest) {base size n g : Nat} {T : TypeId} {v : Value} {xs : List Value} (ho : w.ownsRow base T size v n xs) (hg : v.ownBlock = some g) : r ≠ g := by
 rintro rfl;obtain ⟨es, ck, since, seen, c0, hb, E, hr, _⟩ := h;rcases ho.2 with ⟨rfl, _⟩ | ⟨g', cap, cur, rfl, _, h1, _⟩
 · cases hg
 · obtain rfl : g' = r := by simpa [Value.ownBlock] using hg
   rw [h1] at hr;cases hr
end Go.Proofs.YtndhmidgnpobjaaGreatDoor
end
section
namespace Go.Proofs.YtndhmidgnpobjaaGreatDoor.Po
structure RF where
 no : Int
 s : ByteArray
 dirty : Bool
 pins : Nat
def look (R : List RF) (no : Int) : Option RF := R.find? fun f => f.no == no
def del (R : List RF) (no : Int) : List RF := R.filter fun f => f.no != no
def free (f : RF) : Bool := !f.dirty && f.pins == 0
def victim (R : List RF) : Option RF := R.find? free
def roomR (R : List RF) (n : Nat) : Option (List RF) := if R.length < n then some R else (victim R).map fun v => del R v.no
def getR (R : List RF) (no : Int) : (ByteArray × Bool) × List RF := match look R no with
 | none => ((⟨#[]⟩, false), R)
 | some f => ((f.s, true), del R no ++ [f])
def addR (R : List RF) (n : Nat) (no : Int) (s : ByteArray) (d : Bool) : Int × List RF := match roomR R n with
 | none => (8, R)
 | some R' => (0, R' ++ [⟨no, s, d, 0⟩])
def putR (R : List RF) (n : Nat) (no : Int) (s : ByteArray) : Int × List RF := match look R no with
 | some _ => (7, R)
 | none => addR R n no s false
def setR (R : List RF) (n : Nat) (no : Int) (s : ByteArray) : Int × List RF := match look R no with
 | some f => (0, del R no ++ [⟨no, s, true, f.pins⟩])
 | none => addR R n no s true
def up (f : RF) : RF := ⟨f.no, f.s, f.dirty, f.pins + 1⟩
def down (f : RF) : RF := ⟨f.no, f.s, f.dirty, f.pins - 1⟩
def clean (f : RF) : RF := ⟨f.no, f.s, false, f.pins⟩
def cleanR (R : List RF) : List RF := R.map clean
def dropR (R : List RF) : List RF := R.filter fun f => !f.dirty
def sortI (l : List Int) : List Int := l.mergeSort fun x y => decide (x <= y)
def dirtyR (R : List RF) : List Int := sortI ((R.filter (·.dirty)).map (·.no))
structure OkR (R : List RF) (n c : Nat) : Prop where
 nos : (R.map (·.no)).Nodup
 few : R.length <= n
 pins : ∀ f ∈ R, f.pins <= c
 size : ∀ f ∈ R, f.s.size <= 281474976710656
theorem look_none {R : List RF} {no : Int} (h : look R no = none) : no ∉ R.map (·.no) := by
 intro hm;obtain ⟨f, hf, rfl⟩ := List.mem_map.1 hm;have := List.find?_eq_none.1 h f hf;simp at this
theorem look_some {R : List RF} {no : Int} {f : RF} (h : look R no = some f) : f.no = no /\ ∃ S T, R = S ++ f :: T := by
 have h1 := List.find?_some h;have h2 := List.mem_of_find?_eq_some h;exact ⟨by simpa using h1, List.append_of_mem h2⟩
theorem Vf {S T : List RF} {f : RF} (h : ((S ++ f :: T).map (·.no)).Nodup) : (∀ x ∈ S, x.no ≠ f.no) /\ (∀ x ∈ T, x.no ≠ f.no) := by
 rw [List.map_append, List.map_cons, List.nodup_append, List.nodup_cons] at h;exact ⟨fun x hx => h.2.2 x.no (List.mem_map.2 ⟨x, hx, rfl⟩) f.no (by simp), fun x hx e => h.2.1.1 (by rw [<- e]; exact List.mem_map.2 ⟨x, hx, rfl⟩)⟩
theorem look_at {S T : List RF} {f : RF} (h : ((S ++ f :: T).map (·.no)).Nodup) : look (S ++ f :: T) f.no = some f := by
 unfold look;rw [List.find?_append, List.find?_eq_none.2 fun x hx => by simpa using (Vf h).1 x hx];simp
theorem del_at {S T : List RF} {f : RF} (h : ((S ++ f :: T).map (·.no)).Nodup) : del (S ++ f :: T) f.no = S ++ T := by
 unfold del;rw [List.filter_append, List.filter_cons, List.filter_eq_self.2 fun x hx => by simpa using (Vf h).1 x hx];have : T.filter (fun x => x.no != f.no) = T := List.filter_eq_self.2 fun x hx => by simpa using (Vf h).2 x hx
 simp [this]
theorem victim_some {R : List RF} {v : RF} (h : victim R = some v) : free v = true /\ ∃ S T, R = S ++ v :: T /\ ∀ x ∈ S, free x = false := by
 obtain ⟨h1, S, T, h2, h3⟩ := List.find?_eq_some_iff_append.1 h;exact ⟨h1, S, T, h2, fun x hx => by simpa using h3 x hx⟩
theorem zDo {R : List RF} (h : victim R = none) : ∀ x ∈ R, free x = false := fun x hx => by simpa using List.find?_eq_none.1 h x hx
theorem OkR.more {R : List RF} {n c : Nat} (h : OkR R n c) (d : Nat) (hd : c <= d) : OkR R n d := ⟨h.nos, h.few, fun f hf => Nat.le_trans (h.pins f hf) hd, h.size⟩
theorem OkR.sub {R R' : List RF} {n c : Nat} (h : OkR R n c) (hs : R'.Sublist R) : OkR R' n c := ⟨(hs.map _).nodup h.nos, Nat.le_trans hs.length_le h.few, fun f hf => h.pins f (hs.subset hf), fun f hf => h.size f (hs.subset hf)⟩
theorem OkR.perm {R R' : List RF} {n c : Nat} (h : OkR R n c) (hp : R.Perm R') : OkR R' n c := ⟨(hp.map _).nodup_iff.1 h.nos, by rw [<- hp.length_eq]; exact h.few, fun f hf => h.pins f (hp.mem_iff.2 hf), fun f hf => h.size f (hp.mem_iff.2 hf)⟩
theorem OkR.turn {S T : List RF} {f g : RF} {n c : Nat} (h : OkR (S ++ f :: T) n c) (hn : g.no = f.no) (hp : g.pins <= c) (hs : g.s.size <= 281474976710656) : OkR (S ++ g :: T) n c := by
 refine ⟨?_, by simpa using h.few, fun x hx => ?_, fun x hx => ?_⟩
 · have := h.nos;rw [List.map_append, List.map_cons] at this ⊢;rw [hn];exact this
 · rcases List.mem_append.1 hx with hx | hx
   · exact h.pins x (by simp [hx])
   · rcases List.mem_cons.1 hx with rfl | hx
     · exact hp
     · exact h.pins x (by simp [hx])
 · rcases List.mem_append.1 hx with hx | hx
   · exact h.size x (by simp [hx])
   · rcases List.mem_cons.1 hx with rfl | hx
     · exact hs
     · exact h.size x (by simp [hx])
theorem zM7 (R : List RF) (no : Int) : (del R no).Sublist R := List.filter_sublist
theorem zJb {R R' : List RF} {n c : Nat} (h : OkR R n c) (hr : roomR R n = some R') : R'.Sublist R /\ R'.length < n := by
 unfold roomR at hr;split at hr
 · injection hr with hr; subst hr; exact ⟨List.Sublist.refl _, by assumption⟩
 · cases hv : victim R with
   | none => rw [hv] at hr; cases hr
   | some v =>
     rw [hv] at hr;injection hr with hr;subst hr;obtain ⟨_, S, T, rfl, _⟩ := victim_some hv;refine ⟨zM7 _ _, ?_⟩;show (del (S ++ v :: T) v.no).length < n
     rw [del_at h.nos];have := h.few;simp at this ⊢;omega
theorem zF5 {R : List RF} {n c : Nat} (h : OkR R n c) {no : Int} {s : ByteArray} {d : Bool} (hn : no ∉ R.map (·.no)) (hs : s.size <= 281474976710656) : OkR (addR R n no s d).2 n c := by
 unfold addR;cases hr : roomR R n with
 | none => exact h
 | some R' =>
   obtain ⟨h1, h2⟩ := zJb h hr;have h3 := h.sub h1;refine ⟨?_, by simp; omega, fun f hf => ?_, fun f hf => ?_⟩
   · show ((R' ++ [(⟨no, s, d, 0⟩ : RF)]).map (·.no)).Nodup
     rw [List.map_append, List.nodup_append];refine ⟨h3.nos, by simp, ?_⟩;intro x hx y hy;simp at hy;subst hy;rintro rfl;exact hn ((h1.map _).subset hx)
   · rcases List.mem_append.1 hf with hf | hf
     · exact h3.pins f hf
     · simp at hf; subst hf; exact Nat.zero_le _
   · rcases List.mem_append.1 hf with hf | hf
     · exact h3.size f hf
     · simp at hf; subst hf; exact hs
theorem perm_end {S T : List RF} {f : RF} : (S ++ f :: T).Perm (S ++ T ++ [f]) := by
 rw [List.append_assoc];refine List.Perm.append_left S ?_;exact (List.perm_append_singleton f T).symm
theorem zMk {R : List RF} {n c : Nat} (h : OkR R n c) (no : Int) : OkR (getR R no).2 n c := by
 unfold getR;cases hl : look R no with
 | none => exact h
 | some f =>
   obtain ⟨rfl, S, T, rfl⟩ := look_some hl;show OkR (del _ _ ++ [f]) n c
   rw [del_at h.nos];exact h.perm perm_end
theorem zNo {R : List RF} {n c : Nat} (h : OkR R n c) (no : Int) {s : ByteArray} (hs : s.size <= 281474976710656) : OkR (setR R n no s).2 n c := by
 unfold setR;cases hl : look R no with
 | none => exact zF5 h (look_none hl) hs
 | some f =>
   obtain ⟨rfl, S, T, rfl⟩ := look_some hl;show OkR (del _ _ ++ [_]) n c
   rw [del_at h.nos];exact (h.turn (g := ⟨f.no, s, true, f.pins⟩) rfl (h.pins f (by simp)) hs).perm perm_end
theorem zIh {R : List RF} {n c : Nat} (h : OkR R n c) : OkR (cleanR R) n c := by
 refine ⟨?_, by simpa [cleanR] using h.few, fun f hf => ?_, fun f hf => ?_⟩
 · have : (cleanR R).map (·.no) = R.map (·.no) := by simp [cleanR, clean]
   rw [this];exact h.nos
 · obtain ⟨g, hg, rfl⟩ := List.mem_map.1 hf;exact h.pins g hg
 · obtain ⟨g, hg, rfl⟩ := List.mem_map.1 hf;exact h.size g hg
theorem zKc {R : List RF} {n c : Nat} (h : OkR R n c) : OkR (dropR R) n c := h.sub List.filter_sublist
theorem sortI_perm {l l' : List Int} (h : l.Perm l') : sortI l = sortI l' := by
 unfold sortI;have h1 : (l.mergeSort fun x y => decide (x <= y)).Pairwise (· <= ·) := by
   have := List.pairwise_mergeSort (le := fun (x y : Int) => decide (x <= y)) (fun a b c h1 h2 => by simp at *; omega) (fun a b => by simp; omega) l;exact this.imp fun h => by simpa using h
 have h2 : (l'.mergeSort fun x y => decide (x <= y)).Pairwise (· <= ·) := by
   have := List.pairwise_mergeSort (le := fun (x y : Int) => decide (x <= y)) (fun a b c h1 h2 => by simp at *; omega) (fun a b => by simp; omega) l';exact this.imp fun h => by simpa using h
 have h3 := ((List.mergeSort_perm l fun x y => decide (x <= y)).trans h).trans (List.mergeSort_perm l' fun x y => decide (x <= y)).symm;exact h3.eq_of_pairwise (fun a b _ _ h1 h2 => by omega) h1 h2
end Go.Proofs.YtndhmidgnpobjaaGreatDoor.Po
end
section
namespace Go.Proofs.YtndhmidgnpobjaaGreatDoor.Po
open Go.ChangeShapes Go.WideShapes Go.ChangeAt Go.RowKit
structure Fr where
 rf : RF
 used : Nat
 blk : Nat
def ent (f : Fr) : Int × Value := (f.rf.no, .pointer (some ⟨f.blk, 0, none⟩))
def qI (f : Fr) : Array Value := #[.string f.rf.s, .bool f.rf.dirty, .int .i64 (f.rf.pins : Int), .int .i64 (f.used : Int)]
def uC (n m u : Nat) : Array Value := #[.int .i64 (n : Int), .map (some m), .int .i64 (u : Int)]
def qO (p m : Nat) (L : List Fr) : Nat -> Prop := fun q => q = p \/ q = m \/ q ∈ L.map (·.blk)
structure Mem (w : World) (B p m n u : Nat) (L : List Fr) : Prop where
 own : Own w p 216 (uC n m u)
 map : yA w m .i64 (L.map ent)
 fr : ∀ f ∈ L, Own w f.blk 229 (qI f)
 apart : (L.map (·.blk)).Nodup
 base : ∀ q, qO p m L q -> B <= q
structure Ord (u : Nat) (L : List Fr) : Prop where
 rise : L.Pairwise fun f g => f.used < g.used
 last : ∀ f ∈ L, f.used <= u
section
variable {w w' : World} {B p m n u : Nat} {L : List Fr}
theorem Mem.perm {L' : List Fr} (h : Mem w B p m n u L) (hp : L.Perm L') : Mem w B p m n u L' :=
 ⟨h.own, h.map.perm (hp.map _), fun f hf => h.fr f (hp.mem_iff.2 hf), (hp.map _).nodup_iff.1 h.apart, fun q hq => h.base q (hq.imp_right fun h => h.imp_right fun h => (hp.map _).mem_iff.2 h)⟩
theorem Mem.ne_map (h : Mem w B p m n u L) : m ≠ p := h.map.ne h.own
theorem Mem.ne_fr (h : Mem w B p m n u L) {f : Fr} (hf : f ∈ L) : m ≠ f.blk := h.map.ne (h.fr f hf)
theorem zJv {w : World} {p q : Nat} {T T' : TypeId} {cs cs' : Array Value} (h : Own w p T cs) (k : Own w q T' cs') (hT : T ≠ T') : p ≠ q := by
 rintro rfl;unfold Own at h k;rw [h] at k;injection k with k;injection k with k1 k2;exact hT k2
theorem Mem.ne_p (h : Mem w B p m n u L) {f : Fr} (hf : f ∈ L) : f.blk ≠ p := zJv (h.fr f hf) h.own (by decide)
theorem Mem.in_ (h : Mem w B p m n u L) {q : Nat} (hq : qO p m L q) : q < w.heap.size := by
 rcases hq with rfl | rfl | hq
 · exact h.own.in_
 · exact h.map.in_
 · obtain ⟨f, hf, rfl⟩ := List.mem_map.1 hq;exact (h.fr f hf).in_
theorem Mem.keep (h : Mem w B p m n u L) {S : Nat -> Prop} (hc : Chg S w w') (hS : ∀ q, qO p m L q -> ¬ S q) : Mem w' B p m n u L := by
 have k : ∀ q, qO p m L q -> w'.heap[q]? = w.heap[q]? := fun q hq => hc.block q (h.in_ hq) (hS q hq)
 exact ⟨(k p (.inl rfl)).trans h.own, h.map.keep (k m (.inr (.inl rfl))), fun f hf => (k f.blk (.inr (.inr (List.mem_map.2 ⟨f, hf, rfl⟩)))).trans (h.fr f hf), h.apart, h.base⟩
theorem Mem.below (h : Mem w B p m n u L) (hb : Below w.heap.size w w') : Mem w' B p m n u L := h.keep (Chg.of (S := fun _ => False) hb) fun _ _ => id
theorem Mem.drew (h : Mem w B p m n u L) : Mem w.drew B p m n u L := h.keep ((Chg.refl (fun _ => False) w).drew) fun _ _ => id
theorem Mem.turn {S T : List Fr} {f g : Fr} (h : Mem w B p m n u (S ++ f :: T)) (hc : Chg (· = f.blk) w w') (ho : Own w' f.blk 229 (qI g)) (hb : g.blk = f.blk) (hn : g.rf.no = f.rf.no) : Mem w' B p m n u (S ++ g :: T) := by
 have hf : f ∈ S ++ f :: T := by simp
 have hbl : (S ++ g :: T).map (·.blk) = (S ++ f :: T).map (·.blk) := by simp [hb]
 have he : (S ++ g :: T).map ent = (S ++ f :: T).map ent := by simp [ent, hb, hn]
 have hnd := h.apart;rw [List.map_append, List.map_cons, List.nodup_append, List.nodup_cons] at hnd;refine ⟨hc.own h.own (h.ne_p hf).symm, ?_, fun x hx => ?_, by rw [hbl]; exact h.apart, fun q hq => h.base q (by unfold qO at hq ⊢; rw [hbl] at hq; exact hq)⟩
 · rw [he];exact h.map.keep (hc.block m h.map.in_ (h.ne_fr hf))
 · have other : ∀ x ∈ S ++ f :: T, x.blk ≠ f.blk -> Own w' x.blk 229 (qI x) := fun x hx hne => hc.own (h.fr x hx) hne
   rcases List.mem_append.1 hx with hx | hx
   · exact other x (by simp [hx]) fun e => hnd.2.2 x.blk (List.mem_map.2 ⟨x, hx, rfl⟩) f.blk (by simp) e
   · rcases List.mem_cons.1 hx with rfl | hx
     · rw [hb]; exact ho
     · exact other x (by simp [hx]) fun e => hnd.2.1.1 (by rw [<- e]; exact List.mem_map.2 ⟨x, hx, rfl⟩)
theorem jV (w : World) (b o : Nat) (v : Value) : Chg (· = b) w (w.setCell ⟨b, o, none⟩ v) := (Chg.refl (· = b) w).set ⟨b, o, none⟩ (.inl rfl) v
theorem Mem.count (h : Mem w B p m n u L) (hc : Chg (· = p) w w') {v : Nat} (ho : Own w' p 216 (uC n m v)) : Mem w' B p m n v L :=
 ⟨ho, h.map.keep (hc.block m h.map.in_ h.ne_map), fun f hf => hc.own (h.fr f hf) (h.ne_p hf), h.apart, h.base⟩
theorem zDg (w : World) : (zeroValue 227).run Tryz.prog w = .ok (.pointer none) w := by kernel_rfl
end
section
variable {w : World} {B p m n u : Nat} {L S T : List Fr} {f : Fr}
theorem find_some (h : Mem w B p m n u (S ++ f :: T)) : Calls Tryz.prog 195 #[.pointer (some ⟨p, 0, none⟩), .int .i64 f.rf.no] w fun e w' => e = .returned (.pointer (some ⟨f.blk, 0, none⟩)) /\ w = w' := by
 have HM := h.map.look Tryz.underlying214 Tryz.underlying3 (zDg w) (i := f.rf.no) (v := .pointer (some ⟨f.blk, 0, none⟩)) (by rw [List.map_append, List.map_cons]; exact List.mem_append_right _ (List.mem_cons_self ..));obtain ⟨o1, o2, o3⟩ := h.own.at_;unfold uC at o1;clear h;go_enter Tryz.func195, Tryz.ntmps195;go_wp2;go_ret;exact ⟨rfl, rfl⟩
theorem find_none (h : Mem w B p m n u L) {no : Int} (hno : no ∉ (L.map (·.rf)).map (·.no)) : Calls Tryz.prog 195 #[.pointer (some ⟨p, 0, none⟩), .int .i64 no] w fun e w' => e = .returned (.pointer none) /\ w = w' := by
 have HM := h.map.miss Tryz.underlying214 Tryz.underlying3 (zDg w) (i := no) (fun v hv => hno (by
   obtain ⟨x, hx, e⟩ := List.mem_map.1 hv;have : x.rf.no = no := congrArg Prod.fst e;rw [<- this];exact List.mem_map.2 ⟨x.rf, List.mem_map.2 ⟨x, hx, rfl⟩, rfl⟩))
 obtain ⟨o1, o2, o3⟩ := h.own.at_;unfold uC at o1;clear h hno;go_enter Tryz.func195, Tryz.ntmps195;go_wp2;go_ret;exact ⟨rfl, rfl⟩
def used (f : Fr) (u : Nat) : Fr := ⟨f.rf, u, f.blk⟩
theorem zGu (h : Mem w B p m n u (S ++ f :: T)) (hu : u <= 1000000) : Calls Tryz.prog 196 #[.pointer (some ⟨p, 0, none⟩), .pointer (some ⟨f.blk, 0, none⟩)] w fun e w' =>
   e = .returned (.tuple #[]) /\ Mem w' B p m n (u + 1) (S ++ used f (u + 1) :: T) /\ Chg (fun q => q = p \/ q = f.blk) w w' := by
 have hf : f ∈ S ++ f :: T := by simp
 have hne := h.ne_p hf;have M1 : Mem (w.setCell ⟨p, 2, none⟩ (.int .i64 ((u : Int) + 1))) B p m n (u + 1) (S ++ f :: T) := h.count (jV _ _ _ _) (Own.put h.own 2 _);have F1 := M1.fr f hf;have M2 := M1.turn (g := used f (u + 1)) (jV _ f.blk 3 (.int .i64 ((u : Int) + 1))) (Own.put F1 3 _) rfl rfl;have C2 : Chg (fun q => q = p \/ q = f.blk) w ((w.setCell ⟨p, 2, none⟩ (.int .i64 ((u : Int) + 1))).setCell ⟨f.blk, 3, none⟩ (.int .i64 ((u : Int) + 1))) :=
   ((jV w p 2 _).mono fun q _ e => .inl e).same ((jV _ f.blk 3 _).mono fun q _ e => .inr e)
 replace M2 := Lh M2;replace C2 := Lh C2;obtain ⟨o1, o2, o3⟩ := h.own.at_;obtain ⟨p1, p2, p3⟩ := (h.fr f hf).at_;unfold uC at o1;unfold qI at p1;clear h M1 F1 hf;go_enter Tryz.func196, Tryz.ntmps196;go_wp2;go_end0
 exact ⟨rfl, M2.out, C2.out⟩
end
end Go.Proofs.YtndhmidgnpobjaaGreatDoor.Po
end
