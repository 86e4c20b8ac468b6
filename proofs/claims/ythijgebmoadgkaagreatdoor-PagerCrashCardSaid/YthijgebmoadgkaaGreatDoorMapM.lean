import Derived.Test.YthijgebmoadgkaaGreatDoorPagD
import Derived.Test.YthijgebmoadgkaaGreatDoorCrcB
import Derived.MapKept
import Derived.Maps.AppendAt
import Derived.Laws.CopyOwn
import Derived.Maps.OwnOps
import Derived.Maps.OwnSet
import Derived.Maps.RangeWalk
set_option linter.unusedVariables false
set_option linter.unusedSimpArgs false
section
namespace Go.Proofs.YthijgebmoadgkaaGreatDoor
open Go.ChangeShapes Go.WideShapes Go.ChangeAt Go.RowKit
structure Chg (S : Nat -> Prop) (w w' : World) : Prop where
 os : w'.os = w.os
 tape : w'.tape = w.tape
 output : w'.output = w.output
 size : w.heap.size <= w'.heap.size
 block : ∀ q, q < w.heap.size -> ¬ S q -> w'.heap[q]? = w.heap[q]?
theorem Chg.refl (S : Nat -> Prop) (w : World) : Chg S w w := ⟨rfl, rfl, rfl, Nat.le_refl _, fun _ _ _ => rfl⟩
theorem Chg.trans {S T : Nat -> Prop} {a b c : World} (h : Chg S a b) (k : Chg T b c) (hT : ∀ q, q < a.heap.size -> T q -> S q) : Chg S a c :=
 ⟨k.os.trans h.os, k.tape.trans h.tape, k.output.trans h.output, Nat.le_trans h.size k.size, fun q hq hn => (k.block q (Nat.lt_of_lt_of_le hq h.size) (fun ht => hn (hT q hq ht))).trans (h.block q hq hn)⟩
theorem Chg.same {S : Nat -> Prop} {a b c : World} (h : Chg S a b) (k : Chg S b c) : Chg S a c := h.trans k fun _ _ h => h
theorem Chg.mono {S T : Nat -> Prop} {a b : World} (h : Chg S a b) (hT : ∀ q, q < a.heap.size -> S q -> T q) : Chg T a b := ⟨h.os, h.tape, h.output, h.size, fun q hq hn => h.block q hq fun hs => hn (hT q hq hs)⟩
theorem Chg.of {S : Nat -> Prop} {w w' : World} (h : Below w.heap.size w w') : Chg S w w' := ⟨h.os, h.tape, h.output, h.size, fun q hq _ => h.block q hq⟩
theorem Chg.below {S : Nat -> Prop} {w w' : World} (h : Chg S w w') {B : Nat} (hB : B <= w.heap.size) (hS : ∀ q, S q -> B <= q) : Below B w w' := ⟨h.os, h.tape, h.output, h.size, fun q hq => h.block q (by omega) fun hs => by have := hS q hs; omega⟩
theorem Chg.set {S : Nat -> Prop} {w w' : World} (h : Chg S w w') (p : Addr) (hp : S p.block \/ w.heap.size <= p.block) (v : Value) : Chg S w (w'.setCell p v) :=
 ⟨h.os, h.tape, h.output, by simpa [World.setCell] using h.size, fun q hq hn => (Below.heap_setCell _ p v q (by rintro rfl; rcases hp with hp | hp; exact hn hp; omega)).trans (h.block q hq hn)⟩
theorem Chg.alloc {S : Nat -> Prop} {w w' : World} (h : Chg S w w') (o : Obj) : Chg S w (w'.alloc o) :=
 ⟨h.os, h.tape, h.output, Nat.le_trans h.size ((Below.refl 0 w').alloc (Nat.zero_le _) o).size, fun q hq hn => (Below.heap_alloc w' o q (Nat.lt_of_lt_of_le hq h.size)).trans (h.block q hq hn)⟩
theorem Chg.drew {S : Nat -> Prop} {w w' : World} (h : Chg S w w') : Chg S w w'.drew := ⟨h.os, h.tape, h.output, h.size, h.block⟩
theorem Chg.drewN {S : Nat -> Prop} {w w' : World} (h : Chg S w w') (n : Nat) : Chg S w (w'.drewN n) := ⟨h.os, h.tape, h.output, h.size, h.block⟩
theorem Chg.grown {S : Nat -> Prop} {w w1 w2 : World} {row : Option Nat} (h : Chg S w w1) (hg : w1.grownBy w2 row) (hr : ∀ k, row = some k -> S k \/ w.heap.size <= k) : Chg S w w2 :=
 ⟨hg.os.trans h.os, hg.tape.trans h.tape, hg.output.trans h.output, Nat.le_trans h.size hg.size, fun q hq hn => (hg.block q (Nat.lt_of_lt_of_le hq h.size) (fun e => by rcases hr q e.symm with hs | hs; exact hn hs; omega)).trans (h.block q hq hn)⟩
theorem Chg.own {S : Nat -> Prop} {w w' : World} {q : Nat} {T : TypeId} {cs : Array Value} (h : Chg S w w') (ho : Own w q T cs) (hn : ¬ S q) : Own w' q T cs := (h.block q ho.in_ hn).trans ho
theorem Chg.call {S : Nat -> Prop} {a w w' : World} (h : Chg S a w) (hb : Below w.heap.size w w') : Chg S a w' := h.same (Chg.of hb)
theorem Chg.cell {S : Nat -> Prop} {w w' : World} (h : Chg S w w') {b o : Nat} {v : Value} (hc : w.cell? ⟨b, o, none⟩ = some v) (hn : ¬ S b) : w'.cell? ⟨b, o, none⟩ = some v :=
 (World.cell?_of_block (w := w) (h.block b (Qq hc) hn)).trans hc
theorem xB.keep {w w' : World} {b : Nat} {L : List UInt8} (h : xB w b L) (e : w'.heap[b]? = w.heap[b]?) : xB w' b L :=
 ⟨fun j hj => (World.cell?_of_block (w := w) (a := ⟨b, j, none⟩) e).trans (h.cell j hj), fun j hj => (World.frozen?_of_block (w := w) (a := ⟨b, j, none⟩) e).trans (h.free j hj)⟩
theorem xB.in_ {w : World} {b : Nat} {L : List UInt8} (h : xB w b L) (hL : 0 < L.length) : b < w.heap.size := Qq (h.cell 0 hL)
theorem gO (b : Nat) : ∀ (u : List UInt8) (w : World) (o : Nat) (L : List UInt8), xB w b L -> o + u.length <= L.length ->
   xB (w.setCells b o (u.map fun x => .int .u8 (x.toNat : Int))) b (L.take o ++ u ++ L.drop (o + u.length))
 | [], w, o, L, h, hl => by simpa [World.setCells] using h
 | x :: u, w, o, L, h, hl => by
   simp only [List.length_cons] at hl;have ih := gO b u (w.setCell ⟨b, o, none⟩ (.int .u8 (x.toNat : Int))) (o + 1) (L.set o x) (h.store o (by omega) x) (by simp; omega);have e : (L.set o x).take (o + 1) ++ u ++ (L.set o x).drop (o + 1 + u.length) = L.take o ++ (x :: u) ++ L.drop (o + (u.length + 1)) := by
     rw [List.take_succ_eq_append_getElem (by simp; omega), List.drop_set_of_lt (by omega), List.take_set_of_le (by omega)];simp;congr 1
     omega
   rw [e] at ih;exact ih
theorem vB {S : Nat -> Prop} {w : World} {b : Nat} (hb : S b \/ w.heap.size <= b) : ∀ (vs : List Value) (w' : World) (o : Nat), Chg S w w' -> Chg S w (w'.setCells b o vs)
 | [], w', o, h => h
 | v :: vs, w', o, h => vB hb vs _ (o + 1) (h.set ⟨b, o, none⟩ hb v)
def xU (w : World) (b : Nat) (k : IntKind) (f : Int -> Option Value) : Prop :=
 ∃ es ck, w.heap[b]? = some (.map es ck) /\ (∀ e ∈ es.toList, e.key = .int k (intOf e.key)) /\
   ∀ i, f i = (es.toList.find? fun e => intOf e.key == i).map (·.val)
theorem xU.in_ {w : World} {b : Nat} {k : IntKind} {f : Int -> Option Value} (h : xU w b k f) : b < w.heap.size := by
 obtain ⟨es, ck, hb, _⟩ := h;exact (Array.getElem?_eq_some_iff.1 hb).1
theorem xU.keep {w w' : World} {b : Nat} {k : IntKind} {f : Int -> Option Value} (h : xU w b k f) (e : w'.heap[b]? = w.heap[b]?) : xU w' b k f := by
 obtain ⟨es, ck, hb, r⟩ := h;exact ⟨es, ck, e.trans hb, r⟩
theorem xU.made (w : World) (k : IntKind) : xU (w.alloc (.map #[] 0)) w.heap.size k (fun _ => none) :=
 ⟨#[], 0, by unfold World.alloc; simp, by simp, by simp⟩
theorem xU.ne {w : World} {b p : Nat} {k : IntKind} {f : Int -> Option Value} (h : xU w b k f) {T : TypeId} {cs : Array Value} (ho : Own w p T cs) : b ≠ p := by
 rintro rfl;obtain ⟨es, ck, hb, _⟩ := h;unfold Own at ho;rw [ho] at hb;cases hb
theorem xU.ne_cell {w : World} {b p o : Nat} {k : IntKind} {f : Int -> Option Value} (h : xU w b k f) {v : Value} (ho : w.cell? ⟨p, o, none⟩ = some v) : b ≠ p := by
 rintro rfl;obtain ⟨es, ck, hb, _⟩ := h;simp [World.cell?, hb] at ho
theorem jF (k : IntKind) (i : Int) : ∀ (l : List MapEntry) (n : Nat), (∀ e ∈ l, e.key = .int k (intOf e.key)) ->
   (l.find? (fun e => intOf e.key == i) = none /\ Instr.findNow (.int k) (.int k i) l n = some none) \/
   ∃ j e, l[j]? = some e /\ intOf e.key = i /\ l.find? (fun e => intOf e.key == i) = some e /\ (∀ j' e', j' < j -> l[j']? = some e' -> intOf e'.key ≠ i) /\ Instr.findNow (.int k) (.int k i) l n = some (some (n + j, e.val))
 | [], n, _ => .inl ⟨rfl, rfl⟩
 | e :: l, n, h => by
   have he := h e (by simp);have hs : Instr.sameNow (.int k) (.int k i) e.key = some (i == intOf e.key) := by rw [he]; simp [Instr.sameNow, intOf]
   by_cases hi : intOf e.key = i
   · refine .inr ⟨0, e, rfl, hi, by simp [hi], by intro j' e' h; omega, ?_⟩;simp [Instr.findNow, hs, hi]
   · have hne : (i == intOf e.key) = false := by simpa using fun h => hi h.symm
     have hf : (intOf e.key == i) = false := by simpa using hi
     rcases jF k i l (n + 1) (fun e' he' => h e' (by simp [he'])) with ⟨h1, h2⟩ | ⟨j, e', h1, h2, h3, h4, h5⟩
     · exact .inl ⟨by simp [hf, h1], by simp [Instr.findNow, hs, hne, h2]⟩
     · refine .inr ⟨j + 1, e', by simpa using h1, h2, by simp [hf, h3], fun j' e'' hj hl => ?_, by simp [Instr.findNow, hs, hne, h5]; omega⟩;cases j' with
       | zero => simp at hl; subst hl; exact hi
       | succ j' => exact h4 j' e'' (by omega) (by simpa using hl)
theorem zDj (i : Int) (e' : MapEntry) (hk : intOf e'.key = i) : ∀ (l : List MapEntry) (j : Nat) (e : MapEntry), l[j]? = some e -> intOf e.key = i -> (∀ j' e'', j' < j -> l[j']? = some e'' -> intOf e''.key ≠ i) ->
   (l.set j e').find? (fun e => intOf e.key == i) = some e' /\ ∀ i', i' ≠ i -> (l.set j e').find? (fun e => intOf e.key == i') = l.find? (fun e => intOf e.key == i')
 | [], j, e, h, _, _ => by simp at h
 | x :: l, 0, e, h, he, _ => by
   simp at h; subst h;refine ⟨by simp [hk], fun i' hi' => ?_⟩;have h1 : (intOf e'.key == i') = false := by simpa [hk] using fun h => hi' h.symm
   have h2 : (intOf x.key == i') = false := by simpa [he] using fun h => hi' h.symm
   simp [h1, h2]
 | x :: l, j + 1, e, h, he, hf => by
   have hx : intOf x.key ≠ i := hf 0 x (by omega) rfl;have ih := zDj i e' hk l j e (by simpa using h) he (fun j' e'' hj hl => hf (j' + 1) e'' (by omega) (by simpa using hl));have hx' : (intOf x.key == i) = false := by simpa using hx
   refine ⟨by simp [hx', ih.1], fun i' hi' => ?_⟩;simp only [List.set_cons_succ, List.find?_cons];rw [ih.2 i' hi']
section
variable {P : Program} {w : World} {t e : TypeId} {k : IntKind} {f : Int -> Option Value} {b : Nat} {kt : TypeId}
theorem yQ (hk : P.underlying kt = some (.int k)) (em : Bool) (i : Int) (w : World) : (Instr.checkKey em 10000 kt (.int k i)).run P w = .ok () w := by
 exact MapKept.run_checkKey hk (by simp [MapKept.IsKey]) em 9999
theorem xU.look (h : xU w b k f) (ht : P.underlying t = some (.map kt e)) (hk : P.underlying kt = some (.int k)) {z : Value} (hz : (zeroValue e).run P w = .ok z w) (i : Int) :
   (Instr.lookup t (.map (some b)) (.int k i) true).run P w = .ok (.tuple #[(f i).getD z, .bool (f i).isSome]) w := by
 obtain ⟨es, ck, hb, hks, hf⟩ := h;rw [hf i];rcases jF k i es.toList 0 hks with ⟨h1, h2⟩ | ⟨j, e0, h1, h2, h3, h4, h5⟩
 · simp [Instr.lookup, run_underlying ht, MapKept.run_getObj_map hb, yQ hk, Instr.findKey, run_underlying hk, h1, h2, hz, Result.andThen]
 · simp [Instr.lookup, run_underlying ht, MapKept.run_getObj_map hb, yQ hk, Instr.findKey, run_underlying hk, h3, h5, hz, Result.andThen]
theorem xU.put (h : xU w b k f) (ht : P.underlying t = some (.map kt e)) (hk : P.underlying kt = some (.int k)) (i : Int) (v : Value) :
   ∃ w', (Instr.mapUpdate t (.map (some b)) (.int k i) v).run P w = .ok () w' /\ xU w' b k (fun j => if j = i then some v else f j) /\ Chg (· = b) w w' /\ w'.heap.size = w.heap.size := by
 obtain ⟨es, ck, hb, hks, hf⟩ := h;have hlt : b < w.heap.size := (Array.getElem?_eq_some_iff.1 hb).1;have key : ∀ (es' : Array MapEntry) (ck' : Nat), Chg (· = b) w { w with heap := w.heap.setIfInBounds b (.map es' ck') } /\ ({ w with heap := w.heap.setIfInBounds b (.map es' ck') } : World).heap[b]? = some (.map es' ck') := fun es' ck' =>
   ⟨⟨rfl, rfl, rfl, by simp, fun q _ hq => by simp; rw [Array.getElem?_setIfInBounds_ne (Ne.symm hq)]⟩, by simp [hlt]⟩
 rcases jF k i es.toList 0 hks with ⟨h1, h2⟩ | ⟨j, e0, h1, h2, h3, h4, h5⟩
 · refine ⟨{ w with heap := w.heap.setIfInBounds b (.map (es.push ⟨.int k i, v, ck⟩) (ck + 1)) }, by simp [Instr.mapUpdate, run_underlying ht, MapKept.run_getObj_map hb, yQ hk, Instr.findKey, run_underlying hk, h2, MapKept.run_setObj_map _ hb, Result.andThen], ⟨_, _, (key _ _).2, ?_, ?_⟩, (key _ _).1, by simp⟩
   · intro x hx;simp only [Array.toList_push, List.mem_append, List.mem_singleton] at hx;rcases hx with hx | rfl
     · exact hks x hx
     · simp [intOf]
   · intro i';rw [Array.toList_push, List.find?_append];by_cases e : i' = i
     · subst e;rw [h1];have : (intOf (Value.int k i') == i') = true := by simp [intOf]
       simp [this]
     · have : ((i : Int) == i') = false := by simpa using fun h => e h.symm
       simp [e, hf i', intOf, this]
 · have hj : es[j]? = some e0 := by simpa using h1
   have hjl : j < es.toList.length := (List.getElem?_eq_some_iff.1 h1).1;have hek : e0.key = .int k i := by rw [hks e0 (List.mem_of_getElem? h1), h2]
   have hst : (Instr.keyThatStays (.int k i) (.int k i)).run P w = .ok (.int k i) w := by
     have : Instr.sameBits 10000 (.int k i) (.int k i) = true := by unfold Instr.sameBits; simp
     simp [Instr.keyThatStays, this]
   have hlist : (es.modify j (fun e' => { e' with key := .int k i, val := v })).toList = es.toList.set j { e0 with key := .int k i, val := v } := by
     rw [Array.toList_modify];refine List.ext_getElem? fun n => ?_
     rw [List.getElem?_modify, List.getElem?_set];by_cases e : j = n
     · subst e; simp [hj, hjl];simpa using hjl
     · simp [e]
   have hfs := zDj i { e0 with key := .int k i, val := v } (by simp [intOf]) es.toList j e0 h1 h2 h4;refine ⟨{ w with heap := w.heap.setIfInBounds b (.map (es.modify j fun e' => { e' with key := .int k i, val := v }) ck) }, by simp [Instr.mapUpdate, run_underlying ht, MapKept.run_getObj_map hb, yQ hk, Instr.findKey, run_underlying hk, h5, hj, hek, hst, MapKept.run_setObj_map _ hb, Result.andThen], ⟨_, _, (key _ _).2, ?_, ?_⟩, (key _ _).1, by simp⟩
   · intro x hx;rw [hlist] at hx;rcases List.mem_or_eq_of_mem_set hx with hx | rfl
     · exact hks x hx
     · simp [intOf]
   · intro i';rw [hlist];by_cases e : i' = i
     · subst e; simp [hfs.1]
     · simp [e, hfs.2 i' e, hf i']
theorem xU.clear (h : xU w b k f) (ty : TypeId) (ht : P.underlying t = some (.map kt e)) :
   ∃ w', (Builtin.clear_ #[t] ty #[.map (some b)]).run P w = .ok (.tuple #[]) w' /\ xU w' b k (fun _ => none) /\ Chg (· = b) w w' /\ w'.heap.size = w.heap.size := by
 obtain ⟨es, ck, hb, hks, hf⟩ := h;have hlt : b < w.heap.size := (Array.getElem?_eq_some_iff.1 hb).1;refine ⟨{ w with heap := w.heap.setIfInBounds b (.map #[] ck) }, by simp [Builtin.clear_, run_underlying ht, MapKept.run_getObj_map hb, MapKept.run_setObj_map _ hb, Result.andThen], ⟨#[], ck, by simp [hlt], by simp, by simp⟩, ⟨rfl, rfl, rfl, by simp, fun q _ hq => by simp; rw [Array.getElem?_setIfInBounds_ne (Ne.symm hq)]⟩, by simp⟩
end
end Go.Proofs.YthijgebmoadgkaaGreatDoor
end
section
namespace Go.Proofs.YthijgebmoadgkaaGreatDoor
open Go.ChangeShapes Go.WideShapes Go.ChangeAt Go.RowKit Go.MapKept
def kv (e : MapEntry) : Value × Value := (e.key, e.val)
def enc (k : IntKind) (p : Int × Value) : Value × Value := (.int k p.1, p.2)
structure Vu (es : Array MapEntry) (ck : Nat) (k : IntKind) (l : List (Int × Value)) : Prop where
 perm : (es.toList.map kv).Perm (l.map (enc k))
 nodup : (l.map (·.1)).Nodup
 born : ∀ e ∈ es.toList, e.born < ck
 once : (es.toList.map (·.born)).Nodup
def zW (w : World) (b : Nat) (k : IntKind) (l : List (Int × Value)) : Prop := ∃ es ck, w.heap[b]? = some (.map es ck) /\ Vu es ck k l
theorem Vu.keys {es : Array MapEntry} {ck : Nat} {k : IntKind} {l : List (Int × Value)} (h : Vu es ck k l) : ∀ e ∈ es.toList, e.key = .int k (intOf e.key) := by
 intro e he;have h1 : kv e ∈ l.map (enc k) := h.perm.mem_iff.1 (List.mem_map.2 ⟨e, he, rfl⟩);obtain ⟨p, hp, hpe⟩ := List.mem_map.1 h1;have : e.key = .int k p.1 := by have := congrArg Prod.fst hpe; exact this.symm
 rw [this]; rfl
theorem Vu.size {es : Array MapEntry} {ck : Nat} {k : IntKind} {l : List (Int × Value)} (h : Vu es ck k l) : es.size = l.length := by
 have := h.perm.length_eq;simpa using this
theorem Vu.of_mem {es : Array MapEntry} {ck : Nat} {k : IntKind} {l : List (Int × Value)} (h : Vu es ck k l) {i : Int} {v : Value} (hp : (i, v) ∈ l) : ∃ e ∈ es.toList, e.key = .int k i /\ e.val = v := by
 have h1 : enc k (i, v) ∈ es.toList.map kv := h.perm.mem_iff.2 (List.mem_map.2 ⟨_, hp, rfl⟩);obtain ⟨e, he, hpe⟩ := List.mem_map.1 h1;exact ⟨e, he, congrArg Prod.fst hpe, congrArg Prod.snd hpe⟩
theorem Vu.mem {es : Array MapEntry} {ck : Nat} {k : IntKind} {l : List (Int × Value)} (h : Vu es ck k l) {e : MapEntry} (he : e ∈ es.toList) : (intOf e.key, e.val) ∈ l := by
 have h1 : kv e ∈ l.map (enc k) := h.perm.mem_iff.1 (List.mem_map.2 ⟨e, he, rfl⟩);obtain ⟨p, hp, hpe⟩ := List.mem_map.1 h1;have h2 : .int k p.1 = e.key := congrArg Prod.fst hpe;have h3 : p.2 = e.val := congrArg Prod.snd hpe;rw [<- h2, <- h3];exact hp
theorem zC0 : ∀ {l : List (Int × Value)}, (l.map (·.1)).Nodup -> ∀ {i : Int} {u v : Value}, (i, u) ∈ l -> (i, v) ∈ l -> u = v
 | [], _, _, _, _, h, _ => by simp at h
 | x :: l, hn, i, u, v, h1, h2 => by
   have hn' := List.nodup_cons.1 hn;rcases List.mem_cons.1 h1 with e1 | e1
   · rcases List.mem_cons.1 h2 with e2 | e2
     · have := e1.trans e2.symm; simpa using this
     · exact absurd (List.mem_map.2 ⟨_, e2, by rw [<- e1]⟩) hn'.1
   · rcases List.mem_cons.1 h2 with e2 | e2
     · exact absurd (List.mem_map.2 ⟨_, e1, by rw [<- e2]⟩) hn'.1
     · exact zC0 hn'.2 e1 e2
section
variable {w : World} {b : Nat} {k : IntKind} {l : List (Int × Value)}
theorem zW.in_ (h : zW w b k l) : b < w.heap.size := by
 obtain ⟨es, ck, hb, _⟩ := h;exact (Array.getElem?_eq_some_iff.1 hb).1
theorem zW.keep {w' : World} (h : zW w b k l) (e : w'.heap[b]? = w.heap[b]?) : zW w' b k l := by
 obtain ⟨es, ck, hb, r⟩ := h;exact ⟨es, ck, e.trans hb, r⟩
theorem zW.made (w : World) (k : IntKind) : zW (w.alloc (.map #[] 0)) w.heap.size k [] :=
 ⟨#[], 0, by unfold World.alloc; simp, ⟨by simp, by simp, by simp, by simp⟩⟩
theorem zW.ne (h : zW w b k l) {p : Nat} {T : TypeId} {cs : Array Value} (ho : Own w p T cs) : b ≠ p := by
 rintro rfl;obtain ⟨es, ck, hb, _⟩ := h;unfold Own at ho;rw [ho] at hb;cases hb
theorem zW.find_some (h : zW w b k l) {i : Int} {v : Value} (hp : (i, v) ∈ l) : ∃ es ck j e, w.heap[b]? = some (.map es ck) /\ Vu es ck k l /\ es[j]? = some e /\ e.key = .int k i /\ e.val = v /\ Instr.findNow (.int k) (.int k i) es.toList 0 = some (some (j, v)) := by
 obtain ⟨es, ck, hb, E⟩ := h;obtain ⟨e, he, h1, h2⟩ := E.of_mem hp;rcases jF k i es.toList 0 E.keys with ⟨h3, _⟩ | ⟨j, e0, h3, h4, h5, h6, h7⟩
 · have := List.find?_eq_none.1 h3 e he;rw [h1] at this;simp [intOf] at this
 · have hm := E.mem (List.mem_of_getElem? h3);rw [h4] at hm;have hv : e0.val = v := zC0 E.nodup hm hp;refine ⟨es, ck, j, e0, hb, E, by simpa using h3, ?_, hv, by rw [h7, hv]; simp⟩;rw [E.keys e0 (List.mem_of_getElem? h3), h4]
theorem zW.find_none (h : zW w b k l) {i : Int} (hp : ∀ v, (i, v) ∉ l) : ∃ es ck, w.heap[b]? = some (.map es ck) /\ Vu es ck k l /\ Instr.findNow (.int k) (.int k i) es.toList 0 = some none := by
 obtain ⟨es, ck, hb, E⟩ := h;rcases jF k i es.toList 0 E.keys with ⟨_, h3⟩ | ⟨j, e0, h3, h4, h5, h6, h7⟩
 · exact ⟨es, ck, hb, E, h3⟩
 · have hm := E.mem (List.mem_of_getElem? h3);rw [h4] at hm;exact absurd hm (hp _)
end
section
variable {P : Program} {w : World} {t e : TypeId} {k : IntKind} {l : List (Int × Value)} {b : Nat} {kt : TypeId}
theorem zW.look (h : zW w b k l) (ht : P.underlying t = some (.map kt e)) (hk : P.underlying kt = some (.int k)) {z : Value} (hz : (zeroValue e).run P w = .ok z w) {i : Int} {v : Value} (hp : (i, v) ∈ l) :
   (Instr.lookup t (.map (some b)) (.int k i) false).run P w = .ok v w := by
 obtain ⟨es, ck, j, e0, hb, E, h1, h2, h3, h4⟩ := h.find_some hp;simp [Instr.lookup, run_underlying ht, MapKept.run_getObj_map hb, yQ hk, Instr.findKey, run_underlying hk, h1, h3, h4, hz, Result.andThen]
theorem zW.miss (h : zW w b k l) (ht : P.underlying t = some (.map kt e)) (hk : P.underlying kt = some (.int k)) {z : Value} (hz : (zeroValue e).run P w = .ok z w) {i : Int} (hp : ∀ v, (i, v) ∉ l) :
   (Instr.lookup t (.map (some b)) (.int k i) false).run P w = .ok z w := by
 obtain ⟨es, ck, hb, E, h4⟩ := h.find_none hp;simp [Instr.lookup, run_underlying ht, MapKept.run_getObj_map hb, yQ hk, Instr.findKey, run_underlying hk, h4, hz, Result.andThen]
theorem jD (hb : b < w.heap.size) (o : Obj) : Chg (· = b) w { w with heap := w.heap.setIfInBounds b o } /\ ({ w with heap := w.heap.setIfInBounds b o } : World).heap[b]? = some o :=
 ⟨⟨rfl, rfl, rfl, by simp, fun q _ hq => by simp; rw [Array.getElem?_setIfInBounds_ne (Ne.symm hq)]⟩, by simp [hb]⟩
theorem zW.put (h : zW w b k l) (ht : P.underlying t = some (.map kt e)) (hk : P.underlying kt = some (.int k)) {i : Int} (v : Value) (hp : ∀ v, (i, v) ∉ l) :
   ∃ w', (Instr.mapUpdate t (.map (some b)) (.int k i) v).run P w = .ok () w' /\ zW w' b k (l ++ [(i, v)]) /\ Chg (· = b) w w' /\ w'.heap.size = w.heap.size := by
 have hlt := h.in_;obtain ⟨es, ck, hb, E, h2⟩ := h.find_none hp;refine ⟨{ w with heap := w.heap.setIfInBounds b (.map (es.push ⟨.int k i, v, ck⟩) (ck + 1)) }, by simp [Instr.mapUpdate, run_underlying ht, MapKept.run_getObj_map hb, yQ hk, Instr.findKey, run_underlying hk, h2, MapKept.run_setObj_map _ hb, Result.andThen], ⟨_, _, (jD hlt _).2, ⟨?_, ?_, ?_, ?_⟩⟩, (jD hlt _).1, by simp⟩
 · rw [Array.toList_push, List.map_append, List.map_append];exact E.perm.append_right _
 · rw [List.map_append, List.nodup_append];refine ⟨E.nodup, by simp, ?_⟩;intro x hx y hy;obtain ⟨q, hq, rfl⟩ := List.mem_map.1 hx;simp at hy;subst hy;intro e;exact hp q.2 (by rw [<- e]; exact hq)
 · intro x hx;rw [Array.toList_push, List.mem_append] at hx;rcases hx with hx | hx
   · have := E.born x hx; omega
   · simp at hx; subst hx; exact Nat.lt_succ_self _
 · rw [Array.toList_push, List.map_append, List.nodup_append];refine ⟨E.once, by simp, ?_⟩;intro x hx y hy;obtain ⟨q, hq, rfl⟩ := List.mem_map.1 hx;simp at hy;subst hy;have := E.born q hq;omega
theorem Jp {α : Type} : ∀ (L : List α) (j : Nat) (e : α), L[j]? = some e -> (e :: L.eraseIdx j).Perm L
 | [], j, e, h => by simp at h
 | x :: L, 0, e, h => by simp at h; subst h; simp
 | x :: L, j + 1, e, h => by
   have ih := Jp L j e (by simpa using h);rw [List.eraseIdx_cons_succ];exact (List.Perm.swap x e _).trans (ih.cons x)
theorem zCd {α : Type} (f : α -> Value × Value) {es : List α} {k : IntKind} {l : List (Int × Value)} (hp : (es.map f).Perm (l.map (enc k))) (hn : (l.map (·.1)).Nodup) {j : Nat} {e : α} (hj : es[j]? = some e) {i : Int} (he : (f e).1 = .int k i) :
   ((es.eraseIdx j).map f).Perm ((l.filter fun p => p.1 != i).map (enc k)) := by
 have hjl : j < es.length := (List.getElem?_eq_some_iff.1 hj).1;have hje : es[j] = e := (List.getElem?_eq_some_iff.1 hj).2;have h1 : (e :: es.eraseIdx j).Perm es := Jp es j e hj;have hm : f e ∈ l.map (enc k) := hp.mem_iff.1 (List.mem_map.2 ⟨e, List.mem_of_getElem? hj, rfl⟩);obtain ⟨p, hpl, hpe⟩ := List.mem_map.1 hm;have hpi : p.1 = i := by
   have : (enc k p).1 = .int k i := by rw [hpe, he]
   simpa [enc] using this
 obtain ⟨s, t, rfl⟩ := List.append_of_mem hpl;have hfil : (s ++ p :: t).filter (fun q => q.1 != i) = s ++ t := by
   rw [List.map_append, List.map_cons, List.nodup_append, List.nodup_cons] at hn;rw [List.filter_append, List.filter_cons];have h2 : (p.1 != i) = false := by simp [hpi]
   rw [h2];have h3 : s.filter (fun q => q.1 != i) = s := List.filter_eq_self.2 fun q hq => by
     have := hn.2.2 q.1 (List.mem_map.2 ⟨q, hq, rfl⟩) p.1 (by simp);simp; omega
   have h4 : t.filter (fun q => q.1 != i) = t := List.filter_eq_self.2 fun q hq => by
     have : p.1 ≠ q.1 := fun e => hn.2.1.1 (by rw [e]; exact List.mem_map.2 ⟨q, hq, rfl⟩)
     simp; omega
   rw [h3];simp [h4]
 rw [hfil];have h5 : (f e :: (es.eraseIdx j).map f).Perm (enc k p :: (s ++ t).map (enc k)) := by
   have a1 : (f e :: (es.eraseIdx j).map f).Perm (es.map f) := h1.map f;refine a1.trans (hp.trans ?_);rw [List.map_append, List.map_cons, List.map_append];exact List.perm_middle
 rw [hpe] at h5;exact h5.cons_inv
theorem gE {l : List (Int × Value)} {i : Int} (hp : ∀ v, (i, v) ∉ l) : l.filter (fun p => p.1 != i) = l :=
 List.filter_eq_self.2 fun q hq => by
   have : q.1 ≠ i := fun e => hp q.2 (by rw [<- e]; exact hq)
   simpa using this
theorem zW.del (h : zW w b k l) (ht : P.underlying t = some (.map kt e)) (hk : P.underlying kt = some (.int k)) (i : Int) (ty : TypeId) :
   ∃ w', (Builtin.delete_ #[t, kt] ty #[.map (some b), .int k i]).run P w = .ok (.tuple #[]) w' /\ zW w' b k (l.filter fun p => p.1 != i) /\ Chg (· = b) w w' /\ w'.heap.size = w.heap.size := by
 have hlt := h.in_;by_cases hc : ∃ v, (i, v) ∈ l
 · obtain ⟨v, hv⟩ := hc;obtain ⟨es, ck, j, e0, hb, E, h1, h2, h3, h4⟩ := h.find_some hv;have hjs : j < es.size := (Array.getElem?_eq_some_iff.1 h1).1;have hsub : (es.eraseIdxIfInBounds j).toList = es.toList.eraseIdx j := by
     unfold Array.eraseIdxIfInBounds;rw [dif_pos hjs];simp
   refine ⟨{ w with heap := w.heap.setIfInBounds b (.map (es.eraseIdxIfInBounds j) ck) }, by simp [Builtin.delete_, run_underlying ht, MapKept.run_getObj_map hb, yQ hk, Instr.findKey, run_underlying hk, h4, MapKept.run_setObj_map _ hb, Result.andThen], ⟨_, _, (jD hlt _).2, ⟨?_, ?_, ?_, ?_⟩⟩, (jD hlt _).1, by simp⟩
   · rw [hsub];exact zCd kv E.perm E.nodup (by simpa using h1) h2
   · exact (List.Sublist.map _ List.filter_sublist).nodup E.nodup
   · intro x hx;rw [hsub] at hx;exact E.born x ((List.eraseIdx_sublist _ _).subset hx)
   · rw [hsub];exact ((List.eraseIdx_sublist _ _).map _).nodup E.once
 · have hp : ∀ v, (i, v) ∉ l := fun v hv => hc ⟨v, hv⟩
   obtain ⟨es, ck, hb, E, h4⟩ := h.find_none hp;refine ⟨{ w with heap := w.heap.setIfInBounds b (.map es ck) }, by simp [Builtin.delete_, run_underlying ht, MapKept.run_getObj_map hb, yQ hk, Instr.findKey, run_underlying hk, h4, MapKept.run_setObj_map _ hb, Result.andThen], ⟨_, _, (jD hlt _).2, ?_⟩, (jD hlt _).1, by simp⟩;rw [gE hp];exact E
def Rng (w : World) (r b : Nat) (k : IntKind) (l rest : List (Int × Value)) : Prop :=
 ∃ es ck since seen c0, w.heap[b]? = some (.map es ck) /\ Vu es ck k l /\ w.heap[r]? = some (.mapIter (some b) since seen c0) /\ (∀ x ∈ es.toList, x.born < since) /\ since <= c0 /\ since <= ck /\
   ((leftOf es seen).toList.map kv).Perm (rest.map (enc k))
theorem Rng.in_ {r : Nat} {rest : List (Int × Value)} (h : Rng w r b k l rest) : r < w.heap.size := by
 obtain ⟨es, ck, since, seen, c0, hb, E, hr, _⟩ := h;exact (Array.getElem?_eq_some_iff.1 hr).1
theorem Rng.keep {r : Nat} {rest : List (Int × Value)} {w' : World} (h : Rng w r b k l rest) (e1 : w'.heap[b]? = w.heap[b]?) (e2 : w'.heap[r]? = w.heap[r]?) : Rng w' r b k l rest := by
 obtain ⟨es, ck, since, seen, c0, hb, E, hr, x⟩ := h;exact ⟨es, ck, since, seen, c0, e1.trans hb, E, e2.trans hr, x⟩
theorem Rng.left {r : Nat} {rest : List (Int × Value)} (h : Rng w r b k l rest) : w.rangeLeft b r = rest.length := by
 obtain ⟨es, ck, since, seen, c0, hb, E, hr, _, _, _, hp⟩ := h;simp only [World.rangeLeft, hb, hr];have := hp.length_eq;simpa using this
theorem zW.range_ (h : zW w b k l) (ht : P.underlying t = some (.map kt e)) :
   ∃ w', (Instr.range t (.map (some b))).run P w = .ok (.pointer (some ⟨w.heap.size, 0, none⟩)) w' /\ Rng w' w.heap.size b k l l /\ Below w.heap.size w w' /\ w'.heap.size = w.heap.size + 1 := by
 have hlt := h.in_;obtain ⟨es, ck, hb, E⟩ := h;refine ⟨_, run_range_map w t kt e b es ck ht hb, ⟨es, ck, ck, #[], ck, ((MapKept.heap_alloc w _).2 b hlt).trans hb, E, (MapKept.heap_alloc w _).1, E.born, Nat.le_refl _, Nat.le_refl _, ?_⟩, (Below.refl _ _).alloc (Nat.le_refl _) _, by simp⟩;have : leftOf es #[] = es := by unfold leftOf; simp
 rw [this];exact E.perm
theorem zHe (es : Array MapEntry) (seen : Array Nat) (hn : (es.toList.map (·.born)).Nodup) (e : MapEntry) (he : e ∈ (leftOf es seen).toList) :
   ∃ j, (leftOf es seen).toList[j]? = some e /\ (leftOf es (seen.push e.born)).toList = (leftOf es seen).toList.eraseIdx j := by
 have hsub : (leftOf es seen).toList.Sublist es.toList := by unfold leftOf; rw [Array.toList_filter]; exact List.filter_sublist
 have hn1 : ((leftOf es seen).toList.map (·.born)).Nodup := (hsub.map _).nodup hn;obtain ⟨j, hj⟩ := List.getElem?_of_mem he;refine ⟨j, hj, ?_⟩;have h1 : (leftOf es (seen.push e.born)).toList = (leftOf es seen).toList.filter fun x => x.born != e.born := by
   unfold leftOf;rw [Array.toList_filter, Array.toList_filter, List.filter_filter];refine List.filter_congr fun x _ => ?_
   rw [contains_push];cases seen.contains x.born <;> cases h : (x.born == e.born) <;> simp [bne, h]
 rw [h1];generalize (leftOf es seen).toList = L at hn1 hj
 clear h1 he hsub;induction L generalizing j with
 | nil => simp at hj
 | cons x L ih =>
   rw [List.map_cons, List.nodup_cons] at hn1;cases j with
   | zero =>
     simp at hj;subst hj;rw [List.filter_cons];simp;intro y hy e;exact hn1.1 (by rw [<- e]; exact List.mem_map.2 ⟨y, hy, rfl⟩)
   | succ j =>
     have hj' : L[j]? = some e := by simpa using hj
     have hx : (x.born != e.born) = true := by
       have : x.born ≠ e.born := fun h => hn1.1 (by rw [h]; exact List.mem_map.2 ⟨e, List.mem_of_getElem? hj', rfl⟩)
       simpa using this
     rw [List.filter_cons, hx];simp [ih j hn1.2 hj']
theorem Rng.next {r : Nat} {rest : List (Int × Value)} (h : Rng w r b k l rest) (ty : TypeId) :
   (rest = [] /\ (Instr.next (.pointer (some ⟨r, 0, none⟩)) false ty).run P w = .ok (.tuple #[.bool false]) w) \/
   ∃ s i v t w', rest = s ++ (i, v) :: t /\ (Instr.next (.pointer (some ⟨r, 0, none⟩)) false ty).run P w = .ok (.tuple #[.bool true, .int k i, v]) w' /\ Rng w' r b k l (s ++ t) /\ Chg (· = r) w w' /\ w'.heap.size = w.heap.size /\
     (Instr.entry (.pointer (some ⟨r, 0, none⟩))).run P w' = .ok (.tuple #[.int k i, v]) w' := by
 obtain ⟨es, ck, since, seen, c0, hb, E, hr, hold, hsc, hsk, hp⟩ := h;have hne : r ≠ b := by rintro rfl; rw [hb] at hr; cases hr
 rcases run_next_at (P := P) w ty r b since c0 seen es ck hr hb hold hsc with ⟨h0, hrun⟩ | ⟨e, he, w1, hal, hrun⟩
 · left
   refine ⟨?_, hrun⟩;have := hp.length_eq;rw [List.length_map, List.length_map] at this;have h1 : rest.length = 0 := by rw [<- this]; simpa using h0
   exact List.eq_nil_of_length_eq_zero h1
 · right
   obtain ⟨j, hj, hpush⟩ := zHe es seen E.once e he;have hem : kv e ∈ rest.map (enc k) := hp.mem_iff.1 (List.mem_map.2 ⟨e, he, rfl⟩);obtain ⟨p, hpl, hpe⟩ := List.mem_map.1 hem;obtain ⟨s, t, rfl⟩ := List.append_of_mem hpl;have hk1 : e.key = .int k p.1 := (congrArg Prod.fst hpe).symm;have hv1 : e.val = p.2 := (congrArg Prod.snd hpe).symm;have hr1 : w1.heap[r]? = some (.mapIter (some b) since seen c0) := by rcases hal with rfl | rfl <;> exact hr
   have hb1 : w1.heap[b]? = some (.map es ck) := by rcases hal with rfl | rfl <;> exact hb
   have hset := heap_set (o' := .mapIter (some b) since (seen.push e.born) ck) hr1;have hb' : (ChangeMaps.setBlock w1 r (.mapIter (some b) since (seen.push e.born) ck)).heap[b]? = some (.map es ck) := (hset.2 b (fun e1 => hne e1.symm)).trans hb1;refine ⟨s, p.1, p.2, t, _, rfl, by rw [hrun, hk1, hv1], ⟨es, ck, since, seen.push e.born, ck, hb', E, hset.1, hold, hsk, hsk, ?_⟩, ?_, ?_, ?_⟩
   · rw [hpush];have hjl : j < (leftOf es seen).toList.length := (List.getElem?_eq_some_iff.1 hj).1;have hje : (leftOf es seen).toList[j] = e := (List.getElem?_eq_some_iff.1 hj).2;have h1 : (e :: (leftOf es seen).toList.eraseIdx j).Perm (leftOf es seen).toList := Jp _ j e hj;have h5 : (kv e :: ((leftOf es seen).toList.eraseIdx j).map kv).Perm (enc k p :: (s ++ t).map (enc k)) := by
       have a1 : (kv e :: ((leftOf es seen).toList.eraseIdx j).map kv).Perm ((leftOf es seen).toList.map kv) := h1.map kv;refine a1.trans (hp.trans ?_);rw [List.map_append, List.map_cons, List.map_append];exact List.perm_middle
     rw [hpe] at h5;exact h5.cons_inv
   · rcases hal with rfl | rfl <;> exact ⟨rfl, rfl, rfl, by simp [ChangeMaps.setBlock], fun i _ hi => hset.2 i hi⟩
   · rcases hal with rfl | rfl <;> simp [ChangeMaps.setBlock]
   · rw [<- hk1, <- hv1];exact run_entry_at _ r b since seen es ck e hset.1 hb' (mem_left he).1 E.once
end
section
variable {P : Program} (w : World) {ops : Array Oper} {rest : List Oper} {o : Oper} {a : Act} {Q : Exit -> Act -> World -> Prop}
theorem jT (hg : o.guard = none) (m : Operand) (t : TypeId) (hop : o.op = Op.range t m) (kt e : TypeId) (ht : P.underlying t = some (.map kt e)) (k : IntKind) (b : Nat) (l : List (Int × Value)) (hm : a.eval m = .map (some b)) (h : zW w b k l)
   (hK : ∀ w', Rng w' w.heap.size b k l l -> Below w.heap.size w w' -> w'.heap.size = w.heap.size + 1 -> wpList P ops Q rest (a.put o.dst (.pointer (some ⟨w.heap.size, 0, none⟩))) w') :
   wpList P ops Q (o :: rest) a w := by
 refine wpList_plain hg fun K' hK' => ?_
 obtain ⟨w', hrun, r1, r2, r3⟩ := h.range_ ht;unfold Oper.wp;simp [execOp, hop, hm, hrun, Result.andThen];exact hK' _ _ (hK w' r1 r2 r3)
theorem qK (hg : o.guard = none) (it : Operand) (hop : o.op = Op.next it false) (k : IntKind) (b r : Nat) (l left : List (Int × Value)) (hit : a.eval it = .pointer (some ⟨r, 0, none⟩)) (h : Rng w r b k l left)
   (hDone : left = [] -> wpList P ops Q rest (a.put o.dst (.tuple #[.bool false])) w)
   (hMore : ∀ s i v t w', left = s ++ (i, v) :: t -> Rng w' r b k l (s ++ t) -> Chg (· = r) w w' -> w'.heap.size = w.heap.size -> (Instr.entry (.pointer (some ⟨r, 0, none⟩))).run P w' = .ok (.tuple #[.int k i, v]) w' ->
     wpList P ops Q rest (a.put o.dst (.tuple #[.bool true, .int k i, v])) w') :
   wpList P ops Q (o :: rest) a w := by
 refine wpList_plain hg fun K' hK' => ?_
 unfold Oper.wp;rcases h.next (P := P) o.type with ⟨h0, hrun⟩ | ⟨s, i, v, t, w', h1, hrun, h2, h3, h4, h5⟩
 · simp [execOp, hop, hit, hrun, Result.andThen];exact hK' _ _ (hDone h0)
 · simp [execOp, hop, hit, hrun, Result.andThen];exact hK' _ _ (hMore s i v t w' h1 h2 h3 h4 h5)
theorem Ja (hg : o.guard = none) (m x : Operand) (t kt : TypeId) (hop : o.op = Op.call { callee := Callee.builtin Builtin.delete, args := #[m, x], argTypes := #[t, kt] })
   (e : TypeId) (ht : P.underlying t = some (.map kt e)) (k : IntKind) (hk : P.underlying kt = some (.int k)) (b : Nat) (l : List (Int × Value)) (i : Int) (hm : a.eval m = .map (some b)) (hx : a.eval x = .int k i) (h : zW w b k l)
   (hK : ∀ w', zW w' b k (l.filter fun p => p.1 != i) -> Chg (· = b) w w' -> w'.heap.size = w.heap.size -> wpList P ops Q rest (a.put o.dst (.tuple #[])) w') :
   wpList P ops Q (o :: rest) a w := by
 refine wpList_plain hg fun K' hK' => ?_
 obtain ⟨w', hrun, r1, r2, r3⟩ := h.del ht hk i o.type;unfold Oper.wp;simp [execOp, hop, resolve, invoke, builtin, hm, hx, hrun, Result.andThen];exact hK' _ _ (hK w' r1 r2 r3)
end
theorem zW.perm {w : World} {b : Nat} {k : IntKind} {l l' : List (Int × Value)} (h : zW w b k l) (hp : l.Perm l') : zW w b k l' := by
 obtain ⟨es, ck, hb, E⟩ := h;exact ⟨es, ck, hb, E.perm.trans (hp.map _), (hp.map _).nodup_iff.1 E.nodup, E.born, E.once⟩
theorem zW.nodup {w : World} {b : Nat} {k : IntKind} {l : List (Int × Value)} (h : zW w b k l) : (l.map (·.1)).Nodup := by
 obtain ⟨es, ck, hb, E⟩ := h;exact E.nodup
theorem zW.len {P : Program} {w : World} {t kt e : TypeId} {k : IntKind} {l : List (Int × Value)} {b : Nat} (h : zW w b k l) (ht : P.underlying t = some (.map kt e)) (ty : TypeId) : (Builtin.len_ #[t] ty #[.map (some b)]).run P w = .ok (.int .i64 (l.length : Int)) w := by
 obtain ⟨es, ck, hb, E⟩ := h;rw [<- E.size];simp [Builtin.len_, run_underlying ht, MapKept.run_getObj_map hb, goInt, Result.andThen]
theorem Rng.ne_row {w : World} {r b : Nat} {k : IntKind} {l rest : List (Int × Value)} (h : Rng w r b k l rest) {base size n g : Nat} {T : TypeId} {v : Value} {xs : List Value} (ho : w.ownsRow base T size v n xs) (hg : v.ownBlock = some g) : r ≠ g := by
 rintro rfl;obtain ⟨es, ck, since, seen, c0, hb, E, hr, _⟩ := h;rcases ho.2 with ⟨rfl, _⟩ | ⟨g', cap, cur, rfl, _, h1, _⟩
 · cases hg
 · obtain rfl : g' = r := by simpa [Value.ownBlock] using hg
   rw [h1] at hr;cases hr
end Go.Proofs.YthijgebmoadgkaaGreatDoor
end
