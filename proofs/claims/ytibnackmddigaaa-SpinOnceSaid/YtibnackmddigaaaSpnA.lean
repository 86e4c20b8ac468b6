/- merged: More of maps as lists of pairs: v, ok := m[i]; m[i] = v whatever stands there; clear. It speaks of no function. Halves in memory: rows of them, keys that are halves; the contracts of Twin and Less. Conditions: those that each theorem names. -/
import Derived.Test.YtibnackmddigaaaMapM
import Derived.Test.YtibnackmddigaaaSpnM
import Derived.Test.YtibnackmddigaaaPlnE
section
namespace Go.Proofs.Ytibnackmddigaaa.Mp
open Go.ChangeShapes Go.WideShapes Go.ChangeAt Go.RowKit
set_option linter.unusedVariables false
set_option linter.unusedSimpArgs false

section
variable {P : Program} {w : World} {t e : TypeId} {k : IntKind} {l : List (Int × Value)} {b : Nat} {kt : TypeId}
theorem perm_set {α : Type} : ∀ (L : List α) (j : Nat) (e e' : α), L[j]? = some e → (L.set j e').Perm (e' :: L.eraseIdx j)
  | [], j, e, e', h => by simp at h
  | x :: L, 0, e, e', h => by simp
  | x :: L, j + 1, e, e', h => by
    have ih := perm_set L j e e' (by simpa using h)
    rw [List.set_cons_succ, List.eraseIdx_cons_succ]
    exact (ih.cons x).trans (List.Perm.swap e' x _)
/-- m[i] = v -/
theorem MapOf.up (h : MapOf w b k l) (ht : P.underlying t = some (.map kt e)) (hk : P.underlying kt = some (.int k)) (i : Int) (v : Value) :
    ∃ w', (Instr.mapUpdate t (.map (some b)) (.int k i) v).run P w = .ok () w' ∧ MapOf w' b k ((i, v) :: l.filter fun p => p.1 != i) ∧ Chg (· = b) w w' ∧ w'.heap.size = w.heap.size := by
  by_cases hp : ∀ u, (i, u) ∉ l
  · obtain ⟨w', h1, h2, h3, h4⟩ := h.put ht hk v hp
    refine ⟨w', h1, ?_, h3, h4⟩
    rw [perm_filter_none hp]
    exact h2.perm (List.perm_append_singleton _ _)
  · obtain ⟨u, hu⟩ : ∃ u, (i, u) ∈ l := by simpa using hp
    have hlt := h.in_
    obtain ⟨es, ck, j, e0, hb, E, h1, h2, h3, h4⟩ := h.find_some hu
    have hst : (Instr.keyThatStays (.int k i) (.int k i)).run P w = .ok (.int k i) w := by
      have : Instr.sameBits 10000 (.int k i) (.int k i) = true := by unfold Instr.sameBits; simp
      simp [Instr.keyThatStays, this]
    have h5 : es.toList[j]? = some e0 := by simpa using h1
    have hlist : (es.modify j (fun e' => { e' with key := .int k i, val := v })).toList = es.toList.set j { e0 with key := .int k i, val := v } := by
      rw [Array.toList_modify]
      refine List.ext_getElem? fun n => ?_
      rw [List.getElem?_modify, List.getElem?_set]
      by_cases e : j = n
      · subst e
        have := (List.getElem?_eq_some_iff.1 h5).1
        simp only [h5, if_true, this]
        rfl
      · simp [e]
    refine ⟨{ w with heap := w.heap.setIfInBounds b (.map (es.modify j fun e' => { e' with key := .int k i, val := v }) ck) }, by simp [Instr.mapUpdate, run_underlying ht, MapKept.run_getObj_map hb, checkKey_int hk, Instr.findKey, run_underlying hk, h4, h1, h2, hst, MapKept.run_setObj_map _ hb, Result.andThen], ⟨_, _, (chg_map hlt _).2, ⟨?_, ?_, ?_, ?_⟩⟩, (chg_map hlt _).1, by simp⟩
    · rw [hlist]
      refine ((perm_set es.toList j e0 _ h5).map kv).trans ?_
      rw [List.map_cons, List.map_cons]
      exact (perm_del kv E.perm E.nodup h5 h2).cons _
    · rw [List.map_cons, List.nodup_cons]
      refine ⟨fun hm => ?_, ((List.filter_sublist (l := l) (p := fun p => p.1 != i)).map fun p => p.1).nodup E.nodup⟩
      obtain ⟨q, hq, e⟩ := List.mem_map.1 hm
      have := (List.mem_filter.1 hq).2
      simp at this
      exact this e
    · intro x hx
      rw [hlist] at hx
      rcases List.mem_or_eq_of_mem_set hx with hx | rfl
      · exact E.born x hx
      · exact E.born e0 (List.mem_of_getElem? h5)
    · rw [hlist]
      have hm : (es.toList.set j { e0 with key := .int k i, val := v }).map (·.born) = es.toList.map (·.born) := by
        rw [List.map_set]
        have h6 : (es.toList.map (·.born))[j]? = some e0.born := by simp [h1]
        refine List.ext_getElem? fun n => ?_
        rw [List.getElem?_set]
        by_cases e : j = n
        · subst e
          rw [h6]
          have := (List.getElem?_eq_some_iff.1 h6).1
          simp only [if_true, this]
        · simp [e]
      rw [hm]
      exact E.once
end
end Go.Proofs.Ytibnackmddigaaa.Mp
end
section
namespace Go.Proofs.Ytibnackmddigaaa.Pl
open Go.ChangeShapes Go.WideShapes Go.ChangeAt Go.RowKit Go.Proofs.Ytibnackmddigaaa.Mp
set_option linter.unusedVariables false
set_option linter.unusedSimpArgs false

def hV (h : Hf) : Value := .agg #[.int .i64 h.1, .bool h.2]
def hC (L : List Hf) : List Value := L.flatMap fun h => [.int .i64 h.1, .bool h.2]
theorem hC_len (L : List Hf) : (hC L).length = L.length * 2 := by
  induction L with
  | nil => rfl
  | cons x l ih => unfold hC at *; rw [List.flatMap_cons, List.length_append, ih]; simp; omega
theorem hC_app (a b : List Hf) : hC (a ++ b) = hC a ++ hC b := by simp [hC]
theorem hC_one (h : Hf) : hC [h] = [.int .i64 h.1, .bool h.2] := rfl
theorem hC_at : ∀ (L : List Hf) (i : Nat) (hi : i < L.length), (hC L)[i * 2]? = some (.int .i64 (L[i]'hi).1) ∧ (hC L)[i * 2 + 1]? = some (.bool (L[i]'hi).2)
  | x :: L, 0, _ => ⟨rfl, rfl⟩
  | x :: L, i + 1, hi => by
    have h := hC_at L i (by simpa using hi)
    have e : hC (x :: L) = [.int .i64 x.1, .bool x.2] ++ hC L := hC_app [x] L
    rw [e]
    rw [show (i + 1) * 2 = i * 2 + 2 by omega, show i * 2 + 2 + 1 = i * 2 + 1 + 2 by omega]
    simpa using h
/-- a row of halves of one's own -/
def HOwn (w : World) (B : Nat) (v : Value) (L : List Hf) : Prop := w.ownsRow B 42 2 v L.length (hC L)
/-- a row of halves that is read -/
def HIn (w : World) (v : Value) (L : List Hf) : Prop :=
  ∃ a cap, v = .slice a L.length cap ∧ L.length ≤ cap ∧ cap ≤ maxLen ∧
    (L = [] ∨ ∃ b o, a = some ⟨b, o, none⟩ ∧ b < w.heap.size ∧ ∀ i (h : i < L.length), w.cell? ⟨b, o + i * 2, none⟩ = some (.int .i64 (L[i]'h).1) ∧ w.cell? ⟨b, o + i * 2 + 1, none⟩ = some (.bool (L[i]'h).2))
section
variable {w w' : World} {B : Nat} {v : Value} {L : List Hf}
theorem HIn.below (h : HIn w v L) (hb : Below w.heap.size w w') : HIn w' v L := by
  obtain ⟨a, cap, h1, h2, h3, h5⟩ := h
  refine ⟨a, cap, h1, h2, h3, ?_⟩
  rcases h5 with h5 | ⟨b, o, e, hb', hcl⟩
  · exact .inl h5
  · exact .inr ⟨b, o, e, Nat.lt_of_lt_of_le hb' hb.size, fun i hi => ⟨keep hb (hcl i hi).1, keep hb (hcl i hi).2⟩⟩
theorem HIn.open_ (h : HIn w v L) : ∃ a cap, v = .slice a L.length cap ∧ L.length ≤ cap ∧ cap ≤ maxLen ∧ ∀ i (hi : i < L.length), ∃ b o, a = some ⟨b, o, none⟩ ∧ b < w.heap.size ∧ ∀ W, Below w.heap.size w W →
    W.cell? ⟨b, o + i * 2, none⟩ = some (.int .i64 (L[i]'hi).1) ∧ W.cell? ⟨b, o + i * 2 + 1, none⟩ = some (.bool (L[i]'hi).2) := by
  obtain ⟨a, cap, h1, h2, h3, h5⟩ := h
  refine ⟨a, cap, h1, h2, h3, fun i hi => ?_⟩
  rcases h5 with h5 | ⟨b, o, e, hb, hcl⟩
  · subst h5; simp at hi
  · exact ⟨b, o, e, hb, fun W hW => ⟨keep hW (hcl i hi).1, keep hW (hcl i hi).2⟩⟩
theorem HIn.nil (w : World) : HIn w (.slice none 0 0) [] := ⟨none, 0, rfl, Nat.le_refl _, Nat.zero_le _, .inl rfl⟩
theorem HOwn.nil (w : World) (B : Nat) : HOwn w B (.slice none 0 0) [] := World.ownsRow_nil _ _ _ _
theorem HOwn.shape (h : HOwn w B v L) : ∃ a c, v = .slice a L.length c := row_shape h
theorem HOwn.own (h : HOwn w B v L) {g : Nat} (hg : v.ownBlock = some g) : B ≤ g ∧ ∃ cur, Own w g 42 cur := row_own h hg
theorem HOwn.keep {Z : Nat → Prop} (h : HOwn w B v L) (hc : Chg Z w w') (hz : ∀ g, v.ownBlock = some g → ¬ Z g) : HOwn w' B v L := row_keep hc h hz
theorem HOwn.below (h : HOwn w B v L) (hb : Below w.heap.size w w') : HOwn w' B v L := h.keep (Chg.of (S := fun _ => False) hb) fun _ _ k => k
theorem HOwn.lt (h : HOwn w B v L) {g : Nat} (hg : v.ownBlock = some g) : g < w.heap.size := (World.ownsRow.lt h g hg).2
theorem HOwn.in_ (h : HOwn w B v L) : HIn w v L := by
  rcases h.2 with ⟨rfl, h0⟩ | ⟨g, cap, cur, rfl, h1, h2, h3, h4, h5, h6⟩
  · have : L = [] := List.eq_nil_of_length_eq_zero h0
    subst this
    exact HIn.nil w
  · have ho : Own w g 42 cur := h2
    refine ⟨_, cap, rfl, h3, h4, .inr ⟨g, 0, rfl, ho.in_, fun i hi => ?_⟩⟩
    have k := ho.at_.1
    have key : ∀ j, j < L.length * 2 → cur[j]? = (hC L)[j]? := fun j hj => by
      rw [← h6, List.getElem?_take_of_lt hj, Array.getElem?_toList]
    obtain ⟨c1, c2⟩ := hC_at L i hi
    rw [Nat.zero_add, k, k, key _ (by omega), key _ (by omega)]
    exact ⟨c1, c2⟩
end
theorem info_Half : (Try.prog.info? 42).map (fun i => (i.zero, i.size, i.bytes)) = some (some (.agg #[.int .i64 0, .bool false]), 2, 16) := by kernel_rfl
theorem half_at {w : World} {p : Nat} {T : TypeId} {x y : Value} (h : Own w p T #[x, y]) : w.cell? ⟨p, 0, none⟩ = some x ∧ w.cell? ⟨p, 1, none⟩ = some y := ⟨(h.at_).1 0, (h.at_).1 1⟩
theorem eq_Half (a1 b1 : Int) (a2 b2 : Bool) (w : World) : (Op.equalIn 10000 42 (.agg #[.int .i64 a1, .bool a2]) (.agg #[.int .i64 b1, .bool b2])).run Try.prog w = .ok (decide (a1 = b1 ∧ a2 = b2)) w := by
  have u3 := Try.underlying3
  have a3 := Try.isAgg3
  have z3 := Try.sizeOf3
  have u4 := Try.underlying4
  have a4 := Try.isAgg4
  have z4 := Try.sizeOf4
  rw [show (10000 : Nat) = 9999 + 1 from rfl, run_equalIn_struct w 9999 42 _ _ (by simp [Program.fieldsOf, Try.underlying42]) (by kernel_rfl)]
  simp only [Program.fieldsOf, Try.underlying42]
  by_cases h0 : a1 = b1 <;> cases a2 <;> cases b2 <;> simp [Op.eqFields, go_sem, part, u3, a3, z3, u4, a4, z4, h0]
theorem chk_bool (em : Bool) (n : Nat) (z : Bool) (w : World) : (Instr.checkKey em (n + 1) 4 (.bool z)).run Try.prog w = .ok () w := by
  simp [Instr.checkKey, run_underlying Try.underlying4, Result.andThen]
theorem key_half : KeyG Try.prog 42 hV where
  chk em p w := by
    have u3 := Try.underlying3
    have a3 := Try.isAgg3
    have z3 := Try.sizeOf3
    have u4 := Try.underlying4
    have a4 := Try.isAgg4
    have z4 := Try.sizeOf4
    unfold hV
    rw [show (10000 : Nat) = 9998 + 1 + 1 from rfl, Instr.checkKey]
    simp only [Sem.run_bind, run_underlying Try.underlying42, Result.andThen_ok]
    simp [chk_int, chk_bool, go_sem, part, u3, a3, z3, u4, a4, z4]
  eq p q w := by
    have h := eq_Half p.1 q.1 p.2 q.2 w
    have e : decide (p = q) = decide (p.1 = q.1 ∧ p.2 = q.2) := by
      obtain ⟨p1, p2⟩ := p
      obtain ⟨q1, q2⟩ := q
      simp
    rw [e]
    exact h
  wide := by rw [Try.underlying42]
  kind := ⟨_, Try.underlying42⟩
set_option maxRecDepth 10000 in
theorem twin_any (h : Hf) (w : World) : Calls Try.prog 55 #[hV h] w fun e w' => e = .returned (hV (tw h)) ∧ Below w.heap.size w w' := by
  obtain ⟨e, b⟩ := h
  unfold hV tw
  simp only
  go_enter Try.func55, Try.ntmps55
  go_wp2
  refine bodyPost_ret (by simp [results, Try.results55, go_sem]) rfl ⟨rfl, ?_⟩
  repeat' (first | (with_reducible exact Below.refl _ _) | (with_reducible assumption) | (with_reducible refine below_drewN ?_ _) | (with_reducible refine Below.drew ?_) | (with_reducible refine Below.alloc ?_ ?_ _) | (with_reducible refine Below.setCell ?_ ?_ _) | (with_reducible refine then_ ?_ (by with_reducible assumption) ?_) | (with_reducible exact Nat.le_refl _) | (with_reducible exact Nat.le_succ _) | (with_reducible exact Nat.le_succ_of_le (by with_reducible assumption)) | omega | (simp; done) | (simp; omega) | (exact Nat.le_succ _) | (exact Nat.le_succ_of_le (by with_reducible assumption)))
set_option maxRecDepth 10000 in
theorem less_any (g h : Hf) (w : World) : Calls Try.prog 18 #[hV g, hV h] w fun e w' => e = .returned (.bool (lsH g h)) ∧ Below w.heap.size w w' := by
  obtain ⟨e, b⟩ := g
  obtain ⟨f, c⟩ := h
  unfold hV lsH
  simp only
  have HB : Hid (Below w.heap.size w ((w.alloc (.cells #[.int .i64 e, .bool b] 42)).alloc (.cells #[.int .i64 f, .bool c] 42))) := Lib.hid (by repeat' (first | (with_reducible exact Below.refl _ _) | (with_reducible assumption) | (with_reducible refine below_drewN ?_ _) | (with_reducible refine Below.drew ?_) | (with_reducible refine Below.alloc ?_ ?_ _) | (with_reducible refine Below.setCell ?_ ?_ _) | (with_reducible refine then_ ?_ (by with_reducible assumption) ?_) | (with_reducible exact Nat.le_refl _) | (with_reducible exact Nat.le_succ _) | (with_reducible exact Nat.le_succ_of_le (by with_reducible assumption)) | omega | (simp; done) | (simp; omega) | (exact Nat.le_succ _) | (exact Nat.le_succ_of_le (by with_reducible assumption))))
  rcases Int.lt_trichotomy e f with k | k | k
  · have t1 : decide (e < f) = true := decide_eq_true k
    rw [t1, Bool.true_or]
    clear k
    go_enter Try.func18, Try.ntmps18
    go_wp2
    go_ret
    exact ⟨rfl, HB.out⟩
  · subst k
    have t1 : decide (e < e) = false := decide_eq_false (by omega)
    have t2 : decide (e = e) = true := decide_eq_true rfl
    rw [t1, t2, Bool.false_or, Bool.true_and]
    cases b <;> cases c <;> simp only [Bool.not_true, Bool.not_false, Bool.and_true, Bool.and_false]
    all_goals
      go_enter Try.func18, Try.ntmps18
      go_wp2
      go_ret
      exact ⟨rfl, HB.out⟩
  · have t1 : decide (e < f) = false := decide_eq_false (by omega)
    have t2 : decide (e = f) = false := decide_eq_false (by omega)
    have t3 : (e == f) = false := by simp; omega
    rw [t1, t2, Bool.false_and, Bool.or_false]
    clear k
    go_enter Try.func18, Try.ntmps18
    go_wp2
    go_ret
    exact ⟨rfl, HB.out⟩
end Go.Proofs.Ytibnackmddigaaa.Pl
end
