
/- A pool as it lies in memory, and the contracts of its small functions. Conditions: those that each theorem names. -/
import Derived.Test.YtjncmaaofminkaaMapM
import Derived.Test.YtjncmaaofminkaaPooM
import Derived.Test.YtjncmaaofminkaaClone
import Derived.Test.YtjncmaaofminkaaSeq
import Derived.WalkLawsBesides
namespace Go.Proofs.Ytjncmaaofminkaa
open Go.ChangeShapes Go.WideShapes Go.ChangeAt Go.RowKit
set_option linter.unusedVariables false
set_option linter.unusedSimpArgs false

structure Fr where
  rf : RF
  used : Nat
  blk : Nat
def ptr (b : Nat) : Value := .pointer (some ⟨b, 0, none⟩)
def ent (f : Fr) : Int × Value := (f.rf.no, .pointer (some ⟨f.blk, 0, none⟩))
def fcell (f : Fr) : Array Value := #[.string f.rf.s, .bool f.rf.dirty, .int .i64 (f.rf.pins : Int), .int .i64 (f.used : Int)]
def pcell (n m u : Nat) : Array Value := #[.int .i64 (n : Int), .map (some m), .int .i64 (u : Int)]
/-- the pool's blocks -/
def fpool (p m : Nat) (L : List Fr) : Nat → Prop := fun q => q = p ∨ q = m ∨ q ∈ L.map (·.blk)
/-- the pool at block p -/
structure Mem (w : World) (B p m n u : Nat) (L : List Fr) : Prop where
  own : Own w p 49 (pcell n m u)
  map : MapOf w m .i64 (L.map ent)
  fr : ∀ f ∈ L, Own w f.blk 55 (fcell f)
  apart : (L.map (·.blk)).Nodup
  base : ∀ q, fpool p m L q → B ≤ q
/-- they stand by when they were used -/
structure Ord (u : Nat) (L : List Fr) : Prop where
  rise : L.Pairwise fun f g => f.used < g.used
  last : ∀ f ∈ L, f.used ≤ u

section
variable {w w' : World} {B p m n u : Nat} {L : List Fr}
theorem MapOf.perm {w : World} {b : Nat} {k : IntKind} {l l' : List (Int × Value)} (h : MapOf w b k l) (hp : l.Perm l') : MapOf w b k l' := by
  obtain ⟨es, ck, hb, E⟩ := h
  exact ⟨es, ck, hb, E.perm.trans (hp.map _), (hp.map _).nodup_iff.1 E.nodup, E.born, E.once⟩
theorem MapOf.nodup {w : World} {b : Nat} {k : IntKind} {l : List (Int × Value)} (h : MapOf w b k l) : (l.map (·.1)).Nodup := by
  obtain ⟨es, ck, hb, E⟩ := h
  exact E.nodup
theorem Mem.perm {L' : List Fr} (h : Mem w B p m n u L) (hp : L.Perm L') : Mem w B p m n u L' :=
  ⟨h.own, h.map.perm (hp.map _), fun f hf => h.fr f (hp.mem_iff.2 hf), (hp.map _).nodup_iff.1 h.apart, fun q hq => h.base q (hq.imp_right fun h => h.imp_right fun h => (hp.map _).mem_iff.2 h)⟩
theorem Mem.nos (h : Mem w B p m n u L) : ((L.map (·.rf)).map (·.no)).Nodup := by
  have := h.map.nodup
  rw [List.map_map] at this ⊢
  exact this
theorem Mem.ne_map (h : Mem w B p m n u L) : m ≠ p := h.map.ne h.own
theorem Mem.ne_fr (h : Mem w B p m n u L) {f : Fr} (hf : f ∈ L) : m ≠ f.blk := h.map.ne (h.fr f hf)
theorem own_type {w : World} {p q : Nat} {T T' : TypeId} {cs cs' : Array Value} (h : Own w p T cs) (k : Own w q T' cs') (hT : T ≠ T') : p ≠ q := by
  rintro rfl
  unfold Own at h k
  rw [h] at k
  injection k with k
  injection k with k1 k2
  exact hT k2
theorem Mem.ne_p (h : Mem w B p m n u L) {f : Fr} (hf : f ∈ L) : f.blk ≠ p := own_type (h.fr f hf) h.own (by decide)
theorem Mem.in_ (h : Mem w B p m n u L) {q : Nat} (hq : fpool p m L q) : q < w.heap.size := by
  rcases hq with rfl | rfl | hq
  · exact h.own.in_
  · exact h.map.in_
  · obtain ⟨f, hf, rfl⟩ := List.mem_map.1 hq
    exact (h.fr f hf).in_
theorem Mem.keep (h : Mem w B p m n u L) {S : Nat → Prop} (hc : Chg S w w') (hS : ∀ q, fpool p m L q → ¬ S q) : Mem w' B p m n u L := by
  have k : ∀ q, fpool p m L q → w'.heap[q]? = w.heap[q]? := fun q hq => hc.block q (h.in_ hq) (hS q hq)
  exact ⟨(k p (.inl rfl)).trans h.own, h.map.keep (k m (.inr (.inl rfl))), fun f hf => (k f.blk (.inr (.inr (List.mem_map.2 ⟨f, hf, rfl⟩)))).trans (h.fr f hf), h.apart, h.base⟩
theorem Mem.below (h : Mem w B p m n u L) (hb : Below w.heap.size w w') : Mem w' B p m n u L := h.keep (Chg.of (S := fun _ => False) hb) fun _ _ => id
theorem Mem.drew (h : Mem w B p m n u L) : Mem w.drew B p m n u L := h.keep ((Chg.refl (fun _ => False) w).drew) fun _ _ => id
/-- one frame's cells are turned, not its number -/
theorem Mem.turn {S T : List Fr} {f g : Fr} (h : Mem w B p m n u (S ++ f :: T)) (hc : Chg (· = f.blk) w w') (ho : Own w' f.blk 55 (fcell g)) (hb : g.blk = f.blk) (hn : g.rf.no = f.rf.no) : Mem w' B p m n u (S ++ g :: T) := by
  have hf : f ∈ S ++ f :: T := by simp
  have hbl : (S ++ g :: T).map (·.blk) = (S ++ f :: T).map (·.blk) := by simp [hb]
  have he : (S ++ g :: T).map ent = (S ++ f :: T).map ent := by simp [ent, hb, hn]
  have hnd := h.apart
  rw [List.map_append, List.map_cons, List.nodup_append, List.nodup_cons] at hnd
  refine ⟨hc.own h.own (h.ne_p hf).symm, ?_, fun x hx => ?_, by rw [hbl]; exact h.apart, fun q hq => h.base q (by unfold fpool at hq ⊢; rw [hbl] at hq; exact hq)⟩
  · rw [he]
    exact h.map.keep (hc.block m h.map.in_ (h.ne_fr hf))
  · have other : ∀ x ∈ S ++ f :: T, x.blk ≠ f.blk → Own w' x.blk 55 (fcell x) := fun x hx hne => hc.own (h.fr x hx) hne
    rcases List.mem_append.1 hx with hx | hx
    · exact other x (by simp [hx]) fun e => hnd.2.2 x.blk (List.mem_map.2 ⟨x, hx, rfl⟩) f.blk (by simp) e
    · rcases List.mem_cons.1 hx with rfl | hx
      · rw [hb]; exact ho
      · exact other x (by simp [hx]) fun e => hnd.2.1.1 (by rw [← e]; exact List.mem_map.2 ⟨x, hx, rfl⟩)
theorem chg_at (w : World) (b o : Nat) (v : Value) : Chg (· = b) w (w.setCell ⟨b, o, none⟩ v) := (Chg.refl (· = b) w).set ⟨b, o, none⟩ (.inl rfl) v
/-- the count is turned -/
theorem Mem.count (h : Mem w B p m n u L) (hc : Chg (· = p) w w') {v : Nat} (ho : Own w' p 49 (pcell n m v)) : Mem w' B p m n v L :=
  ⟨ho, h.map.keep (hc.block m h.map.in_ h.ne_map), fun f hf => hc.own (h.fr f hf) (h.ne_p hf), h.apart, h.base⟩
theorem zero_ptr (w : World) : (zeroValue 50).run Try.prog w = .ok (.pointer none) w := by kernel_rfl
end

section
variable {w : World} {B p m n u : Nat} {L S T : List Fr} {f : Fr}
theorem find_nil (w : World) (no : Int) : Calls Try.prog 25 #[.pointer none, .int .i64 no] w fun e w' => e = .returned (.pointer none) ∧ w = w' := by
  go_enter Try.func25, Try.ntmps25
  go_wp2
  go_ret
  exact ⟨rfl, rfl⟩
theorem find_some (h : Mem w B p m n u (S ++ f :: T)) : Calls Try.prog 25 #[.pointer (some ⟨p, 0, none⟩), .int .i64 f.rf.no] w fun e w' => e = .returned (.pointer (some ⟨f.blk, 0, none⟩)) ∧ w = w' := by
  have HM := h.map.look Try.underlying47 Try.underlying3 (zero_ptr w) (i := f.rf.no) (v := .pointer (some ⟨f.blk, 0, none⟩)) (by rw [List.map_append, List.map_cons]; exact List.mem_append_right _ (List.mem_cons_self ..))
  obtain ⟨o1, o2, o3⟩ := h.own.at_
  unfold pcell at o1
  clear h
  go_enter Try.func25, Try.ntmps25
  go_wp2
  go_ret
  exact ⟨rfl, rfl⟩
theorem find_none (h : Mem w B p m n u L) {no : Int} (hno : no ∉ (L.map (·.rf)).map (·.no)) : Calls Try.prog 25 #[.pointer (some ⟨p, 0, none⟩), .int .i64 no] w fun e w' => e = .returned (.pointer none) ∧ w = w' := by
  have HM := h.map.miss Try.underlying47 Try.underlying3 (zero_ptr w) (i := no) (fun v hv => hno (by
    obtain ⟨x, hx, e⟩ := List.mem_map.1 hv
    have : x.rf.no = no := congrArg Prod.fst e
    rw [← this]
    exact List.mem_map.2 ⟨x.rf, List.mem_map.2 ⟨x, hx, rfl⟩, rfl⟩))
  obtain ⟨o1, o2, o3⟩ := h.own.at_
  unfold pcell at o1
  clear h hno
  go_enter Try.func25, Try.ntmps25
  go_wp2
  go_ret
  exact ⟨rfl, rfl⟩
theorem len_nil (w : World) : Calls Try.prog 15 #[.pointer none] w fun e w' => e = .returned (.int .i64 0) ∧ w = w' := by
  go_enter Try.func15, Try.ntmps15
  go_wp2
  go_ret
  exact ⟨rfl, rfl⟩
/-- a frame is used -/
def used (f : Fr) (u : Nat) : Fr := ⟨f.rf, u, f.blk⟩
theorem use_any (h : Mem w B p m n u (S ++ f :: T)) (hu : u ≤ 1000000) : Calls Try.prog 28 #[.pointer (some ⟨p, 0, none⟩), .pointer (some ⟨f.blk, 0, none⟩)] w fun e w' =>
    e = .returned (.tuple #[]) ∧ Mem w' B p m n (u + 1) (S ++ used f (u + 1) :: T) ∧ Chg (fun q => q = p ∨ q = f.blk) w w' := by
  have hf : f ∈ S ++ f :: T := by simp
  have hne := h.ne_p hf
  have M1 : Mem (w.setCell ⟨p, 2, none⟩ (.int .i64 ((u : Int) + 1))) B p m n (u + 1) (S ++ f :: T) := h.count (chg_at _ _ _ _) (Own.put h.own 2 _)
  have F1 := M1.fr f hf
  have M2 := M1.turn (g := used f (u + 1)) (chg_at _ f.blk 3 (.int .i64 ((u : Int) + 1))) (Own.put F1 3 _) rfl rfl
  have C2 : Chg (fun q => q = p ∨ q = f.blk) w ((w.setCell ⟨p, 2, none⟩ (.int .i64 ((u : Int) + 1))).setCell ⟨f.blk, 3, none⟩ (.int .i64 ((u : Int) + 1))) :=
    ((chg_at w p 2 _).mono fun q _ e => .inl e).same ((chg_at _ f.blk 3 _).mono fun q _ e => .inr e)
  replace M2 := Lib.hid M2
  replace C2 := Lib.hid C2
  obtain ⟨o1, o2, o3⟩ := h.own.at_
  obtain ⟨p1, p2, p3⟩ := (h.fr f hf).at_
  unfold pcell at o1
  unfold fcell at p1
  clear h M1 F1 hf
  go_enter Try.func28, Try.ntmps28
  go_wp2
  go_end0
  exact ⟨rfl, M2.out, C2.out⟩
end
end Go.Proofs.Ytjncmaaofminkaa
