
/- The contracts of a pool's Clean, Dirty and Drop. Conditions: those that each theorem names. -/
import Derived.Test.YtjncmaaofminkaaPooE
import Derived.Sort.OwnSortedInts
namespace Go.Proofs.Ytjncmaaofminkaa
open Go.ChangeShapes Go.WideShapes Go.ChangeAt Go.RowKit
set_option linter.unusedVariables false
set_option linter.unusedSimpArgs false

/-- a frame that was made clean -/
def cl (f : Fr) : Fr := ⟨clean f.rf, f.used, f.blk⟩
theorem Rng.ne_row {w : World} {r b : Nat} {k : IntKind} {l rest : List (Int × Value)} (h : Rng w r b k l rest) {base size n g : Nat} {T : TypeId} {v : Value} {xs : List Value} (ho : w.ownsRow base T size v n xs) (hg : v.ownBlock = some g) : r ≠ g := by
  rintro rfl
  obtain ⟨es, ck, since, seen, c0, hb, E, hr, _⟩ := h
  rcases ho.2 with ⟨rfl, _⟩ | ⟨g', cap, cur, rfl, _, h1, _⟩
  · cases hg
  · obtain rfl : g' = r := by simpa [Value.ownBlock] using hg
    rw [h1] at hr
    cases hr
theorem ownsRow_keepB {w w' : World} {B : Nat} {e : TypeId} {size : Nat} {v : Value} {n : Nat} {xs : List Value} (h : w.ownsRow B e size v n xs) (hk : ∀ g, v.ownBlock = some g → w'.heap[g]? = w.heap[g]?) : w'.ownsRow B e size v n xs := by
  refine ⟨h.1, ?_⟩
  rcases h.2 with h2 | ⟨g, cap, cur, rfl, r1, r2, r3⟩
  · exact .inl h2
  · exact .inr ⟨g, cap, cur, rfl, r1, (hk g rfl).trans r2, r3⟩
section
variable {w w' : World} {B p m n u c : Nat} {L S T : List Fr} {f : Fr} {R : List RF}
theorem clean_nil (w : World) : Calls Try.prog 10 #[.pointer none] w fun e w' => e = .returned (.tuple #[]) ∧ w = w' := by
  go_enter Try.func10, Try.ntmps10
  go_wp2
  first
    | go_end0
    | (refine bodyPost_ret (results_none rfl _ _ _) rfl ?_)
  exact ⟨rfl, rfl⟩
set_option maxRecDepth 10000 in
set_option maxHeartbeats 1000000 in
theorem clean_any (h : PoolAt w B p n c R) : Calls Try.prog 10 #[.pointer (some ⟨p, 0, none⟩)] w fun e w' => e = .returned (.tuple #[]) ∧ PoolAt w' B p n c (cleanR R) ∧ Chg (PT w B) w w' := by
  obtain ⟨m, u, L, hM, hO, hu, hL, hR, h1, h2⟩ := h
  have QP : Hid (∀ W, Mem W B p m n u (L.map cl) → PoolAt W B p n c (cleanR R)) := fun W hW => by
    refine ⟨m, u, _, hW, ⟨?_, ?_⟩, hu, ?_, cleanR_ok hR, h1, h2⟩
    · rw [List.pairwise_map]; exact hO.rise
    · intro x hx
      obtain ⟨y, hy, rfl⟩ := List.mem_map.1 hx
      exact hO.last y hy
    · rw [← hL, List.map_map]
      show L.map (fun f => clean f.rf) = (L.map (·.rf)).map clean
      rw [List.map_map]; rfl
  obtain ⟨o1, o2, o3⟩ := hM.own.at_
  unfold pcell at o1
  have HM := Lib.hid hM.map
  have H := Lib.hid hM
  have FIN := Lib.hid (fun q hq => hM.in_ (q := q) hq)
  clear hM hO hL hR hu h1 h2
  go_enter Try.func10, Try.ntmps10
  go_wp2_with (first
    | (at_range; refine wp_range_map _ rfl _ _ rfl _ _ Try.underlying47 .i64 m _ rfl HM.out ?_; intro w0 hr0 hb0 hs0)
    | go_in)
  go_frame
  have R0 := Lib.hid hr0
  have B0 := Lib.hid hb0
  clear hr0 hb0
  go_loopw [] (fun wr => ∃ (done rest : List Fr), (done ++ rest).Perm L ∧ Mem wr B p m n u (done.map cl ++ rest) ∧ Rng wr w.heap.size m .i64 (L.map ent) (rest.map ent) ∧ Chg (fpool p m L) w wr)
    (fun wr => wr.rangeLeft m w.heap.size)
  case atStart => exact ⟨[], L, List.Perm.refl _, H.out.below B0.out, R0.out, Chg.of B0.out⟩
  case round =>
    obtain ⟨done, rest, hp, hm, hr, hc⟩ := hrel
    obtain ⟨q1, q2, q3⟩ := hm.own.at_
    unfold pcell at q1
    have HR := Lib.hid hr
    have HC := Lib.hid hc
    have HP := Lib.hid hp
    have MM := Lib.hid hm
    clear hr hc hp hm o1 o2 o3
    go_wp2_with (first
      | (at_next; refine wp_next_map _ rfl _ rfl .i64 m w.heap.size _ _ rfl HR.out ?_ ?_)
      | go_in)
    · intro he
      obtain rfl : rest = [] := by cases rest with
        | nil => rfl
        | cons x r => cases he
      clear he
      go_wp2
      go_end0
      have hp := HP.out
      rw [List.append_nil] at hp
      have hm := MM.out
      rw [List.append_nil] at hm
      exact ⟨rfl, QP.out _ (hm.perm (hp.map cl)), H.out.chg HC.out⟩
    · intro s i v t w1 he hr1 hc1 hs1 hen
      obtain ⟨S, f, T, rfl, rfl, hie, rfl⟩ := split_map ent rest he
      have h1 : i = f.rf.no := congrArg Prod.fst hie
      have h2 : v = .pointer (some ⟨f.blk, 0, none⟩) := congrArg Prod.snd hie
      subst h1 h2
      have hfL : f ∈ L := HP.out.mem_iff.1 (by simp)
      have hfin := FIN.out f.blk (.inr (.inr (List.mem_map.2 ⟨f, hfL, rfl⟩)))
      have hml := FIN.out m (.inr (.inl rfl))
      have hbl : ∀ q, fpool p m (done.map cl ++ (S ++ f :: T)) q → q < w.heap.size := fun q hq => by
        rcases hq with rfl | rfl | hq
        · exact FIN.out _ (.inl rfl)
        · exact FIN.out _ (.inr (.inl rfl))
        · refine FIN.out _ (.inr (.inr ?_))
          have e : (done.map cl ++ (S ++ f :: T)).map (·.blk) = (done ++ (S ++ f :: T)).map (·.blk) := by simp [cl]
          rw [e] at hq
          exact (HP.out.map _).mem_iff.1 hq
      have m1 : Mem w1 B p m n u ((done.map cl ++ S) ++ f :: T) := by
        rw [List.append_assoc]
        exact MM.out.keep hc1 fun q hq e => by have := hbl q hq; omega
      have hof := m1.fr f (by simp)
      have hne := m1.ne_fr (f := f) (by simp)
      have m2 : Mem (w1.setCell ⟨f.blk, 1, none⟩ (.bool false)) B p m n u ((done.map cl ++ S) ++ cl f :: T) := m1.turn (chg_at w1 f.blk 1 _) (Own.put hof 1 _) rfl rfl
      have p2 : ((done.map cl ++ S) ++ cl f :: T).Perm ((done ++ [f]).map cl ++ (S ++ T)) := by
        rw [List.map_append, List.append_assoc, List.append_assoc]
        refine List.Perm.append_left _ ?_
        exact List.perm_middle (a := cl f) (l₁ := S) (l₂ := T)
      have hp1 : ((done ++ [f]) ++ (S ++ T)).Perm L := by
        refine List.Perm.trans ?_ HP.out
        rw [List.append_assoc]
        refine List.Perm.append_left done ?_
        exact (List.perm_middle (a := f) (l₁ := S) (l₂ := T)).symm
      have hr2 : Rng (w1.setCell ⟨f.blk, 1, none⟩ (.bool false)) w.heap.size m .i64 (L.map ent) ((S ++ T).map ent) := by
        rw [List.map_append]
        exact hr1.keep ((chg_at w1 f.blk 1 (.bool false)).block m (by have := hc1.size; have := HC.out.size; omega) hne) ((chg_at w1 f.blk 1 (.bool false)).block w.heap.size hr1.in_ (by omega))
      have hc2 : Chg (fpool p m L) w (w1.setCell ⟨f.blk, 1, none⟩ (.bool false)) :=
        (HC.out.trans hc1 fun q hq e => absurd e (by omega)).same ((chg_at w1 f.blk 1 _).mono fun q _ e => .inr (.inr (List.mem_map.2 ⟨f, hfL, e.symm⟩)))
      have hlen : (S ++ T).length < (S ++ f :: T).length := by simp
      have hms := hr2.left
      have hms0 := HR.out.left
      rw [List.length_map] at hms hms0
      have HM0 := Lib.hid hms0
      have HLT := Lib.hid hlen
      have HMS := Lib.hid hms
      have R2 := Lib.hid hr2
      have P1 := Lib.hid hp1
      have M2 := Lib.hid (m2.perm p2)
      have C2 := Lib.hid hc2
      obtain ⟨f1, f2, f3⟩ := hof.at_
      unfold fcell at f1
      clear he hie hr1 hc1 hof hp1 hr2 hlen hms hms0 q1 q2 q3 m1 m2 p2 hc2 hbl
      go_wp2
      go_roundw
      case rel => exact ⟨done ++ [f], S ++ T, P1.out, M2.out, R2.out, C2.out⟩
      case measure => rw [HMS.out, HM0.out]; exact HLT.out
theorem dirty_nil (w : World) : Calls Try.prog 23 #[.pointer none] w fun e w' => e = .returned (.slice none 0 0) ∧ w = w' := by
  go_enter Try.func23, Try.ntmps23
  go_wp2
  go_ret
  exact ⟨rfl, rfl⟩
end
end Go.Proofs.Ytjncmaaofminkaa
