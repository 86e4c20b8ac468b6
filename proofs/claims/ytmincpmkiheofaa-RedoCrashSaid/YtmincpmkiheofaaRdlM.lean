
/- What a log's Append leaves, in the laws' words: plain mathematics of the calls of a disk; a disk and a log side by side. Conditions: those that each theorem names. -/
import Derived.Test.YtmincpmkiheofaaRdoK
namespace Go.Proofs.Ytmincpmkiheofaa
open Go.ChangeShapes Go.WideShapes Go.ChangeAt Go.RowKit
set_option linter.unusedVariables false
set_option linter.unusedSimpArgs false

/-- a call that the disk takes -/
def fitD (N : Nat) : Dop → Prop
  | some (i, t) => i < N ∧ t.size = 64
  | none => True
theorem burn_up (s : St) (h : s.down = false) : (burn s).1 = !(burn s).2.down ∧ (s.fuse < 0 → (burn s).1 = true ∧ (burn s).2 = s) := by
  unfold burn
  split
  · rename_i h0
    exact ⟨rfl, fun h => by omega⟩
  · split
    · exact ⟨rfl, fun h => by omega⟩
    · exact ⟨rfl, fun _ => ⟨by rw [h]; rfl, rfl⟩⟩
theorem dres_down (N : Nat) (s : St) (o : Dop) (h : s.down = true) : dres N s o = (11, s) := by
  cases o with
  | none => show fres s = _; unfold fres; rw [if_pos h]
  | some x => obtain ⟨i, t⟩ := x; show wres N s (i : Int) t = _; unfold wres; rw [if_pos h]
theorem dres_up (N : Nat) (s : St) (o : Dop) (h : s.down = false) (hf : fitD N o) :
    (((dres N s o).1 = 0 ∧ (dres N s o).2.down = false) ∨ ((dres N s o).1 = 11 ∧ (dres N s o).2.down = true)) ∧ (s.fuse < 0 → (dres N s o).1 = 0 ∧ (dres N s o).2.fuse = s.fuse) := by
  obtain ⟨hb1, hb2⟩ := burn_up s h
  cases o with
  | none =>
    show (((fres s).1 = 0 ∧ (fres s).2.down = false) ∨ ((fres s).1 = 11 ∧ (fres s).2.down = true)) ∧ (s.fuse < 0 → (fres s).1 = 0 ∧ (fres s).2.fuse = s.fuse)
    unfold fres
    rw [if_neg (by rw [h]; simp)]
    cases hb : (burn s).1 with
    | true =>
      rw [hb] at hb1
      rw [if_pos rfl]
      exact ⟨.inl ⟨rfl, by simpa using hb1.symm⟩, fun hf => ⟨rfl, by show (burn s).2.fuse = s.fuse; rw [(hb2 hf).2]⟩⟩
    | false =>
      rw [hb] at hb1
      rw [if_neg (by simp)]
      exact ⟨.inr ⟨rfl, by simpa using hb1.symm⟩, fun hf => by have := (hb2 hf).1; rw [hb] at this; cases this⟩
  | some x =>
    obtain ⟨i, t⟩ := x
    obtain ⟨f1, f2⟩ : i < N ∧ t.size = 64 := hf
    show (((wres N s (i : Int) t).1 = 0 ∧ (wres N s (i : Int) t).2.down = false) ∨ ((wres N s (i : Int) t).1 = 11 ∧ (wres N s (i : Int) t).2.down = true)) ∧ (s.fuse < 0 → (wres N s (i : Int) t).1 = 0 ∧ (wres N s (i : Int) t).2.fuse = s.fuse)
    unfold wres
    rw [if_neg (by rw [h]; simp), if_neg (by omega)]
    cases hb : (burn s).1 with
    | true =>
      rw [hb] at hb1
      rw [if_pos rfl]
      exact ⟨.inl ⟨rfl, by simpa using hb1.symm⟩, fun hf => ⟨rfl, by show (burn s).2.fuse = s.fuse; rw [(hb2 hf).2]⟩⟩
    | false =>
      rw [hb] at hb1
      rw [if_neg (by simp)]
      exact ⟨.inr ⟨rfl, by simpa using hb1.symm⟩, fun hf => by have := (hb2 hf).1; rw [hb] at this; cases this⟩
theorem runW_stuck (N : Nat) : ∀ (ops : List Dop) (x : Int × St), x.1 ≠ 0 → runW N ops x = x
  | [], x, _ => rfl
  | o :: ops, x, h => by
    show runW N ops (stepW N x o) = x
    have e : stepW N x o = x := by unfold stepW; rw [if_neg h]
    rw [e]
    exact runW_stuck N ops x h
theorem runW_down (N : Nat) (ops : List Dop) (s : St) (h : s.down = true) (hn : ops ≠ []) : runW N ops (0, s) = (11, s) := by
  cases ops with
  | nil => exact absurd rfl hn
  | cons o ops =>
    show runW N ops (stepW N (0, s) o) = _
    have e : stepW N (0, s) o = (11, s) := by unfold stepW; rw [if_pos rfl]; exact dres_down N s o h
    rw [e]
    exact runW_stuck N ops _ (by show (11 : Int) ≠ 0; decide)
theorem runW_up (N : Nat) : ∀ (ops : List Dop) (s : St), s.down = false → (∀ o ∈ ops, fitD N o) →
    (((runW N ops (0, s)).1 = 0 ∧ (runW N ops (0, s)).2.down = false) ∨ ((runW N ops (0, s)).1 = 11 ∧ (runW N ops (0, s)).2.down = true)) ∧ (s.fuse < 0 → (runW N ops (0, s)).1 = 0 ∧ (runW N ops (0, s)).2.fuse = s.fuse)
  | [], s, h, _ => ⟨.inl ⟨rfl, h⟩, fun _ => ⟨rfl, rfl⟩⟩
  | o :: ops, s, h, hf => by
    have h1 := dres_up N s o h (hf o (by simp))
    have e : runW N (o :: ops) (0, s) = runW N ops (dres N s o) := by
      show runW N ops (stepW N (0, s) o) = _
      congr 1
    rw [e]
    generalize dres N s o = r at h1 ⊢
    obtain ⟨e1, s1⟩ := r
    rcases h1.1 with h2 | h2
    · obtain ⟨h2, h3⟩ := h2
      simp only at h2 h3
      subst h2
      have ih := runW_up N ops s1 h3 fun o ho => hf o (by simp [ho])
      refine ⟨ih.1, fun hf => ?_⟩
      have h4 := (h1.2 hf).2
      simp only at h4
      have h5 := ih.2 (by omega)
      exact ⟨h5.1, h5.2.trans h4⟩
    · obtain ⟨h2, h3⟩ := h2
      simp only at h2 h3
      rw [runW_stuck N ops _ (by show e1 ≠ 0; rw [h2]; decide)]
      refine ⟨.inr ⟨h2, h3⟩, fun hf => ?_⟩
      have := (h1.2 hf).1
      simp only at this
      omega
theorem txnOps_fit (N base : Nat) (ps : List ByteArray) (seq : Nat) (hsz : ∀ p ∈ ps, p.size = 512) (hb : base + (1 + 9 * ps.length) ≤ N) : ∀ o ∈ txnOps base ps seq, fitD N o := by
  intro o ho
  unfold txnOps at ho
  rcases List.mem_append.1 ho with ho | ho
  · obtain ⟨k, hk, ho⟩ := List.mem_flatMap.1 ho
    have hk := List.mem_range.1 hk
    obtain ⟨i, hi, rfl⟩ := List.mem_map.1 ho
    have hi := List.mem_range.1 hi
    have hp : (ps.getD k ⟨#[]⟩).size = 512 := by
      rw [List.getD_eq_getElem?_getD, List.getElem?_eq_getElem hk]
      exact hsz _ (List.getElem_mem hk)
    exact ⟨by omega, secB_size _ (by omega) i hi⟩
  · simp at ho
    rcases ho with rfl | rfl | rfl
    · trivial
    · exact ⟨by omega, markB_size _ _⟩
    · trivial
/-- behind a flush that went well nothing is pending -/
theorem runW_flush (N : Nat) (ops : List Dop) (s : St) (h : (runW N (ops ++ [none]) (0, s)).1 = 0) : (runW N (ops ++ [none]) (0, s)).2.wr = [] := by
  rw [runW_snoc] at h ⊢
  generalize runW N ops (0, s) = r at h ⊢
  obtain ⟨e1, s1⟩ := r
  unfold stepW at h ⊢
  simp only at h ⊢
  split at h
  · rename_i h0
    rw [if_pos h0]
    change (fres s1).1 = 0 at h
    show (fres s1).2.wr = []
    unfold fres at h ⊢
    split at h
    · cases h
    · rename_i h1
      rw [if_neg h1]
      split at h
      · rename_i h2; rw [if_pos h2]
      · cases h
  · rename_i h0
    exact absurd h h0
theorem txnOps_len (base : Nat) (ps : List ByteArray) (seq : Nat) : (txnOps base ps seq).length = 9 * ps.length + 3 := by
  unfold txnOps
  rw [List.length_append, opsTo_len]
  rfl
theorem txnOps_flush (N base : Nat) (ps : List ByteArray) (seq : Nat) (s : St) (h : (runW N (txnOps base ps seq) (0, s)).1 = 0) : (runW N (txnOps base ps seq) (0, s)).2.wr = [] := by
  have e : txnOps base ps seq = (opsTo base ps ps.length ++ [none, some (base, markB seq ps.length)]) ++ [none] := by simp [txnOps]
  rw [e] at h ⊢
  exact runW_flush N _ s h
/-- all that Append does to a disk and a log whose stretch lies on it -/
theorem ares_all (N : Nat) (s : St) (l : LogS) (ps : List ByteArray) (hk : l.Ok) (hfit : l.from_ + l.size ≤ N) :
    (arePg ps = false ∧ ares N s l ps = (1, s, l)) ∨
    (arePg ps = true ∧ l.failed = true ∧ ares N s l ps = (17, s, l)) ∨
    (arePg ps = true ∧ l.failed = false ∧ 64 < ps.length ∧ ares N s l ps = (10, s, l)) ∨
    (arePg ps = true ∧ l.failed = false ∧ ps.length ≤ 64 ∧ l.size - l.used < 1 + 9 * ps.length ∧ ares N s l ps = (9, s, l)) ∨
    (arePg ps = true ∧ l.failed = false ∧ ps.length ≤ 64 ∧ 1 + 9 * ps.length ≤ l.size - l.used ∧ s.down = true ∧ ares N s l ps = (11, s, { l with failed := true })) ∨
    (∃ s', arePg ps = true ∧ l.failed = false ∧ ps.length ≤ 64 ∧ 1 + 9 * ps.length ≤ l.size - l.used ∧ s.down = false ∧ (0, s') = runW N (txnOps (l.from_ + l.used) ps l.next) (0, s) ∧ s'.down = false ∧ s'.wr = [] ∧ (s.fuse < 0 → s'.fuse = s.fuse) ∧ ares N s l ps = (0, s', l.plus ps.length)) ∨
    (∃ s', arePg ps = true ∧ l.failed = false ∧ ps.length ≤ 64 ∧ 1 + 9 * ps.length ≤ l.size - l.used ∧ s.down = false ∧ (11, s') = runW N (txnOps (l.from_ + l.used) ps l.next) (0, s) ∧ s'.down = true ∧ 0 ≤ s.fuse ∧ ares N s l ps = (11, s', { l with failed := true })) := by
  unfold ares
  cases ha : arePg ps with
  | false => exact .inl ⟨rfl, by rw [if_pos rfl]⟩
  | true =>
    rw [if_neg (by simp)]
    cases hf : l.failed with
    | true => exact .inr (.inl ⟨rfl, rfl, by rw [if_pos rfl]⟩)
    | false =>
      rw [if_neg (by simp)]
      have hl : l.left = l.size - l.used := by unfold LogS.left; rw [hf]; rfl
      by_cases c1 : 64 < ps.length
      · exact .inr (.inr (.inl ⟨rfl, rfl, c1, by rw [if_pos c1]⟩))
      rw [if_neg c1]
      by_cases c2 : l.left < 1 + 9 * ps.length
      · exact .inr (.inr (.inr (.inl ⟨rfl, rfl, by omega, by omega, by rw [if_pos c2]⟩)))
      rw [if_neg c2]
      have hu := hk.used
      have hsz : ∀ p ∈ ps, p.size = 512 := (of_decide_eq_true ha).2
      cases hd : s.down with
      | true =>
        refine .inr (.inr (.inr (.inr (.inl ⟨rfl, rfl, by omega, by omega, rfl, ?_⟩))))
        rw [runW_down N _ s hd (by simp [txnOps]), if_neg (by show ¬ (11 : Int) = 0; decide)]
      | false =>
        have hr := runW_up N (txnOps (l.from_ + l.used) ps l.next) s hd (txnOps_fit N _ ps _ hsz (by omega))
        have hw := txnOps_flush N (l.from_ + l.used) ps l.next s
        generalize runW N (txnOps (l.from_ + l.used) ps l.next) (0, s) = r at hr hw ⊢
        obtain ⟨e1, s1⟩ := r
        simp only at hr hw
        rcases hr.1 with ⟨h1, h2⟩ | ⟨h1, h2⟩
        · subst h1
          exact .inr (.inr (.inr (.inr (.inr (.inl ⟨s1, rfl, rfl, by omega, by omega, rfl, rfl, h2, hw rfl, fun h => (hr.2 h).2, by rw [if_pos rfl]⟩)))))
        · subst h1
          exact .inr (.inr (.inr (.inr (.inr (.inr ⟨s1, rfl, rfl, by omega, by omega, rfl, rfl, h2, by
            by_cases h : s.fuse < 0
            · have := (hr.2 h).1; omega
            · omega, by rw [if_neg (by show ¬ (11 : Int) = 0; decide)]⟩)))))
theorem ares_good (N : Nat) (s : St) (l : LogS) (ps : List ByteArray) (hk : l.Ok) (hfit : l.from_ + l.size ≤ N) (h1 : arePg ps = true) (h2 : l.failed = false) (h3 : ps.length ≤ 64) (h4 : 1 + 9 * ps.length ≤ l.size - l.used) (h5 : s.down = false) (h6 : s.fuse < 0) :
    ∃ s', ares N s l ps = (0, s', l.plus ps.length) ∧ s'.down = false ∧ s'.wr = [] ∧ s'.fuse = s.fuse := by
  rcases ares_all N s l ps hk hfit with ⟨h, -⟩ | ⟨-, h, -⟩ | ⟨-, -, h, -⟩ | ⟨-, -, -, h, -⟩ | ⟨-, -, -, -, h, -⟩ | ⟨s', -, -, -, -, -, -, hd, hw, hf, e⟩ | ⟨s', -, -, -, -, -, -, -, h, -⟩
  · rw [h1] at h; cases h
  · rw [h2] at h; cases h
  · omega
  · omega
  · rw [h5] at h; cases h
  · exact ⟨s', e, hd, hw, hf h6⟩
  · omega
end Go.Proofs.Ytmincpmkiheofaa
