
/- A disk and the document's disk side by side: what each call leaves of both, and that they stay alike. Conditions: those that each theorem names. -/
import Derived.Test.YtgddogjieemgeaaRfdE
import Derived.Test.YtgddogjieemgeaaDisK
import Derived.Deep.CutBlock
namespace Go.Proofs.Ytgddogjieemgeaa
open Go.ChangeShapes Go.WideShapes Go.ChangeAt Go.RowKit
set_option linter.unusedVariables false
set_option linter.unusedSimpArgs false

/-- a disk and the document's, both made behind w, apart from each other and from block x, which holds cs -/
def PairX (w W : World) (d sb mb r n x : Nat) (cs : Array Value) (s s' : St) : Prop :=
  ∃ wv rv, DiskAt W d sb mb (n * 64) wv n s ∧ RefAt W r rv n s' ∧ Below w.heap.size w W ∧ (∀ q, fp d sb mb wv q → w.heap.size ≤ q) ∧ (∀ q, rfp r rv q → w.heap.size ≤ q) ∧ (∀ q, fp d sb mb wv q → ¬ rfp r rv q) ∧
    Own W x 34 cs ∧ ¬ fp d sb mb wv x ∧ ¬ rfp r rv x
section
variable {w W W' : World} {d sb mb r n x : Nat} {cs : Array Value} {s s' s1 : St}
theorem PairX.disk {wv wv' rv : Value} (hD : DiskAt W d sb mb (n * 64) wv n s) (hR : RefAt W r rv n s') (hb : Below w.heap.size w W) (h1 : ∀ q, fp d sb mb wv q → w.heap.size ≤ q) (h2 : ∀ q, rfp r rv q → w.heap.size ≤ q) (h3 : ∀ q, fp d sb mb wv q → ¬ rfp r rv q)
    (hx : Own W x 34 cs) (h4 : ¬ fp d sb mb wv x) (h5 : ¬ rfp r rv x) (D' : DiskAt W' d sb mb (n * 64) wv' n s1) (c : Chg (fp d sb mb wv) W W') (l : ∀ g, wv'.ownBlock = some g → wv.ownBlock = some g ∨ W.heap.size ≤ g) : PairX w W' d sb mb r n x cs s1 s' := by
  have k : ∀ q, fp d sb mb wv' q → fp d sb mb wv q ∨ W.heap.size ≤ q := by
    rintro q (rfl | rfl | rfl | h)
    · exact .inl (.inl rfl)
    · exact .inl (.inr (.inl rfl))
    · exact .inl (.inr (.inr (.inl rfl)))
    · exact (l q h).imp (fun h => .inr (.inr (.inr h))) id
  refine ⟨wv', rv, D', hR.keep c fun q hq hf => h3 q hf hq, hb.trans (c.below hb.size h1), fun q hq => ?_, h2, fun q hq hr => ?_, c.own hx h4, fun hq => ?_, h5⟩
  · rcases k q hq with h | h
    · exact h1 q h
    · exact Nat.le_trans hb.size h
  · rcases k q hq with h | h
    · exact h3 q h hr
    · have := hR.in_ hr; omega
  · rcases k x hq with h | h
    · exact h4 h
    · have := hx.in_; omega
theorem PairX.ref {wv rv rv' : Value} (hD : DiskAt W d sb mb (n * 64) wv n s) (hR : RefAt W r rv n s') (hb : Below w.heap.size w W) (h1 : ∀ q, fp d sb mb wv q → w.heap.size ≤ q) (h2 : ∀ q, rfp r rv q → w.heap.size ≤ q) (h3 : ∀ q, fp d sb mb wv q → ¬ rfp r rv q)
    (hx : Own W x 34 cs) (h4 : ¬ fp d sb mb wv x) (h5 : ¬ rfp r rv x) (R' : RefAt W' r rv' n s1) (c : Chg (rfp r rv) W W') (l : ∀ g, rv'.ownBlock = some g → rv.ownBlock = some g ∨ W.heap.size ≤ g) : PairX w W' d sb mb r n x cs s s1 := by
  have k : ∀ q, rfp r rv' q → rfp r rv q ∨ W.heap.size ≤ q := by
    rintro q (rfl | h)
    · exact .inl (.inl rfl)
    · exact (l q h).imp (fun h => .inr h) id
  refine ⟨wv, rv', hD.keep c fun q hq hf => h3 q hq hf, R', hb.trans (c.below hb.size h2), h1, fun q hq => ?_, fun q hq hr => ?_, c.own hx h5, h4, fun hq => ?_⟩
  · rcases k q hq with h | h
    · exact h2 q h
    · exact Nat.le_trans hb.size h
  · rcases k q hr with h | h
    · exact h3 q hq h
    · have := hD.in_ hq; omega
  · rcases k x hq with h | h
    · exact h5 h
    · have := hx.in_; omega
theorem PairX.below (h : PairX w W d sb mb r n x cs s s') : Below w.heap.size w W := by
  obtain ⟨wv, rv, h1, h2, h3, h4⟩ := h
  exact h3
theorem PairX.own (h : PairX w W d sb mb r n x cs s s') : Own W x 34 cs := by
  obtain ⟨wv, rv, h1, h2, h3, h4, h5, h6, h7, h8⟩ := h
  exact h7
theorem PairX.call (h : PairX w W d sb mb r n x cs s s') (hb : Below W.heap.size W W') : PairX w W' d sb mb r n x cs s s' := by
  obtain ⟨wv, rv, h1, h2, h3, h4, h5, h6, h7, h8⟩ := h
  exact ⟨wv, rv, h1.below hb, h2.below hb, then_ h3 hb h3.size, h4, h5, h6, h7.keep hb, h8⟩
/-- a box beside both -/
theorem PairX.box {x0 : Nat} {cs0 : Array Value} (h : PairX w W d sb mb r n x0 cs0 s s') (cs : Array Value) : PairX w (W.alloc (.cells cs 34)) d sb mb r n W.heap.size cs s s' := by
  obtain ⟨wv, rv, h1, h2, h3, h4, h5, h6, h7, h8⟩ := h
  have hb : Below W.heap.size W (W.alloc (.cells cs 34)) := (Below.refl _ _).alloc (Nat.le_refl _) _
  exact ⟨wv, rv, h1.below hb, h2.below hb, then_ h3 hb h3.size, h4, h5, h6, Own.made _ _ _, fun h => by have := h1.in_ h; omega, fun h => by have := h2.in_ h; omega⟩
theorem pair_write (h : PairX w W d sb mb r n x cs s s') (i : Int) (t : ByteArray) (hi : (Lit.int .i64 i).wf = true) (ht : t.size ≤ maxLen) (hl : s.wr.length < 1000000) :
    Calls Try.prog 10 #[.pointer (some ⟨d, 0, none⟩), .int .i64 i, .string t] W fun e w' => e = .returned (.int .i64 (wres n s i t).1) ∧ PairX w w' d sb mb r n x cs (wres n s i t).2 s' := by
  obtain ⟨wv, rv, h1, h2, h3, h4, h5, h6, h7, h8, h9⟩ := h
  refine (write_any h1 i t hi ht hl).mono ?_
  rintro e w' ⟨rfl, wv', k1, k2, k3⟩
  refine ⟨rfl, PairX.disk h1 h2 h3 h4 h5 h6 h7 h8 h9 k1 k2 fun g hg => ?_⟩
  rcases k3 with k3 | ⟨g', k3, k4⟩
  · exact .inl (k3 ▸ hg)
  · rw [k3] at hg; obtain rfl : g' = g := by simpa using hg
    exact .inr k4
theorem pair_rwrite (h : PairX w W d sb mb r n x cs s s') (i : Int) (t : ByteArray) (hi : (Lit.int .i64 i).wf = true) (ht : t.size ≤ maxLen) (hl : s'.wr.length < 1000000) :
    Calls Try.prog 19 #[.pointer (some ⟨r, 0, none⟩), .int .i64 i, .string t] W fun e w' => e = .returned (.int .i64 (rwres n s' i t).1) ∧ PairX w w' d sb mb r n x cs s (rwres n s' i t).2 := by
  obtain ⟨wv, rv, h1, h2, h3, h4, h5, h6, h7, h8, h9⟩ := h
  refine (rwrite_any h2 i t hi ht hl).mono ?_
  rintro e w' ⟨rfl, wv', k1, k2, k3⟩
  refine ⟨rfl, PairX.ref h1 h2 h3 h4 h5 h6 h7 h8 h9 k1 k2 fun g hg => ?_⟩
  rcases k3 with k3 | k3 | ⟨g', k3, k4⟩
  · rw [k3] at hg; cases hg
  · exact .inl (k3 ▸ hg)
  · rw [k3] at hg; obtain rfl : g' = g := by simpa using hg
    exact .inr k4
theorem pair_flush (h : PairX w W d sb mb r n x cs s s') :
    Calls Try.prog 12 #[.pointer (some ⟨d, 0, none⟩)] W fun e w' => e = .returned (.int .i64 (fres s).1) ∧ PairX w w' d sb mb r n x cs (fres s).2 s' := by
  obtain ⟨wv, rv, h1, h2, h3, h4, h5, h6, h7, h8, h9⟩ := h
  refine (flush_any h1).mono ?_
  rintro e w' ⟨rfl, wv', k1, k2, k3⟩
  refine ⟨rfl, PairX.disk h1 h2 h3 h4 h5 h6 h7 h8 h9 k1 k2 fun g hg => ?_⟩
  rcases k3 with k3 | k3
  · rw [k3] at hg; cases hg
  · exact .inl (k3 ▸ hg)
theorem pair_rflush (h : PairX w W d sb mb r n x cs s s') :
    Calls Try.prog 20 #[.pointer (some ⟨r, 0, none⟩)] W fun e w' => e = .returned (.int .i64 (rfres s').1) ∧ PairX w w' d sb mb r n x cs s (rfres s').2 := by
  obtain ⟨wv, rv, h1, h2, h3, h4, h5, h6, h7, h8, h9⟩ := h
  refine (rflush_any h2).mono ?_
  rintro e w' ⟨rfl, wv', k1, k2, k3⟩
  refine ⟨rfl, PairX.ref h1 h2 h3 h4 h5 h6 h7 h8 h9 k1 k2 fun g hg => ?_⟩
  rcases k3 with k3 | k3 | ⟨g', k3, k4⟩
  · rw [k3] at hg; cases hg
  · exact .inl (k3 ▸ hg)
  · rw [k3] at hg; obtain rfl : g' = g := by simpa using hg
    exact .inr k4
theorem pair_fuse (h : PairX w W d sb mb r n x cs s s') (f : Int) (hf : (Lit.int .i64 f).wf = true) :
    Calls Try.prog 13 #[.pointer (some ⟨d, 0, none⟩), .int .i64 f] W fun e w' => e = .returned (.tuple #[]) ∧ PairX w w' d sb mb r n x cs { s with fuse := f } s' := by
  obtain ⟨wv, rv, h1, h2, h3, h4, h5, h6, h7, h8, h9⟩ := h
  refine (fuse_any h1 f hf).mono ?_
  rintro e w' ⟨rfl, k1, k2, k3⟩
  exact ⟨rfl, PairX.disk h1 h2 h3 h4 h5 h6 h7 h8 h9 k1 (k2.mono fun q _ e => .inl e) fun g hg => .inl hg⟩
theorem pair_arm (h : PairX w W d sb mb r n x cs s s') (f : Int) (hf : (Lit.int .i64 f).wf = true) :
    Calls Try.prog 21 #[.pointer (some ⟨r, 0, none⟩), .int .i64 f] W fun e w' => e = .returned (.tuple #[]) ∧ PairX w w' d sb mb r n x cs s { s' with fuse := if f < 0 then -1 else f } := by
  obtain ⟨wv, rv, h1, h2, h3, h4, h5, h6, h7, h8, h9⟩ := h
  refine (rarm_any h2 f hf).mono ?_
  rintro e w' ⟨rfl, k1, k2⟩
  exact ⟨rfl, PairX.ref h1 h2 h3 h4 h5 h6 h7 h8 h9 k1 (k2.mono fun q _ e => .inl e) fun g hg => .inl hg⟩
theorem pair_crash (h : PairX w W d sb mb r n x cs s s') (a : Option Addr) (len cap : Nat) (zs : List Bool) (torn bytes : Int) (hz : IsBools W a len cap zs) (ho : ∀ b o, a = some ⟨b, o, none⟩ → 0 < len → b < w.heap.size) :
    Calls Try.prog 14 #[.pointer (some ⟨d, 0, none⟩), .slice a len cap, .int .i64 torn, .int .i64 bytes] W fun e w' => e = .returned (.tuple #[]) ∧ PairX w w' d sb mb r n x cs (cres s len zs torn bytes) s' := by
  obtain ⟨wv, rv, h1, h2, h3, h4, h5, h6, h7, h8, h9⟩ := h
  refine (crash_any h1 a len cap zs torn bytes hz fun b o e hl hs => by have := ho b o e hl; have := h4 sb (.inr (.inl rfl)); omega).mono ?_
  rintro e w' ⟨rfl, k1, k2⟩
  exact ⟨rfl, PairX.disk h1 h2 h3 h4 h5 h6 h7 h8 h9 k1 k2 fun g hg => by cases hg⟩
theorem pair_rcrash (h : PairX w W d sb mb r n x cs s s') (a : Option Addr) (len cap : Nat) (zs : List Bool) (torn bytes : Int) (hz : IsBools W a len cap zs) (ho : ∀ b o, a = some ⟨b, o, none⟩ → 0 < len → b < w.heap.size) :
    Calls Try.prog 22 #[.pointer (some ⟨r, 0, none⟩), .slice a len cap, .int .i64 torn, .int .i64 bytes] W fun e w' => e = .returned (.tuple #[]) ∧ PairX w w' d sb mb r n x cs s (cres s' len zs torn bytes) := by
  obtain ⟨wv, rv, h1, h2, h3, h4, h5, h6, h7, h8, h9⟩ := h
  refine (rcrash_any h2 a len cap zs torn bytes hz fun b o e hl hs => by have := ho b o e hl; have := h5 r (.inl rfl); omega).mono ?_
  rintro e w' ⟨rfl, k1, k2⟩
  exact ⟨rfl, PairX.ref h1 h2 h3 h4 h5 h6 h7 h8 h9 k1 k2 fun g hg => by cases hg⟩
theorem pair_read (h : PairX w W d sb mb r n x cs s s') (i : Int) (hi : (Lit.int .i64 i).wf = true) :
    Calls Try.prog 15 #[.pointer (some ⟨d, 0, none⟩), .int .i64 i] W fun e w' => e = .returned (.tuple #[.string (rres n s i).1, .int .i64 (rres n s i).2]) ∧ PairX w w' d sb mb r n x cs s s' := by
  have h0 := h
  obtain ⟨wv, rv, h1, h2, h3, h4, h5, h6, h7, h8, h9⟩ := h
  refine (read_any h1 i hi).mono ?_
  rintro e w' ⟨rfl, hb⟩
  exact ⟨rfl, h0.call hb⟩
theorem pair_rread (h : PairX w W d sb mb r n x cs s s') (i : Int) (hi : (Lit.int .i64 i).wf = true) :
    Calls Try.prog 23 #[.pointer (some ⟨r, 0, none⟩), .int .i64 i] W fun e w' => e = .returned (.tuple #[.string (rres n s' i).1, .int .i64 (rres n s' i).2]) ∧ W = w' := by
  obtain ⟨wv, rv, h1, h2, h3, h4, h5, h6, h7, h8, h9⟩ := h
  exact rread_any h2 i hi
/-- what is asked of both -/
theorem pair_asks (h : PairX w W d sb mb r n x cs s s') :
    (Calls Try.prog 17 #[.pointer (some ⟨d, 0, none⟩)] W fun e w' => e = .returned (.int .i64 n) ∧ W = w') ∧
    (Calls Try.prog 16 #[.pointer (some ⟨d, 0, none⟩)] W fun e w' => e = .returned (.bool s.down) ∧ W = w') ∧
    (Calls Try.prog 24 #[.pointer (some ⟨d, 0, none⟩)] W fun e w' => e = .returned (.int .i64 s.wr.length) ∧ W = w') ∧
    (Calls Try.prog 25 #[.pointer (some ⟨d, 0, none⟩)] W fun e w' => e = .returned (.string (strOf s.sure)) ∧ W = w') ∧
    (Calls Try.prog 26 #[.pointer (some ⟨r, 0, none⟩)] W fun e w' => e = .returned (.int .i64 n) ∧ W = w') ∧
    ∃ va vc, Own W r 49 #[.string (strOf s'.sure), .slice va s'.wr.length vc, .int .i64 s'.fuse, .bool s'.down] := by
  obtain ⟨wv, rv, h1, h2, h3, h4, h5, h6, h7, h8, h9⟩ := h
  obtain ⟨va, vc, rfl, _⟩ := h2.slice
  exact ⟨len_any h1, down_any h1, pending_any h1, image_any h1, rlen_any h2, va, vc, h2.own⟩
end
/-- the two are alike -/
structure Twin (s s' : St) : Prop where
  sure : s.sure = s'.sure
  wr : s.wr = s'.wr
  down : s.down = s'.down
  fuse : s.down = true ∨ (s.fuse < 0 ∧ s'.fuse < 0) ∨ s.fuse = s'.fuse
theorem Twin.burnt {s s' : St} (h : Twin s s') (hd : s.down = false) : (burn s).1 = (rburn s').1 ∧ Twin (burn s).2 (rburn s').2 := by
  obtain ⟨h1, h2, h3, h4⟩ := h
  have hd' : s'.down = false := by rw [← h3]; exact hd
  rcases h4 with h4 | h4 | h4
  · rw [hd] at h4; cases h4
  · have e : burn s = (true, s) := by unfold burn; rw [if_neg (by omega), if_neg (by omega), hd]; rfl
    have e' : rburn s' = (true, s') := by unfold rburn; rw [if_neg (by omega), if_neg (by omega)]
    rw [e, e']
    exact ⟨rfl, h1, h2, h3, .inr (.inl h4)⟩
  · unfold burn rburn
    rw [h4, hd]
    split
    · exact ⟨rfl, h1, h2, rfl, .inl rfl⟩
    · split
      · exact ⟨rfl, h1, h2, hd'.symm, .inr (.inr rfl)⟩
      · exact ⟨rfl, h1, h2, h3, .inr (.inr h4)⟩
theorem Twin.wrote {s s' : St} (h : Twin s s') (n : Nat) (i : Int) (t : ByteArray) : (wres n s i t).1 = (rwres n s' i t).1 ∧ Twin (wres n s i t).2 (rwres n s' i t).2 := by
  unfold wres rwres
  rw [← h.down]
  by_cases hd : s.down = true
  · rw [if_pos hd, if_pos hd]
    exact ⟨rfl, h⟩
  · rw [if_neg hd, if_neg hd]
    split
    · exact ⟨rfl, h⟩
    · obtain ⟨h1, h2⟩ := h.burnt (by simpa using hd)
      rw [← h1]
      split
      · exact ⟨rfl, h2.sure, by show s.wr ++ _ = s'.wr ++ _; rw [h.wr], h2.down, h2.fuse⟩
      · exact ⟨rfl, h2⟩
theorem Twin.flushed {s s' : St} (h : Twin s s') : (fres s).1 = (rfres s').1 ∧ Twin (fres s).2 (rfres s').2 := by
  unfold fres rfres
  rw [← h.down]
  by_cases hd : s.down = true
  · rw [if_pos hd, if_pos hd]
    exact ⟨rfl, h⟩
  · rw [if_neg hd, if_neg hd]
    obtain ⟨h1, h2⟩ := h.burnt (by simpa using hd)
    rw [← h1]
    split
    · exact ⟨rfl, by show settled _ _ _ _ = settled _ _ _ _; rw [h.wr, h.sure], rfl, h2.down, h2.fuse⟩
    · exact ⟨rfl, h2⟩
theorem Twin.armed {s s' : St} (h : Twin s s') (f : Int) : Twin { s with fuse := f } { s' with fuse := if f < 0 then -1 else f } := by
  refine ⟨h.sure, h.wr, h.down, .inr ?_⟩
  by_cases hf : f < 0
  · exact .inl ⟨hf, by show (if f < 0 then -1 else f) < 0; rw [if_pos hf]; decide⟩
  · exact .inr (by show f = if f < 0 then -1 else f; rw [if_neg hf])
theorem Twin.crashed {s s' : St} (h : Twin s s') (len : Nat) (zs : List Bool) (torn bytes : Int) : Twin (cres s len zs torn bytes) (cres s' len zs torn bytes) := by
  unfold cres
  rw [h.sure, h.wr]
  exact ⟨rfl, rfl, rfl, .inr (.inr rfl)⟩
theorem Twin.read {s s' : St} (h : Twin s s') (n : Nat) (i : Int) : rres n s' i = rres n s i := by
  unfold rres
  rw [h.down, h.wr, h.sure]
/-- a disk and the document's, alike, with at most m writes that aren't sure -/
def PairS (w W : World) (d sb mb r n m : Nat) : Prop :=
  ∃ s s' wv rv, DiskAt W d sb mb (n * 64) wv n s ∧ RefAt W r rv n s' ∧ Below w.heap.size w W ∧ (∀ q, fp d sb mb wv q → w.heap.size ≤ q) ∧ (∀ q, rfp r rv q → w.heap.size ≤ q) ∧ (∀ q, fp d sb mb wv q → ¬ rfp r rv q) ∧ Twin s s' ∧ s.wr.length ≤ m
theorem PairS.below {w W : World} {d sb mb r n m : Nat} (h : PairS w W d sb mb r n m) : Below w.heap.size w W := by
  obtain ⟨s, s', wv, rv, h1, h2, h3, h4⟩ := h
  exact h3
theorem PairS.box {w W : World} {d sb mb r n m : Nat} (h : PairS w W d sb mb r n m) (cs : Array Value) : ∃ s s', PairX w (W.alloc (.cells cs 34)) d sb mb r n W.heap.size cs s s' ∧ Twin s s' ∧ s.wr.length ≤ m := by
  obtain ⟨s, s', wv, rv, h1, h2, h3, h4, h5, h6, h7, h8⟩ := h
  have hb : Below W.heap.size W (W.alloc (.cells cs 34)) := (Below.refl _ _).alloc (Nat.le_refl _) _
  exact ⟨s, s', ⟨wv, rv, h1.below hb, h2.below hb, then_ h3 hb h3.size, h4, h5, h6, Own.made _ _ _, fun h => by have := h1.in_ h; omega, fun h => by have := h2.in_ h; omega⟩, h7, h8⟩
theorem PairX.drop {w W : World} {d sb mb r n x m : Nat} {cs : Array Value} {s s' : St} (h : PairX w W d sb mb r n x cs s s') (ht : Twin s s') (hm : s.wr.length ≤ m) : PairS w W d sb mb r n m := by
  obtain ⟨wv, rv, h1, h2, h3, h4, h5, h6, h7⟩ := h
  exact ⟨s, s', wv, rv, h1, h2, h3, h4, h5, h6, ht, hm⟩
/-- as PairX, alike, with at most m writes -/
def PairB (w W : World) (d sb mb r n x : Nat) (cs : Array Value) (m : Nat) : Prop := ∃ s s', PairX w W d sb mb r n x cs s s' ∧ Twin s s' ∧ s.wr.length ≤ m
end Go.Proofs.Ytgddogjieemgeaa
