
/- What DiskSure's calls leave, sector i being T. Conditions: those that each theorem names. -/
import Derived.Test.YtgddogjieemgeaaDisJ
namespace Go.Proofs.Ytgddogjieemgeaa
open Go.ChangeShapes Go.WideShapes Go.ChangeAt Go.RowKit
set_option linter.unusedVariables false
set_option linter.unusedSimpArgs false

/-- a disk of the law's own, made behind w, whose sector i is T; at most m writes aren't sure -/
def SureAt (w W : World) (d sb mb i : Nat) (T : ByteArray) (m : Nat) : Prop :=
  ∃ wv s, DiskAt W d sb mb 512 wv 8 s ∧ Good i T s ∧ s.wr.length ≤ m ∧ Below w.heap.size w W ∧ w.heap.size ≤ d ∧ w.heap.size ≤ sb ∧ w.heap.size ≤ mb ∧ ∀ q, wv.ownBlock = some q → w.heap.size ≤ q
section
variable {w W W' : World} {d sb mb i m : Nat} {T : ByteArray}
theorem SureAt.call (h : SureAt w W d sb mb i T m) (hb : Below W.heap.size W W') : SureAt w W' d sb mb i T m := by
  obtain ⟨wv, s, h1, h2, h3, h4, h5⟩ := h
  exact ⟨wv, s, h1.below hb, h2, h3, then_ h4 hb h4.size, h5⟩
theorem SureAt.below (h : SureAt w W d sb mb i T m) : Below w.heap.size w W := by
  obtain ⟨wv, s, h1, h2, h3, h4, h5⟩ := h
  exact h4
theorem SureAt.more (h : SureAt w W d sb mb i T m) {m' : Nat} (hm : m ≤ m') : SureAt w W d sb mb i T m' := by
  obtain ⟨wv, s, h1, h2, h3, h4, h5⟩ := h
  exact ⟨wv, s, h1, h2, by omega, h4, h5⟩
theorem sure_write (h : SureAt w W d sb mb i T m) (hm : m < 1000000) (ta : Int) (t : ByteArray) (hta : ta ≠ (i : Int)) (h0 : 0 ≤ ta) (h8 : ta ≤ 9223372036854775807) (ht : t.size ≤ maxLen) :
    Calls Try.prog 10 #[.pointer (some ⟨d, 0, none⟩), .int .i64 ta, .string t] W fun e w' => ∃ r, e = .returned (.int .i64 r) ∧ SureAt w w' d sb mb i T (m + 1) := by
  obtain ⟨wv, s, h1, h2, h3, h4, h5, h6, h7, h8'⟩ := h
  refine (write_any h1 ta t (wf_mk (by omega) (by omega)) ht (by omega)).mono ?_
  rintro e w' ⟨rfl, wv', k1, k2, k3⟩
  exact ⟨_, rfl, wv', _, k1, h2.wrote ta t hta h0, Nat.le_trans (wres_len _ _ _ _) (by omega), h4.trans (k2.below h4.size (sep_new _ h5 h6 h7 h8')), h5, h6, h7, own_of k3 h4.size h8'⟩
theorem sure_flush (h : SureAt w W d sb mb i T m) :
    Calls Try.prog 12 #[.pointer (some ⟨d, 0, none⟩)] W fun e w' => ∃ r, e = .returned (.int .i64 r) ∧ SureAt w w' d sb mb i T m := by
  obtain ⟨wv, s, h1, h2, h3, h4, h5, h6, h7, h8'⟩ := h
  refine (flush_any h1).mono ?_
  rintro e w' ⟨rfl, wv', k1, k2, k3⟩
  exact ⟨_, rfl, wv', _, k1, h2.flushed h1.ok, Nat.le_trans (fres_len _) h3, h4.trans (k2.below h4.size (sep_new _ h5 h6 h7 h8')), h5, h6, h7, own_of' k3 h8'⟩
theorem sure_fuse (h : SureAt w W d sb mb i T m) (f : Int) (hf : (Lit.int .i64 f).wf = true) :
    Calls Try.prog 13 #[.pointer (some ⟨d, 0, none⟩), .int .i64 f] W fun e w' => e = .returned (.tuple #[]) ∧ SureAt w w' d sb mb i T m := by
  obtain ⟨wv, s, h1, h2, h3, h4, h5, h6, h7, h8'⟩ := h
  refine (fuse_any h1 f hf).mono ?_
  rintro e w' ⟨rfl, k1, k2, k3⟩
  exact ⟨rfl, wv, _, k1, h2, h3, h4.trans (k2.below h4.size fun q hq => by subst hq; exact h5), h5, h6, h7, h8'⟩
theorem sure_crash (h : SureAt w W d sb mb i T m) (a : Option Addr) (len cap : Nat) (zs : List Bool) (torn bytes : Int) (hz : IsBools W a len cap zs) (ho : ∀ b o, a = some ⟨b, o, none⟩ → 0 < len → b < w.heap.size) :
    Calls Try.prog 14 #[.pointer (some ⟨d, 0, none⟩), .slice a len cap, .int .i64 torn, .int .i64 bytes] W fun e w' => e = .returned (.tuple #[]) ∧ SureAt w w' d sb mb i T m ∧ ∃ s, DiskAt w' d sb mb 512 (.slice none 0 0) 8 s ∧ Good i T s ∧ s.down = false := by
  obtain ⟨wv, s, h1, h2, h3, h4, h5, h6, h7, h8'⟩ := h
  refine (crash_any h1 a len cap zs torn bytes hz fun b o e hl => by have := ho b o e hl; omega).mono ?_
  rintro e w' ⟨rfl, k1, k2⟩
  exact ⟨rfl, ⟨_, _, k1, h2.crashed h1.ok _ _ _ _, by simp [cres], h4.trans (k2.below h4.size (sep_new _ h5 h6 h7 h8')), h5, h6, h7, fun q hq => by cases hq⟩, _, k1, h2.crashed h1.ok _ _ _ _, rfl⟩
/-- whether it is down is told -/
def DownIs (w : World) (d : Nat) (dn : Bool) : Prop := Calls Try.prog 16 #[.pointer (some ⟨d, 0, none⟩)] w fun e w' => e = .returned (.bool dn) ∧ w = w'
theorem sure_read (h : SureAt w W d sb mb i T m) (hi : i < 8) :
    Calls Try.prog 15 #[.pointer (some ⟨d, 0, none⟩), .int .i64 i] W fun e w' => ∃ dn : Bool, e = .returned (.tuple #[.string (if dn then ⟨#[]⟩ else T), .int .i64 (if dn then 11 else 0)]) ∧ SureAt w w' d sb mb i T m ∧ DownIs w' d dn := by
  obtain ⟨wv, s, h1, h2, h3, h4, h5⟩ := h
  refine (read_any h1 i (wf_mk (by omega) (by omega))).mono ?_
  rintro e w' ⟨rfl, hb⟩
  refine ⟨s.down, ?_, ⟨wv, s, h1.below hb, h2, h3, then_ h4 hb h4.size, h5⟩, down_any (h1.below hb)⟩
  rw [h2.read hi]
  cases s.down <;> rfl
/-- a disk on which the sector i was written and flushed -/
theorem sure_start (hi : i < 8) (hT : T.size = 64) (h : ∃ wv, DiskAt W d sb mb 512 wv 8 ⟨settled (fun _ => 64) [(i, T)] 0 (List.replicate 512 0), [], -1, false⟩ ∧ ∀ q, wv.ownBlock = some q → w.heap.size ≤ q) (hb : Below w.heap.size w W) (h1 : w.heap.size ≤ d) (h2 : w.heap.size ≤ sb) (h3 : w.heap.size ≤ mb) : SureAt w W d sb mb i T 0 := by
  obtain ⟨wv, hD, ho⟩ := h
  refine ⟨wv, _, hD, ⟨?_, by simp⟩, by simp, hb, h1, h2, h3, ho⟩
  have e : T.extract 0 64 = T := by
    have : T.extract 0 T.size = T := by simp
    rwa [hT] at this
  show secOf (putB (List.replicate 512 0) (i * 64) (T.extract 0 64)) i = T
  rw [e]
  exact sec_put_same _ _ _ hT (by rw [List.length_replicate]; omega)
end
end Go.Proofs.Ytgddogjieemgeaa
