
/- Acts that are still there behind calls; the calls of a disk beside a log. Conditions: those that each theorem names. -/
import Derived.Test.YtmincpmkiheofaaRdlB
import Derived.Test.YtmincpmkiheofaaRdlF
namespace Go.Proofs.Ytmincpmkiheofaa
open Go.ChangeShapes Go.WideShapes Go.ChangeAt Go.RowKit
set_option linter.unusedVariables false
set_option linter.unusedSimpArgs false

theorem IsBools.keep {w w' : World} {a : Option Addr} {len cap : Nat} {zs : List Bool} (h : IsBools w a len cap zs) (hb : Below w.heap.size w w') : IsBools w' a len cap zs := by
  obtain ⟨h1, h2, h3⟩ := h
  refine ⟨h1, h2, ?_⟩
  rcases h3 with h3 | ⟨b, o, rfl, h3⟩
  · exact .inl h3
  · exact .inr ⟨b, o, rfl, fun i hi => Go.Proofs.Ytmincpmkiheofaa.keep hb (h3 i hi)⟩
theorem ActD.Ok.stay {w w' : World} {x : ActD} (h : x.Ok w) (hb : Below w.heap.size w w') : x.Ok w' :=
  ⟨h.act, h.byte, h.n, h.keep.keep hb, fun b o e hl => Nat.lt_of_lt_of_le (h.old b o e hl) hb.size, h.torn, h.bytes⟩
theorem IsActs.keep {w w' : World} {a : Option Addr} {len cap : Nat} {l : List ActD} (h : IsActs w a len cap l) (hb : Below w.heap.size w w') : IsActs w' a len cap l := by
  obtain ⟨h1, h2, h3, h4⟩ := h
  refine ⟨h1, h2, h3, ?_⟩
  rcases h4 with h4 | ⟨b, o, rfl, hbz, h4⟩
  · exact .inl h4
  · refine .inr ⟨b, o, rfl, Nat.lt_of_lt_of_le hbz hb.size, fun i hi => ⟨fun j hj => ?_, (h4 i hi).2.stay hb⟩⟩
    rw [hb.cell (p := ⟨b, o + i * 6 + j, none⟩) hbz]
    exact (h4 i hi).1 j hj
section
variable {w0 W : World} {lg d sb mb sc : Nat} {wv : Value} {N : Nat} {s : St} {l : LogS}
theorem Ses.fuse (h : Ses w0 W lg d sb mb sc wv N s l) (f : Int) (hf : (Lit.int .i64 f).wf = true) :
    Calls Try.prog 11 #[.pointer (some ⟨d, 0, none⟩), .int .i64 f] W fun e w' => e = .returned (.tuple #[]) ∧ Turned w0 W w' lg d sb mb sc wv N { s with fuse := f } l := by
  refine (fuse_any h.disk f hf).mono ?_
  rintro e w' ⟨rfl, hD, hC, hz⟩
  have hd : ¬ lg = d := fun e => h.ap (.inl e)
  exact ⟨rfl, wv, ⟨hD, hC.own h.log hd, h.ok, h.fit, h.new, h.lnew, h.ap, h.below.trans (hC.below h.below.size fun q hq => h.new q (.inl hq)), h.few, h.clean⟩, hC.mono fun q _ e => .inl (.inl e), fun q _ hq => hq⟩
theorem Ses.restart (h : Ses w0 W lg d sb mb sc wv N s l) (hf : l.failed = false) :
    Calls Try.prog 18 #[.pointer (some ⟨lg, 0, none⟩)] W fun e w' => e = .returned (.int .i64 0) ∧ Turned w0 W w' lg d sb mb sc wv N s { l with used := 0 } := by
  refine (restart_yes h.log hf).mono ?_
  rintro e w' ⟨rfl, hL, hC, hz⟩
  exact ⟨rfl, wv, ⟨h.disk.keep hC fun q hq e => h.ap (e ▸ hq), hL, ⟨h.ok.fit, Nat.zero_le _, h.ok.next⟩, h.fit, h.new, h.lnew, h.ap, h.below.trans (hC.below h.below.size fun q hq => by rw [hq]; exact h.lnew), h.few, h.clean⟩, hC.mono fun q _ e => .inr e, fun q _ hq => hq⟩
/-- a crash -/
theorem Ses.crash (h : Ses w0 W lg d sb mb sc wv N s l) (a : Option Addr) (len cap : Nat) (zs : List Bool) (torn bytes : Int) (hz : IsBools W a len cap zs) (ho : ∀ b o, a = some ⟨b, o, none⟩ → 0 < len → b < w0.heap.size) :
    Calls Try.prog 12 #[.pointer (some ⟨d, 0, none⟩), .slice a len cap, .int .i64 torn, .int .i64 bytes] W fun e w' => e = .returned (.tuple #[]) ∧ DiskAt w' d sb mb sc (.slice none 0 0) N (cres s len zs torn bytes) ∧ (∀ q, fp d sb mb (.slice none 0 0) q → w0.heap.size ≤ q) ∧ Below w0.heap.size w0 w' ∧ Chg (fp d sb mb wv) W w' ∧ (∀ q, fp d sb mb (.slice none 0 0) q → fp d sb mb wv q) := by
  refine (crash_any h.disk a len cap zs torn bytes hz fun b o e hl e2 => ?_).mono ?_
  · have h1 := ho b o e hl
    have h2 := h.new sb (.inr (.inl rfl))
    omega
  · rintro e w' ⟨rfl, hD, hC⟩
    have hs : ∀ q, fp d sb mb (.slice none 0 0) q → fp d sb mb wv q := fun q hq => by
      rcases hq with hq | hq | hq | hq
      · exact .inl hq
      · exact .inr (.inl hq)
      · exact .inr (.inr (.inl hq))
      · cases hq
    exact ⟨rfl, hD, fun q hq => h.new q (hs q hq), h.below.trans (hC.below h.below.size h.new), hC, hs⟩
end
theorem arePg_pgL (b n : Nat) : arePg (pgL b n) = decide (0 < n) := by
  unfold arePg
  rw [decide_eq_decide]
  constructor
  · intro h
    have := List.length_pos_iff.2 h.1
    rw [pgL_len] at this
    exact this
  · intro h
    exact ⟨fun e => by have := pgL_len b n; rw [e] at this; simp at this; omega, pgL_size b n⟩
theorem nPg_le (x : ActD) : nPg x ≤ 5 := by
  unfold nPg
  have : 0 ≤ IntKind.u64.wrap x.n := by rw [IntKind.wrap_u64]; omega
  omega
end Go.Proofs.Ytmincpmkiheofaa
