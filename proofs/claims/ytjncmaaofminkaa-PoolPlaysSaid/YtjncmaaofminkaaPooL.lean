
/- A pool and the document's pool side by side: what each call leaves of both. Conditions: those that each theorem names. -/
import Derived.Test.YtjncmaaofminkaaPooH
import Derived.Test.YtjncmaaofminkaaPorI
namespace Go.Proofs.Ytjncmaaofminkaa
open Go.ChangeShapes Go.WideShapes Go.ChangeAt Go.RowKit
set_option linter.unusedVariables false
set_option linter.unusedSimpArgs false

section
variable {w0 w w' : World} {B p rp n c : Nat} {v : Value} {R R2 : List RF}
theorem RefAt.not_pt (h : RefAt w B rp n v R) {B' q : Nat} (hq : fref rp v q) : ¬ PT w B' q := by
  have key : ∃ cs T, Own w q T cs ∧ (T = 39 ∨ T = 60) := by
    rcases hq with rfl | hq
    · exact ⟨_, _, h.own, .inl rfl⟩
    · rcases h.row.2 with ⟨rfl, _⟩ | ⟨g', cap, cur, rfl, _, h1, _⟩
      · cases hq
      · obtain rfl : g' = q := by simpa [Value.ownBlock] using hq
        exact ⟨cur, _, h1, .inr rfl⟩
  obtain ⟨cs, T, ho, hT⟩ := key
  rintro ⟨_, ⟨es, ck, h1⟩ | ⟨cs', h1⟩ | ⟨cs', h1⟩⟩
  · unfold Own at ho; rw [ho] at h1; cases h1
  · unfold Own at ho h1
    rw [ho] at h1
    injection h1 with h1; injection h1 with h1 h2
    rcases hT with rfl | rfl <;> exact absurd h2 (by decide)
  · unfold Own at ho h1
    rw [ho] at h1
    injection h1 with h1; injection h1 with h1 h2
    rcases hT with rfl | rfl <;> exact absurd h2 (by decide)
/-- both pools -/
structure Duo (w0 w : World) (B p rp n c : Nat) (v : Value) (R R2 : List RF) : Prop where
  pool : PoolAt w B p n c R
  ref : RefAt w B rp n v R2
  below : Below w0.heap.size w0 w
  low : w0.heap.size ≤ B
theorem Duo.next (h : Duo w0 w B p rp n c v R R2) (hb : Below w.heap.size w w') : Duo w0 w' B p rp n c v R R2 :=
  ⟨h.pool.below hb, h.ref.below hb, then_ h.below hb h.below.size, h.low⟩
/-- a call of the pool -/
theorem Duo.left {d : Nat} {R' : List RF} (h : Duo w0 w B p rp n c v R R2) (hp : PoolAt w' B p n d R') (hc : Chg (PT w B) w w') : Duo w0 w' B p rp n d v R' R2 :=
  ⟨hp, h.ref.keep hc fun q hq hq2 => h.ref.not_pt hq hq2, h.below.trans (hc.below h.below.size fun q hq => Nat.le_trans h.low hq.1), h.low⟩
/-- a call of the document's -/
theorem Duo.right {R' : List RF} (h : Duo w0 w B p rp n c v R R2) (hl : Left w w' B rp n v R') : ∃ v', Duo w0 w' B p rp n c v' R R' := by
  obtain ⟨v', h1, h2, h3⟩ := hl
  exact ⟨v', h.pool.keep h2 fun q hq hq2 => h.ref.not_pt hq2 hq, h1, h.below.trans (h2.below h.below.size fun q hq => Nat.le_trans h.low (h.ref.low hq)), h.low⟩
/-- the laws' acts stay -/
def Safe (w w' : World) : Prop := ∀ q cs, Own w q 31 cs → Own w' q 31 cs
theorem safe_pt (hc : Chg (PT w B) w w') : Safe w w' := fun q cs ho => hc.own ho fun ⟨_, hq⟩ => by
  rcases hq with ⟨es, ck, h1⟩ | ⟨cs', h1⟩ | ⟨cs', h1⟩
  · unfold Own at ho; rw [ho] at h1; cases h1
  · exact own_type ho h1 (by decide) rfl
  · exact own_type ho h1 (by decide) rfl
theorem Duo.safe {R' : List RF} (h : Duo w0 w B p rp n c v R R2) (hl : Left w w' B rp n v R') : Safe w w' := by
  obtain ⟨v', h1, h2, h3⟩ := hl
  intro q cs ho
  refine h2.own ho fun hq => ?_
  rcases hq with rfl | hq
  · exact own_type ho h.ref.own (by decide) rfl
  · rcases h.ref.row.2 with ⟨rfl, _⟩ | ⟨g', cap, cur, rfl, _, h1, _⟩
    · cases hq
    · obtain rfl : g' = q := by simpa [Value.ownBlock] using hq
      unfold Own at ho
      rw [ho] at h1
      injection h1 with h1; injection h1 with h1 h2
      exact absurd h2 (by decide)
theorem Duo.len_le (h : Duo w0 w B p rp n c v R R2) (e : R2 = R) : R2.length ≤ 65536 := by
  obtain ⟨m, u, L, _, _, _, _, hR, _, h2⟩ := h.pool
  rw [e]
  exact Nat.le_trans hR.few h2
theorem Duo.room (h : Duo w0 w B p rp n c v R R2) : n ≤ 65536 := by
  obtain ⟨m, u, L, _, _, _, _, hR, _, h2⟩ := h.pool
  exact h2
theorem Duo.more (h : Duo w0 w B p rp n c v R R2) : Duo w0 w B p rp n (c + 1) v R R2 := ⟨h.pool.more (Nat.le_succ c), h.ref, h.below, h.low⟩

theorem Duo.get_ (h : Duo w0 w B p rp n c v R R2) (no : Int) (hc : c < 1000000) : Calls Try.prog 11 #[.pointer (some ⟨p, 0, none⟩), .int .i64 no] w fun e w' =>
    e = .returned (.tuple #[.string (getR R no).1.1, .bool (getR R no).1.2]) ∧ Duo w0 w' B p rp n (c + 1) v (getR R no).2 R2 ∧ Safe w w' :=
  (get_any h.pool no hc).mono fun e w' ⟨h1, h2, h3⟩ => ⟨h1, h.left h2 h3, safe_pt h3⟩
theorem Duo.put_ (h : Duo w0 w B p rp n c v R R2) (no : Int) (s : ByteArray) (hs : s.size ≤ 281474976710656) (hc : c < 1000000) : Calls Try.prog 12 #[.pointer (some ⟨p, 0, none⟩), .int .i64 no, .string s] w fun e w' =>
    e = .returned (.int .i64 (putR R n no s).1) ∧ Duo w0 w' B p rp n (c + 1) v (putR R n no s).2 R2 ∧ Safe w w' :=
  (put_any h.pool no s hs hc).mono fun e w' ⟨h1, h2, h3⟩ => ⟨h1, h.left h2 h3, safe_pt h3⟩
theorem Duo.set_ (h : Duo w0 w B p rp n c v R R2) (no : Int) (s : ByteArray) (hs : s.size ≤ 281474976710656) (hc : c < 1000000) : Calls Try.prog 8 #[.pointer (some ⟨p, 0, none⟩), .int .i64 no, .string s] w fun e w' =>
    e = .returned (.int .i64 (setR R n no s).1) ∧ Duo w0 w' B p rp n (c + 1) v (setR R n no s).2 R2 ∧ Safe w w' :=
  (set_any h.pool no s hs hc).mono fun e w' ⟨h1, h2, h3⟩ => ⟨h1, h.left h2 h3, safe_pt h3⟩
theorem Duo.pin_ (h : Duo w0 w B p rp n c v R R2) (no : Int) (hc : c < 1000000) : Calls Try.prog 9 #[.pointer (some ⟨p, 0, none⟩), .int .i64 no] w fun e w' =>
    e = .returned (.bool (pinR R no).1) ∧ Duo w0 w' B p rp n (c + 1) v (pinR R no).2 R2 ∧ Safe w w' :=
  (pin_any h.pool no hc).mono fun e w' ⟨h1, h2, h3⟩ => ⟨h1, h.left h2 h3, safe_pt h3⟩
theorem Duo.unpin_ (h : Duo w0 w B p rp n c v R R2) (no : Int) (hc : c < 1000000) : Calls Try.prog 13 #[.pointer (some ⟨p, 0, none⟩), .int .i64 no] w fun e w' =>
    e = .returned (.bool (unpinR R no).1) ∧ Duo w0 w' B p rp n (c + 1) v (unpinR R no).2 R2 ∧ Safe w w' :=
  (unpin_any h.pool no hc).mono fun e w' ⟨h1, h2, h3⟩ => ⟨h1, h.left h2 h3, safe_pt h3⟩
theorem Duo.clean_ (h : Duo w0 w B p rp n c v R R2) : Calls Try.prog 10 #[.pointer (some ⟨p, 0, none⟩)] w fun e w' =>
    e = .returned (.tuple #[]) ∧ Duo w0 w' B p rp n (c + 1) v (cleanR R) R2 ∧ Safe w w' :=
  (clean_any h.pool).mono fun e w' ⟨h1, h2, h3⟩ => ⟨h1, (h.left h2 h3).more, safe_pt h3⟩
theorem Duo.drop_ (h : Duo w0 w B p rp n c v R R2) : Calls Try.prog 14 #[.pointer (some ⟨p, 0, none⟩)] w fun e w' =>
    e = .returned (.tuple #[]) ∧ Duo w0 w' B p rp n (c + 1) v (dropR R) R2 ∧ Safe w w' :=
  (drop_any h.pool).mono fun e w' ⟨h1, h2, h3⟩ => ⟨h1, (h.left h2 h3).more, safe_pt h3⟩
theorem Duo.rget (h : Duo w0 w B p rp n c v R R2) (hR : OkR R2 n c) (no : Int) : Calls Try.prog 16 #[.pointer (some ⟨rp, 0, none⟩), .int .i64 no] w fun e w' =>
    e = .returned (.tuple #[.string (getR R2 no).1.1, .bool (getR R2 no).1.2]) ∧ Safe w w' ∧ ∃ v', Duo w0 w' B p rp n c v' R (getR R2 no).2 :=
  (rget_any h.ref hR.nos (by have := hR.few; have := h.room; omega) no).mono fun e w' ⟨h1, h2⟩ => ⟨h1, h.safe h2, h.right h2⟩
theorem Duo.rput (h : Duo w0 w B p rp n c v R R2) (hR : OkR R2 n c) (no : Int) (s : ByteArray) : Calls Try.prog 17 #[.pointer (some ⟨rp, 0, none⟩), .int .i64 no, .string s] w fun e w' =>
    e = .returned (.int .i64 (putR R2 n no s).1) ∧ Safe w w' ∧ ∃ v', Duo w0 w' B p rp n c v' R (putR R2 n no s).2 :=
  (rput_any h.ref hR.nos (by have := hR.few; have := h.room; omega) h.room no s).mono fun e w' ⟨h1, h2⟩ => ⟨h1, h.safe h2, h.right h2⟩
theorem Duo.rset (h : Duo w0 w B p rp n c v R R2) (hR : OkR R2 n c) (no : Int) (s : ByteArray) (hs : s.size ≤ 281474976710656) : Calls Try.prog 18 #[.pointer (some ⟨rp, 0, none⟩), .int .i64 no, .string s] w fun e w' =>
    e = .returned (.int .i64 (setR R2 n no s).1) ∧ Safe w w' ∧ ∃ v', Duo w0 w' B p rp n c v' R (setR R2 n no s).2 :=
  (rset_any h.ref hR h.room no s hs).mono fun e w' ⟨h1, h2⟩ => ⟨h1, h.safe h2, h.right h2⟩
theorem Duo.rpin (h : Duo w0 w B p rp n c v R R2) (hR : OkR R2 n c) (hc : c < 1000000) (no : Int) : Calls Try.prog 19 #[.pointer (some ⟨rp, 0, none⟩), .int .i64 no, .int .i64 1] w fun e w' =>
    e = .returned (.bool (pinR R2 no).1) ∧ Safe w w' ∧ ∃ v', Duo w0 w' B p rp n c v' R (pinR R2 no).2 :=
  (rpin_up h.ref hR h.room (by omega) no).mono fun e w' ⟨h1, h2⟩ => ⟨h1, h.safe h2, h.right h2⟩
theorem Duo.runpin (h : Duo w0 w B p rp n c v R R2) (hR : OkR R2 n c) (hc : c < 1000000) (no : Int) : Calls Try.prog 19 #[.pointer (some ⟨rp, 0, none⟩), .int .i64 no, .int .i64 (-1)] w fun e w' =>
    e = .returned (.bool (unpinR R2 no).1) ∧ Safe w w' ∧ ∃ v', Duo w0 w' B p rp n c v' R (unpinR R2 no).2 :=
  (rpin_down h.ref hR h.room (by omega) no).mono fun e w' ⟨h1, h2⟩ => ⟨h1, h.safe h2, h.right h2⟩
theorem Duo.rclean (h : Duo w0 w B p rp n c v R R2) (hR : OkR R2 n c) : Calls Try.prog 20 #[.pointer (some ⟨rp, 0, none⟩)] w fun e w' =>
    e = .returned (.tuple #[]) ∧ Safe w w' ∧ ∃ v', Duo w0 w' B p rp n c v' R (cleanR R2) :=
  (rclean_any h.ref (by have := hR.few; have := h.room; omega)).mono fun e w' ⟨h1, h2⟩ => ⟨h1, h.safe h2, h.right h2⟩
theorem Duo.rdrop (h : Duo w0 w B p rp n c v R R2) (hR : OkR R2 n c) : Calls Try.prog 21 #[.pointer (some ⟨rp, 0, none⟩)] w fun e w' =>
    e = .returned (.tuple #[]) ∧ Safe w w' ∧ ∃ v', Duo w0 w' B p rp n c v' R (dropR R2) :=
  (rdrop_any h.ref (by have := hR.few; have := h.room; omega)).mono fun e w' ⟨h1, h2⟩ => ⟨h1, h.safe h2, h.right h2⟩
theorem Duo.ok (h : Duo w0 w B p rp n c v R R2) : OkR R n c := h.pool.ok
end
end Go.Proofs.Ytjncmaaofminkaa
