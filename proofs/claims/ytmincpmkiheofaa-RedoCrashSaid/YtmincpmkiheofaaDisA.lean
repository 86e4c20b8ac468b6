
/- A disk as it lies in memory, and the contracts of its small functions. Conditions: those that each theorem names. -/
import Derived.Test.YtmincpmkiheofaaSta
namespace Go.Proofs.Ytmincpmkiheofaa
open Go.ChangeShapes Go.WideShapes Go.ChangeAt Go.RowKit
set_option linter.unusedVariables false
set_option linter.unusedSimpArgs false

/-- what a disk is: its sure bytes, the writes that aren't sure, the fuse, whether it is down -/
structure St where
  sure : List UInt8
  wr : List (Nat × ByteArray)
  fuse : Int
  down : Bool
/-- the last write of a sector -/
def lastOf (l : List (Nat × ByteArray)) (i : Int) : Option (Nat × ByteArray) := l.reverse.find? fun x => (x.1 : Int) == i
def wcell (x : Nat × ByteArray) : Array Value := #[.int .i64 (x.1 : Int), .string x.2]
def wcells (l : List (Nat × ByteArray)) : List Value := l.flatMap fun x => [.int .i64 (x.1 : Int), .string x.2]
theorem wcells_len (l : List (Nat × ByteArray)) : (wcells l).length = l.length * 2 := by
  induction l with
  | nil => rfl
  | cons x l ih => simp only [wcells, List.flatMap_cons, List.length_append, List.length_cons, List.length_nil] at *; omega
theorem wcells_at : ∀ (l : List (Nat × ByteArray)) (j : Nat) (h : j < l.length), (wcells l)[j * 2]? = some (.int .i64 ((l[j]'h).1 : Int)) ∧ (wcells l)[j * 2 + 1]? = some (.string (l[j]'h).2)
  | x :: l, 0, _ => ⟨rfl, rfl⟩
  | x :: l, j + 1, h => by
    have := wcells_at l j (by simpa using h)
    have e1 : (j + 1) * 2 = j * 2 + 1 + 1 := by omega
    rw [e1]
    exact this
structure St.Ok (n : Nat) (s : St) : Prop where
  pos : 1 ≤ n
  max : n ≤ 65536
  len : s.sure.length = n * 64
  wr : ∀ x ∈ s.wr, x.1 < n ∧ x.2.size = 64
  few : s.wr.length ≤ 1000000
  fuse : (Lit.int .i64 s.fuse).wf = true
/-- the disk at block d -/
structure DiskAt (w : World) (d sb mb sc : Nat) (wv : Value) (n : Nat) (s : St) : Prop where
  own : Own w d 71 #[.slice (some ⟨sb, 0, none⟩) (n * 64) sc, wv, .map (some mb), .int .i64 s.fuse, .bool s.down]
  cap : n * 64 ≤ sc
  sure : BytesAt w sb s.sure
  wrs : w.ownsRow 0 82 2 wv s.wr.length (wcells s.wr)
  map : MapAt w mb .i64 (fun i => (lastOf s.wr i).map fun x => .agg (wcell x))
  ne1 : sb ≠ d
  ne2 : ∀ g, wv.ownBlock = some g → g ≠ d ∧ g ≠ sb
  ok : s.Ok n
/-- the blocks of the disk -/
def fp (d sb mb : Nat) (wv : Value) : Nat → Prop := fun q => q = d ∨ q = sb ∨ q = mb ∨ wv.ownBlock = some q
theorem DiskAt.in_ {w : World} {d sb mb sc : Nat} {wv : Value} {n : Nat} {s : St} (h : DiskAt w d sb mb sc wv n s) {q : Nat} (hq : fp d sb mb wv q) : q < w.heap.size := by
  rcases hq with rfl | rfl | rfl | hq
  · exact h.own.in_
  · exact h.sure.in_ (by have := h.ok.pos; rw [h.ok.len]; omega)
  · exact h.map.in_
  · exact (h.wrs.lt q hq).2
theorem ownsRow_keep {w w' : World} {e : TypeId} {size : Nat} {v : Value} {n : Nat} {xs : List Value} (h : w.ownsRow 0 e size v n xs) (hk : ∀ g, v.ownBlock = some g → w'.heap[g]? = w.heap[g]?) : w'.ownsRow 0 e size v n xs := by
  refine ⟨h.1, ?_⟩
  rcases h.2 with h2 | ⟨g, cap, cur, rfl, r1, r2, r3⟩
  · exact .inl h2
  · exact .inr ⟨g, cap, cur, rfl, r1, (hk g rfl).trans r2, r3⟩
/-- what turns no block of the disk's leaves it -/
theorem DiskAt.keep {w w' : World} {d sb mb sc : Nat} {wv : Value} {n : Nat} {s : St} (h : DiskAt w d sb mb sc wv n s) {S : Nat → Prop} (hc : Chg S w w') (hS : ∀ q, fp d sb mb wv q → ¬ S q) : DiskAt w' d sb mb sc wv n s := by
  have k : ∀ q, fp d sb mb wv q → w'.heap[q]? = w.heap[q]? := fun q hq => hc.block q (h.in_ hq) (hS q hq)
  exact ⟨(k d (.inl rfl)).trans h.own, h.cap, h.sure.keep (k sb (.inr (.inl rfl))), ownsRow_keep h.wrs fun g hg => k g (.inr (.inr (.inr hg))), h.map.keep (k mb (.inr (.inr (.inl rfl)))), h.ne1, h.ne2, h.ok⟩
theorem DiskAt.below {w w' : World} {d sb mb sc : Nat} {wv : Value} {n : Nat} {s : St} (h : DiskAt w d sb mb sc wv n s) (hb : Below w.heap.size w w') : DiskAt w' d sb mb sc wv n s :=
  h.keep (Chg.of (S := fun _ => False) hb) fun _ _ => id
theorem DiskAt.slice {w : World} {d sb mb sc : Nat} {wv : Value} {n : Nat} {s : St} (h : DiskAt w d sb mb sc wv n s) : ∃ a c, wv = .slice a s.wr.length c ∧ s.wr.length ≤ c ∧ c ≤ maxLen := by
  rcases h.wrs.2 with ⟨rfl, h2⟩ | ⟨g, cap, cur, rfl, _, _, h1, h2, _⟩
  · exact ⟨none, 0, by rw [h2], by omega, by unfold maxLen; omega⟩
  · exact ⟨_, _, rfl, h1, h2⟩

theorem isCount_any (x : Int) (w : World) (hx : (Lit.int .i64 x).wf = true) : Calls Try.prog 27 #[.int .i64 x] w fun e w' => e = .returned (.bool (decide (1 ≤ x) && decide (x ≤ 65536))) ∧ w = w' := by
  by_cases h1 : 1 ≤ x
  · go_enter Try.func27, Try.ntmps27
    go_wp2
    go_ret
    exact ⟨retb_eq (by simp [h1]), rfl⟩
  · go_enter Try.func27, Try.ntmps27
    go_wp2
    go_ret
    exact ⟨retb_eq (by simp; omega), rfl⟩
section
variable {w : World} {d sb mb sc : Nat} {wv : Value} {n : Nat} {s : St}
theorem len_any (h : DiskAt w d sb mb sc wv n s) : Calls Try.prog 24 #[.pointer (some ⟨d, 0, none⟩)] w fun e w' => e = .returned (.int .i64 n) ∧ w = w' := by
  have hp := h.ok.pos
  have hm := h.ok.max
  obtain ⟨o1, o2, o3⟩ := h.own.at_
  clear h
  go_enter Try.func24, Try.ntmps24
  go_wp2
  go_ret
  exact ⟨ret_eq (by omega), rfl⟩
theorem down_any (h : DiskAt w d sb mb sc wv n s) : Calls Try.prog 16 #[.pointer (some ⟨d, 0, none⟩)] w fun e w' => e = .returned (.bool s.down) ∧ w = w' := by
  obtain ⟨o1, o2, o3⟩ := h.own.at_
  generalize s.down = dn at *
  clear h
  go_enter Try.func16, Try.ntmps16
  go_wp2
  go_ret
  exact ⟨rfl, rfl⟩
theorem has_any (h : DiskAt w d sb mb sc wv n s) (i : Int) : Calls Try.prog 59 #[.pointer (some ⟨d, 0, none⟩), .int .i64 i] w fun e w' => e = .returned (.bool (decide (0 ≤ i) && decide (i < n))) ∧ w = w' := by
  have H := Lib.hid (len_any h)
  clear h
  by_cases h1 : 0 ≤ i
  · go_enter Try.func59, Try.ntmps59
    go_wp2_with (go_at_call 24; refine H.out.mono ?_; rintro e w' ⟨rfl, rfl⟩)
    go_ret
    exact ⟨retb_eq (by simp [h1]), rfl⟩
  · go_enter Try.func59, Try.ntmps59
    go_wp2_with (go_at_call 24; refine H.out.mono ?_; rintro e w' ⟨rfl, rfl⟩)
    go_ret
    exact ⟨retb_eq (by simp; omega), rfl⟩
theorem pending_any (h : DiskAt w d sb mb sc wv n s) : Calls Try.prog 25 #[.pointer (some ⟨d, 0, none⟩)] w fun e w' => e = .returned (.int .i64 s.wr.length) ∧ w = w' := by
  obtain ⟨a, c, rfl, hc, hm⟩ := h.slice
  obtain ⟨o1, o2, o3⟩ := h.own.at_
  have hf := h.ok.few
  generalize s.wr.length = m at *
  clear h
  go_enter Try.func25, Try.ntmps25
  go_wp2
  go_ret
  exact ⟨rfl, rfl⟩
/-- an array of bytes as a string -/
def strOf (L : List UInt8) : ByteArray := ⟨L.toArray⟩
theorem image_any (h : DiskAt w d sb mb sc wv n s) : Calls Try.prog 20 #[.pointer (some ⟨d, 0, none⟩)] w fun e w' => e = .returned (.string (strOf s.sure)) ∧ w = w' := by
  have HC := of_bytes Try.prog w 62 9 5 sb sc s.sure h.sure Try.underlying62 Try.underlying5 Try.underlying9
  rw [h.ok.len] at HC
  change _ = Result.ok (Value.string (strOf s.sure)) _ at HC
  obtain ⟨o1, o2, o3⟩ := h.own.at_
  generalize strOf s.sure = T at *
  clear h
  go_enter Try.func20, Try.ntmps20
  go_wp2
  go_ret
  exact ⟨rfl, rfl⟩
theorem sector_any (h : DiskAt w d sb mb sc wv n s) (i : Nat) (hi : i < n) : Calls Try.prog 42 #[.pointer (some ⟨d, 0, none⟩), .int .i64 i] w fun e w' => e = .returned (.slice (some ⟨sb, i * 64, none⟩) 64 (sc - i * 64)) ∧ w = w' := by
  have hp := h.ok.pos
  have hm := h.ok.max
  have hc := h.cap
  obtain ⟨o1, o2, o3⟩ := h.own.at_
  clear h
  go_enter Try.func42, Try.ntmps42
  go_wp2
  go_ret
  refine ⟨?_, rfl⟩
  show Ending.returned (Value.slice (some ⟨sb, i * 64, none⟩) ((i + 1) * 64 - i * 64) (sc - i * 64)) = _
  rw [show (i + 1) * 64 - i * 64 = 64 by omega]
theorem part_any (x : Int) (w : World) : Calls Try.prog 33 #[.int .i64 x] w fun e w' => e = .returned (.int .i64 (min (x.toNat) 64 : Nat)) ∧ w = w' := by
  by_cases h1 : x < 0
  · go_enter Try.func33, Try.ntmps33
    go_wp2
    go_ret
    exact ⟨ret_eq (by omega), rfl⟩
  · by_cases h2 : 64 < x
    · go_enter Try.func33, Try.ntmps33
      go_wp2
      go_ret
      exact ⟨ret_eq (by omega), rfl⟩
    · go_enter Try.func33, Try.ntmps33
      go_wp2
      go_ret
      exact ⟨ret_eq (by omega), rfl⟩
end
end Go.Proofs.Ytmincpmkiheofaa
