
/- The contracts of a disk's Read, of New and Load. Conditions: those that each theorem names. -/
import Derived.Test.YtmincpmkiheofaaDisC
import Derived.Deep.OwnRows
namespace Go.Proofs.Ytmincpmkiheofaa
open Go.ChangeShapes Go.WideShapes Go.ChangeAt Go.RowKit
set_option linter.unusedVariables false
set_option linter.unusedSimpArgs false

theorem of_bytes_at (P : Program) (w : World) (src dst e : TypeId) (b off m cap : Nat) (L : List UInt8) (h : BytesAt w b L) (hm : off + m ≤ L.length) (hs : P.underlying src = some (.slice e)) (he : P.underlying e = some (.int .u8)) (hd : P.underlying dst = some .string) :
    (convert src dst (.slice (some ⟨b, off, none⟩) m cap)).run P w = .ok (.string (strOf ((L.drop off).take m))) w := by
  have hl : ((L.drop off).take m).length = m := by simp; omega
  have := run_convert_bytes_back (P := P) w src dst e ⟨b, off, none⟩ cap ((L.drop off).take m) hs he hd (fun j hj => by
    have ea : (⟨b, off, none⟩ : Addr).add j = ⟨b, off + j, none⟩ := by unfold Addr.add; split <;> simp_all
    rw [ea, h.cell (off + j) (by omega)]
    simp)
  rw [hl] at this
  exact this
/-- the sector i of bytes -/
def secOf (L : List UInt8) (i : Int) : ByteArray := strOf ((L.drop (i.toNat * 64)).take 64)
/-- what Read answers -/
def rres (n : Nat) (s : St) (i : Int) : ByteArray × Int :=
  if s.down then (⟨#[]⟩, 11) else if ¬ (0 ≤ i ∧ i < n) then (⟨#[]⟩, 1) else
    (match lastOf s.wr i with | some x => x.2 | none => secOf s.sure i, 0)
theorem lastOf_mem {l : List (Nat × ByteArray)} {i : Int} {x : Nat × ByteArray} (h : lastOf l i = some x) : x ∈ l ∧ (x.1 : Int) = i := by
  unfold lastOf at h
  have := List.find?_some h
  have hm := List.mem_of_find?_eq_some h
  exact ⟨by simpa using hm, by simpa using this⟩
theorem zero_write (w : World) : (zeroValue 82).run Try.prog w = .ok (.agg #[.int .i64 0, .string ⟨#[]⟩]) w := by kernel_rfl
section
variable {w : World} {d sb mb sc : Nat} {wv : Value} {n : Nat} {s : St}
set_option maxHeartbeats 1000000 in
theorem read_any (h : DiskAt w d sb mb sc wv n s) (i : Int) (hi : (Lit.int .i64 i).wf = true) :
    Calls Try.prog 53 #[.pointer (some ⟨d, 0, none⟩), .int .i64 i] w fun e w' => e = .returned (.tuple #[.string (rres n s i).1, .int .i64 (rres n s i).2]) ∧ Below w.heap.size w w' := by
  have HD := Lib.hid (down_any h)
  have HH := Lib.hid (has_any h i)
  have H := Lib.hid h
  obtain ⟨o1, o2, o3⟩ := h.own.at_
  clear h
  by_cases c1 : s.down = true
  · have E := Lib.hid (show rres n s i = (⟨#[]⟩, 11) by simp [rres, c1])
    rw [c1] at HD o1
    clear c1
    go_enter Try.func53, Try.ntmps53
    go_wp2_with (go_at_call 16; refine HD.out.mono ?_; rintro e w' ⟨rfl, rfl⟩)
    go_ret2
    rw [E.out]
    exact ⟨rfl, Below.refl _ _⟩
  have c1 : s.down = false := by simpa using c1
  rw [c1] at HD o1
  by_cases c2 : 0 ≤ i ∧ i < n
  rotate_left
  · have E := Lib.hid (show rres n s i = (⟨#[]⟩, 1) by unfold rres; rw [c1, if_neg (by simp), if_pos c2])
    have c2 : (decide (0 ≤ i) && decide (i < n)) = false := by simp; omega
    rw [c2] at HH
    clear c2 c1
    go_enter Try.func53, Try.ntmps53
    go_wp2_with (first | (go_at_call 16; refine HD.out.mono ?_; rintro e w' ⟨rfl, rfl⟩) | (go_at_call 59; refine HH.out.mono ?_; rintro e w' ⟨rfl, rfl⟩))
    go_ret2
    rw [E.out]
    exact ⟨rfl, Below.refl _ _⟩
  obtain ⟨c3, c4⟩ := c2
  have c2 : (decide (0 ≤ i) && decide (i < n)) = true := by simp; omega
  rw [c2] at HH
  clear c2
  obtain ⟨k, rfl⟩ : ∃ k : Nat, i = (k : Int) := ⟨i.toNat, by omega⟩
  have hk : k < n := by omega
  have HM := MapAt.look H.out.map Try.underlying69 Try.underlying3 (zero_write w) k
  cases hl : lastOf s.wr k with
  | some x =>
    have E := Lib.hid (show rres n s k = (x.2, 0) by unfold rres; rw [c1, if_neg (by simp), if_neg (by omega), hl])
    simp only [hl, wcell, Option.map_some, Option.getD_some, Option.isSome_some] at HM
    have hx := H.out.ok.wr x (lastOf_mem hl).1
    obtain ⟨x1, x2⟩ := x
    simp only at hx E HM
    have hx2 := hx.2
    clear c1 hl hx c3 c4
    have HX := Lib.hid hx2
    clear hx2
    go_enter Try.func53, Try.ntmps53
    go_wp2_with (first | (go_at_call 16; refine HD.out.mono ?_; rintro e w' ⟨rfl, rfl⟩) | (go_at_call 59; refine HH.out.mono ?_; rintro e w' ⟨rfl, rfl⟩) | (go_at_call 61; refine (clone_any _ _ (by have := HX.out; omega)).mono ?_; rintro e w2 ⟨rfl, h4⟩))
    go_ret2
    rw [E.out]
    exact ⟨rfl, then_ ((Below.refl _ _).alloc (Nat.le_refl _) _) h4 (by simp)⟩
  | none =>
    have E := Lib.hid (show rres n s k = (secOf s.sure k, 0) by unfold rres; rw [c1, if_neg (by simp), if_neg (by omega), hl])
    simp only [hl, Option.map_none, Option.getD_none, Option.isSome_none] at HM
    have HS := Lib.hid (fun W (hb : Below w.heap.size w W) => sector_any (H.out.below hb) k hk)
    have HC := fun W (hb : Below w.heap.size w W) => of_bytes_at Try.prog W 62 9 5 sb (k * 64) 64 (sc - k * 64) s.sure (H.out.below hb).sure (by rw [H.out.ok.len]; omega) Try.underlying62 Try.underlying5 Try.underlying9
    have B1 : Below w.heap.size w (w.alloc (.cells #[.int .i64 0, .string ⟨#[]⟩] 82)) := (Below.refl _ _).alloc (Nat.le_refl _) _
    replace HC := HC _ B1
    replace B1 := Lib.hid B1
    change _ = Result.ok (Value.string (secOf s.sure k)) _ at HC
    obtain ⟨T, hT⟩ : ∃ T, T = secOf s.sure k := ⟨_, rfl⟩
    rw [← hT] at HC E
    clear hT
    clear c1 hl c3 c4
    go_enter Try.func53, Try.ntmps53
    go_wp2_with (first | (go_at_call 16; refine HD.out.mono ?_; rintro e w' ⟨rfl, rfl⟩) | (go_at_call 59; refine HH.out.mono ?_; rintro e w' ⟨rfl, rfl⟩) | (go_at_call 42; refine (HS.out _ B1.out).mono ?_; rintro e w2 ⟨rfl, rfl⟩))
    go_ret2
    rw [E.out]
    exact ⟨rfl, B1.out⟩
/-- the disk that over makes -/
theorem over_any (w : World) (sb sc n : Nat) (L : List UInt8) (hL : BytesAt w sb L) (hn : L.length = n * 64) (h1 : 1 ≤ n) (h2 : n ≤ 65536) (hc : n * 64 ≤ sc) :
    Calls Try.prog 28 #[.slice (some ⟨sb, 0, none⟩) (n * 64) sc] w fun e w' => ∃ d mb, e = .returned (.pointer (some ⟨d, 0, none⟩)) ∧ DiskAt w' d sb mb sc (.slice none 0 0) n ⟨L, [], -1, false⟩ ∧ Below w.heap.size w w' ∧ w.heap.size ≤ d ∧ w.heap.size ≤ mb := by
  have HL := Lib.hid hL
  have zs := hL.in_ (by omega)
  have hmm := @run_makeMap Try.prog
  clear hL
  go_enter Try.func28, Try.ntmps28
  go_wp2
  go_ret
  refine ⟨w.heap.size + 1, w.heap.size, rfl, ⟨?_, hc, ?_, World.ownsRow_nil _ _ _ _, ?_, by simp; omega, fun g hg => (by cases hg), ⟨h1, h2, hn, by simp, by simp, show (Lit.int .i64 (-1)).wf = true from wf_mk (by decide) (by decide)⟩⟩, ?_, by omega, by omega⟩
  · exact Own.made_at (by simp)
  · exact (HL.out.keep (Below.heap_alloc _ _ _ zs)).keep (Below.heap_alloc _ _ _ (by simp; omega))
  · exact (MapAt.made _ _).keep (Below.heap_alloc _ _ _ (by simp))
  · exact ((Below.refl _ _).alloc (Nat.le_refl _) _).alloc (by simp) _
theorem info_u8 : (Try.prog.info? 5).map (fun i => (i.zero, i.size, i.bytes)) = some (some (.int .u8 0), 1, 1) := by kernel_rfl
theorem noughts (w : World) (T : TypeId) (m : Nat) : BytesAt (w.alloc (.cells (madeCells #[.int .u8 0] m) T)) w.heap.size (List.replicate m 0) := by
  have h := (Own.made w T (madeCells #[.int .u8 0] m)).at_
  refine ⟨fun j hj => ?_, fun j hj => h.2.1 j⟩
  rw [h.1 j, ← Array.getElem?_toList, toList_madeCells_one]
  simp at hj
  simp [hj]
theorem new_any (w : World) (n : Nat) (h1 : 1 ≤ n) (h2 : n ≤ 65536) :
    Calls Try.prog 9 #[.int .i64 n] w fun e w' => ∃ d sb mb, e = .returned (.tuple #[.pointer (some ⟨d, 0, none⟩), .int .i64 0]) ∧ DiskAt w' d sb mb (n * 64) (.slice none 0 0) n ⟨List.replicate (n * 64) 0, [], -1, false⟩ ∧ Below w.heap.size w w' ∧ w.heap.size ≤ d ∧ w.heap.size ≤ sb ∧ w.heap.size ≤ mb := by
  have HI := isCount_any n w (wf_mk (by omega) (by omega))
  have e1 : (decide (1 ≤ (n : Int)) && decide ((n : Int) ≤ 65536)) = true := by simp; omega
  rw [e1] at HI
  replace HI := Lib.hid HI
  have HM := run_make_row' (P := Try.prog) 62 5 (.int .u8 0) 1 Try.underlying62 info_u8 rfl .i64 .i64 (n * 64) (by omega) (by omega) w
  have ec : ((n * 64 : Nat) : Int) = (n : Int) * 64 := by omega
  rw [ec] at HM
  have HO := Lib.hid (over_any (w.alloc (.cells (madeCells #[.int .u8 0] (n * 64)) 5)) w.heap.size (n * 64) n (List.replicate (n * 64) 0) (noughts w _ _) (by simp) h1 h2 (Nat.le_refl _))
  clear ec e1
  go_enter Try.func9, Try.ntmps9
  go_wp2_with (first | (go_at_call 27; refine HI.out.mono ?_; rintro e w' ⟨rfl, rfl⟩) | (go_at_call 28; refine HO.out.mono ?_; rintro e w' ⟨d, mb, rfl, a1, a2, a3, a4⟩))
  go_ret2
  have hz : w.heap.size ≤ (w.alloc (.cells (madeCells #[.int .u8 0] (n * 64)) 5)).heap.size := by simp
  exact ⟨_, _, _, rfl, a1, then_ ((Below.refl _ _).alloc (Nat.le_refl _) _) a2 hz, Nat.le_trans hz a3, Nat.le_refl _, Nat.le_trans hz a4⟩
theorem new_no (w : World) (n : Int) (hn : (Lit.int .i64 n).wf = true) (h : ¬ (1 ≤ n ∧ n ≤ 65536)) :
    Calls Try.prog 9 #[.int .i64 n] w fun e w' => e = .returned (.tuple #[.pointer none, .int .i64 1]) ∧ w = w' := by
  have HI := isCount_any n w hn
  have e1 : (decide (1 ≤ (n : Int)) && decide ((n : Int) ≤ 65536)) = false := by simp; omega
  rw [e1] at HI
  replace HI := Lib.hid HI
  clear e1 h hn
  go_enter Try.func9, Try.ntmps9
  go_wp2_with (first | (go_at_call 27; refine HI.out.mono ?_; rintro e w' ⟨rfl, rfl⟩))
  go_ret2
  exact ⟨rfl, rfl⟩
theorem to_bytes_cap (P : Program) (w : World) (src dst e : TypeId) (s : ByteArray) (hs : P.underlying src = some .string) (hd : P.underlying dst = some (.slice e)) (he : P.underlying e = some (.int .u8)) :
    ∃ c w', (convert src dst (.string s)).run P w = .ok (.slice (some ⟨w.heap.size, 0, none⟩) s.size c) w' ∧ s.size ≤ c ∧ BytesAt w' w.heap.size s.data.toList ∧ Below w.heap.size w w' ∧ w.heap.size < w'.heap.size := by
  obtain ⟨c, w', h1, h2⟩ := to_bytes P w src dst e s hs hd he
  refine ⟨c, w', h1, ?_, h2⟩
  have := run_bytes_of_string w src dst e s hs hd he (P := P)
  rw [this] at h1
  obtain ⟨hc, _⟩ : _ ∧ _ := by simpa using h1
  rw [← hc]
  exact grownCap_ge _ _ _ _
theorem load_any (w : World) (s : ByteArray) (n : Nat) (h0 : s.size = n * 64) (h1 : 1 ≤ n) (h2 : n ≤ 65536) :
    Calls Try.prog 23 #[.string s] w fun e w' => ∃ d sb mb sc, e = .returned (.tuple #[.pointer (some ⟨d, 0, none⟩), .int .i64 0]) ∧ DiskAt w' d sb mb sc (.slice none 0 0) n ⟨s.data.toList, [], -1, false⟩ ∧ Below w.heap.size w w' := by
  have HI := isCount_any n w (wf_mk (by omega) (by omega))
  have e1 : (decide (1 ≤ (n : Int)) && decide ((n : Int) ≤ 65536)) = true := by simp; omega
  rw [e1] at HI
  replace HI := Lib.hid HI
  obtain ⟨c, w1, hc, hc1, hB, hb, hz⟩ := to_bytes_cap Try.prog w 9 62 5 s Try.underlying9 Try.underlying62 Try.underlying5
  rw [h0] at hc hc1
  have HO := Lib.hid (over_any w1 w.heap.size c n s.data.toList hB h0 h1 h2 hc1)
  have t1 : ((s.size : Int) % 64 == 0) = true := by simp; omega
  have t1' : ((s.size : Int) % 64 != 0) = false := by simp; omega
  have t2 : (s.size : Int) / 64 = (n : Int) := by omega
  have hm : s.size ≤ 9223372036854775807 := by omega
  replace hb := Lib.hid hb
  have T2 := Lib.hid h0
  clear e1 h0 hB
  go_enter Try.func23, Try.ntmps23
  go_wp2_with (first | (go_at_call 27; refine HI.out.mono ?_; rintro e w' ⟨rfl, rfl⟩) | (go_at_call 28; refine HO.out.mono ?_; rintro e w' ⟨d, mb, rfl, a1, a2, a3, a4⟩))
  go_ret2
  exact ⟨_, _, _, _, rfl, a1, then_ hb.out a2 hb.out.size⟩
end
end Go.Proofs.Ytmincpmkiheofaa
