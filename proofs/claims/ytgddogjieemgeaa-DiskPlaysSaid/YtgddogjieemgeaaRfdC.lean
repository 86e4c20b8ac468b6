
/- The contract of the document's disk's Write. Conditions: those that each theorem names. -/
import Derived.Test.YtgddogjieemgeaaRfdB
namespace Go.Proofs.Ytgddogjieemgeaa
open Go.ChangeShapes Go.WideShapes Go.ChangeAt Go.RowKit
set_option linter.unusedVariables false
set_option linter.unusedSimpArgs false

/-- what the document's Write answers, and what it leaves -/
def rwres (n : Nat) (s : St) (i : Int) (t : ByteArray) : Int × St :=
  if s.down then (11, s) else if ¬ (0 ≤ i ∧ i < n) ∨ t.size ≠ 64 then (1, s) else
    if (rburn s).1 then (0, { (rburn s).2 with wr := s.wr ++ [(i.toNat, t)] }) else (11, (rburn s).2)
theorem rburn_eq (s : St) : (rburn s).2.wr = s.wr ∧ (rburn s).2.sure = s.sure := by
  unfold rburn
  split
  · exact ⟨rfl, rfl⟩
  · split <;> exact ⟨rfl, rfl⟩
theorem info_rwrite : (Try.prog.info? 70).map (fun i => (i.zero, i.size, i.bytes)) = some (some (.agg #[.int .i64 0, .string ⟨#[]⟩]), 2, 24) := by kernel_rfl
theorem two_cells' (W : World) (T : TypeId) (x y : Value) (j : Nat) {u : Value} (hu : [x, y][j]? = some u) : (W.alloc (.cells #[x, y] T)).cell? ((⟨W.heap.size, 0, none⟩ : Addr).add j) = some u := two_cells W T x y j hu
section
variable {w : World} {r : Nat} {wv : Value} {n : Nat} {s : St}
def RWrote (w w' : World) (r : Nat) (wv : Value) (n : Nat) (s : St) : Prop :=
  ∃ wv', RefAt w' r wv' n s ∧ Chg (rfp r wv) w w' ∧ (wv'.ownBlock = none ∨ wv'.ownBlock = wv.ownBlock ∨ ∃ g, wv'.ownBlock = some g ∧ w.heap.size ≤ g)
theorem RWrote.same (h : RefAt w r wv n s) : RWrote w w r wv n s := ⟨wv, h, Chg.refl _ _, .inr (.inl rfl)⟩
set_option maxHeartbeats 1000000 in
theorem rwrite_any (h : RefAt w r wv n s) (i : Int) (t : ByteArray) (hi : (Lit.int .i64 i).wf = true) (ht : t.size ≤ maxLen) (hl : s.wr.length < 1000000) :
    Calls Try.prog 19 #[.pointer (some ⟨r, 0, none⟩), .int .i64 i, .string t] w fun e w' => e = .returned (.int .i64 (rwres n s i t).1) ∧ RWrote w w' r wv n (rwres n s i t).2 := by
  have HL := Lib.hid (rlen_any h)
  have HB := Lib.hid (rburn_any h)
  obtain ⟨hi1, hi2⟩ := wf_i64 hi
  have H := Lib.hid h
  obtain ⟨o1, o2, o3⟩ := h.own.at_
  replace hl := Lib.hid hl
  unfold maxLen at ht
  have hmx := h.ok.max
  clear h hi
  obtain ⟨T, hT⟩ : ∃ T, T = strOf s.sure := ⟨_, rfl⟩
  rw [← hT] at o1
  replace hT := Lib.hid hT
  by_cases c1 : s.down = true
  · have E := Lib.hid (show rwres n s i t = (11, s) by simp [rwres, c1])
    rw [c1] at o1
    clear c1
    go_enter Try.func19, Try.ntmps19
    go_wp2
    go_ret
    rw [E.out]
    exact ⟨rfl, RWrote.same H.out⟩
  have c1 : s.down = false := by simpa using c1
  rw [c1] at o1
  by_cases c2 : 0 ≤ i
  rotate_left
  · have E := Lib.hid (show rwres n s i t = (1, s) by unfold rwres; rw [c1, if_neg (by simp), if_pos (by omega)])
    clear c1
    go_enter Try.func19, Try.ntmps19
    go_wp2_with (go_at_call 26; refine HL.out.mono ?_; rintro e w' ⟨rfl, rfl⟩)
    go_ret
    rw [E.out]
    exact ⟨rfl, RWrote.same H.out⟩
  by_cases c3 : i < n
  rotate_left
  · have E := Lib.hid (show rwres n s i t = (1, s) by unfold rwres; rw [c1, if_neg (by simp), if_pos (by omega)])
    clear c1
    go_enter Try.func19, Try.ntmps19
    go_wp2_with (go_at_call 26; refine HL.out.mono ?_; rintro e w' ⟨rfl, rfl⟩)
    go_ret
    rw [E.out]
    exact ⟨rfl, RWrote.same H.out⟩
  obtain ⟨k, rfl⟩ : ∃ k : Nat, i = (k : Int) := ⟨i.toNat, by omega⟩
  have hk : k < n := by omega
  by_cases c5 : t.size = 64
  rotate_left
  · have E := Lib.hid (show rwres n s (k : Int) t = (1, s) by unfold rwres; rw [c1, if_neg (by simp), if_pos (.inr c5)])
    have t5 : ((t.size : Int) == 64) = false := by rw [beq_eq_false_iff_ne]; omega
    have t5' : (((t.size : Nat) : Int) != 64) = true := by rw [bne_iff_ne]; omega
    clear c1 c5
    go_enter Try.func19, Try.ntmps19
    go_wp2_with (go_at_call 26; refine HL.out.mono ?_; rintro e w' ⟨rfl, rfl⟩)
    go_ret
    rw [E.out]
    exact ⟨rfl, RWrote.same H.out⟩
  obtain ⟨dn, s1, hb⟩ : ∃ b s1, rburn s = (b, s1) := ⟨_, _, rfl⟩
  have HW : s1.wr = s.wr ∧ s1.sure = s.sure := by have := rburn_eq s; rw [hb] at this; exact this
  rw [hb] at HB
  have C5 := Lib.hid c5
  have t5 : ((t.size : Int) == 64) = true := by rw [beq_iff_eq]; omega
  have t5' : (((t.size : Nat) : Int) != 64) = false := by rw [bne_eq_false_iff_eq]; omega
  cases dn with
  | false =>
    have E := Lib.hid (show rwres n s k t = (11, s1) by unfold rwres; rw [c1, if_neg (by simp), if_neg (by omega), hb, if_neg (by simp)])
    clear c1 c5 hb HW
    go_enter Try.func19, Try.ntmps19
    go_wp2_with (first | (go_at_call 26; refine HL.out.mono ?_; rintro e w' ⟨rfl, rfl⟩) | (go_at_call 38; refine HB.out.mono ?_; rintro e w1 ⟨rfl, h1, h2, h3⟩; clear h3))
    go_ret
    rw [E.out]
    exact ⟨rfl, wv, h1, h2.mono fun q _ e => .inl e, .inr (.inl rfl)⟩
  | true =>
    have E : Hid (rwres n s (k : Int) t = (0, { s1 with wr := s1.wr ++ [(k, t)] })) := by
      show _ = _
      unfold rwres
      rw [c1, if_neg (by simp), if_neg (by omega), hb, if_pos rfl, HW.1]
      rfl
    have HL' : Hid (s1.wr.length < 1000000) := by rw [HW.1]; exact hl
    clear c1 c5 hb HW
    go_enter Try.func19, Try.ntmps19
    go_upto_region 7 with (first | (go_at_call 26; refine HL.out.mono ?_; rintro e w' ⟨rfl, rfl⟩) | (go_at_call 38; refine HB.out.mono ?_; rintro e w1 ⟨rfl, h1, h2, h3⟩; clear h3))
    have D0 := Lib.hid h1
    have G0 := Lib.hid h2
    clear h1 h2
    have zd := D0.out.own.in_
    obtain ⟨k1, k2, k3⟩ := D0.out.own.at_
    have zt := C5.out
    obtain ⟨i0, hi0, hz0, hz1, hz2⟩ := info_parts info_rwrite
    have hfew := HL'.out
    go_wp2_with (at_builtin; refine wpList_append_own_at _ rfl _ _ 47 rfl 0 70 i0 (.agg #[.int .i64 0, .string ⟨#[]⟩]) 2 24 Try.underlying47 hi0 hz0 hz1 hz2 rfl (by decide) wv s1.wr.length (wcells s1.wr) rfl (D0.out.wrs.alloc _) ⟨w1.heap.size, 0, none⟩ 1 1 [.int .i64 (k : Int), .string t] rfl rfl ?c1 ?c2 (by unfold maxLen; omega) (by omega) (Nat.zero_le _) ?_)
    case c1 =>
      intro j u hu
      exact two_cells' _ _ _ _ _ hu
    case c2 => intro u hu; simp at hu; rcases hu with rfl | rfl <;> rfl
    intro v' w3 hown hgrow hnil hloc
    obtain ⟨va, vc, rfl⟩ : ∃ va vc, v' = .slice va (s1.wr.length + 1) vc := by
      rcases hown.2 with ⟨rfl, h⟩ | ⟨g, cap, cur, rfl, _⟩
      · omega
      · exact ⟨_, _, rfl⟩
    have G1 : Chg (fun q => wv.ownBlock = some q) w1 w3 := ((Chg.refl _ w1).alloc _).grown hgrow fun q e => .inl e
    have d3 : Own w3 r 49 _ := G1.own D0.out.own fun e => D0.out.ne _ e rfl
    replace hown := Lib.hid hown
    replace hgrow := Lib.hid hgrow
    replace hloc := Lib.hid hloc
    clear hnil k1 k2 k3
    obtain ⟨k1, k2, k3⟩ := d3.at_
    go_wp2
    go_ret
    rw [E.out]
    have N1 : ∀ q, (Value.slice va (s1.wr.length + 1) vc).ownBlock = some q → q ≠ r := fun q e => by
      rcases hloc.out with h | h
      · rw [h] at e; exact D0.out.ne q e
      · rw [h] at e
        obtain rfl : w1.heap.size + 1 = q := by simpa using e
        omega
    refine ⟨rfl, .slice va (s1.wr.length + 1) vc, ⟨d3.put 1 _, ?_, N1, ?_⟩, ?_, ?_⟩
    · have hw := ownsRow_keep (w' := w3.setCell ⟨r, 1, none⟩ (.slice va (s1.wr.length + 1) vc)) hown.out fun g hg => Below.heap_setCell _ _ _ _ (N1 g hg)
      simpa [wcells] using hw
    · have := D0.out.ok
      refine ⟨this.pos, this.max, this.len, fun x hx => ?_, by simp; omega, this.fuse⟩
      rcases List.mem_append.1 hx with hx | hx
      · exact this.wr x hx
      · obtain rfl : x = (k, t) := by simpa using hx
        exact ⟨hk, C5.out⟩
    · exact (G0.out.mono fun q _ e => (.inl e : rfp r wv q)).same ((G1.mono (T := rfp r wv) fun q _ e => .inr e).set ⟨r, 1, none⟩ (.inl (.inl rfl)) _)
    · rcases hloc.out with h | h
      · exact .inr (.inl h)
      · exact .inr (.inr ⟨_, h, by have := G0.out.size; omega⟩)
end
end Go.Proofs.Ytgddogjieemgeaa
