
/- The contracts of the document's disk's Flush and Crash. Conditions: those that each theorem names. -/
import Derived.Test.YtgddogjieemgeaaRfdC
import Derived.Deep.Cut
import Derived.Deep.DeepCutAuto
namespace Go.Proofs.Ytgddogjieemgeaa
open Go.ChangeShapes Go.WideShapes Go.ChangeAt Go.RowKit
set_option linter.unusedVariables false
set_option linter.unusedSimpArgs false

/-- what the document's Flush answers, and what it leaves -/
def rfres (s : St) : Int × St :=
  if s.down then (11, s) else if (rburn s).1 then (0, ⟨settled (fun _ => 64) s.wr 0 s.sure, [], (rburn s).2.fuse, (rburn s).2.down⟩) else (11, (rburn s).2)
theorem extract_all (x : ByteArray) (h : x.size = 64) : x.extract 0 64 = x := by
  have : x.extract 0 x.size = x := by simp
  rwa [h] at this
section
variable {w : World} {r : Nat} {wv : Value} {n : Nat} {s : St}
set_option maxHeartbeats 1000000 in
theorem rflush_any (h : RefAt w r wv n s) :
    Calls Try.prog 20 #[.pointer (some ⟨r, 0, none⟩)] w fun e w' => e = .returned (.int .i64 (rfres s).1) ∧ RWrote w w' r wv n (rfres s).2 := by
  have HB := Lib.hid (rburn_any h)
  have H := Lib.hid h
  obtain ⟨o1, o2, o3⟩ := h.own.at_
  clear h
  obtain ⟨T, hT⟩ : ∃ T, T = strOf s.sure := ⟨_, rfl⟩
  rw [← hT] at o1
  replace hT := Lib.hid hT
  by_cases c1 : s.down = true
  · have E := Lib.hid (show rfres s = (11, s) by simp [rfres, c1])
    rw [c1] at o1
    clear c1
    go_enter Try.func20, Try.ntmps20
    go_wp2
    go_ret
    rw [E.out]
    exact ⟨rfl, RWrote.same H.out⟩
  have c1 : s.down = false := by simpa using c1
  rw [c1] at o1
  obtain ⟨dn, s1, hb⟩ : ∃ b s1, rburn s = (b, s1) := ⟨_, _, rfl⟩
  have HW : s1.wr = s.wr ∧ s1.sure = s.sure := by have := rburn_eq s; rw [hb] at this; exact this
  rw [hb] at HB
  cases dn with
  | false =>
    have E := Lib.hid (show rfres s = (11, s1) by simp [rfres, c1, hb])
    clear c1 hb HW
    go_enter Try.func20, Try.ntmps20
    go_wp2_with (go_at_call 38; refine HB.out.mono ?_; rintro e w1 ⟨rfl, h1, h2, h3⟩; clear h3)
    go_ret
    rw [E.out]
    exact ⟨rfl, wv, h1, h2.mono fun q _ e => .inl e, .inr (.inl rfl)⟩
  | true =>
    have E := Lib.hid (show rfres s = (0, ⟨settled (fun _ => 64) s1.wr 0 s1.sure, [], s1.fuse, s1.down⟩) by simp [rfres, c1, hb, HW.1, HW.2])
    clear c1 hb HW
    go_enter Try.func20, Try.ntmps20
    go_wp2_with (go_at_call 38; refine HB.out.mono ?_; rintro e w1 ⟨rfl, h1, h2, h3⟩; clear h3)
    have D := Lib.hid h1
    have G := Lib.hid h2
    obtain ⟨va, vc, hv, hv1, hv2⟩ := h1.slice
    subst hv
    have hfew := h1.ok.few
    have hmx := h1.ok.max
    clear h1 h2 o1 o2 o3
    obtain ⟨m, hm⟩ : ∃ m, m = s1.wr.length := ⟨_, rfl⟩
    rw [← hm] at hv1 hfew
    replace hm := Lib.hid hm
    unfold maxLen at hv2
    go_loopw [3] (fun i wr => ∃ k : Nat, k ≤ m ∧ i = .int .i64 k ∧ Chg (· = r) w1 wr ∧ Own wr r 49 #[.string (strOf (settled (fun _ => 64) (s1.wr.take k) 0 s1.sure)), .slice va m vc, .int .i64 s1.fuse, .bool s1.down]) (fun i wr => m - (intOf i).toNat)
    case atStart => exact ⟨0, by omega, rfl, Chg.refl _ _, by rw [hm.out]; exact D.out.own⟩
    case round =>
      obtain ⟨k, hk, rfl, hc, hO⟩ := hrel
      have hsl : (settled (fun _ => 64) (s1.wr.take k) 0 s1.sure).length = n * 64 := settled_len _ n _ _ _ D.out.ok.len fun y hy => D.out.ok.wr y (List.mem_of_mem_take hy)
      obtain ⟨Lk, hLk⟩ : ∃ Lk, Lk = settled (fun _ => 64) (s1.wr.take k) 0 s1.sure := ⟨_, rfl⟩
      rw [← hLk] at hO hsl
      replace hLk := Lib.hid hLk
      replace hsl := Lib.hid hsl
      obtain ⟨o1, o2, o3⟩ := hO.at_
      replace hO := Lib.hid hO
      replace hc := Lib.hid hc
      obtain ⟨T, hT⟩ : ∃ T, T = strOf Lk := ⟨_, rfl⟩
      by_cases hlt : k < m
      · obtain ⟨g, c, hg, w2, w3⟩ := D.out.wcell k (by rw [← hm.out]; exact hlt)
        obtain rfl : va = some ⟨g, 0, none⟩ := by simpa using (Value.slice.inj hg).1
        obtain ⟨x, hx⟩ : ∃ x, x = s1.wr[k]'(by rw [← hm.out]; exact hlt) := ⟨_, rfl⟩
        rw [← hx] at w2 w3
        have xm : x ∈ s1.wr := hx ▸ List.getElem_mem _
        have hxw := D.out.ok.wr x xm
        have EL : s1.wr.take (k + 1) = s1.wr.take k ++ [x] := by rw [hx, List.take_succ_eq_append_getElem]
        replace EL := Lib.hid EL
        obtain ⟨x1, x2⟩ := x
        clear hx hg xm
        simp only at w2 w3 hxw
        obtain ⟨hx1, hx2⟩ := hxw
        have hgr : ¬ g = r := D.out.ne g rfl
        have w2 := hc.out.cell w2 hgr
        have w3 := hc.out.cell w3 hgr
        have HP := put_any wr.drew Lk (x1 * 64) x2 (by rw [hsl.out]; omega) (by rw [hsl.out]; omega)
        rw [show ((x1 * 64 : Nat) : Int) = (x1 : Int) * 64 by omega] at HP
        replace HP := Lib.hid HP
        have hkm : (k : Int) < m := by omega
        have hk0 : (0 : Int) ≤ k := by omega
        have mul1 : IntKind.i64.wrap ((x1 : Int) * 64) = (x1 : Int) * 64 := by rw [IntKind.wrap_i64]; omega
        replace hx2 := Lib.hid hx2
        go_upto_region 6 with fail
        refine wp_region_seq (fun W => Own W r 49 #[.string (strOf Lk), .slice (some ⟨g, 0, none⟩) m vc, .int .i64 s1.fuse, .bool s1.down] ∧ W.cell? ⟨g, k * 2, none⟩ = some (.int .i64 (x1 : Int)) ∧ W.cell? ⟨g, k * 2 + 1, none⟩ = some (.string x2)) [0, 1, 2, 3, 4, 5, 6, 7, 8, 9, 10, 11, 12, 13, 14, 15, 16, 17, 18, 19, 20, 21, 23, 24] [4, 8, 12, 17, 21] [0, 1, 2, 3, 4, 5, 6, 7, 8, 9, 10, 11, 12, 13, 14, 15, 16, 17, 18, 19, 20, 21, 22, 23, 24, 25] (by kernel_rfl) (by kernel_rfl) rfl (by kernel_rfl) rfl (⟨hO.out.drawn, w2, w3⟩) (by simp only [picked, List.filterMap_cons, List.filterMap_nil, List.getElem?_cons_zero, List.getElem?_cons_succ, Option.map_some]; exact rfl) ?_
        iterate 22
          refine seq_want (v := ?_) rfl rfl (fun W hS => ?_) ?_
          rotate_left
          · first
              | (conv => lhs; simp [go_sem, hkm, hk0, hlt, mul1]
                 first | done | exact rfl)
              | (have hS := hS rfl
                 obtain ⟨q1, y2, y3⟩ := hS
                 obtain ⟨q1, q2, q3⟩ := q1.at_
                 conv => lhs; simp [go_sem, *, hkm, hk0, hlt, mul1]
                 first | done | exact rfl)
          simp only [Act.put, List.setIfInBounds_toArray, List.set_cons_zero, List.set_cons_succ]
        refine seq_on rfl rfl fun K hK => ?_
        go_wp2_with (go_at_call 39; refine HP.out.mono ?_; rintro e w5 ⟨rfl, b5⟩)
        have hO5 := hO.out.drawn.keep b5
        refine hK _ _ ⟨hO5, keep b5 w2, keep b5 w3⟩ ?_
        clear hK K
        have G5 : Chg (· = r) w1 w5 := (hc.out.drew).call b5
        iterate 2
          refine seq_want (v := ?_) rfl rfl (fun W hS => ?_) ?_
          rotate_left
          · conv => lhs; simp [go_sem]
            first | done | exact rfl
          simp only [Act.put, List.setIfInBounds_toArray, List.set_cons_zero, List.set_cons_succ]
        refine seq_last rfl rfl (by kernel_rfl) rfl fun K hK => ?_
        clear w2 w3 o1 o2 o3
        obtain ⟨o1, o2, o3⟩ := hO5.at_
        replace hO5 := Lib.hid hO5
        replace G5 := Lib.hid G5
        clear b5
        go_wp2
        refine hK _ _ ?_
        clear hK K
        refine seq_end ?_
        go_wp2
        go_roundw
        case rel =>
          refine ⟨k + 1, by omega, by go_num, G5.out.set ⟨r, 0, none⟩ (.inl rfl) _, ?_⟩
          have hl : (s1.wr.take k).length = k := by rw [List.length_take]; have := hm.out; omega
          rw [EL.out, settled_snoc, ← hLk.out]
          simp only [extract_all x2 hx2.out]
          exact hO5.out.put 0 _
        case measure => simp [intOf]; omega
      · obtain rfl : k = m := by omega
        clear hT T
        go_wp2
        go_ret
        rw [E.out]
        have e : s1.wr.take k = s1.wr := by rw [hm.out, List.take_length]
        rw [e] at hLk
        refine ⟨rfl, .slice none 0 0, ⟨?_, World.ownsRow_nil _ _ _ _, fun g hg => (by cases hg), ⟨D.out.ok.pos, D.out.ok.max, settled_len _ n _ _ _ D.out.ok.len D.out.ok.wr, by simp, by simp, D.out.ok.fuse⟩⟩, ?_, .inl rfl⟩
        · show Own _ r _ #[.string (strOf (settled (fun _ => 64) s1.wr 0 s1.sure)), _, _, _]
          rw [← hLk.out]
          exact hO.out.put 1 _
        · exact (G.out.mono fun q _ e => (.inl e : rfp r _ q)).same ((hc.out.mono (T := rfp r (.slice va s1.wr.length vc)) fun q _ e => .inl e).set ⟨r, 1, none⟩ (.inl (.inl rfl)) _)
end
end Go.Proofs.Ytgddogjieemgeaa
