
/- The contract of a log's read. Conditions: a disk that isn't down, sectors that there are. -/
import Derived.Test.YtmincpmkiheofaaRdoD
namespace Go.Proofs.Ytmincpmkiheofaa
open Go.ChangeShapes Go.WideShapes Go.ChangeAt Go.RowKit
set_option linter.unusedVariables false
set_option linter.unusedSimpArgs false

/-- what is read of a sector -/
def vw (s : St) (k : Nat) : ByteArray := match lastOf s.wr (k : Int) with | some x => x.2 | none => secOf s.sure (k : Int)
theorem rres_vw (n : Nat) (s : St) (hd : s.down = false) (k : Nat) (hk : k < n) : rres n s (k : Int) = (vw s k, 0) := by
  unfold rres vw
  rw [hd, if_neg (by simp), if_neg (by omega)]
  cases lastOf s.wr (k : Int) <;> rfl
theorem vw_size {n : Nat} {s : St} (h : s.Ok n) (k : Nat) (hk : k < n) : (vw s k).size = 64 := by
  unfold vw
  cases hl : lastOf s.wr (k : Int) with
  | some x => exact (h.wr x (lastOf_mem hl).1).2
  | none =>
    show (((s.sure.drop ((k : Int).toNat * 64)).take 64).toArray).size = 64
    have := h.len
    simp
    omega
section
variable {w : World} {lg d sb mb sc : Nat} {wv : Value} {N : Nat} {s : St} {l : LogS}
set_option maxRecDepth 10000 in
set_option maxHeartbeats 1000000 in
theorem lread_any (hL : LogAt w lg d l) (hD : DiskAt w d sb mb sc wv N s) (hd : s.down = false) (at_ n : Nat) (hn : n ≤ 1000) (hf : l.from_ + l.used + at_ + n ≤ N) :
    Calls Try.prog 39 #[.pointer (some ⟨lg, 0, none⟩), .int .i64 (at_ : Int), .int .i64 (n : Int)] w fun e w' => ∃ b, e = .returned (.tuple #[.slice (some ⟨b, 0, none⟩) n n, .int .i64 0]) ∧ Own w' b 9 (rowS n (fun i => vw s (l.from_ + l.used + at_ + i)) n) ∧ w.heap.size ≤ b ∧ Below w.heap.size w w' := by
  have hN := hD.ok.max
  obtain ⟨g, hg⟩ : ∃ g : Nat → ByteArray, g = fun i => vw s (l.from_ + l.used + at_ + i) := ⟨_, rfl⟩
  have HR := Lib.hid (fun (k : Nat) (hk : k < n) (W : World) (hD : DiskAt W d sb mb sc wv N s) => show Calls Try.prog 53 #[.pointer (some ⟨d, 0, none⟩), .int .i64 ((l.from_ + l.used + at_ + k : Nat) : Int)] W fun e w' => e = .returned (.tuple #[.string (g k), .int .i64 0]) ∧ Below W.heap.size W w' from (by
    have := read_any hD ((l.from_ + l.used + at_ + k : Nat) : Int) (wf_mk (by omega) (by omega))
    rw [rres_vw N s hd _ (by omega)] at this
    rw [hg]
    exact this))
  rw [← hg]
  have HL := Lib.hid hL
  have HD := Lib.hid hD
  have HM := make_strs n (by omega) g w
  have HO := Own.made w 9 (rowS n g 0)
  obtain ⟨W0, hW0⟩ : ∃ W0, W0 = w.alloc (.cells (rowS n g 0) 9) := ⟨_, rfl⟩
  have L0 : Below w.heap.size w W0 := hW0 ▸ (Below.refl _ _).alloc (Nat.le_refl _) _
  rw [← hW0] at HM HO
  replace HO := Lib.hid HO
  replace L0 := Lib.hid L0
  clear hW0 hL hD hd hg
  obtain ⟨fr, sz, us, nx, fl⟩ := l
  simp only at hf HR
  go_enter Try.func39, Try.ntmps39
  go_wp2
  clear HM
  go_loopw [16] (fun i wr => ∃ k : Nat, k ≤ n ∧ i = .int .i64 k ∧ Own wr w.heap.size 9 (rowS n g k) ∧ Below w.heap.size w wr) (fun i wr => n - (intOf i).toNat)
  case atStart => exact ⟨0, by omega, rfl, HO.out, L0.out⟩
  case round =>
    obtain ⟨k, hk, rfl, hO, hL⟩ := hrel
    have hsz := hL.size
    replace hO := Lib.hid hO
    replace hL := Lib.hid hL
    by_cases hlt : k < n
    · have O1 : Own wr lg 64 #[.pointer (some ⟨d, 0, none⟩), .int .i64 (fr : Int), .int .i64 (sz : Int), .int .i64 (us : Int), .int .u64 (nx : Int), .bool fl] := Own.keep HL.out hL.out
      replace O1 := Lib.hid O1
      have R1 := Lib.hid (HR.out k hlt wr.drew (HD.out.below hL.out.drew))
      have e1 : ((fr + us + at_ + k : Nat) : Int) = (fr : Int) + (us : Int) + (at_ : Int) + (k : Int) := by omega
      rw [e1] at R1
      clear e1
      go_upto_region 5 with fail
      refine wp_region_seq (fun W => Own W lg 64 #[.pointer (some ⟨d, 0, none⟩), .int .i64 (fr : Int), .int .i64 (sz : Int), .int .i64 (us : Int), .int .u64 (nx : Int), .bool fl]) (0 :: 1 :: 2 :: 3 :: 4 :: 5 :: 6 :: 7 :: 8 :: 9 :: 10 :: 11 :: 12 :: 13 :: 14 :: 15 :: 16 :: 18 :: 19 :: 20 :: 21 :: 22 :: []) (3 :: 7 :: 11 :: []) (0 :: 1 :: 2 :: 3 :: 4 :: 5 :: 6 :: 7 :: 8 :: 9 :: 10 :: 11 :: 12 :: 13 :: 14 :: 15 :: 16 :: 17 :: 18 :: 19 :: 20 :: 21 :: 22 :: []) (by kernel_rfl) (by kernel_rfl) rfl (by kernel_rfl) rfl (O1.out.drawn) (by simp only [picked, List.filterMap_cons, List.filterMap_nil, List.getElem?_cons_zero, List.getElem?_cons_succ, Option.map_some]; exact rfl) ?_
      iterate 17
        refine seq_want (v := ?_) rfl rfl (fun W hS => ?_) ?_
        rotate_left
        · first
            | (conv => lhs; simp [go_sem]
               first | done | exact rfl)
            | (have hS := hS rfl
               obtain ⟨q1, q2, q3⟩ := Own.at_ hS
               conv => lhs; simp [go_sem, *]
               first | done | exact rfl)
        simp only [Act.put, List.setIfInBounds_toArray, List.set_cons_zero, List.set_cons_succ]
      refine seq_on rfl rfl fun K hK => ?_
      go_wp2_with fail
      refine R1.out.mono ?_
      rintro e w2 ⟨rfl, hb2⟩
      go_wp2
      refine hK _ _ (Own.keep O1.out.drawn hb2) ?_
      clear hK K
      iterate 5
        refine seq_want (v := ?_) rfl rfl (fun W hS => ?_) ?_
        rotate_left
        · conv => lhs; simp [go_sem]
          first | done | exact rfl
        simp only [Act.put, List.setIfInBounds_toArray, List.set_cons_zero, List.set_cons_succ]
      refine seq_end ?_
      have hL2 := Lib.hid (then_ hL.out.drew hb2 hL.out.drew.size)
      have hO2 : Own w2 w.heap.size 9 (rowS n g k) := Own.keep hO.out.drawn hb2
      obtain ⟨c1, c2, c3⟩ := hO2.at_
      have c4 := c1 k
      rw [rowS_get n g k k hlt] at c4
      have c5 := c2 k
      replace hO2 := Lib.hid hO2
      clear c1 c2 hb2
      go_wp2
      go_roundw
      case rel =>
        refine ⟨k + 1, by omega, by go_num, ?_, hL2.out.setCell (Nat.le_refl _) _⟩
        have := hO2.out.put k (.string (g k))
        rw [rowS_set n g k hlt] at this
        exact this
      case measure => simp [intOf]; omega
    · obtain rfl : k = n := by omega
      go_wp2
      go_ret2
      exact ⟨_, rfl, hO.out, Nat.le_refl _, hL.out⟩
end
end Go.Proofs.Ytmincpmkiheofaa
