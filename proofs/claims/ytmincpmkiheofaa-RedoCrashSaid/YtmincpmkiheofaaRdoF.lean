
/- The contract of a log's standing. Conditions: a disk that isn't down, on which the log's stretch lies. -/
import Derived.Test.YtmincpmkiheofaaRdoE
namespace Go.Proofs.Ytmincpmkiheofaa
open Go.ChangeShapes Go.WideShapes Go.ChangeAt Go.RowKit
set_option linter.unusedVariables false
set_option linter.unusedSimpArgs false

/-- the sectors of a stretch, as they are read -/
def st (s : St) (fr : Nat) : Nat → ByteArray := fun p => vw s (fr + p)
section
variable {w : World} {lg d sb mb sc : Nat} {wv : Value} {N : Nat} {s : St} {l : LogS}
set_option maxRecDepth 10000 in
set_option maxHeartbeats 2000000 in
theorem standing_any (hL : LogAt w lg d l) (hk : l.Ok) (hD : DiskAt w d sb mb sc wv N s) (hd : s.down = false) (hfit : l.from_ + l.size ≤ N) :
    Calls Try.prog 29 #[.pointer (some ⟨lg, 0, none⟩)] w fun e w' => ∃ v, e = .returned (.tuple #[v, .int .i64 0]) ∧ StrsIn w' (fun b => w.heap.size ≤ b) v (txn (st s l.from_) l.used l.next l.left) ∧ Below w.heap.size w w' := by
  have hleft := left_any hL hk
  have h65 := hD.ok.max
  obtain ⟨f, hf⟩ : ∃ f, f = st s l.from_ := ⟨_, rfl⟩
  obtain ⟨LE, hLE⟩ : ∃ LE, LE = l.left := ⟨_, rfl⟩
  have hle : LE ≤ l.size - l.used := by rw [hLE]; unfold LogS.left; split <;> omega
  have hus := hk.used
  rw [← hf, ← hLE]
  rw [← hLE] at hleft
  have HLeft := Lib.hid hleft
  have HL := Lib.hid hL
  have HK := Lib.hid hk
  have HD := Lib.hid hD
  have HDn := Lib.hid hd
  clear hleft
  by_cases c0 : LE = 0
  · have e0 := txn_zero f l.used l.next
    rw [c0] at HLeft ⊢
    rw [e0]
    clear hL hk hD hd hf hLE e0
    go_enter Try.func29, Try.ntmps29
    go_wp2_with (go_at_call 22; refine HLeft.out.mono ?_; rintro e w' ⟨rfl, q, rfl⟩)
    go_ret2
    exact ⟨_, rfl, StrsIn.nil _ _, below_drewN (Below.refl _ _) q⟩
  have t0 : ((LE : Int) == 0) = false := by rw [beq_eq_false_iff_ne]; omega
  have c1 : 1 ≤ LE := by omega
  clear c0
  have R0 := Lib.hid (fun (W : World) (hb : Below w.heap.size w W) => show Calls Try.prog 39 #[.pointer (some ⟨lg, 0, none⟩), .int .i64 0, .int .i64 1] W fun e w' => ∃ b, e = .returned (.tuple #[.slice (some ⟨b, 0, none⟩) 1 1, .int .i64 0]) ∧ w'.cell? ⟨b, 0, none⟩ = some (.string (f l.used)) ∧ Below W.heap.size W w' from (by
    refine (lread_any (show LogAt W lg d l from Own.keep hL hb) (hD.below hb) hd 0 1 (by omega) (by omega)).mono ?_
    rintro e w' ⟨b, rfl, ho, -, hb'⟩
    refine ⟨b, rfl, ?_, hb'⟩
    have := ho.at_.1 0
    rw [rowS_get 1 _ 1 0 (by omega), if_pos (by omega)] at this
    rw [this, hf]
    rfl))
  have zf : ∀ p, p < l.size → (f p).size = 64 := fun p hp => by rw [hf]; exact vw_size hD.ok _ (by omega)
  obtain ⟨X, hX⟩ : ∃ X, X = f l.used := ⟨_, rfl⟩
  have zX : X.size = 64 := by rw [hX]; exact zf _ (by omega)
  obtain ⟨C, hC⟩ : ∃ C, C = cnt X l.next LE := ⟨_, rfl⟩
  have hC64 : C ≤ 64 := by rw [hC]; exact cnt_le _ _ _
  have hCf : C ≠ 0 → 1 + 9 * C ≤ LE := fun h => by rw [hC] at h ⊢; exact (cnt_fit _ _ _ h).1
  have HC := Lib.hid (fun (W : World) (hb : Below w.heap.size w W) => show Calls Try.prog 40 #[.pointer (some ⟨lg, 0, none⟩), .string X] W fun e w' => e = .returned (.int .i64 (C : Int)) ∧ Below W.heap.size W w' from (by
    have := count_any (show LogAt W lg d l from Own.keep hL hb) hk X (by omega)
    rw [← hLE, ← hC] at this
    exact this))
  have RK := Lib.hid (fun (k : Nat) (hk : k < C) (W : World) (hb : Below w.heap.size w W) => show Calls Try.prog 39 #[.pointer (some ⟨lg, 0, none⟩), .int .i64 (1 + (k : Int) * 9), .int .i64 9] W fun e w' => ∃ b, e = .returned (.tuple #[.slice (some ⟨b, 0, none⟩) 9 9, .int .i64 0]) ∧ Own w' b 9 (rowS 9 (fun i => f (l.used + 1 + 9 * k + i)) 9) ∧ Below W.heap.size W w' from (by
    have h1 := hCf (by omega)
    have := lread_any (show LogAt W lg d l from Own.keep hL hb) (hD.below hb) hd (1 + k * 9) 9 (by omega) (by omega)
    have e : ((1 + k * 9 : Nat) : Int) = 1 + (k : Int) * 9 := by omega
    rw [e] at this
    refine this.mono ?_
    rintro e w' ⟨b, rfl, ho, -, hb'⟩
    refine ⟨b, rfl, ?_, hb'⟩
    have ef : (fun i => vw s (l.from_ + l.used + (1 + k * 9) + i)) = fun i => f (l.used + 1 + 9 * k + i) := by
      funext i; rw [hf]; unfold st; congr 1; omega
    rw [ef] at ho
    exact ho))
  have GK := Lib.hid (fun (k : Nat) (hk : k < C) (W : World) (b : Nat) (ho : Own W b 9 (rowS 9 (fun i => f (l.used + 1 + 9 * k + i)) 9)) => gather_any W b _ ho (fun i hi => zf _ (by have := hCf (by omega); omega)))
  have TY := Lib.hid (txn_yes f l.used l.next LE)
  have TN := Lib.hid (txn_no f l.used l.next LE)
  rw [← hX, ← hC] at TY TN
  rw [← hX] at R0
  obtain ⟨T, hT⟩ : ∃ T, T = txn f l.used l.next LE := ⟨_, rfl⟩
  rw [← hT] at TY TN ⊢
  have ZF := Lib.hid zf
  have CF := Lib.hid hCf
  clear hL hk hD hd hf hLE hX hC hT zf hCf zX
  go_enter Try.func29, Try.ntmps29
  go_upto_region 3 with (go_at_call 22; refine HLeft.out.mono ?_; rintro e w' ⟨rfl, q, rfl⟩)
  have B0 : Below w.heap.size w (w.drewN q) := below_drewN (Below.refl _ _) q
  replace B0 := Lib.hid B0
  go_upto_region 6 with (go_at_call 39; refine (R0.out _ B0.out).mono ?_; rintro e w1 ⟨b0, rfl, hc0, hb1⟩; have B1 := Lib.hid (B0.out.trans hb1); clear hb1)
  obtain ⟨g, hg⟩ : ∃ g : Nat → ByteArray, g = fun k => gatP (nine f (l.used + 1 + 9 * k)) := ⟨_, rfl⟩
  have HG := Lib.hid hg
  clear hg
  go_wp2_with (go_at_call 40; refine (HC.out _ B1.out).mono ?_; rintro e w2 ⟨rfl, hb2⟩; have B2 := Lib.hid (B1.out.trans (hb2.mono B1.out.size)); have HM := make_strs C (by omega) g w2; clear hb2)
  have L0 : Below w.heap.size w (w2.alloc (.cells (rowS C g 0) 9)) := B2.out.alloc B2.out.size _
  have z2 := B2.out.size
  have HO := Own.made w2 9 (rowS C g 0)
  clear HM
  go_loopw [31] (fun i wr => ∃ k : Nat, k ≤ C ∧ i = .int .i64 k ∧ Own wr w2.heap.size 9 (rowS C g k) ∧ Below w.heap.size w wr ∧ ∀ j, j < k → isPg (nine f (l.used + 1 + 9 * j)) = true) (fun i wr => C - (intOf i).toNat)
  case atStart => exact ⟨0, by omega, rfl, HO, L0, fun j hj => by omega⟩
  case round =>
    clear HO L0
    obtain ⟨k, hk, rfl, hO, hL, hP⟩ := hrel
    replace hP := Lib.hid hP
    replace hO := Lib.hid hO
    have hsz := hL.size
    replace hL := Lib.hid hL
    by_cases hlt : k < C
    · go_upto_region 13 with (go_at_call 39; refine (RK.out k hlt _ hL.out).mono ?_; rintro e w3 ⟨b3, rfl, ho3, hb3⟩)
      have hG3 := GK.out k hlt w3 b3 ho3
      have L3 := Lib.hid (hL.out.trans (hb3.mono hL.out.size))
      have O3 := hO.out.keep hb3
      replace O3 := Lib.hid O3
      clear ho3 hb3
      have eg : gatP ((List.range 9).map (fun i => f (l.used + 1 + 9 * k + i))) = g k := by rw [HG.out]; rfl
      have ei : isPg ((List.range 9).map (fun i => f (l.used + 1 + 9 * k + i))) = isPg (nine f (l.used + 1 + 9 * k)) := rfl
      rw [eg, ei] at hG3
      clear eg ei
      cases hi : isPg (nine f (l.used + 1 + 9 * k)) with
      | false =>
        rw [hi] at hG3
        replace hG3 := Lib.hid hG3
        have HT := Lib.hid (TN.out k hlt hi)
        clear hi
        go_wp2_with (go_at_call 41; refine hG3.out.mono ?_; rintro e w4 ⟨rfl, hb4⟩)
        go_ret2
        rw [HT.out]
        exact ⟨_, rfl, StrsIn.nil _ _, L3.out.trans (hb4.mono L3.out.size)⟩
      | true =>
        rw [hi] at hG3
        replace hG3 := Lib.hid hG3
        have HI := Lib.hid hi
        clear hi
        go_upto_region 16 with (go_at_call 41; refine hG3.out.mono ?_; rintro e w4 ⟨rfl, hb4⟩)
        have L4 := Lib.hid (L3.out.trans (hb4.mono L3.out.size))
        have O4 := O3.out.keep hb4
        obtain ⟨c1, c2, c3⟩ := O4.at_
        have c4 := c1 k
        rw [rowS_get C g k k hlt] at c4
        have c5 := c2 k
        replace O4 := Lib.hid O4
        clear c1 c2 hb4
        go_wp2
        go_roundw
        case rel =>
          refine ⟨k + 1, by omega, by go_num, ?_, L4.out.setCell z2 _, fun j hj => ?_⟩
          · have := O4.out.put k (.string (g k))
            rw [rowS_set C g k hlt] at this
            exact this
          · by_cases e : j = k
            · subst e; exact HI.out
            · exact hP.out j (by omega)
        case measure => simp [intOf]; omega
    · obtain rfl : k = C := by omega
      go_wp2
      go_ret2
      rw [TY.out hP.out]
      refine ⟨_, rfl, ?_, hL.out⟩
      have := StrsIn.row (S := fun b => w.heap.size ≤ b) hO.out (by unfold maxLen; omega) (fun i hi => ?_) z2
      · rw [HG.out] at this
        exact this
      · rw [HG.out]
        show (gatP (nine f (l.used + 1 + 9 * i))).size ≤ maxLen
        have hcf := CF.out (by omega)
        rw [gatP_size _ (fun s hs => ?_) (by simp [nine])]
        · unfold maxLen; omega
        · obtain ⟨j, hj, rfl⟩ := List.mem_map.1 hs
          exact ZF.out _ (by have := List.mem_range.1 hj; omega)
end
end Go.Proofs.Ytmincpmkiheofaa
