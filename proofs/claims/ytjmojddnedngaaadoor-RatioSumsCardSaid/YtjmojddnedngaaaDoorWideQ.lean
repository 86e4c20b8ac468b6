
/- The contract of wide.Gcd. Conditions: numbers that a wide.Int can be. -/
import Derived.Test.YtjmojddnedngaaaDoorWideK
import Derived.Deep.LoopGhost
namespace Go.Proofs.YtjmojddnedngaaaDoor
open Go.ChangeShapes Go.WideShapes Go.ChangeAt Go.RowKit
set_option linter.unusedVariables false

theorem gcd_step (m n g : Int) (hm : 0 ≤ m) (hn : 0 < n) (h : ((m.toNat).gcd n.toNat : Int) = g) : ((n.toNat).gcd (m % n).toNat : Int) = g := by
  obtain ⟨a, rfl⟩ := Int.eq_ofNat_of_zero_le hm
  obtain ⟨b, rfl⟩ := Int.eq_ofNat_of_zero_le (Int.le_of_lt hn)
  have e : (((a : Int) % (b : Int))).toNat = a % b := by rw [← Int.natCast_emod]; exact Int.toNat_natCast _
  rw [e]
  rw [Int.toNat_natCast, Int.toNat_natCast] at h
  rw [← h, Int.toNat_natCast, Nat.gcd_comm a b, Nat.gcd_rec b a, Nat.gcd_comm]
theorem Siz.mod {a b : Int} (ha : Siz a) (hb : Siz b) (h : 0 < b) : Siz (a % b) := by
  obtain ⟨h0, h1⟩ := hb
  have := Int.emod_nonneg a (show b ≠ 0 by omega)
  have := Int.emod_lt_of_pos a h
  exact ⟨by omega, by omega⟩

set_option maxHeartbeats 16000000 in
set_option maxRecDepth 20000 in
theorem Gcd_walk (a b g : Int) (ha : Fit a) (hb : Fit b) (hg : ((a.natAbs).gcd b.natAbs : Int) = g) (r0 r1 r2 r3 er : Int)
    (SG1 : ∀ w, Calls Tryd.prog 48 #[.agg #[.int .u64 (L0 g), .int .u64 (L1 g), .int .u64 (L2 g), .int .u64 (L3 g)], .bool false] w fun e w' => e = .returned (.tuple #[.agg #[.int .u64 r0, .int .u64 r1, .int .u64 r2, .int .u64 r3], .int .i64 er]) ∧ Below w.heap.size w w')
    (w : World) : Calls Tryd.prog 39 #[.agg #[.int .u64 (L0 a), .int .u64 (L1 a), .int .u64 (L2 a), .int .u64 (L3 a)], .agg #[.int .u64 (L0 b), .int .u64 (L1 b), .int .u64 (L2 b), .int .u64 (L3 b)]] w fun e w' => e = .returned (.tuple #[.agg #[.int .u64 r0, .int .u64 r1, .int .u64 r2, .int .u64 r3], .int .i64 er]) ∧ Below w.heap.size w w' := by
  have SG := Lib.hid SG1
  have SA := Lib.hid (fun w => sizeOf_any a ha w)
  have SB := Lib.hid (fun w => sizeOf_any b hb w)
  obtain ⟨aa, haa⟩ : ∃ x : Int, (a.natAbs : Int) = x := ⟨_, rfl⟩
  obtain ⟨bb, hbb⟩ : ∃ x : Int, (b.natAbs : Int) = x := ⟨_, rfl⟩
  rw [haa] at SA
  rw [hbb] at SB
  have GE : ((aa.toNat).gcd bb.toNat : Int) = g := by rw [← haa, ← hbb, Int.toNat_natCast, Int.toNat_natCast]; exact hg
  have GH := Lib.hid GE
  have sA : Siz aa := by obtain ⟨_, _⟩ := ha; exact ⟨by omega, by omega⟩
  have sB : Siz bb := by obtain ⟨_, _⟩ := hb; exact ⟨by omega, by omega⟩
  clear SG1 GE hg haa hbb ha hb
  go_enter Tryd.func39, Tryd.ntmps39
  go_upto_region 1 with fail
  go_name_world W0 hW0
  have OA : Own W0 w.heap.size 24 #[.int .u64 (L0 a), .int .u64 (L1 a), .int .u64 (L2 a), .int .u64 (L3 a)] := hW0 ▸ (by repeat' (first | (with_reducible assumption) | (with_reducible refine Own.drawnN ?_ _) | (with_reducible refine Own.drawn ?_) | (with_reducible refine Own.made_at ?_; first | rfl | (simp; done) | omega | (simp; omega)) | (with_reducible refine Own.more ?_ _) | (with_reducible refine Own.apart ?_ ?_ _ _; rotate_left; first | omega | (simp; done) | (simp; omega)) | (refine Own.put ?_ _ _)))
  have OB : Own W0 (w.heap.size + 1) 24 #[.int .u64 (L0 b), .int .u64 (L1 b), .int .u64 (L2 b), .int .u64 (L3 b)] := hW0 ▸ (by repeat' (first | (with_reducible assumption) | (with_reducible refine Own.drawnN ?_ _) | (with_reducible refine Own.drawn ?_) | (with_reducible refine Own.made_at ?_; first | rfl | (simp; done) | omega | (simp; omega)) | (with_reducible refine Own.more ?_ _) | (with_reducible refine Own.apart ?_ ?_ _ _; rotate_left; first | omega | (simp; done) | (simp; omega)) | (refine Own.put ?_ _ _)))
  have OR : Own W0 (w.heap.size + 1 + 1) 24 #[.int .u64 0, .int .u64 0, .int .u64 0, .int .u64 0] := hW0 ▸ (by repeat' (first | (with_reducible assumption) | (with_reducible refine Own.drawnN ?_ _) | (with_reducible refine Own.drawn ?_) | (with_reducible refine Own.made_at ?_; first | rfl | (simp; done) | omega | (simp; omega)) | (with_reducible refine Own.more ?_ _) | (with_reducible refine Own.apart ?_ ?_ _ _; rotate_left; first | omega | (simp; done) | (simp; omega)) | (refine Own.put ?_ _ _)))
  have hW0b : Below w.heap.size w W0 := hW0 ▸ (by repeat' (first | (with_reducible exact Below.refl _ _) | (with_reducible assumption) | (with_reducible refine below_drewN ?_ _) | (with_reducible refine Below.drew ?_) | (with_reducible refine Below.alloc ?_ ?_ _) | (with_reducible refine Below.setCell ?_ ?_ _) | (with_reducible refine then_ ?_ (by with_reducible assumption) ?_) | (with_reducible exact Nat.le_refl _) | (with_reducible exact Nat.le_succ _) | (with_reducible exact Nat.le_succ_of_le (by with_reducible assumption)) | omega | (simp; done) | (simp; omega) | (exact Nat.le_succ _) | (exact Nat.le_succ_of_le (by with_reducible assumption))))
  clear hW0
  have z0 := OR.in_
  have z1 := hW0b.size
  refine region_memo (B := W0.heap.size) (L := .val (.agg #[.int .u64 (L0 a), .int .u64 (L1 a), .int .u64 (L2 a), .int .u64 (L3 a)]) :: .val (.agg #[.int .u64 (L0 aa), .int .u64 (L1 aa), .int .u64 (L2 aa), .int .u64 (L3 aa)]) :: .val (.agg #[.int .u64 (L0 b), .int .u64 (L1 b), .int .u64 (L2 b), .int .u64 (L3 b)]) :: .val (.agg #[.int .u64 (L0 bb), .int .u64 (L1 bb), .int .u64 (L2 bb), .int .u64 (L3 bb)]) :: .blk 58 4 :: .blk 58 4 :: .put 6 58 #[.int .u64 (L0 aa), .int .u64 (L1 aa), .int .u64 (L2 aa), .int .u64 (L3 aa)] :: .put 7 58 #[.int .u64 (L0 bb), .int .u64 (L1 bb), .int .u64 (L2 bb), .int .u64 (L3 bb)] :: []) (by kernel_rfl) (by kernel_rfl) (Nat.le_refl _) ((by exact trivial))
    ⟨fun a w R => ld24 (R.slot 2 rfl) (R.keep OA.drawn (by repeat' (first | exact trivial | refine Off.v ?_ | refine Off.k ?_ | refine Off.b ?_ | refine Off.p ?_ | refine Off.s ?_ ?_ | omega))), fun a w R => cl1 en_sizeOf (R.val 0 rfl rfl rfl (by kernel_rfl)) (SA.out _), fun a w R => ld24 (R.slot 3 rfl) (R.keep OB.drawn (by repeat' (first | exact trivial | refine Off.v ?_ | refine Off.k ?_ | refine Off.b ?_ | refine Off.p ?_ | refine Off.s ?_ ?_ | omega))), fun a w R => cl1 en_sizeOf (R.val 2 rfl rfl rfl (by kernel_rfl)) (SB.out _), fun a w R => al63, fun a w R => al63, fun a w R => sb63 (R.dep 4 rfl (by kernel_rfl)) (R.val 1 rfl rfl rfl (by kernel_rfl)), fun a w R => sb63 (R.dep 5 rfl (by kernel_rfl)) (R.val 3 rfl rfl rfl (by kernel_rfl)), trivial⟩ (fun a1 W1 I => ?_)
  obtain ⟨b6, e6, l6, o6⟩ := I.put 6 rfl rfl
  obtain ⟨b7, e7, l7, o7⟩ := I.put 7 rfl rfl
  have n6_7 := I.far 4 5 rfl rfl (by omega) rfl rfl rfl rfl e6 e7
  rw [I.act [(10, (.agg #[.int .u64 (L0 a), .int .u64 (L1 a), .int .u64 (L2 a), .int .u64 (L3 a)])), (11, (.agg #[.int .u64 (L0 aa), .int .u64 (L1 aa), .int .u64 (L2 aa), .int .u64 (L3 aa)])), (12, (.agg #[.int .u64 (L0 b), .int .u64 (L1 b), .int .u64 (L2 b), .int .u64 (L3 b)])), (13, (.agg #[.int .u64 (L0 bb), .int .u64 (L1 bb), .int .u64 (L2 bb), .int .u64 (L3 bb)])), (6, .pointer (some ⟨b6, 0, none⟩)), (7, .pointer (some ⟨b7, 0, none⟩))]
    ⟨I.val 0 rfl rfl rfl, I.val 1 rfl rfl rfl, I.val 2 rfl rfl rfl, I.val 3 rfl rfl rfl, e6, e7, trivial⟩ rfl]
  change W0.heap.size ≤ b6 at l6
  change W0.heap.size ≤ b7 at l7
  have sW1 : W0.heap.size ≤ W1.heap.size := I.below.size
  replace OA := I.keep OA.drawn (by repeat' (first | exact trivial | refine Off.v ?_ | refine Off.k ?_ | refine Off.b ?_ | refine Off.p ?_ | refine Off.s ?_ ?_ | omega))
  replace OB := I.keep OB.drawn (by repeat' (first | exact trivial | refine Off.v ?_ | refine Off.k ?_ | refine Off.b ?_ | refine Off.p ?_ | refine Off.s ?_ ?_ | omega))
  replace OR := I.keep OR.drawn (by repeat' (first | exact trivial | refine Off.v ?_ | refine Off.k ?_ | refine Off.b ?_ | refine Off.p ?_ | refine Off.s ?_ ?_ | omega))
  have hW1 : Below w.heap.size w W1 := then_ hW0b.drew I.below hW0b.size
  clear e6 e7
  clear I
  simp only [List.foldl_cons, List.foldl_nil, List.setIfInBounds_toArray, List.set_cons_zero, List.set_cons_succ]
  have x6 : w.heap.size + 1 + 1 < b6 := by omega
  have x7 : w.heap.size + 1 + 1 < b7 := by omega
  clear z0 z1
  clear OA OB SA SB
  go_wp2_with fail
  go_loopg [] bb.toNat (fun k wr => ∃ m n : Int, n.toNat = k ∧ Siz m ∧ Siz n ∧ Hid (((m.toNat).gcd n.toNat : Int) = g) ∧ Own wr b6 58 #[.int .u64 (L0 m), .int .u64 (L1 m), .int .u64 (L2 m), .int .u64 (L3 m)] ∧ Own wr b7 58 #[.int .u64 (L0 n), .int .u64 (L1 n), .int .u64 (L2 n), .int .u64 (L3 n)] ∧ Own wr (w.heap.size + 1 + 1) 24 #[.int .u64 0, .int .u64 0, .int .u64 0, .int .u64 0] ∧ Below w.heap.size w wr)
  case atStart =>
    exact ⟨aa, bb, rfl, sA, sB, GH, o6, o7, OR, hW1⟩
  case round =>
    obtain ⟨m, n, hk, sm, sn, HG, O6, O7, O4, hB⟩ := hrel
    obtain ⟨P1, P2, P3⟩ := O6.at_
    obtain ⟨R1, R2, R3⟩ := O4.at_
    clear GH sA sB o6 o7 OR hW1 hW0b
    by_cases hn : n = 0
    · subst hn
      replace O7 : Own wr b7 58 #[.int .u64 0, .int .u64 0, .int .u64 0, .int .u64 0] := O7
      obtain ⟨Q1, Q2, Q3⟩ := O7.at_
      have EQ : ∀ w, (Op.equalIn 10000 58 (.agg #[.int .u64 0, .int .u64 0, .int .u64 0, .int .u64 0]) (.agg #[.int .u64 0, .int .u64 0, .int .u64 0, .int .u64 0])).run Tryd.prog w = .ok true w := fun w => (eq_size _ _ _ _ _ _ _ _ w).trans rfl
      have hmg : m = g := by
        have := HG.out
        rw [← this]
        obtain ⟨h0, _⟩ := sm
        simp
        omega
      subst hmg
      go_wp2_with (first
        | (go_at_call 48; refine (SG.out _).mono ?_; rintro e w2 ⟨rfl, hb2⟩; have O42 := O4.keep hb2; obtain ⟨U1, U2, U3⟩ := O42.at_))
      try simp only [setCell_drawn]
      refine bodyPost_ret (by simp [results, Tryd.results39, go_sem, U1]) rfl ⟨rfl, ?_⟩
      repeat' (first | (with_reducible exact Below.refl _ _) | (with_reducible assumption) | (with_reducible refine below_drewN ?_ _) | (with_reducible refine Below.drew ?_) | (with_reducible refine Below.alloc ?_ ?_ _) | (with_reducible refine Below.setCell ?_ ?_ _) | (with_reducible refine then_ ?_ (by with_reducible assumption) ?_) | (with_reducible exact Nat.le_refl _) | (with_reducible exact Nat.le_succ _) | (with_reducible exact Nat.le_succ_of_le (by with_reducible assumption)) | omega | (simp; done) | (simp; omega) | (exact Nat.le_succ _) | (exact Nat.le_succ_of_le (by with_reducible assumption)))
    · obtain ⟨Q1, Q2, Q3⟩ := O7.at_
      have hn0 : 0 < n := by obtain ⟨_, _⟩ := sn; omega
      have EQ : ∀ w, (Op.equalIn 10000 58 (.agg #[.int .u64 (L0 n), .int .u64 (L1 n), .int .u64 (L2 n), .int .u64 (L3 n)]) (.agg #[.int .u64 0, .int .u64 0, .int .u64 0, .int .u64 0])).run Tryd.prog w = .ok false w := fun w => by
        have := eq_siz sn siz0 w
        rw [decide_eq_false hn] at this
        exact this
      have DV := Lib.hid (fun w => divide_any m n sm sn hn0 w)
      obtain ⟨q, hq⟩ : ∃ x, m / n = x := ⟨_, rfl⟩
      obtain ⟨r, hr⟩ : ∃ x, m % n = x := ⟨_, rfl⟩
      rw [hq, hr] at DV
      have sr : Siz r := hr ▸ sm.mod sn hn0
      have HG2 := Lib.hid (gcd_step m n g sm.1 hn0 HG.out)
      rw [hr] at HG2
      have rn : r < n := hr ▸ Int.emod_lt_of_pos m hn0
      have r0 : 0 ≤ r := sr.1
      clear hq hr HG hn SG
      go_upto_region 4 with (first
        | (go_at_call 51; refine (DV.out _).mono ?_; rintro e w2 ⟨rfl, hb2⟩; have O62 := O6.keep hb2; have O72 := O7.keep hb2; have O42 := O4.keep hb2; have hB2 := then_ hB hb2 hB.size; clear O6 O7 O4 P1 P2 P3 Q1 Q2 Q3 R1 R2 R3))
      go_name_world W2 hW2
      have x2 : b6 < w2.heap.size := O62.in_
      have x3 : b7 < w2.heap.size := O72.in_
      have x4 := O42.in_
      have x5 := hB2.size
      have O6 : Own W2 b6 58 #[.int .u64 (L0 m), .int .u64 (L1 m), .int .u64 (L2 m), .int .u64 (L3 m)] := hW2 ▸ (by repeat' (first | (with_reducible assumption) | (with_reducible refine Own.drawnN ?_ _) | (with_reducible refine Own.drawn ?_) | (with_reducible refine Own.made_at ?_; first | rfl | (simp; done) | omega | (simp; omega)) | (with_reducible refine Own.more ?_ _) | (with_reducible refine Own.apart ?_ ?_ _ _; rotate_left; first | omega | (simp; done) | (simp; omega)) | (refine Own.put ?_ _ _)))
      have O7 : Own W2 b7 58 #[.int .u64 (L0 n), .int .u64 (L1 n), .int .u64 (L2 n), .int .u64 (L3 n)] := hW2 ▸ (by repeat' (first | (with_reducible assumption) | (with_reducible refine Own.drawnN ?_ _) | (with_reducible refine Own.drawn ?_) | (with_reducible refine Own.made_at ?_; first | rfl | (simp; done) | omega | (simp; omega)) | (with_reducible refine Own.more ?_ _) | (with_reducible refine Own.apart ?_ ?_ _ _; rotate_left; first | omega | (simp; done) | (simp; omega)) | (refine Own.put ?_ _ _)))
      have O4 : Own W2 (w.heap.size + 1 + 1) 24 #[.int .u64 0, .int .u64 0, .int .u64 0, .int .u64 0] := hW2 ▸ (by repeat' (first | (with_reducible assumption) | (with_reducible refine Own.drawnN ?_ _) | (with_reducible refine Own.drawn ?_) | (with_reducible refine Own.made_at ?_; first | rfl | (simp; done) | omega | (simp; omega)) | (with_reducible refine Own.more ?_ _) | (with_reducible refine Own.apart ?_ ?_ _ _; rotate_left; first | omega | (simp; done) | (simp; omega)) | (refine Own.put ?_ _ _)))
      have O9 : Own W2 (w2.heap.size + 1) 58 #[.int .u64 (L0 r), .int .u64 (L1 r), .int .u64 (L2 r), .int .u64 (L3 r)] := hW2 ▸ (by repeat' (first | (with_reducible assumption) | (with_reducible refine Own.drawnN ?_ _) | (with_reducible refine Own.drawn ?_) | (with_reducible refine Own.made_at ?_; first | rfl | (simp; done) | omega | (simp; omega)) | (with_reducible refine Own.more ?_ _) | (with_reducible refine Own.apart ?_ ?_ _ _; rotate_left; first | omega | (simp; done) | (simp; omega)) | (refine Own.put ?_ _ _)))
      have hW2b : Below w.heap.size w W2 := hW2 ▸ (by repeat' (first | (with_reducible exact Below.refl _ _) | (with_reducible assumption) | (with_reducible refine below_drewN ?_ _) | (with_reducible refine Below.drew ?_) | (with_reducible refine Below.alloc ?_ ?_ _) | (with_reducible refine Below.setCell ?_ ?_ _) | (with_reducible refine then_ ?_ (by with_reducible assumption) ?_) | (with_reducible exact Nat.le_refl _) | (with_reducible exact Nat.le_succ _) | (with_reducible exact Nat.le_succ_of_le (by with_reducible assumption)) | omega | (simp; done) | (simp; omega) | (exact Nat.le_succ _) | (exact Nat.le_succ_of_le (by with_reducible assumption))))
      clear hW2 O62 O72 O42 hB2 hB
      refine region_memo (B := w.heap.size) (L := .val (.agg #[.int .u64 (L0 n), .int .u64 (L1 n), .int .u64 (L2 n), .int .u64 (L3 n)]) :: .val (.agg #[.int .u64 (L0 r), .int .u64 (L1 r), .int .u64 (L2 r), .int .u64 (L3 r)]) :: .sto (b6) 58 #[.int .u64 (L0 n), .int .u64 (L1 n), .int .u64 (L2 n), .int .u64 (L3 n)] :: .sto (b7) 58 #[.int .u64 (L0 r), .int .u64 (L1 r), .int .u64 (L2 r), .int .u64 (L3 r)] :: []) (by kernel_rfl) (by kernel_rfl) (hW2b.size) (Olds.v (Olds.v (Olds.s (by omega) O6.drawn.in_ (by repeat' (first | exact trivial | refine Off.v ?_ | refine Off.k ?_ | refine Off.b ?_ | refine Off.p ?_ | refine Off.s ?_ ?_ | omega)) (Olds.s (by omega) O7.drawn.in_ (by repeat' (first | exact trivial | refine Off.v ?_ | refine Off.k ?_ | refine Off.b ?_ | refine Off.p ?_ | refine Off.s ?_ ?_ | omega)) (trivial)))))
        ⟨fun a w R => ld63 (R.slot 7 rfl) (R.old 3 rfl rfl (by kernel_rfl) O7.drawn), fun a w R => ld63 (R.slot 9 rfl) (R.keep O9.drawn (by repeat' (first | exact trivial | refine Off.v ?_ | refine Off.k ?_ | refine Off.b ?_ | refine Off.p ?_ | refine Off.s ?_ ?_ | omega))), fun a w R => so63 (R.slot 6 rfl) (R.own rfl O6.drawn) rfl (R.val 0 rfl rfl rfl (by kernel_rfl)), fun a w R => so63 (R.slot 7 rfl) (R.own rfl O7.drawn) rfl (R.val 1 rfl rfl rfl (by kernel_rfl)), trivial⟩ (fun a1 W3 I => ?_)
      rw [I.act [(23, (.agg #[.int .u64 (L0 n), .int .u64 (L1 n), .int .u64 (L2 n), .int .u64 (L3 n)])), (24, (.agg #[.int .u64 (L0 r), .int .u64 (L1 r), .int .u64 (L2 r), .int .u64 (L3 r)]))]
        ⟨I.val 0 rfl rfl rfl, I.val 1 rfl rfl rfl, trivial⟩ rfl]
      have sW3 : W2.heap.size ≤ W3.heap.size := I.below.size
      replace O4 := I.keep O4.drawn (by repeat' (first | exact trivial | refine Off.v ?_ | refine Off.k ?_ | refine Off.b ?_ | refine Off.p ?_ | refine Off.s ?_ ?_ | omega))
      replace O9 := I.keep O9.drawn (by repeat' (first | exact trivial | refine Off.v ?_ | refine Off.k ?_ | refine Off.b ?_ | refine Off.p ?_ | refine Off.s ?_ ?_ | omega))
      replace O6 := I.sto 2 rfl rfl
      replace O7 := I.sto 3 rfl rfl
      have hW3 : Below w.heap.size w W3 := hW2b.drew.trans I.below
      clear I
      simp only [List.foldl_cons, List.foldl_nil, List.setIfInBounds_toArray, List.set_cons_zero, List.set_cons_succ]
      go_wp2
      go_roundg r.toNat
      case measure => omega
      case rel => exact ⟨n, r, rfl, sn, sr, HG2, O6, O7, O4, hW3⟩
theorem gcd_siz (a b : Int) (ha : Fit a) (hb : Fit b) : Siz ((a.natAbs).gcd b.natAbs : Int) := by
  obtain ⟨_, _⟩ := ha
  obtain ⟨_, _⟩ := hb
  by_cases h : a = 0
  · subst h
    simp only [Int.natAbs_zero, Nat.gcd_zero_left]
    exact ⟨by omega, by omega⟩
  · have := Nat.gcd_le_left b.natAbs (show 0 < a.natAbs by omega)
    exact ⟨by omega, by omega⟩
theorem gcd_fit (a b : Int) (ha : Fit a) (hb : Fit b) (hc : Fit ((a.natAbs).gcd b.natAbs : Int)) (w : World) :
    Calls Tryd.prog 39 #[.agg #[.int .u64 (L0 a), .int .u64 (L1 a), .int .u64 (L2 a), .int .u64 (L3 a)], .agg #[.int .u64 (L0 b), .int .u64 (L1 b), .int .u64 (L2 b), .int .u64 (L3 b)]] w fun e w' => e = .returned (.tuple #[.agg #[.int .u64 (L0 ((a.natAbs).gcd b.natAbs : Int)), .int .u64 (L1 ((a.natAbs).gcd b.natAbs : Int)), .int .u64 (L2 ((a.natAbs).gcd b.natAbs : Int)), .int .u64 (L3 ((a.natAbs).gcd b.natAbs : Int))], .int .i64 0]) ∧ Below w.heap.size w w' :=
  Gcd_walk a b _ ha hb rfl _ _ _ _ _ (fun w => signed_fit _ _ false (gcd_siz a b ha hb) rfl hc w) w
theorem gcd_large (a b : Int) (ha : Fit a) (hb : Fit b) (hc : ¬ Fit ((a.natAbs).gcd b.natAbs : Int)) (w : World) :
    Calls Tryd.prog 39 #[.agg #[.int .u64 (L0 a), .int .u64 (L1 a), .int .u64 (L2 a), .int .u64 (L3 a)], .agg #[.int .u64 (L0 b), .int .u64 (L1 b), .int .u64 (L2 b), .int .u64 (L3 b)]] w fun e w' => e = .returned (.tuple #[.agg #[.int .u64 0, .int .u64 0, .int .u64 0, .int .u64 0], .int .i64 3]) ∧ Below w.heap.size w w' :=
  Gcd_walk a b _ ha hb rfl _ _ _ _ _ (fun w => signed_large _ _ false (gcd_siz a b ha hb) rfl hc w) w
end Go.Proofs.YtjmojddnedngaaaDoor
