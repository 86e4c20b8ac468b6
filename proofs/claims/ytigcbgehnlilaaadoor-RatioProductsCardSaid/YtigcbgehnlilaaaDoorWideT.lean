
/- The contract of wide.Text: the decimal digits, where the table uint64pow10 holds what it holds. Conditions: a number that a wide.Int can be. -/
import Derived.Test.YtigcbgehnlilaaaDoorWideR
import Derived.Test.YtigcbgehnlilaaaDoorFmt
import Derived.Test.YtigcbgehnlilaaaDoorDec
import Derived.Deep.LoopGhost
namespace Go.Proofs.YtigcbgehnlilaaaDoor
open Go.ChangeShapes Go.WideShapes Go.ChangeAt Go.RowKit
set_option linter.unusedVariables false

theorem ba_of {b : ByteArray} {l : List UInt8} (h : b.data.toList = l) : b = ⟨l.toArray⟩ := by
  subst h; cases b; simp
theorem ba_app (a b : ByteArray) : (a ++ b).data.toList = a.data.toList ++ b.data.toList := by
  simp
theorem ba_size (a : ByteArray) : a.size = a.data.toList.length := by rw [Array.length_toList]; rfl
theorem rep_one (c : Nat) : Lib.repeatL [(48 : UInt8)] c = List.replicate c 48 := by
  induction c with
  | zero => rfl
  | succ c ih => simp [Lib.repeatL, List.replicate_succ] at *; first | exact ih | (rw [ih]) | simp [ih]

set_option maxHeartbeats 16000000 in
set_option maxRecDepth 20000 in
theorem Text_any (a : Int) (ha : Fit a) (w : World) (hp : Pow10 w) :
    Calls Tryd.prog 44 #[.agg #[.int .u64 (L0 a), .int .u64 (L1 a), .int .u64 (L2 a), .int .u64 (L3 a)]] w fun e w' => e = .returned (.string ⟨(Lib.itoa a).toArray⟩) ∧ Below w.heap.size w w' := by
  have SA := Lib.hid (fun w => sizeOf_any a ha w)
  have BA := Lib.hid (fun w => below_o (ngB_fit ha) w)
  obtain ⟨N, hN⟩ : ∃ x : Nat, a.natAbs = x := ⟨_, rfl⟩
  obtain ⟨s, hs⟩ : ∃ x : Bool, decide (a < 0) = x := ⟨_, rfl⟩
  rw [hN] at SA
  rw [hs] at BA
  have hNs : N < 10 ^ (77 + 1) := by
    obtain ⟨_, _⟩ := ha
    have : (10 : Nat) ^ (77 + 1) = 1000000000000000000000000000000000000000000000000000000000000000000000000000000 := by decide
    omega
  have hlen := Lib.hid (dec_len 77 N hNs)
  have sN : Siz (N : Int) := by obtain ⟨_, _⟩ := ha; exact ⟨by omega, by omega⟩
  obtain ⟨res, hres⟩ : ∃ x : ByteArray, (⟨(Lib.itoa a).toArray⟩ : ByteArray) = x := ⟨_, rfl⟩
  have HR : ∀ t : ByteArray, t.data.toList = Lib.decDigits N → (if s then (⟨#[45]⟩ : ByteArray) ++ t else t) = res := fun t ht => by
    rw [← hres]
    cases s with
    | false =>
      refine ba_of ?_
      simp only [Bool.false_eq_true, if_false, ht]
      unfold Lib.itoa
      have := of_decide_eq_false hs
      rw [if_neg this, ← hN]
      congr 1
      omega
    | true =>
      refine ba_of ?_
      have := of_decide_eq_true hs
      simp only [if_true, ba_app, ht]
      unfold Lib.itoa
      rw [if_pos this, hN]
      rfl
  rw [hres]
  have HRH := Lib.hid HR
  clear hs hN hNs HR hres ha
  go_enter Tryd.func44, Tryd.ntmps44
  go_wp2_with (first
    | (go_at_call 55; refine (SA.out _).mono ?_; rintro e w1 ⟨rfl, hb1⟩))
  go_name_world W0 hW0
  have z1 := hb1.size
  have OA : Own W0 w.heap.size 24 #[.int .u64 (L0 a), .int .u64 (L1 a), .int .u64 (L2 a), .int .u64 (L3 a)] := hW0 ▸ (by
    have O1 : Own w1 w.heap.size 24 #[.int .u64 (L0 a), .int .u64 (L1 a), .int .u64 (L2 a), .int .u64 (L3 a)] := (Own.made _ _ _).keep hb1
    have O2 := O1.in_
    repeat' (first | (with_reducible assumption) | (with_reducible refine Own.drawnN ?_ _) | (with_reducible refine Own.drawn ?_) | (with_reducible refine Own.made_at ?_; first | rfl | (simp; done) | omega | (simp; omega)) | (with_reducible refine Own.more ?_ _) | (with_reducible refine Own.apart ?_ ?_ _ _; rotate_left; first | omega | (simp; done) | (simp; omega)) | (refine Own.put ?_ _ _)))
  have O4 : Own W0 w1.heap.size 77 #[.int .u64 (L0 N), .int .u64 (L1 N), .int .u64 (L2 N), .int .u64 (L3 N)] := hW0 ▸ (by repeat' (first | (with_reducible assumption) | (with_reducible refine Own.drawnN ?_ _) | (with_reducible refine Own.drawn ?_) | (with_reducible refine Own.made_at ?_; first | rfl | (simp; done) | omega | (simp; omega)) | (with_reducible refine Own.more ?_ _) | (with_reducible refine Own.apart ?_ ?_ _ _; rotate_left; first | omega | (simp; done) | (simp; omega)) | (refine Own.put ?_ _ _)))
  have hW0b : Below w.heap.size w W0 := hW0 ▸ (by
    have hB1 : Below w.heap.size w w1 := then_ ((Below.refl _ _).alloc (Nat.le_refl _) _) hb1 (by simp)
    have hB2 := hB1.size
    repeat' (first | (with_reducible exact Below.refl _ _) | (with_reducible assumption) | (with_reducible refine below_drewN ?_ _) | (with_reducible refine Below.drew ?_) | (with_reducible refine Below.alloc ?_ ?_ _) | (with_reducible refine Below.setCell ?_ ?_ _) | (with_reducible refine then_ ?_ (by with_reducible assumption) ?_) | (with_reducible exact Nat.le_refl _) | (with_reducible exact Nat.le_succ _) | (with_reducible exact Nat.le_succ_of_le (by with_reducible assumption)) | omega | (simp; done) | (simp; omega) | (exact Nat.le_succ _) | (exact Nat.le_succ_of_le (by with_reducible assumption))))
  have x1 : w.heap.size < w1.heap.size := by simp at z1; omega
  clear hW0 hb1 z1
  go_loopg [3] N (fun k s3 wr => ∃ (r : Nat) (ts : ByteArray), r = k ∧ s3 = .string ts ∧ Siz (r : Int) ∧ Hid (Lib.decDigits N = Lib.decDigits r ++ ts.data.toList) ∧ Own wr w1.heap.size 77 #[.int .u64 (L0 r), .int .u64 (L1 r), .int .u64 (L2 r), .int .u64 (L3 r)] ∧ Own wr w.heap.size 24 #[.int .u64 (L0 a), .int .u64 (L1 a), .int .u64 (L2 a), .int .u64 (L3 a)] ∧ Below w.heap.size w wr)
  case atStart =>
    exact ⟨N, ⟨#[]⟩, rfl, rfl, sN, Lib.hid (by simp), O4, OA, hW0b⟩
  case round =>
    clear OA O4 hW0b SA
    obtain ⟨r, ts, rfl, rfl, sr, HD, O4, OA, hB⟩ := hrel
    have hts : ts.size ≤ 78 := by
      have h1 := hlen.out
      rw [HD.out, List.length_append, ← ba_size] at h1
      omega
    obtain ⟨q, hq⟩ : ∃ x : Nat, r / 1000000000000000000 = x := ⟨_, rfl⟩
    obtain ⟨m, hm⟩ : ∃ x : Nat, r % 1000000000000000000 = x := ⟨_, rfl⟩
    have DV1 : ∀ w, Calls Tryd.prog 58 #[.agg #[.int .u64 (L0 (r : Int)), .int .u64 (L1 (r : Int)), .int .u64 (L2 (r : Int)), .int .u64 (L3 (r : Int))], .agg #[.int .u64 1000000000000000000, .int .u64 0, .int .u64 0, .int .u64 0]] w fun e w' => e = .returned (.tuple #[.agg #[.int .u64 (L0 (q : Int)), .int .u64 (L1 (q : Int)), .int .u64 (L2 (q : Int)), .int .u64 (L3 (q : Int))], .agg #[.int .u64 (L0 (m : Int)), .int .u64 (L1 (m : Int)), .int .u64 (L2 (m : Int)), .int .u64 (L3 (m : Int))]]) ∧ Below w.heap.size w w' := fun w => by
      have h := divide_any (r : Int) 1000000000000000000 sr ⟨by decide, by decide⟩ (by decide) w
      rw [show (r : Int) / 1000000000000000000 = (q : Int) by omega, show (r : Int) % 1000000000000000000 = (m : Int) by omega] at h
      exact h
    have hm18 : m < 1000000000000000000 := by omega
    have em : L0 (m : Int) = m := by unfold L0; omega
    obtain ⟨ds, hds⟩ : ∃ x : ByteArray, (⟨(Lib.decDigits m).toArray⟩ : ByteArray) = x := ⟨_, rfl⟩
    have dl : ds.data.toList = Lib.decDigits m := by rw [← hds]
    have dz : ds.size ≤ 18 := by
      have := dec_len18 r
      rw [hm, ← dl, ← ba_size] at this
      exact this
    have FU1 : ∀ w, Pow10 w → Calls Tryd.prog 65 #[.int .u64 (L0 (m : Int)), .int .i64 10] w fun e w' => e = .returned (.string ds) ∧ Below w.heap.size w w' := fun w hw => by
      rw [em, ← hds]
      exact formatUint_any m (by omega) w hw
    have FU := Lib.hid FU1
    have sq : Siz (q : Int) := by obtain ⟨_, _⟩ := sr; exact ⟨by omega, by omega⟩
    have hdl := Lib.hid dl
    clear FU1 em hds dl
    by_cases h0 : q = 0
    · have hfin := HRH.out (ds ++ ts) (by rw [ba_app, hdl.out, HD.out, ← hm]; congr 2; omega)
      subst h0
      have FH := Lib.hid hfin
      have EQ : ∀ w, (Op.equalIn 10000 77 (.agg #[.int .u64 0, .int .u64 0, .int .u64 0, .int .u64 0]) (.agg #[.int .u64 0, .int .u64 0, .int .u64 0, .int .u64 0])).run Tryd.prog w = .ok true w := fun w => (eq_size _ _ _ _ _ _ _ _ w).trans rfl
      have Z0 : L0 ((0 : Nat) : Int) = 0 := rfl
      have Z1 : L1 ((0 : Nat) : Int) = 0 := rfl
      have Z2 : L2 ((0 : Nat) : Int) = 0 := rfl
      have Z3 : L3 ((0 : Nat) : Int) = 0 := rfl
      simp only [Z0, Z1, Z2, Z3] at DV1
      have DV := Lib.hid DV1
      clear Z0 Z1 Z2 Z3 DV1
      clear hq hm HRH hfin
      have x4 : ¬ w1.heap.size = wr.heap.size := by have := O4.in_; omega
      have x5 : ¬ wr.heap.size = w1.heap.size := by have := O4.in_; omega
      have x6 : w.heap.size < wr.heap.size := OA.in_
      obtain ⟨P1, P2, P3⟩ := O4.at_
      go_upto_region 4 with fail
      go_at_call 58
      refine (DV.out _).mono ?_
      rintro e w2 ⟨rfl, hb2⟩
      have O42 := (O4.more _).keep hb2
      have OA2 := (OA.more _).keep hb2
      have O52 := (Own.made _ _ _).keep hb2
      have hB2 : Below w.heap.size w w2 := then_ (hB.alloc hB.size _) hb2 (by have := hB.size; simp; omega)
      clear O4 OA P1 P2 P3
      obtain ⟨P1, P2, P3⟩ := O42.at_
      obtain ⟨Q1, Q2, Q3⟩ := O52.at_
      go_upto_region 4 with fail
      go_name_world W2 hW2
      have x2 := hB2.size
      have x3 := hB.size
      obtain ⟨k1, k2, k3⟩ := only63 (w0 := w) (x0 := 0) (x1 := 0) (x2 := 0) (x3 := 0) O42 rfl
      obtain ⟨j1, j2, j3⟩ := only63 (w0 := w) (x0 := L0 m) (x1 := L1 m) (x2 := L2 m) (x3 := L3 m) (k2.own O52 x5) rfl
      have O4 : Own W2 w1.heap.size 77 #[.int .u64 0, .int .u64 0, .int .u64 0, .int .u64 0] := hW2 ▸ j2.own k1 x4
      have O5 : Own W2 wr.heap.size 77 #[.int .u64 (L0 m), .int .u64 (L1 m), .int .u64 (L2 m), .int .u64 (L3 m)] := hW2 ▸ j1
      have OA : Own W2 w.heap.size 24 #[.int .u64 (L0 a), .int .u64 (L1 a), .int .u64 (L2 a), .int .u64 (L3 a)] := hW2 ▸ j2.own (k2.own OA2 (by omega)) (by omega)
      have hW2b : Below w.heap.size w W2 := hW2 ▸ j3 _ x3 (k3 _ (by omega) hB2)
      clear k1 k2 k3 j1 j2 j3
      have hP2 : Pow10 W2 := hp.keep hW2b
      clear hW2 O42 O52 OA2 hB2 hB P1 P2 P3 Q1 Q2 Q3
      obtain ⟨P1, P2, P3⟩ := O4.at_
      obtain ⟨Q1, Q2, Q3⟩ := O5.at_
      obtain ⟨A1, A2, A3⟩ := OA.at_
      cases s <;> (
        go_wp2_with (first
          | (go_at_call 65; refine (FU.out _ hP2).mono ?_; rintro e w3 ⟨rfl, hb3⟩; have O43 := O4.keep hb3; have OA3 := OA.keep hb3; have hB3 := then_ hW2b hb3 hW2b.size; clear P1 P2 P3 Q1 Q2 Q3 A1 A2 A3; obtain ⟨P1, P2, P3⟩ := O43.at_; obtain ⟨A1, A2, A3⟩ := OA3.at_)
          | (go_at_call 52; refine (BA.out _).mono ?_; rintro e w4 ⟨rfl, hb4⟩))
        refine bodyPost_ret (by simp [results, Tryd.results44, go_sem]) rfl ⟨rets_eq FH.out, ?_⟩
        exact then_ hB3 hb4 hB3.size)
    · have hd18 := dec_18 r (by omega)
      rw [hq, hm, ← hdl.out] at hd18
      obtain ⟨zs, hzs⟩ : ∃ x : ByteArray, (⟨(List.replicate (18 - ds.size) (48 : UInt8)).toArray⟩ : ByteArray) = x := ⟨_, rfl⟩
      have zl : zs.data.toList = List.replicate (18 - ds.size) 48 := by rw [← hzs]
      have zz : zs.size = 18 - ds.size := by rw [ba_size, zl, List.length_replicate]
      have RP1 : ∀ w, Calls Tryd.prog 66 #[.string ⟨#[48]⟩, .int .i64 (18 - (ds.size : Int))] w fun e w' => e = .returned (.string zs) ∧ Below w.heap.size w w' := fun w => by
        have h := Tryd.strings_Repeat ⟨#[48]⟩ (18 - ds.size) w (by omega) (by show 1 * (18 - ds.size) ≤ _; omega)
        rw [show ((18 - ds.size : Nat) : Int) = 18 - (ds.size : Int) by omega, rep_one, hzs] at h
        exact h
      have RP := Lib.hid RP1
      have HT : Lib.decDigits N = Lib.decDigits q ++ (zs ++ ds ++ ts).data.toList := by
        rw [HD.out, hd18, ba_app, ba_app, zl, ba_size ds]
        simp only [List.append_assoc]
      have HH := Lib.hid HT
      have EQ : ∀ w, (Op.equalIn 10000 77 (.agg #[.int .u64 (L0 (q : Int)), .int .u64 (L1 (q : Int)), .int .u64 (L2 (q : Int)), .int .u64 (L3 (q : Int))]) (.agg #[.int .u64 0, .int .u64 0, .int .u64 0, .int .u64 0])).run Tryd.prog w = .ok false w := fun w => by
        have := eq_siz sq siz0 w
        rw [decide_eq_false (by omega)] at this
        exact this
      have qr : q < r := by omega
      have DV := Lib.hid DV1
      clear hq hm HRH HD hdl RP1 HT hd18 hzs zl hlen h0 DV1 BA sr
      have x4 : ¬ w1.heap.size = wr.heap.size := by have := O4.in_; omega
      have x5 : ¬ wr.heap.size = w1.heap.size := by have := O4.in_; omega
      have x6 : w.heap.size < wr.heap.size := OA.in_
      obtain ⟨P1, P2, P3⟩ := O4.at_
      go_upto_region 4 with fail
      go_at_call 58
      refine (DV.out _).mono ?_
      rintro e w2 ⟨rfl, hb2⟩
      have O42 := (O4.more _).keep hb2
      have OA2 := (OA.more _).keep hb2
      have O52 := (Own.made _ _ _).keep hb2
      have hB2 : Below w.heap.size w w2 := then_ (hB.alloc hB.size _) hb2 (by have := hB.size; simp; omega)
      clear O4 OA P1 P2 P3
      obtain ⟨P1, P2, P3⟩ := O42.at_
      obtain ⟨Q1, Q2, Q3⟩ := O52.at_
      go_upto_region 4 with fail
      go_name_world W2 hW2
      have x2 := hB2.size
      have x3 := hB.size
      obtain ⟨k1, k2, k3⟩ := only63 (w0 := w) (x0 := (L0 q)) (x1 := (L1 q)) (x2 := (L2 q)) (x3 := (L3 q)) O42 rfl
      obtain ⟨j1, j2, j3⟩ := only63 (w0 := w) (x0 := L0 m) (x1 := L1 m) (x2 := L2 m) (x3 := L3 m) (k2.own O52 x5) rfl
      have O4 : Own W2 w1.heap.size 77 #[.int .u64 (L0 q), .int .u64 (L1 q), .int .u64 (L2 q), .int .u64 (L3 q)] := hW2 ▸ j2.own k1 x4
      have O5 : Own W2 wr.heap.size 77 #[.int .u64 (L0 m), .int .u64 (L1 m), .int .u64 (L2 m), .int .u64 (L3 m)] := hW2 ▸ j1
      have OA : Own W2 w.heap.size 24 #[.int .u64 (L0 a), .int .u64 (L1 a), .int .u64 (L2 a), .int .u64 (L3 a)] := hW2 ▸ j2.own (k2.own OA2 (by omega)) (by omega)
      have hW2b : Below w.heap.size w W2 := hW2 ▸ j3 _ x3 (k3 _ (by omega) hB2)
      clear k1 k2 k3 j1 j2 j3
      have hP2 : Pow10 W2 := hp.keep hW2b
      clear hW2 O42 O52 OA2 hB2 hB P1 P2 P3 Q1 Q2 Q3
      obtain ⟨P1, P2, P3⟩ := O4.at_
      obtain ⟨Q1, Q2, Q3⟩ := O5.at_
      obtain ⟨A1, A2, A3⟩ := OA.at_
      go_wp2_with (first
        | (go_at_call 65; refine (FU.out _ hP2).mono ?_; rintro e w3 ⟨rfl, hb3⟩; have O43 := O4.keep hb3; have OA3 := OA.keep hb3; have hB3 := then_ hW2b hb3 hW2b.size; clear P1 P2 P3 Q1 Q2 Q3 A1 A2 A3; obtain ⟨P1, P2, P3⟩ := O43.at_; obtain ⟨A1, A2, A3⟩ := OA3.at_)
        | (go_at_call 66; refine (RP.out _).mono ?_; rintro e w4 ⟨rfl, hb4⟩; have O44 := O43.keep hb4; have OA4 := OA3.keep hb4; have hB4 := then_ hB3 hb4 hB3.size))
      go_roundg q
      case measure => exact qr
      case rel => exact ⟨q, _, rfl, rfl, sq, HH, O44, OA4, hB4⟩
end Go.Proofs.YtigcbgehnlilaaaDoor
