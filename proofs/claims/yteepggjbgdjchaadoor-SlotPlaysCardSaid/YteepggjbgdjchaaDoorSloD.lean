
/- The contracts of slot's join and Pack. Conditions: slots that stand in memory; join: that they go into a room. -/
import Derived.Test.YteepggjbgdjchaaDoorSloC
import Derived.Test.YteepggjbgdjchaaDoorBuiT
import Derived.Test.YteepggjbgdjchaaDoorClone
namespace Go.Proofs.YteepggjbgdjchaaDoor
open Go.ChangeShapes Go.WideShapes Go.ChangeAt Go.RowKit
set_option linter.unusedVariables false
set_option linter.unusedSimpArgs false

/-- two builders side by side -/
def Two (w W : World) (a b : Nat) (l m : List UInt8) : Prop :=
  ∃ v u, Bld W a v l ∧ Bld W b u m ∧ a ≠ b ∧ v.ownBlock ≠ some b ∧ u.ownBlock ≠ some a ∧ (∀ g, v.ownBlock = some g → u.ownBlock ≠ some g) ∧ w.heap.size ≤ a ∧ w.heap.size ≤ b ∧
    (∀ g, v.ownBlock = some g → w.heap.size ≤ g) ∧ (∀ g, u.ownBlock = some g → w.heap.size ≤ g) ∧ Below w.heap.size w W
theorem Two.symm {w W : World} {a b : Nat} {l m : List UInt8} (h : Two w W a b l m) : Two w W b a m l := by
  obtain ⟨v, u, h1, h2, h3, h4, h5, h6, h7, h8, h9, h10, h11⟩ := h
  exact ⟨u, v, h2, h1, h3.symm, h5, h4, fun g hg hv => h6 g hv hg, h8, h7, h10, h9, h11⟩
theorem Two.bel {w W : World} {a b : Nat} {l m : List UInt8} (h : Two w W a b l m) : Below w.heap.size w W := by
  obtain ⟨v, u, h1, h2, h3, h4, h5, h6, h7, h8, h9, h10, h11⟩ := h
  exact h11
theorem Two.call {w W W' : World} {a b : Nat} {l m : List UInt8} (h : Two w W a b l m) (hb : Below W.heap.size W W') : Two w W' a b l m := by
  obtain ⟨v, u, h1, h2, h3, h4, h5, h6, h7, h8, h9, h10, h11⟩ := h
  exact ⟨v, u, h1.below hb, h2.below hb, h3, h4, h5, h6, h7, h8, h9, h10, then_ h11 hb h11.size⟩
theorem Two.left {w W : World} {a b : Nat} {l m : List UInt8} (h : Two w W a b l m) (s : ByteArray) (hlen : l.length + s.size ≤ 1000000000) :
    Calls Tryd.prog 42 #[.pointer (some ⟨a, 0, none⟩), .string s] W fun e w' => e = .returned (.tuple #[.int .i64 s.size, .nilIface]) ∧ Two w w' a b (l ++ s.data.toList) m := by
  obtain ⟨v, u, h1, h2, h3, h4, h5, h6, h7, h8, h9, h10, h11⟩ := h
  refine (bwr_any h1 s hlen).mono ?_
  rintro e w' ⟨rfl, v', k1, k2, k3⟩
  have z := h11.size
  have hbl := h2.lt
  have bel : Below w.heap.size w w' := ⟨k2.os.trans h11.os, k2.tape.trans h11.tape, k2.output.trans h11.output, Nat.le_trans z k2.size, fun q hq => (k2.block q (by omega) (by rintro (e | e); omega; have := h9 q e; omega)).trans (h11.block q hq)⟩
  refine ⟨rfl, v', u, k1, h2.keep k2 (by rintro (e | e); exact h3 e.symm; exact h4 e) (fun g hg => by rintro (e | e); exact h5 (by rw [hg, e]); exact h6 g e hg), h3, ?_, h5, ?_, h7, h8, ?_, h10, bel⟩
  · rcases k3 with k | ⟨q, k, hq⟩
    · rw [k]; exact h4
    · rw [k]; intro e; injection e with e; have := hbl.1; omega
  · intro g hg
    rcases k3 with k | ⟨q, k, hq⟩
    · exact h6 g (k ▸ hg)
    · rw [k] at hg; injection hg with e
      intro hu; have := hbl.2 g hu; omega
  · intro g hg
    rcases k3 with k | ⟨q, k, hq⟩
    · exact h9 g (k ▸ hg)
    · rw [k] at hg; injection hg with e; omega
theorem Two.right {w W : World} {a b : Nat} {l m : List UInt8} (h : Two w W a b l m) (s : ByteArray) (hlen : m.length + s.size ≤ 1000000000) :
    Calls Tryd.prog 42 #[.pointer (some ⟨b, 0, none⟩), .string s] W fun e w' => e = .returned (.tuple #[.int .i64 s.size, .nilIface]) ∧ Two w w' a b l (m ++ s.data.toList) :=
  (h.symm.left s hlen).mono fun e w' ⟨h1, h2⟩ => ⟨h1, h2.symm⟩
theorem Two.text {w W : World} {a b : Nat} {l m : List UInt8} (h : Two w W a b l m) (h0 : l ≠ []) :
    Calls Tryd.prog 44 #[.pointer (some ⟨a, 0, none⟩)] W fun e w' => e = .returned (.string ⟨l.toArray⟩) ∧ (∃ u, Bld w' b u m ∧ w.heap.size ≤ b ∧ ∀ g, u.ownBlock = some g → w.heap.size ≤ g) ∧ Below w.heap.size w w' := by
  obtain ⟨v, u, h1, h2, h3, h4, h5, h6, h7, h8, h9, h10, h11⟩ := h
  refine (bstr_any h1 h0).mono ?_
  rintro e w' ⟨rfl, k2⟩
  have z := h11.size
  have bel : Below w.heap.size w w' := ⟨k2.os.trans h11.os, k2.tape.trans h11.tape, k2.output.trans h11.output, Nat.le_trans z k2.size, fun q hq => (k2.block q (by omega) (by intro e; have := h9 q e; omega)).trans (h11.block q hq)⟩
  exact ⟨rfl, ⟨u, h2.keep k2 h4 (fun g hg e => h6 g e hg), h8, h10⟩, bel⟩
theorem rep0_any (k : Nat) (w : World) (hk : k ≤ 496) : Calls Tryd.prog 25 #[.string ⟨#[0]⟩, .int .i64 (k : Int)] w fun e w' => e = .returned (.string (zB k)) ∧ Below w.heap.size w w' := by
  have h := Tryd.strings_Repeat ⟨#[0]⟩ k w (by omega) (by show 1 * k ≤ _; omega)
  refine h.mono ?_
  rintro e w' ⟨rfl, hb⟩
  refine ⟨?_, hb⟩
  congr 2
  unfold zB
  congr 2
  clear h hb
  have : ∀ k, Lib.repeatL (⟨#[0]⟩ : ByteArray).data.toList k = List.replicate k (0 : UInt8) := by
    intro k
    induction k with
    | zero => rfl
    | succ k ih => rw [List.replicate_succ, ← ih]; rfl
  exact this k
theorem join_text (L : List Sl) : ((⟨(putL L.length 2 ++ nums L).toArray⟩ : ByteArray) ++ ⟨(recs L).toArray⟩) ++ zB (496 - sz L) = rmB L := by
  apply ByteArray.ext
  apply Array.toList_inj.1
  rw [rm_list]
  unfold rmL zB
  simp [ByteArray.data_append, List.append_assoc]
theorem put2_any (n : Nat) (w : World) (hn : n ≤ 18446744073709551615) : Calls Tryd.prog 50 #[.int .u64 (n : Int), .int .i64 2] w fun e w' => e = .returned (.string ⟨(putL n 2).toArray⟩) ∧ Below w.heap.size w w' :=
  (put_yes n 2 w hn (by omega)).mono fun e w' ⟨h1, h2⟩ => ⟨h1, by rw [h2]; exact (Below.refl _ _).alloc (Nat.le_refl _) _⟩
theorem nums_up (L : List Sl) (k : Nat) (hk : k < L.length) : nums (L.take (k + 1)) = nums (L.take k) ++ putL (told (L[k]'hk)) 2 := by
  rw [← List.take_append_getElem hk, nums_app, nums_one]
theorem recs_up' (L : List Sl) (k : Nat) (hk : k < L.length) : recs (L.take (k + 1)) = recs (L.take k) ++ (L[k]'hk).2.data.toList := by
  rw [← List.take_append_getElem hk, recs_app, recs_one]
set_option maxRecDepth 10000 in
set_option maxHeartbeats 1000000 in
theorem join_any (v : Value) (L : List Sl) (w : World) (h : SlIn w v L) (hz : sz L ≤ 496) : Calls Tryd.prog 38 #[v] w fun e w' => e = .returned (.string (rmB L)) ∧ Below w.heap.size w w' := by
  have HSZ := Lib.hid (fun W (hb : Below w.heap.size w W) => size_any v L W (h.below hb) (by omega))
  obtain ⟨a, cap, rfl, hc1, hc2, -, hcl⟩ := h.open_
  have JT := Lib.hid (join_text L)
  have NU := Lib.hid (fun k hk => nums_up L k hk)
  have RU := Lib.hid (fun k hk => recs_up' L k hk)
  have RLE := Lib.hid (fun k => recs_le L k)
  have hzz : sz L = 2 + 2 * L.length + (recs L).length := rfl
  have TA := Lib.hid (List.take_length (l := L))
  obtain ⟨n, hn⟩ : ∃ n, n = L.length := ⟨_, rfl⟩
  rw [← hn] at hc1 hzz JT TA HSZ ⊢
  have hn' := Lib.hid hn
  obtain ⟨Z, hZ⟩ : ∃ Z, Z = sz L := ⟨_, rfl⟩
  rw [← hZ] at JT HSZ hz hzz
  obtain ⟨R, hR⟩ : ∃ R, R = rmB L := ⟨_, rfl⟩
  rw [← hR] at JT ⊢
  have HP0 := Lib.hid (fun W => put2_any n W (by omega))
  have w1 : IntKind.u64.wrap (n : Int) = n := by rw [IntKind.wrap_u64]; omega
  have HREP := Lib.hid (fun W => rep0_any (496 - Z) W (by omega))
  rw [show ((496 - Z : Nat) : Int) = 496 - (Z : Int) by omega] at HREP
  have hrl : (recs L).length ≤ 496 := by omega
  have hrl' := Lib.hid hrl
  have hnn : n ≤ 247 := by omega
  have hZ' : (Z : Int) ≤ 496 := by omega
  clear h hn hZ hR hzz hrl
  go_enter Tryd.func38, Tryd.ntmps38
  go_upto_region 2 with fail
  go_name_world W0 hW0
  have T0 : Two w W0 w.heap.size (w.heap.size + 1) [] [] := by
    rw [← hW0]
    have n1 := Bld.new w
    have n2 := Bld.new (w.alloc (.cells #[.pointer none, .slice none 0 0] tB))
    have hs : (w.alloc (.cells #[.pointer none, .slice none 0 0] tB)).heap.size = w.heap.size + 1 := by simp
    rw [hs] at n2
    have hb1 : Below w.heap.size w (w.alloc (.cells #[.pointer none, .slice none 0 0] tB)) := (Below.refl _ _).alloc (Nat.le_refl _) _
    refine ⟨_, _, n1.below ((Below.refl _ _).alloc (Nat.le_refl _) _), n2, by omega, (by intro e; cases e), (by intro e; cases e), fun g hg => (by cases hg), Nat.le_refl _, by omega, fun g hg => (by cases hg), fun g hg => (by cases hg), hb1.alloc hb1.size _⟩
  replace T0 := Lib.hid T0
  clear hW0
  go_upto_region 3 with (first
    | (go_at_call 50; refine (HP0.out _).mono ?_; rintro e w2 ⟨rfl, hb2⟩; have T1 := Lib.hid (T0.out.call hb2); clear hb2)
    | (go_at_call 42; refine (T1.out.left _ (by show 0 + _ ≤ _; show 0 + (putL n 2).toArray.size ≤ _; simp [putL_two])).mono ?_; rintro e w3 ⟨rfl, ht3⟩; have T2 := Lib.hid ht3; clear ht3))
  have T3 : Hid (Two w w3 w.heap.size (w.heap.size + 1) (putL n 2 ++ nums (L.take 0)) (recs (L.take 0))) := Lib.hid (by
    have := T2.out
    simpa [nums, recs] using this)
  clear T0 T1 T2 HP0 w1
  go_wp2
  go_loopw [14] (fun i wr => ∃ k : Nat, k ≤ n ∧ i = .int .i64 (k : Int) ∧ Hid (Two w wr w.heap.size (w.heap.size + 1) (putL n 2 ++ nums (L.take k)) (recs (L.take k)))) (fun i wr => n - (intOf i).toNat)
  case atStart => exact ⟨0, by omega, rfl, T3⟩
  case round =>
    clear T3
    obtain ⟨k, hk, rfl, hT⟩ := hrel
    by_cases hlt : k < n
    · have hkl : k < L.length := by have := hn'.out; omega
      obtain ⟨b, o, rfl, hb, c1, c2, c3⟩ := hcl k hkl
      have nu := NU.out k hkl
      have ru := RU.out k hkl
      have rle := RLE.out (k + 1)
      obtain ⟨x, hx⟩ : ∃ x, x = L[k]'hkl := ⟨_, rfl⟩
      rw [← hx] at c1 c2 c3 nu ru
      obtain ⟨u, r⟩ := x
      simp only at c1 c2 c3 ru
      have rsz : r.size ≤ 496 := by
        have := hrl'.out
        rw [ru, List.length_append, len_data] at rle
        omega
      have lenN : (putL n 2 ++ nums (L.take k)).length = 2 + 2 * k := by rw [List.length_append, nums_len, List.length_take, putL_two]; simp; omega
      have lenR : (recs (L.take k)).length ≤ 496 := by have := RLE.out k; have := hrl'.out; omega
      have bel := hT.out.bel
      have C2 := Lib.hid c2
      replace c1 := keep bel c1
      replace c2 := keep bel c2
      obtain ⟨NL, hNL⟩ : ∃ NL, NL = putL n 2 ++ nums (L.take k) := ⟨_, rfl⟩
      obtain ⟨RL, hRL⟩ : ∃ RL, RL = recs (L.take k) := ⟨_, rfl⟩
      rw [← hNL] at hT lenN
      rw [← hRL] at hT lenR ru
      have nu' : Hid (NL ++ putL (told (u, r)) 2 = putL n 2 ++ nums (L.take (k + 1))) := Lib.hid (by rw [hNL, nu, List.append_assoc])
      have ru' := Lib.hid ru
      obtain ⟨t, ht⟩ : ∃ t, t = told (u, r) := ⟨_, rfl⟩
      rw [← ht] at nu'
      have htu : t = if u then r.size + 1 else 0 := ht
      have htl : t ≤ 497 := by rw [htu]; split <;> omega
      have HPt := Lib.hid (fun W => put2_any t W (by omega))
      have psz : (⟨(putL t 2).toArray⟩ : ByteArray).size = 2 := rfl
      obtain ⟨PT, hPT⟩ : ∃ PT : ByteArray, PT = ⟨(putL t 2).toArray⟩ := ⟨_, rfl⟩
      have hPTl : Hid (PT.data.toList = putL t 2) := Lib.hid (by rw [hPT])
      rw [← hPT] at HPt psz
      have w2 : IntKind.u64.wrap (t : Int) = t := by rw [IntKind.wrap_u64]; omega
      clear hx hNL hRL ru nu rle ht hPT
      have hb' := Lib.hid (bel)
      clear bel
      cases u with
      | true =>
        rw [if_pos rfl] at htu
        have w3 : IntKind.u64.wrap (1 + (r.size : Int)) = t := by rw [IntKind.wrap_u64]; omega
        clear htu
        go_wp2_with (first
          | (go_at_call 50; refine (HPt.out _).mono ?_; rintro e w5 ⟨rfl, hb5⟩; have T5 := Lib.hid (hT.out.call hb5); clear hb5)
          | (go_at_call 42; with_reducible refine (T5.out.left PT (by omega)).mono ?_; rintro e w6 ⟨rfl, ht6⟩; have T6 := Lib.hid ht6; have c6 := keep ht6.bel C2.out; clear ht6)
          | (go_at_call 42; with_reducible refine (T6.out.right r (by omega)).mono ?_; rintro e w7 ⟨rfl, ht7⟩; have T7 := Lib.hid ht7; clear ht7))
        go_roundw
        case rel => exact ⟨k + 1, by omega, by go_num, Lib.hid (by rw [ru'.out, ← nu'.out, ← hPTl.out]; exact T7.out)⟩
        case measure => simp [intOf]; omega
      | false =>
        obtain rfl : t = 0 := by simpa using htu
        clear htu
        go_wp2_with (first
          | (go_at_call 50; refine (HPt.out _).mono ?_; rintro e w5 ⟨rfl, hb5⟩; have T5 := Lib.hid (hT.out.call hb5); clear hb5)
          | (go_at_call 42; with_reducible refine (T5.out.left PT (by omega)).mono ?_; rintro e w6 ⟨rfl, ht6⟩; have T6 := Lib.hid ht6; have c6 := keep ht6.bel C2.out; clear ht6)
          | (go_at_call 42; with_reducible refine (T6.out.right r (by omega)).mono ?_; rintro e w7 ⟨rfl, ht7⟩; have T7 := Lib.hid ht7; clear ht7))
        go_roundw
        case rel => exact ⟨k + 1, by omega, by go_num, Lib.hid (by rw [ru'.out, ← nu'.out, ← hPTl.out]; exact T7.out)⟩
        case measure => simp [intOf]; omega
    · obtain rfl : k = n := by omega
      have tx := hT.out.text (by simp [putL_two])
      rw [TA.out] at tx
      replace tx := Lib.hid tx
      obtain ⟨A, hA⟩ : ∃ A : ByteArray, A = ⟨(putL k 2 ++ nums L).toArray⟩ := ⟨_, rfl⟩
      obtain ⟨B, hB⟩ : ∃ B : ByteArray, B = ⟨(recs L).toArray⟩ := ⟨_, rfl⟩
      have hAz : A.size = 2 + 2 * k := by rw [hA]; show (putL k 2 ++ nums L).toArray.size = _; have := hn'.out; simp [nums_len, putL_two]; omega
      have hBz : B.size ≤ 496 := by rw [hB]; show (recs L).toArray.size ≤ _; have := hrl'.out; simpa using this
      have hCz : (zB (496 - Z)).size ≤ 496 := by rw [zB_size]; omega
      rw [← hA, ← hB] at JT
      rw [← hA] at tx
      obtain ⟨C, hC⟩ : ∃ C, C = zB (496 - Z) := ⟨_, rfl⟩
      rw [← hC] at JT HREP hCz
      have JT' : A ++ B ++ C = R := JT.out
      have z1 : ¬ 9223372036854775807 < A.size + B.size := by omega
      have z2 : ¬ 9223372036854775807 < (A ++ B).size + C.size := by rw [ByteArray.size_append]; omega
      have hB' := Lib.hid hB
      clear hA hB hC JT
      go_wp2_with (first
        | (go_at_call 44; with_reducible refine tx.out.mono ?_; rintro e w5 ⟨rfl, ⟨u, hu1, hu2, hu3⟩, hb5⟩; have B5 := Lib.hid hb5; have hs2 := Lib.hid (Tryd.Builder_String_any w.heap.size _ _ w5 (hu1.is hu2 hu3) hb5.size); rw [← hB'.out] at hs2; clear hu1 hu2 hu3 hb5)
        | (go_at_call 44; with_reducible refine hs2.out.mono ?_; rintro e w6 ⟨rfl, hb6⟩; have B6 := Lib.hid (B5.out.trans hb6); clear hb6)
        | (go_at_call 27; refine (HSZ.out _ B6.out).mono ?_; rintro e w7 ⟨rfl, hb7⟩; have B7 := Lib.hid (then_ B6.out hb7 B6.out.size); clear hb7)
        | (go_at_call 25; refine (HREP.out _).mono ?_; rintro e w8 ⟨rfl, hb8⟩; have B8 := Lib.hid (then_ B7.out hb8 B7.out.size); clear hb8))
      go_ret
      exact ⟨rfl, B8.out⟩
end Go.Proofs.YteepggjbgdjchaaDoor
